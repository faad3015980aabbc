import PyProof.Rows.All
import Wide.All
import OpenK.AllK
import Wide.FinOn
import Lean
import PyProof.EqAt
import PyProof.EqKinds
import PyProof.TupleCall
import PyProof.ConsumeWalk
import PyProof.EqLayable
import PyProof.ReprRoads
import PyProof.StrWalks
import PyProof.SliceStr2
import PyProof.StrLawsIn
import PyProof.StrLawsRepr
import PyProof.SliceList
import PyProof.Rows.FStr
import PyProof.CallStr
import PyProof.Rows.SeqMore
import PyProof.ListStr
import PyProof.Claim2Refuses
import PyProof.Rows.SetFrom
import PyProof.Rows.StrMeet
import PyProof.WalksMore
import PyProof.StrCalls
import PyProof.ListMulRoad
import PyProof.MaxThree
import PyProof.Rows.SumAny
import PyProof.AutoSeq1
import PyProof.StrBlock2
import KE.KLam
import PyProof.ZipIter
import PyProof.Rows.ZipGen
import PyProof.DictItems
import PyProof.DictItemsLoops
import PyProof.Rows.CallKwBuiltin
import PyProof.DictTruth
import KE.KIsAll
import KE.KDictOf
import PyProof.AttrMissHeap
import KE.KDictList
import PyProof.DictValues
import PyProof.WalkInts
import PyProof.SetRoads
import PyProof.ListRange
import PySem.Challenge.RW_webshapes_k34_bounds_and_ends
set_option compiler.extract_closed false
set_option bootstrap.genMatcherCode false
set_option Elab.async false
set_option linter.all false
set_option maxRecDepth 100000
set_option maxHeartbeats 4000000
section
open PySem PySem.Spec PyProof.Rows PySem.W
theorem He:type_of% @wpAny_bind:=@wpAny_bind
theorem Hf:type_of% @List.length_map:=@List.length_map
theorem Hg:type_of% @wpAny_pure:=@wpAny_pure
theorem Hj:type_of% @List.getElem?_eq_getElem:=@List.getElem?_eq_getElem
theorem Hk:type_of% @List.getElem?_set_ne:=@List.getElem?_set_ne
theorem Hl:type_of% @List.getElem?_eq_some_iff:=@List.getElem?_eq_some_iff
theorem Hm:type_of% @Heap.get?_push_of_some:=@Heap.get?_push_of_some
theorem Hn:type_of% @Nat.le_refl:=@Nat.le_refl
theorem Ho:type_of% @List.length_append:=@List.length_append
theorem Hq:type_of% @List.getElem?_map:=@List.getElem?_map
theorem Hr:type_of% @List.mem_cons_of_mem:=@List.mem_cons_of_mem
theorem Hs:type_of% @List.getElem?_set_self:=@List.getElem?_set_self
theorem Ht:type_of% @Heap.lt_size:=@Heap.lt_size
theorem Hu:type_of% @List.mem_cons_self:=@List.mem_cons_self
theorem Hv:type_of% @if_pos:=@if_pos
theorem Hw:type_of% @List.mem_singleton:=@List.mem_singleton
theorem Hx:type_of% @List.size_toArray:=@List.size_toArray
theorem Hy:type_of% @Heap.get?_push_size:=@Heap.get?_push_size
theorem Hz:type_of% @if_neg:=@if_neg
theorem HA:type_of% @List.length_cons:=@List.length_cons
theorem HB:type_of% @List.mem_cons:=@List.mem_cons
theorem HC:type_of% @Option.map_eq_some_iff:=@Option.map_eq_some_iff
theorem HD:type_of% @List.mem_append_right:=@List.mem_append_right
theorem HE:type_of% @List.getElem?_append_right:=@List.getElem?_append_right
theorem HF:type_of% @Nat.lt_of_lt_of_le:=@Nat.lt_of_lt_of_le
theorem HG:type_of% @List.mem_of_getElem?:=@List.mem_of_getElem?
theorem HH:type_of% @Nat.ne_of_lt:=@Nat.ne_of_lt
theorem HI:type_of% @Array.getElem?_eq_getElem:=@Array.getElem?_eq_getElem
theorem HJ:type_of% @Nat.le_trans:=@Nat.le_trans
theorem HK:type_of% @List.length_set:=@List.length_set
theorem HL:type_of% @Bool.and_eq_true:=@Bool.and_eq_true
theorem HM:type_of% @Array.length_toList:=@Array.length_toList
theorem HN:type_of% @List.getElem?_append_left:=@List.getElem?_append_left
theorem HP:type_of% @List.length_range:=@List.length_range
theorem HQ:type_of% @PySem.W.mg_none_of:=@PySem.W.mg_none_of
theorem HR:type_of% @wpAny_mono:=@wpAny_mono
theorem HS:type_of% @Heap.get?_update_other:=@Heap.get?_update_other
theorem HU:type_of% @wpAny_holding:=@wpAny_holding
theorem HV:type_of% @Option.some.inj:=@Option.some.inj
theorem HW:type_of% @List.mem_map:=@List.mem_map
theorem HX:type_of% @List.map_append:=@List.map_append
theorem HY:type_of% @decide_eq_true:=@decide_eq_true
theorem HZ:type_of% @List.getD_eq_getElem?_getD:=@List.getD_eq_getElem?_getD
theorem Ia:type_of% @wpAny_newObj_type:=@wpAny_newObj_type
theorem Ib:type_of% @of_decide_eq_true:=@of_decide_eq_true
theorem Ic:type_of% @Nat.lt_irrefl:=@Nat.lt_irrefl
theorem Ie:type_of% @sizeLine_eq:=@sizeLine_eq
theorem Ig:type_of% @Bool.false_ne_true:=@Bool.false_ne_true
theorem Ih:type_of% @List.nodup_cons:=@List.nodup_cons
theorem Ii:type_of% @Array.getElem?_toList:=@Array.getElem?_toList
theorem Ij:type_of% @List.map_map:=@List.map_map
theorem Ik:type_of% @Array.getD_eq_getD_getElem?:=@Array.getD_eq_getD_getElem?
theorem Il:type_of% @decide_eq_false:=@decide_eq_false
theorem Im:type_of% @wpAny_call_entry:=@wpAny_call_entry
theorem Io:type_of% @PySem.mem_of_lookup:=@PySem.mem_of_lookup
theorem Ip:type_of% @Nat.zero_le:=@Nat.zero_le
theorem Iq:type_of% @Heap.get?_update_self:=@Heap.get?_update_self
theorem Ir:type_of% @List.mem_append:=@List.mem_append
theorem Iu:type_of% @Bool.and_eq_true_iff:=@Bool.and_eq_true_iff
theorem Iv:type_of% @wpAny_truthy_bool:=@wpAny_truthy_bool
theorem Iw:type_of% @List.append_nil:=@List.append_nil
theorem Iy:type_of% @wpAny_setField_rec:=@wpAny_setField_rec
theorem Iz:type_of% @wpAny_callSpecial?_slot:=@wpAny_callSpecial?_slot
theorem IC:type_of% @List.mem_filter:=@List.mem_filter
theorem ID:type_of% @List.set_set:=@List.set_set
theorem IE:type_of% @List.length_take:=@List.length_take
theorem IF:type_of% @List.pairwise_cons:=@List.pairwise_cons
theorem IG:type_of% @List.mem_iff_getElem?:=@List.mem_iff_getElem?
theorem IH:type_of% @wpAny_dictEpoch:=@wpAny_dictEpoch
theorem II:type_of% @Around.under_plainId:=@Around.under_plainId
theorem IJ:type_of% @wpAny_rule:=@wpAny_rule
theorem IK:type_of% @PySem.F.type_list_append:=@PySem.F.type_list_append
theorem IL:type_of% @PySem.F.slot_list_append:=@PySem.F.slot_list_append
theorem IM:type_of% @PySem.F.plainAttrs_list:=@PySem.F.plainAttrs_list
theorem IP:type_of% @Nat.ne_of_gt:=@Nat.ne_of_gt
theorem IQ:type_of% @codeAny_builtin:=@codeAny_builtin
theorem IS:type_of% @List.length_singleton:=@List.length_singleton
theorem IU:type_of% @List.getElem?_eq_none:=@List.getElem?_eq_none
theorem IV:type_of% @decide_eq_true_eq:=@decide_eq_true_eq
theorem IW:type_of% @Nat.lt_succ_of_lt:=@Nat.lt_succ_of_lt
theorem IX:type_of% @Int.toNat_natCast:=@Int.toNat_natCast
theorem IZ:type_of% @Nat.lt_succ_self:=@Nat.lt_succ_self
theorem Ja:type_of% @Nat.lt_or_ge:=@Nat.lt_or_ge
theorem Jb:type_of% @List.mem_nil_iff:=@List.mem_nil_iff
theorem Jc:type_of% @Heap.SameBut.update:=@Heap.SameBut.update
theorem Jd:type_of% @if_false:=@if_false
theorem Je:type_of% @PySem.W.kia_one:=@PySem.W.kia_one
theorem Jf:type_of% @wpAny_Call_Name_kw:=@wpAny_Call_Name_kw
theorem Jg:type_of% @beq_iff_eq:=@beq_iff_eq
theorem Jh:type_of% @Bool.false_eq_true:=@Bool.false_eq_true
theorem Ji:type_of% @wpAny_setState_of:=@wpAny_setState_of
theorem Jj:type_of% @codeAny_mono:=@codeAny_mono
theorem Jk:type_of% @Nat.le_of_lt:=@Nat.le_of_lt
theorem Jl:type_of% @List.take_of_length_le:=@List.take_of_length_le
theorem Jm:type_of% @List.pairwise_map:=@List.pairwise_map
theorem Jn:type_of% @List.Perm.refl:=@List.Perm.refl
theorem Jo:type_of% @wpAny_forIn_list:=@wpAny_forIn_list
theorem Jp:type_of% @beq_self_eq_true:=@beq_self_eq_true
theorem Jq:type_of% @List.length_drop:=@List.length_drop
theorem Jr:type_of% @List.any_cons:=@List.any_cons
theorem Js:type_of% @wpAny_typeNameOfWhole_keyiter:=@wpAny_typeNameOfWhole_keyiter
theorem Jt:type_of% @List.mem_append_left:=@List.mem_append_left
theorem Ju:type_of% @List.drop_eq_nil_iff:=@List.drop_eq_nil_iff
theorem Jv:type_of% @F.slot_dict_keyiterator_next:=@F.slot_dict_keyiterator_next
theorem Jw:type_of% @wpAny_fieldsOf:=@wpAny_fieldsOf
theorem Jx:type_of% @or_false:=@or_false
theorem Jy:type_of% @of_decide_eq_false:=@of_decide_eq_false
theorem Jz:type_of% @Array.perm_iff_toList_perm:=@Array.perm_iff_toList_perm
theorem JB:type_of% @List.drop_eq_getElem_cons:=@List.drop_eq_getElem_cons
theorem JD:type_of% @Classical.byContradiction:=@Classical.byContradiction
theorem JH:type_of% @wpAny_dictEntries:=@wpAny_dictEntries
theorem JJ:type_of% @if_true:=@if_true
theorem JK:type_of% @Nat.le_succ:=@Nat.le_succ
theorem JL:type_of% @Array.toList_push:=@Array.toList_push
theorem JM:type_of% @wpAny_typeNameOf_keyiter:=@wpAny_typeNameOf_keyiter
theorem JN:type_of% @plainId_quiet:=@plainId_quiet
theorem JQ:type_of% @List.lookup_cons:=@List.lookup_cons
theorem JR:type_of% @List.any_eq_true:=@List.any_eq_true
theorem JU:type_of% @List.all_eq_true:=@List.all_eq_true
theorem JV:type_of% @Array.getElem?_eq_none:=@Array.getElem?_eq_none
theorem JX:type_of% @wpAny_specialOf:=@wpAny_specialOf
theorem JY:type_of% @wpAny_passesOwn:=@wpAny_passesOwn
theorem JZ:type_of% @List.of_mem_zip:=@List.of_mem_zip
theorem J0:type_of% @List.foldl_cons:=@List.foldl_cons
theorem J1:type_of% @Bool.or_eq_true:=@Bool.or_eq_true
theorem J2:type_of% @builtinLookup_eq_fast:=@builtinLookup_eq_fast
theorem J3:type_of% @List.length_replicate:=@List.length_replicate
theorem J4:type_of% @Bool.and_eq_false_iff:=@Bool.and_eq_false_iff
end
section
namespace L2
abbrev Fg:=PySem.W.Frag
set_option maxRecDepth 100000 in
set_option maxHeartbeats 0 in
theorem ws:PySem.W.OpenLaw.wellSaid PySem.Challenge.rw_webshapes_k34_bounds_and_ends=true:=by decide +kernel
open PySem PySem.Spec PyProof.Rows
abbrev Key:=Sum Int Str
noncomputable def lE:Key->Value->Bool
 | .inl k,v=>Value.isInt k v
 | .inr x,v=>Value.isStrOf x v
noncomputable def Fp (w:World):Key->Int
 | .inl k=>hashInt k
 | .inr x=>hashStr w x
theorem aG:∀ {k:Key} {v:Value},lE k v=true->(∃ i t,k=Sum.inl i/\v=Value.int i t)\/(∃ x t,k=Sum.inr x/\v=Value.str x t)
 | .inl i,v,h=>by
  obtain ⟨t,e⟩:=Value.isInt_shape (k:=i) (v:=v) h;exact .inl ⟨i,t,rfl,e⟩
 | .inr x,v,h=>by
  obtain ⟨t,e⟩:=Value.isStrOf_shape (x:=x) (v:=v) h;exact .inr ⟨x,t,rfl,e⟩
theorem oR (i:Int) (t:Tok):lE (.inl i) (.int i t)=true:=by simp [lE,Value.isInt]
theorem pw (x:Str) (t:Tok):lE (.inr x) (.str x t)=true:=by simp [lE,Value.isStrOf]
theorem yM (a b:Int):decide ((Sum.inl a:Key)=Sum.inl b)=(a==b):=by
 by_cases e:a=b
 ·subst e;simp
 ·have h:¬(Sum.inl a:Key)=Sum.inl b:=fun q=>e (Sum.inl.inj q);rw [Il h];exact (beq_eq_false_iff_ne.mpr e).symm
theorem zD (a b:Str):decide ((Sum.inr a:Key)=Sum.inr b)=decide (a=b):=by
 by_cases e:a=b
 ·subst e;simp
 ·have h:¬(Sum.inr a:Key)=Sum.inr b:=fun q=>e (Sum.inr.inj q);rw [Il h,Il e]
theorem y7 (a:Int) (b:Str):decide ((Sum.inl a:Key)=Sum.inr b)=false:=Il (fun q=>nomatch q)
theorem zj (a:Str) (b:Int):decide ((Sum.inr a:Key)=Sum.inl b)=false:=Il (fun q=>nomatch q)
noncomputable def aY (prog:Program) (w:World):PySem.KeyKind prog w Key where
 is:=lE
 hash:=Fp w
 inj:=fun v a b ha hb=>by
  rcases aG ha with ⟨i,t,rfl,rfl⟩ | ⟨x,t,rfl,rfl⟩
  ·rcases aG hb with ⟨j,u,rfl,e⟩ | ⟨y,u,rfl,e⟩
   ·injection e with e1 _;rw [e1]
   ·exact nomatch e
  ·rcases aG hb with ⟨j,u,rfl,e⟩ | ⟨y,u,rfl,e⟩
   ·exact nomatch e
   ·injection e with e1 _;rw [e1]
 byValue:=fun k v h=>by
  rcases aG h with ⟨i,t,rfl,rfl⟩ | ⟨x,t,rfl,rfl⟩ <;> rfl
 pyHash:=fun hv h=>by
  rcases aG hv with ⟨i,t,rfl,rfl⟩ | ⟨x,t,rfl,rfl⟩
  ·exact wpAny_pyHash_int h
  ·exact wpAny_pyHash_str h
 eqBool:=fun hu hv h=>by
  rcases aG hu with ⟨i,t,rfl,rfl⟩ | ⟨x,t,rfl,rfl⟩
  ·rcases aG hv with ⟨j,u,rfl,rfl⟩ | ⟨y,u,rfl,rfl⟩
   ·rw [yM] at h;exact wpAny_eqBool_int h
   ·rw [y7] at h;exact SeqAt.EqAt.int_str i t y u _ _ _ _ h
  ·rcases aG hv with ⟨j,u,rfl,rfl⟩ | ⟨y,u,rfl,rfl⟩
   ·rw [zj] at h;exact SeqAt.EqAt.str_int x t j u _ _ _ _ h
   ·rw [zD] at h;exact wpAny_eqBool_str h
 «strs»:=fun k x t v h=>by
  rcases aG h with ⟨i,u,rfl,e⟩ | ⟨y,u,rfl,e⟩
  ·exact nomatch e
  ·injection e with e1 _;subst e1;cases v <;> rfl
theorem lA (prog:Program) (w:World) (i:Int) (t:Tok):(aY prog w).is (.inl i) (.int i t)=true:=oR i t
theorem lr (prog:Program) (w:World) (x:Str) (t:Tok):(aY prog w).is (.inr x) (.str x t)=true:=pw x t
end L2
namespace L2
open PySem PySem.Spec PyProof.Rows
inductive V where
 | non | bl (b:Bool) | int (i:Int) | str (x:Str) | byt (b:Array UInt8) | flt (b:UInt64) | ref (a:Addr) | ty (n:String)
 deriving DecidableEq
def RelV:V->Value->Prop
 | .non,u=>u=Value.none
 | .bl b,u=>u=Value.bool b
 | .int i,u=>∃ t,u=Value.int i t
 | .str x,u=>∃ t,u=Value.str x t
 | .byt b,u=>∃ t,u=Value.bytes b t
 | .flt b,u=>∃ t,u=Value.float b t
 | .ref a,u=>u=Value.ref a
 | .ty n,u=>u=Value.type n
abbrev Vals:List V->List Value->Prop:=Paired RelV
theorem Vals.length {xs:List V} {us:List Value} (r:Vals xs us):xs.length=us.length:=Paired.length r
theorem Vals.get:∀ {xs:List V} {us:List Value} {i:Nat} {x:V},Vals xs us->xs[i]?=some x->∃ u,us[i]?=some u/\RelV x u
 | _,_,_,_,.nil,e=>by simp at e
 | _,_,0,_,.cons r _,e=>by simp at e;subst e;exact ⟨_,rfl,r⟩
 | _,_,i+1,x,.cons _ t,e=>by
  obtain ⟨u,h1,h2⟩:=Vals.get (i:=i) (x:=x) t (by simpa using e);exact ⟨u,by simpa using h1,h2⟩
theorem Vals.set {x:V} {u:Value} (r:RelV x u):∀ {xs:List V} {us:List Value} (i:Nat),Vals xs us->Vals (xs.set i x) (us.set i u)
 | _,_,_,.nil=>.nil
 | _,_,0,.cons _ t=>.cons r t
 | _,_,i+1,.cons q t=>.cons q (Vals.set r i t)
theorem Vals.append:∀ {xs ys:List V} {us ws:List Value},Vals xs us->Vals ys ws->Vals (xs++ys) (us++ws)
 | _,_,_,_,.nil,s=>s
 | _,_,_,_,.cons r t,s=>.cons r (Vals.append t s)
theorem Vals.take:∀ {xs:List V} {us:List Value} (n:Nat),Vals xs us->Vals (xs.take n) (us.take n)
 | _,_,0,_=>.nil
 | _,_,_+1,.nil=>.nil
 | _,_,n+1,.cons r t=>.cons r (Vals.take n t)
theorem Vals.drop:∀ {xs:List V} {us:List Value} (n:Nat),Vals xs us->Vals (xs.drop n) (us.drop n)
 | _,_,0,r=>r
 | _,_,_+1,.nil=>.nil
 | _,_,n+1,.cons _ t=>Vals.drop n t
def Ei:Option V->Option Value->Prop
 | some v,some u=>RelV v u
 | none,none=>True
 | _,_=>False
def KV {κ:Type}:List (κ×V)->List (κ×Value)->Prop:=Paired fun (p:κ×V) (q:κ×Value)=>p.1=q.1/\RelV p.2 q.2
noncomputable def kV:Key->V
 | .inl i=>.int i
 | .inr x=>.str x
mutual
noncomputable def bG (w:World):PyData->Int
 | .int i=>hashInt i
 | .str x=>hashStr w x
 | .tuple ds=>reduceHash (Builtin.Tuple.tupleHashOf (bP w ds))
 | _=>0
noncomputable def bP (w:World):List PyData->List Int
 | []=>[]
 | d :: ds=>bG w d :: bP w ds
end
def yl (w:World) (x:PyData×V×V) (e:DictEntry):Prop:=e.hash=bG w x.1/\RelV x.2.1 e.key/\RelV x.2.2 e.val
inductive HO where
 /-- a list -/
 | lst (xs:List V)
 /-- a tuple (never changes) -/
 | tup (xs:List V)
 /-- a dict whose keys are ints and texts;one whose keys are tuples of ints and texts (the empty one is both) -/
 | dK (kvs:List (Key×V)) | dT (kvs:List (List Key×V))
 /-- a dict by any hashable data: its epoch;the keys as data and as values,what they hold -/
 | dD (ep:Nat) (xs:List (PyData×V×V))
 /-- a set of ints: its members,its size -/
 | set (S:Int->Bool) (n:Nat)
 /-- an instance of the class at C,its dict at dx,its attributes -/
 | ins (C dx:Addr) (fs:List (Str×V))
 /-- the dict of the instance at x -/
 | own (x:Addr)
 /-- the dict of an exception -/
 | xd (fs:List (Str×V))
 /-- a bound method,f of x -/
 | met (f x:Addr)
 /-- a range object lo,lo+1,.. below hi -/
 | rng (lo hi:Int)
 /-- a ax that is known to the object (the script;a dict while a loop walks it): read,never written while it is so -/
 | frz (o:Obj) (u:HO)
 /-- a code object's table -/
 | tbl (q:Str) (pos:Pos)
 /-- any other ax,by what is true of its one object (a def of one's own: Cv a S n:=HO.ext fun h=>..) -/
 | ext (φ:Heap->Prop)
abbrev Hp:=Addr->Option HO
noncomputable def upd (H:Hp) (a:Addr) (o:HO):Hp:=fun b=>if b=a then some o else H b
theorem ag {H:Hp} {a:Addr} {o:HO}:upd H a o a=some o:=by unfold upd;rw [Hv rfl]
theorem ab {H:Hp} {a b:Addr} {o:HO} (h:b≠a):upd H a o b=H b:=by unfold upd;rw [Hz h]
theorem wj {H:Hp} {a:Addr} {o u:HO}:upd (upd H a o) a u=upd H a u:=by
 funext b;unfold upd;split <;> rfl
theorem ae {H:Hp} {a b:Addr} {o:HO} (h:H a=some o) (h':H b=none):a≠b:=by
 intro e;subst e;rw [h] at h';cases h'
section
variable (P:Program) (w:World)
def bj (H:Hp) (h:Heap) (a:Addr):HO->Prop
 | .lst xs=>xs.length<=sizeLine/\∃ (its:List Value) (n:Nat),Vals xs its/\h.get? a=some { cls:=.type "list", data:=.seq its.toArray n }
 | .tup xs=>xs.length<=sizeLine/\∃ its:List Value,Vals xs its/\IsTup h a its.toArray
 | .dK kvs=>kvs.length<=sizeLine/\(a==sysModules)=false/\∃ vs,KV kvs vs/\h.DictOf (aY P w) a vs
 | .dT kvs=>kvs.length<=sizeLine/\(a==sysModules)=false/\∃ xs:List (List Key×Addr×Value),
   Paired (fun (p:List Key×V) (q:List Key×Addr×Value)=>p.1=q.1/\H q.2.1=some (.tup (p.1.map kV))/\RelV p.2 q.2.2) kvs xs /\
   ∃ o es ep,h.get? a=some o/\o.ExactDict/\o.data=.dict es ep/\es.toList=xs.map (entryOfKey (tupleKind (aY P w)))/\(xs.map (·.1)).Nodup
 | .dD ep xs=>xs.length<=sizeLine/\(a==sysModules)=false/\(xs.map (·.1)).Nodup/\∃ o es,h.get? a=some o/\o.ExactDict/\o.data=.dict es ep/\Paired (yl w) xs es.toList
 | .set S n=>h.SetOf (intKind P w) a S n
 | .ins C dx fs=>H dx=some (.own a)/\fs.length<=1000/\dx≠a/\h.get? a=some (PySem.W.instObj C dx) /\
   ∃ mA,h.Ns1 dx mA/\(∀ f,Ei (fs.lookup f) (mA f))/\PySem.Within mA (fs.map (·.1))
 | .own _=>∃ o,h.get? a=some o
 | .xd fs=>∃ mA,h.Ns1 a mA/\∀ f,Ei (fs.lookup f) (mA f)
 | .rng lo hi=>∃ t u v,h.get? a=some { cls:=.type "range", data:=.fields #[.int lo t,.int hi u,.int 1 v] }
 | .frz o u=>h.get? a=some o/\bj H h a u
 | .tbl q pos=>∃ ps:Array Value,h.get? a=some { cls:=.none,data:=.fields ps }/\TriplesOk ps.toList/\(codeAmong pos ps.toList=none\/∃ c oc u vs t,codeAmong pos ps.toList=some (.ref c)/\H c=some (.frz oc u)/\oc.data=.fields vs/\vs[1]?=some (.str q t))
 | .met f x=>h.get? a=some (PySem.W.methodObj (.ref f) (.ref x))
 | .ext φ=>φ h/\(∃ o,h.get? a=some o)/\∀ h1 h2:Heap,φ h1->(∀ o,h1.get? a=some o->h2.get? a=some o)->φ h2
def HOk (H:Hp) (h:Heap):Prop:=∀ a o,H a=some o->bj P w H h a o
end
section
variable {P:Program} {w:World} {H H':Hp} {h h':Heap} {a:Addr} {o:HO}
theorem bj.lt (x:bj P w H h a o):a < h.objs.size:=by
 cases o with
 | lst xs=>obtain ⟨_,_,_,_,e⟩:=x;exact Ht e
 | tup xs=>obtain ⟨_,_,_,p⟩:=x;exact p.lt
 | dK kvs=>obtain ⟨_,_,_,_,o,_,_,e,_⟩:=x;exact Ht e
 | dT kvs=>obtain ⟨_,_,_,_,o,_,_,e,_⟩:=x;exact Ht e
 | dD ep xs=>obtain ⟨_,_,_,o,_,e,_⟩:=x;exact Ht e
 | set S n=>obtain ⟨o,_,_,_,e,_⟩:=x;exact Ht e
 | ins C dx fs=>obtain ⟨_,_,_,e,_⟩:=x;exact Ht e
 | own y=>obtain ⟨_,e⟩:=x;exact Ht e
 | xd fs=>obtain ⟨_,⟨_,_,_,e,_⟩,_⟩:=x;exact Ht e
 | rng lo hi=>obtain ⟨_,_,_,e⟩:=x;exact Ht e
 | frz ob u=>obtain ⟨e,_⟩:=x;exact Ht e
 | tbl q pos=>obtain ⟨_,e,_⟩:=x;exact Ht e
 | met f y=>exact Ht (show h.get? a=some _ from x)
 | ext φ=>obtain ⟨_,⟨_,e⟩,_⟩:=x;exact Ht e
theorem Paired.FO {α β:Type} {F G:α->β->Prop}:∀ {l₁:List α} {l₂:List β},Paired F l₁ l₂->(∀ a b,F a b->G a b)->Paired G l₁ l₂
 | _,_,.nil,_=>.nil
 | _,_,.cons r t,f=>.cons (f _ _ r) (Paired.FO t f)
theorem bj.jk (x:bj P w H h a o) (k:∀ b u,(b=a\/H b=some (.own a))->h.get? b=some u->h'.get? b=some u)
  (ho:∀ b,H b=some (.own a)->H' b=some (.own a)) (ht:∀ b xs,H b=some (.tup xs)->H' b=some (.tup xs)) (hz:∀ b o u vs,H b=some (.frz o u)->o.data=.fields vs->H' b=some (.frz o u)):bj P w H' h' a o:=by
 induction o with
 | lst xs=>obtain ⟨z,its,n,r,e⟩:=x;exact ⟨z,its,n,r,k _ _ (.inl rfl) e⟩
 | tup xs=>obtain ⟨z,its,r,ob,e,c⟩:=x;exact ⟨z,its,r,ob,k _ _ (.inl rfl) e,c⟩
 | dK kvs=>obtain ⟨z,y,vs,r,ob,es,ep,e,c⟩:=x;exact ⟨z,y,vs,r,ob,es,ep,k _ _ (.inl rfl) e,c⟩
 | dT kvs =>
  obtain ⟨z,y,xs,r,ob,es,ep,e,c⟩:=x;exact ⟨z,y,xs,Paired.FO r fun p q z=>⟨z.1,ht _ _ z.2.1,z.2.2⟩,ob,es,ep,k _ _ (.inl rfl) e,c⟩
 | dD ep xs=>obtain ⟨z,y,nd,ob,es,e,c⟩:=x;exact ⟨z,y,nd,ob,es,k _ _ (.inl rfl) e,c⟩
 | set S n=>obtain ⟨ob,es,ep,t,e,c⟩:=x;exact ⟨ob,es,ep,t,k _ _ (.inl rfl) e,c⟩
 | ins C dx fs =>
  obtain ⟨d,z,ne,e,mA,⟨od,es,ep,e2,c⟩,r⟩:=x;exact ⟨ho _ d,z,ne,k _ _ (.inl rfl) e,mA,⟨od,es,ep,k _ _ (.inr d) e2,c⟩,r⟩
 | own y=>obtain ⟨ob,e⟩:=x;exact ⟨ob,k _ _ (.inl rfl) e⟩
 | xd fs=>obtain ⟨mA,⟨od,es,ep,e,c⟩,r⟩:=x;exact ⟨mA,⟨od,es,ep,k _ _ (.inl rfl) e,c⟩,r⟩
 | rng lo hi=>obtain ⟨t,u,v,e⟩:=x;exact ⟨t,u,v,k _ _ (.inl rfl) e⟩
 | frz ob u ih=>obtain ⟨e,q⟩:=x;exact ⟨k _ _ (.inl rfl) e,ih q⟩
 | tbl q pos =>
  obtain ⟨ps,e,t,c⟩:=x;exact ⟨ps,k a _ (.inl rfl) e,t,c.elim .inl fun ⟨c',oc,u,vs,t,c1,c2,c3⟩=>.inr ⟨c',oc,u,vs,t,c1,hz _ _ _ _ c2 c3.1,c3⟩⟩
 | met f y =>
  have e:h.get? a=some (PySem.W.methodObj (.ref f) (.ref y)):=x;show h'.get? a=some (PySem.W.methodObj (.ref f) (.ref y));exact k a _ (.inl rfl) e
 | ext φ=>obtain ⟨p,⟨o,e⟩,st⟩:=x;exact ⟨st _ _ p fun o q=>k _ _ (.inl rfl) q,⟨o,k _ _ (.inl rfl) e⟩,st⟩
theorem HOk.lt (x:HOk P w H h) (e:H a=some o):a < h.objs.size:=(x a o e).lt
theorem HOk.fresh (x:HOk P w H h) (e:h.objs.size<=a):H a=none:=by
 cases q:H a with
 | none=>rfl
 | some u=>exact absurd (HF (x.lt q) e) (Ic _)
theorem HOk.kept (x:HOk P w H h) (k:∀ b u,h.get? b=some u->h'.get? b=some u):HOk P w H h':=fun a o e =>
 (x a o e).jk (fun b u _ q=>k b u q) (fun _ q=>q) (fun _ _ q=>q) fun _ _ _ _ q _=>q
theorem HOk.laid (x:HOk P w H h) (k:∀ b u,h.get? b=some u->h'.get? b=some u) (hp:h.objs.size<=a) (new:bj P w (upd H a o) h' a o):HOk P w (upd H a o) h':=fun b u e=>by
 have hn:=x.fresh hp;by_cases hb:b=a
 ·subst hb;rw [ag] at e;cases e;exact new
 ·rw [ab hb] at e;exact (x b u e).jk (fun c v _ q=>k c v q) (fun c q=>by rw [ab (ae q hn)];exact q) (fun c xs q=>by rw [ab (ae q hn)];exact q) fun c o u vs q _=>by rw [ab (ae q hn)];exact q
end
def Rd (H:Hp) (a:Addr) (u:HO):Prop:=H a=some u\/∃ o,H a=some (.frz o u)
theorem Rd.ok {P:Program} {w:World} {H:Hp} {h:Heap} {a:Addr} {u:HO} (r:Rd H a u) (x:HOk P w H h):bj P w H h a u:=by
 rcases r with r | ⟨o,r⟩
 ·exact x a u r
 ·obtain ⟨_,q⟩:=x a _ r;exact q
def Mut:Option HO->Prop
 | some (.lst _)=>True
 | some (.dK _)=>True
 | some (.dT _)=>True
 | some (.dD _ _)=>True
 | some (.set _ _)=>True
 | some (.ins _ _ _)=>True
 | some (.ext _)=>True
 | _=>False
section
variable {P:Program} {w:World} {H:Hp} {h h':Heap} {x e:Addr} {o':HO}
theorem HOk.write (ok:HOk P w H h) (mu:Mut (H x)) (he:e=x\/H e=some (.own x)) (k:∀ b u,b≠e->h.get? b=some u->h'.get? b=some u) (heo:∃ u,h'.get? e=some u)
  (new:bj P w (upd H x o') h' x o'):HOk P w (upd H x o') h':=fun b u q=>by
 have nown:∀ c y,H c=some (.own y)->c≠x:=fun c y r z=>by subst z;rw [r] at mu;exact mu
 have ntup:∀ c xs,H c=some (.tup xs)->c≠x:=fun c xs r z=>by subst z;rw [r] at mu;exact mu
 by_cases hb:b=x
 ·subst hb;rw [ag] at q;cases q;exact new
 ·rw [ab hb] at q;by_cases hbe:b=e
  ·have q':H b=some (.own x):=by
    rcases he with z | z
    ·exact absurd (hbe.trans z) hb
    ·rw [hbe];exact z
   rw [q] at q';cases q';obtain ⟨v,hv⟩:=heo;exact ⟨v,by rw [hbe];exact hv⟩
  ·refine (ok b u q).jk (fun c v hc r=>k c v ?_ r) (fun c r=>by rw [ab (nown c b r)];exact r) (fun c xs r=>by rw [ab (ntup c xs r)];exact r) fun c o u vs r _=>by rw [ab fun z=>by subst z;rw [r] at mu;exact mu];exact r
   rcases hc with rfl | hc
   ·exact hbe
   ·rintro rfl;rcases he with z | z
    ·exact nown c b hc z
    ·rw [hc] at z;cases z;exact hb rfl
end
structure Un (fs ex:List Addr) (H H':Hp) (h h':Heap):Prop where
 keep:∀ b o,h.get? b=some o->H b=none->b ∉ fs->b ∉ ex->h'.get? b=some o
 slot:∀ b o,h.get? b=some o->H b=none->b∈fs->b ∉ ex->∃ sl,h'.get? b=some { o with slots:=sl }
 free:∀ b o,h.get? b=some o->H b=none->b ∉ ex->H' b=none
 there:∀ b o,h.get? b=some o->b ∉ ex->∃ o',h'.get? b=some o'
 oj:∀ b xs,H b=some (.tup xs)->H' b=some (.tup xs)
 lp:∀ b o u,H b=some (.frz o u)->H' b=some (.frz o u)
 kX:∀ b q pos,H b=some (.tbl q pos)->H' b=some (.tbl q pos)
section
variable {fs fs' ex ex':List Addr} {H H1 H2:Hp} {h h1 h2 h':Heap} {a x e:Addr} {o:HO}
theorem Un.any (u:Un fs ex H H1 h h1) {b:Addr} {ob:Obj} (q:h.get? b=some ob) (n:H b=none) (hx:b ∉ ex):∃ sl,h1.get? b=some { ob with slots:=sl }:=by
 by_cases hb:b∈fs
 ·exact u.slot b ob q n hb hx
 ·exact ⟨ob.slots,u.keep b ob q n hb hx⟩
theorem Un.kept (k:∀ b u,h.get? b=some u->h'.get? b=some u):Un fs ex H H h h' :=
 ⟨fun b ob q _ _ _=>k b ob q,fun b ob q _ _ _=>⟨ob.slots,k b ob q⟩,fun _ _ _ n _=>n,fun b ob q _=>⟨ob,k b ob q⟩,fun _ _ q=>q,fun _ _ _ q=>q,fun _ _ _ q=>q⟩
theorem Un.refl:Un fs ex H H h h:=Un.kept fun _ _ q=>q
theorem Un.laid (k:∀ b u,h.get? b=some u->h'.get? b=some u) (hp:h.objs.size<=a) (hn:H a=none):Un fs ex H (upd H a o) h h' where
 keep:=fun b u q _ _ _=>k b u q
 slot:=fun b u q _ _ _=>⟨u.slots,k b u q⟩
 free:=fun b u q n _=>by rw [ab (HH (HF (Ht q) hp))];exact n
 there:=fun b u q _=>⟨u,k b u q⟩
 oj:=fun b xs q=>by rw [ab (ae q hn)];exact q
 lp:=fun b u xs q=>by rw [ab (ae q hn)];exact q
 kX:=fun b x y q=>by rw [ab (ae q hn)];exact q
theorem Un.write (mu:Mut (H x)) (he:e=x\/H e=some (.own x)) (k:∀ b u,b≠e->h.get? b=some u->h'.get? b=some u) (heo:∃ u,h'.get? e=some u):Un fs ex H (upd H x o) h h':=by
 have hx:∀ b,H b=none->b≠x:=fun b n z=>by subst z;rw [n] at mu;exact mu
 have hb:∀ b,H b=none->b≠e:=fun b n z=>by
  subst z;rcases he with r | r
  ·exact hx b n r
  ·rw [n] at r;cases r
 have hm:∀ b u,H b=some u->¬Mut (some u)->b≠x:=fun b u q nm z=>by subst z;rw [q] at mu;exact nm mu
 refine ⟨fun b u q n _ _=>k b u (hb b n) q,fun b u q n _ _=>⟨u.slots,k b u (hb b n) q⟩,fun b u q n _=>by rw [ab (hx b n)];exact n,fun b u q _=>?_,
  fun b xs q=>by rw [ab (hm b _ q fun z=>z)];exact q,fun b u xs q=>by rw [ab (hm b _ q fun z=>z)];exact q,fun b x y q=>by rw [ab (hm b _ q fun z=>z)];exact q⟩
 by_cases hbe:b=e
 ·subst hbe;exact heo
 ·exact ⟨u,k b u hbe q⟩
end
noncomputable def trk (h:Heap) (H:Hp):List Addr:=(List.range h.objs.size).filter fun a=>(H a).isSome
noncomputable def tF (h:Heap) (H:Hp):Heap:=PySem.W.hideAll h (trk h H)
theorem o8 (h:Heap) (H:Hp):(tF h H).objs.size=h.objs.size:=PySem.W.hideAll_size _ _
theorem t9 {h:Heap} {H:Hp} {b:Addr} {o:Obj} (e:h.get? b=some o) (n:H b=none):(tF h H).get? b=some o :=
 PySem.W.hideAll_get _ e fun hm=>by
  have q:(H b).isSome=true:=(IC.mp hm).2;rw [n] at q;simp at q
theorem wU {h:Heap} {H:Hp} {b:Addr} {o:Obj} (e:(tF h H).get? b=some o):h.get? b=some o/\H b=none:=by
 have e':h.get? b=some o:=PySem.W.of_hideAll (trk h H) e;refine ⟨e',?_⟩;cases q:H b with
 | none=>rfl
 | some x =>
  have hm:b∈trk h H:=IC.mpr ⟨List.mem_range.mpr (Ht e'),by simp [q]⟩;have z:(tF h H).get? b=none:=PySem.W.hideAll_none (trk h H) hm;rw [z] at e;cases e
noncomputable def xV (g h:Heap) (L:Addr):List (Addr×Obj):=(List.range h.objs.size).filterMap fun a=>if a=L\/(g.get? a).isSome=true then none else (h.get? a).map fun o=>(a,o)
noncomputable def rest (g h:Heap) (L d:Addr):List (Addr×Obj):=(xV g h L).filter fun p=>decide (p.1≠d)
end L2
namespace L2
open PySem PySem.Spec PyProof.Rows
noncomputable def bp:List (Addr×Addr×Str×Pos):=[(155,151, "_law_so.<locals>.<lambda>", ⟨153,65,153,115⟩),(129,125, "_law_facts_sorted.<locals>.<lambda>", ⟨134,46,134,116⟩)]
def yB (H:Hp):Prop:=∀ t∈bp,H t.2.1=some (.tbl t.2.2.1 t.2.2.2)
structure Mod (K:Fg) (mg:Str->Option Value) (base:Heap):Prop where
 kin:K.In base
 glob:base.Ns mainGlobals mg
 blt:∃ mb,base.Ns builtinsNs mb/\∀ x:Str,x ≠ "__name__" -> mb x=bootBuiltins x
 nolimit:base.NoLimit
 bmain:∃ bm ob,mg "__builtins__" = some (.ref bm)/\bm≠builtinsNs/\base.get? bm=some ob/\ob.cls=.type "module" /\ ob.dict=some builtinsNs/\ob.data=.plain
 hds:∀ t∈bp,PySem.W.CodeHd base t.1 t.2.1
structure Cx where
 prog:Program
 w:World
 K:Fg
 mg:Str->Option Value
 base:Heap
 A:Around
 N:List Str
 s₀:Shared
 H₀:Hp
 env:Env
 outer:List Env
 stack:List Env
 ex:List Addr
 fn:Str->Bool
 calm:Bool
 pn:List (Addr×Obj)
 xe:Value->Shared->Prop
noncomputable def frs (l:List Env):List Addr:=l.filterMap (·.frame)
noncomputable abbrev Cx.fs (X:Cx):List Addr:=frs X.outer
def Vis (sc:Scope) (x:Str):Prop:=sc.names.lookup x=some .local\/sc.names.lookup x=some .cell\/sc.names.lookup x=some .free
def Loc (sc:Scope) (x:Str):Prop:=sc.names.lookup x=some .local\/sc.names.lookup x=some .cell
def Look (env:Env) (h:Heap) (m:Str->Option Value) (x:Str) (u:Value):Prop :=
 (env.kindOf x=some .local/\m x=some u)\/((env.kindOf x=some .cell\/env.kindOf x=some .free)/\∃ c,env.cells.lookup x=some c/\h.IsCell c (some u))
structure Cx.Ok (X:Cx):Prop where
 mod:Mod X.K X.mg X.base
 kind:X.env.scope.kind=.function
 glob:X.env.globals=mainGlobals
 blt:X.env.builtins=builtinsNs
 above:X.s₀.heap.objs.size<=X.env.locals
 inj:∀ x y c,X.env.cells.lookup x=some c->X.env.cells.lookup y=some c->x=y
 has:∀ x,(X.env.kindOf x=some .cell\/X.env.kindOf x=some .free)->∃ c,X.env.cells.lookup x=some c
 cab:∀ x c,X.fn x=true->X.env.cells.lookup x=some c->X.s₀.heap.objs.size<=c
 hd:X.calm=true->X.A.handled=none
 frames:X.A.frames=some X.stack
 stk:X.stack=X.outer\/(X.stack=X.env :: X.outer/\X.env.frame=some X.env.locals)
 exf:∀ b∈X.ex,b≠X.env.locals/\∀ x c,X.env.cells.lookup x=some c->c≠b
 bs:∀ b o,X.base.get? b=some o->X.s₀.heap.get? b=some o/\X.H₀ b=none
 bsz:X.base.objs.size<=X.s₀.heap.objs.size
 wH:∀ b o,X.base.get? b=some o->b ∉ X.ex
 yn:∀ b∈X.ex,b ∉ X.fs
 jL:X.s₀.heap.FunFrames X.base X.outer
 frf:∀ b∈X.fs,X.H₀ b=none
 tabs:yB X.H₀
structure Inv (X:Cx) (pins:List (Addr×Obj)) (σ:List (Option V)) (H:Hp) (s:Shared):Prop where
 ok:X.Ok
 os:s.os=X.s₀.os
 bare:AllBare s.gens
 base:Un X.fs X.ex X.H₀ H X.s₀.heap s.heap
 loc:∃ m,s.heap.Ns X.env.locals m/\∀ (i:Nat) (x:Str) (v:V),X.N[i]?=some x->σ[i]?=some (some v)->Vis X.env.scope x->∃ u,RelV v u/\Look X.env s.heap m x u
 cell:∀ x c,X.env.cells.lookup x=some c->∃ v,s.heap.IsCell c v
 free:H X.env.locals=none
 cM:∀ x c,X.env.cells.lookup x=some c->H c=none
 pin:∀ p∈X.pn++pins,s.heap.get? p.1=some p.2/\H p.1=none/\p.1≠X.env.locals/\p.1 ∉ X.fs/\∀ v,p.2.data≠.cell v
 hok:HOk X.prog X.w H s.heap
 len:σ.length=X.N.length
section
variable {X:Cx} {pins:List (Addr×Obj)} {σ:List (Option V)} {H H':Hp} {s:Shared} {h':Heap}
theorem Cx.Ok.Gs (ok:X.Ok) {b:Addr} {o:Obj} (e:X.base.get? b=some o):b ∉ X.fs:=fun hb=>by
 have:=(ok.jL.mem hb).1;rw [e] at this;cases this
theorem Inv.bs (I:Inv X pins σ H s):∀ b o,X.base.get? b=some o->s.heap.get? b=some o/\H b=none:=fun b o e =>
 ⟨I.base.keep b o (I.ok.bs b o e).1 (I.ok.bs b o e).2 (I.ok.Gs e) (I.ok.wH b o e),I.base.free b o (I.ok.bs b o e).1 (I.ok.bs b o e).2 (I.ok.wH b o e)⟩
theorem Inv.bk (I:Inv X pins σ H s):∀ b o,X.base.get? b=some o->s.heap.get? b=some o:=fun b o e=>(I.bs b o e).1
theorem Inv.mod (I:Inv X pins σ H s):Mod X.K X.mg X.base:=I.ok.mod
theorem Inv.kIn (I:Inv X pins σ H s):X.K.In s.heap:=I.ok.mod.kin.keeps I.bk
theorem Inv.lt (I:Inv X pins σ H s):X.env.locals < s.heap.objs.size:=let ⟨_,hn,_⟩:=I.loc;hn.lt
theorem Inv.sz (I:Inv X pins σ H s):X.s₀.heap.objs.size<=s.heap.objs.size:=HJ I.ok.above (Jk I.lt)
theorem Inv.yD (I:Inv X pins σ H s) {a:Addr} (h:s.heap.objs.size<=a):a ∉ X.fs:=fun hb=>by
 obtain ⟨_,o,ho,_⟩:=I.ok.jL.mem hb;exact absurd (HF (Ht ho) (HJ I.sz h)) (Ic _)
theorem Inv.cne (I:Inv X pins σ H s):∀ x c,X.env.cells.lookup x=some c->c≠X.env.locals:=fun x c e z=>by
 obtain ⟨v,o,ho,hd⟩:=I.cell x c e;obtain ⟨m,⟨o',es,ep,ho',hd',_⟩,_⟩:=I.loc;rw [z,ho'] at ho;cases ho;rw [hd'] at hd;cases hd
theorem Inv.jL (I:Inv X pins σ H s):s.heap.FunFrames X.base X.outer:=by
 have all:∀ (l:List Env),(∀ b∈frs l,b∈X.fs)->X.s₀.heap.FunFrames X.base l->s.heap.FunFrames X.base l:=by
  intro l;induction l with
  | nil=>intro _ _;trivial
  | cons env r ih =>
   intro hs hl;obtain ⟨hk,⟨L,o,hf,hn,ho,hd⟩,hr⟩:=hl;have hL:L∈X.fs:=hs L (by unfold frs;rw [List.filterMap_cons,hf];exact Hu);obtain ⟨sl,e⟩:=I.base.slot L o ho (I.ok.frf L hL) hL fun z=>I.ok.yn L z hL;exact ⟨hk,⟨L,_,hf,hn,e,hd⟩,ih (fun b hb=>hs b (by unfold frs;rw [List.filterMap_cons,hf];exact Hr _ hb)) hr⟩
 exact all X.outer (fun _ hb=>hb) I.ok.jL
theorem Inv.stack (I:Inv X pins σ H s):s.heap.FunFrames X.base X.stack:=by
 rcases I.ok.stk with e | ⟨e,hf⟩
 ·rw [e];exact I.jL
 ·rw [e];obtain ⟨m,hn,_⟩:=I.loc;refine .cons (by rw [I.ok.kind];decide) hf hn ?_ I.jL;exact Heap.get?_none_of_le (HJ I.ok.bsz I.ok.above)
theorem Inv.mM (I:Inv X pins σ H s):∀ b∈frs X.stack,b∈X.env.locals :: X.fs:=fun b hb=>by
 rcases I.ok.stk with e | ⟨e,hf⟩
 ·rw [e] at hb;exact Hr _ hb
 ·rw [e] at hb;unfold frs at hb;rw [List.filterMap_cons,hf] at hb;exact hb
theorem Inv.pX (I:Inv X pins σ H s):∀ b∈frs X.stack,H b=none:=fun b hb=>by
 rcases HB.mp (I.mM b hb) with e | hb
 ·rw [e];exact I.free
 ·obtain ⟨_,o,ho,_⟩:=I.ok.jL.mem hb;exact I.base.free b o ho (I.ok.frf b hb) fun z=>I.ok.yn b z hb
theorem Inv.step {g':Array GenState} {t':Nat} {d':Drawn} {ch:List Addr} (I:Inv X pins σ H s)
  (hch:∀ b∈ch,(b∈X.ex\/X.s₀.heap.objs.size<=b)/\b≠X.env.locals/\(∀ x c,X.env.cells.lookup x=some c->c≠b)/\∀ p∈X.pn++pins,p.1≠b)
  (keep:∀ b o,b≠X.env.locals->b ∉ X.fs->b ∉ ch->s.heap.get? b=some o->H b=none->h'.get? b=some o)
  (slot:∀ b o,b≠X.env.locals->b∈X.fs->b ∉ ch->s.heap.get? b=some o->H b=none->∃ sl,h'.get? b=some { o with slots:=sl }) (free:∀ b o,b ∉ ch->s.heap.get? b=some o->H b=none->H' b=none)
  (there:∀ b o,b ∉ ch->s.heap.get? b=some o->∃ o',h'.get? b=some o')
  (oj:∀ b xs,H b=some (.tup xs)->H' b=some (.tup xs)) (lp:∀ b o u,H b=some (.frz o u)->H' b=some (.frz o u)) (kX:∀ b q pos,H b=some (.tbl q pos)->H' b=some (.tbl q pos))
  (ns:∀ m,s.heap.Ns X.env.locals m->h'.Ns X.env.locals m) (hok:HOk X.prog X.w H' h') (hg:AllBare g') :
  Inv X pins σ H' { s with heap:=h',gens:=g',drawn:=d',toks:=t' }:=by
 have neL:∀ b o,X.s₀.heap.get? b=some o->b≠X.env.locals:=fun b o e=>HH (HF (Ht e) I.ok.above);have neC:∀ b o,X.s₀.heap.get? b=some o->b ∉ X.ex->b ∉ ch:=fun b o e hx hb=>by
  rcases (hch b hb).1 with z | z
  ·exact hx z
  ·exact absurd (HF (Ht e) z) (Ic _)
 have cellK:∀ x c,X.env.cells.lookup x=some c->∀ v,s.heap.IsCell c v->h'.IsCell c v:=fun x c e v ⟨o,ho,hd⟩=>by
  have nch:c ∉ ch:=fun z=>(hch c z).2.2.1 x c e rfl;by_cases hc:c∈X.fs
  ·obtain ⟨sl,q⟩:=slot c o (I.cne x c e) hc nch ho (I.cM x c e);exact ⟨_,q,hd⟩
  ·exact ⟨o,keep c o (I.cne x c e) hc nch ho (I.cM x c e),hd⟩
 refine ⟨I.ok,I.os,hg,⟨fun b o e n hb hx=>?_,fun b o e n hb hx=>?_,fun b o e n hx=>?_,fun b o e hx=>?_,fun b xs e=>oj b xs (I.base.oj b xs e),fun b o xs e=>lp b o xs (I.base.lp b o xs e),fun b x y e=>kX b x y (I.base.kX b x y e)⟩,?_,fun x c e=>?_,?_,fun x c e=>?_,fun p hp=>?_,hok,I.len⟩
 ·exact keep b o (neL b o e) hb (neC b o e hx) (I.base.keep b o e n hb hx) (I.base.free b o e n hx)
 ·obtain ⟨sl,e1⟩:=I.base.slot b o e n hb hx;obtain ⟨sl',e2⟩:=slot b _ (neL b o e) hb (neC b o e hx) e1 (I.base.free b o e n hx);exact ⟨sl',e2⟩
 ·obtain ⟨o',e1⟩:=I.base.there b o e hx;exact free b o' (neC b o e hx) e1 (I.base.free b o e n hx)
 ·obtain ⟨o',e1⟩:=I.base.there b o e hx;exact there b o' (neC b o e hx) e1
 ·obtain ⟨m,hn,hl⟩:=I.loc;refine ⟨m,ns m hn,fun i x v e1 e2 e3=>?_⟩;obtain ⟨u,r,l⟩:=hl i x v e1 e2 e3;refine ⟨u,r,?_⟩;rcases l with l | ⟨k,c,e,z⟩
  ·exact .inl l
  ·exact .inr ⟨k,c,e,cellK x c e _ z⟩
 ·obtain ⟨v,z⟩:=I.cell x c e;exact ⟨v,cellK x c e v z⟩
 ·obtain ⟨m,⟨o,_,_,ho,_⟩,_⟩:=I.loc;exact free _ o (fun z=>(hch _ z).2.1 rfl) ho I.free
 ·obtain ⟨v,o,ho,hd⟩:=I.cell x c e;exact free c o (fun z=>(hch c z).2.2.1 x c e rfl) ho (I.cM x c e)
 ·obtain ⟨e,n,ne,nf,d⟩:=I.pin p hp;have nch:p.1 ∉ ch:=fun z=>(hch p.1 z).2.2.2 p hp rfl;exact ⟨keep p.1 p.2 ne nf nch e n,free p.1 p.2 nch e n,ne,nf,d⟩
theorem Inv.un {t':Nat} (I:Inv X pins σ H s) (u:Un X.fs [] H H' s.heap h') (hok:HOk X.prog X.w H' h'):Inv X pins σ H' { s with heap:=h',toks:=t' }:=by
 obtain ⟨m,⟨o,es,ep,ho,r⟩,_⟩:=id I.loc;obtain ⟨sl,hL⟩:=u.any ho I.free (by simp)
 exact I.step (g':=s.gens) (d':=s.drawn) (ch:=[]) (fun _ z=>nomatch z) (fun b o _ hb _ e n=>u.keep b o e n hb (by simp)) (fun b o _ hb _ e n=>u.slot b o e n hb (by simp)) (fun b o _ e n=>u.free b o e n (by simp)) (fun b o _ e=>u.there b o e (by simp)) u.oj u.lp u.kX (fun m' hm=>by
  obtain ⟨o',es',ep',ho',r'⟩:=hm;rw [ho] at ho';cases ho'
  exact ⟨_,es',ep',hL,r'⟩) hok I.bare
theorem Inv.call {g':Array GenState} {t':Nat} {d':Drawn} {ch:List Addr} (I:Inv X pins σ H s) (u:Un (frs X.stack) ch H H' s.heap h') (hok:HOk X.prog X.w H' h') (hg:AllBare g')
  (hch:∀ b∈ch,(b∈X.ex\/X.s₀.heap.objs.size<=b)/\b≠X.env.locals/\(∀ x c,X.env.cells.lookup x=some c->c≠b)/\∀ p∈X.pn++pins,p.1≠b) :
  Inv X pins σ H' { s with heap:=h',gens:=g',drawn:=d',toks:=t' }:=by
 obtain ⟨m,⟨o,es,ep,ho,r⟩,_⟩:=id I.loc;obtain ⟨sl,hL⟩:=u.any ho I.free fun z=>(hch _ z).2.1 rfl
 exact I.step (ch:=ch) hch (fun b o hL hb hc e n=>u.keep b o e n (fun z=>(HB.mp (I.mM b z)).elim hL hb) hc) (fun b o _ _ hc e n=>u.any e n hc) (fun b o hc e n=>u.free b o e n hc) (fun b o hc e=>u.there b o e hc) u.oj u.lp u.kX (fun m' hm=>by
  obtain ⟨o',es',ep',ho',r'⟩:=hm;rw [ho] at ho';cases ho'
  exact ⟨_,es',ep',hL,r'⟩) hok hg
theorem Inv.turned {t':Nat} {it:Addr} (I:Inv X pins σ H s) (k:∀ b o,b≠it->s.heap.get? b=some o->h'.get? b=some o) (hn:H it=none) (hL:it≠X.env.locals)
  (h1:it∈X.ex\/X.s₀.heap.objs.size<=it) (h2:∀ x c,X.env.cells.lookup x=some c->c≠it) (h3:∀ p∈X.pn++pins,p.1≠it):Inv X pins σ H { s with heap:=h',toks:=t' }:=by
 have nit:∀ b u,H b=some u->b≠it:=fun b u e z=>by rw [z,hn] at e;cases e
 refine I.step (g':=s.gens) (d':=s.drawn) (ch:=[it]) (fun b hb=>?_) (fun b o _ _ hc e _=>k b o (fun z=>hc (by simp [z])) e) (fun b o _ _ hc e _=>⟨o.slots,k b o (fun z=>hc (by simp [z])) e⟩) (fun _ _ _ _ n=>n)
  (fun b o hc e=>⟨o,k b o (fun z=>hc (by simp [z])) e⟩) (fun _ _ e=>e) (fun _ _ _ e=>e) (fun _ _ _ e=>e) (fun m hm=>?_) (fun b u e=>?_) I.bare
 ·have e:b=it:=by simpa using hb
  subst e;exact ⟨h1,hL,h2,h3⟩
 ·obtain ⟨o,es,ep,ho,r⟩:=hm;exact ⟨o,es,ep,k _ o (Ne.symm hL) ho,r⟩
 ·refine (I.hok b u e).jk (fun c v hc q=>k c v ?_ q) (fun _ q=>q) (fun _ _ q=>q) fun _ _ _ _ q _=>q;rcases hc with z | z
  ·rw [z];exact nit b u e
  ·exact nit c _ z
theorem Inv.tok (I:Inv X pins σ H s) (t:Nat):Inv X pins σ H { s with toks:=t }:=I.un (h':=s.heap) (t':=t) Un.refl I.hok
theorem Inv.kept {t':Nat} (I:Inv X pins σ H s) (k:∀ b u,s.heap.get? b=some u->h'.get? b=some u):Inv X pins σ H { s with heap:=h',toks:=t' }:=I.un (Un.kept k) (I.hok.kept k)
theorem Inv.laid {a:Addr} {o:HO} {t':Nat} (I:Inv X pins σ H s) (k:∀ b u,s.heap.get? b=some u->h'.get? b=some u) (hp:s.heap.objs.size<=a) (new:bj X.prog X.w (upd H a o) h' a o) :
  Inv X pins σ (upd H a o) { s with heap:=h',toks:=t' }:=I.un (Un.laid k hp (I.hok.fresh hp)) (I.hok.laid k hp new)
theorem Inv.write {x e:Addr} {o:HO} {t':Nat} (I:Inv X pins σ H s) (mu:Mut (H x)) (he:e=x\/H e=some (.own x)) (k:∀ b u,b≠e->s.heap.get? b=some u->h'.get? b=some u) (heo:∃ u,h'.get? e=some u)
  (new:bj X.prog X.w (upd H x o) h' x o):Inv X pins σ (upd H x o) { s with heap:=h',toks:=t' }:=I.un (Un.write mu he k heo) (I.hok.write mu he k heo new)
theorem Inv.b8 {pins':List (Addr×Obj)} (I:Inv X pins σ H s) (h:∀ p∈pins',s.heap.get? p.1=some p.2/\H p.1=none/\p.1≠X.env.locals/\p.1 ∉ X.fs/\∀ v,p.2.data≠.cell v):Inv X pins' σ H s :=
 ⟨I.ok,I.os,I.bare,I.base,I.loc,I.cell,I.free,I.cM,fun p hp=>(Ir.mp hp).elim (fun z=>I.pin p (Jt _ z)) (h p),I.hok,I.len⟩
theorem mC {N:List Str} (hN:N.Nodup) {i j:Nat} {x:Str} (a:N[i]?=some x) (b:N[j]?=some x):i=j:=by
 obtain ⟨h1,e1⟩:=Hl.mp a;obtain ⟨h2,e2⟩:=Hl.mp b;exact (List.getElem_inj hN).mp (e1.trans e2.symm)
theorem qQ {M:Model} {A:Around} {E:Value->Shared->Prop} {i:Nat} {x:Str} {v:V} {u:Value} {Q:Unit->Shared->Prop} (I:Inv X pins σ H s) (hN:X.N.Nodup) (hi:X.N[i]?=some x) (hx:Loc X.env.scope x) (r:RelV v u)
  (h:∀ s',Inv X pins (σ.set i (some v)) H s'->(∃ a,Heap.SameBut a s.heap s'.heap/\(a=X.env.locals\/X.env.cells.lookup x=some a))->Q () s') (hf:X.fn x=true\/X.env.scope.names.lookup x=some .local:=by first | exact .inl rfl | exact .inr rfl | assumption):wpAny M A (storeName X.env x u) Q E s:=by
 obtain ⟨m,hn,hl⟩:=id I.loc;have hcls:(X.env.scope.kind==.class||(X.env.scope.kind==.module&&X.env.locals != X.env.globals))=false:=by rw [I.ok.kind];rfl
 have hiσ:i < σ.length:=by rw [I.len];exact (Hl.mp hi).1
 have cne:=I.cne;have tracked:∀ {a:Addr} {h':Heap},(∃ o,s.heap.get? a=some o/\H a=none)->Heap.SameBut a s.heap h'->HOk X.prog X.w H h':=fun {a h'} ha hs b ob e=>by
  obtain ⟨_,_,hfree⟩:=ha;refine (I.hok b ob e).jk (fun c w' hc q=>(hs.2 c ?_).trans q) (fun _ q=>q) (fun _ _ q=>q) fun _ _ _ _ q _=>q;rintro rfl;rcases hc with rfl | hc
  ·rw [hfree] at e;cases e
  ·rw [hfree] at hc;cases hc
 rcases hx with hk | hk
 ·refine wpAny_storeName_local hk hn (fun h' hn' hs=>?_) hcls;obtain ⟨oL,_,_,hoL,_⟩:=id hn;refine h _ ⟨I.ok,I.os,I.bare,⟨fun b o e n hb hx=>?_,fun b o e n hb hx=>?_,I.base.free,fun b o e hx=>?_,I.base.oj,I.base.lp,I.base.kX⟩,⟨_,hn',fun j y v' e1 e2 e3=>?_⟩,fun y c e=>?_,I.free,I.cM,fun p hp=>?_,tracked ⟨oL,hoL,I.free⟩ hs,by simpa using I.len⟩ ⟨_,hs,.inl rfl⟩
  ·exact (hs.2 b (HH (HF (Ht e) I.ok.above))).trans (I.base.keep b o e n hb hx)
  ·obtain ⟨sl,e1⟩:=I.base.slot b o e n hb hx;exact ⟨sl,(hs.2 b (HH (HF (Ht e) I.ok.above))).trans e1⟩
  ·obtain ⟨o',e1⟩:=I.base.there b o e hx;exact ⟨o',(hs.2 b (HH (HF (Ht e) I.ok.above))).trans e1⟩
  ·by_cases hj:j=i
   ·subst hj;rw [hi] at e1;cases e1;rw [Hs hiσ] at e2;cases e2;exact ⟨u,r,.inl ⟨hk,by simp⟩⟩
   ·rw [Hk (Ne.symm hj)] at e2;obtain ⟨u',r',q⟩:=hl j y v' e1 e2 e3;refine ⟨u',r',?_⟩;rcases q with ⟨k,e⟩ | ⟨k,c,e,z⟩
    ·refine .inl ⟨k,?_⟩;have:y≠x:=fun e=>hj (mC hN e1 (e▸hi));simp [this,e]
    ·exact .inr ⟨k,c,e,z.sameBut hs (cne y c e)⟩
  ·obtain ⟨w',z⟩:=I.cell y c e;exact ⟨w',z.sameBut hs (cne y c e)⟩
  ·obtain ⟨e,n,ne,nf,d⟩:=I.pin p hp;exact ⟨(hs.2 p.1 ne).trans e,n,ne,nf,d⟩
 ·have hfn:X.fn x=true:=by
   rcases hf with z | z
   ·exact z
   ·rw [z] at hk;cases hk
  obtain ⟨c,hc⟩:=I.ok.has x (.inl hk);obtain ⟨w',z⟩:=I.cell x c hc;refine wpAny_storeName_cell I.ok.kind hk hc z (fun h' hc' hs=>?_);obtain ⟨oc,hoc,hocd⟩:=id z;refine h { s with heap:=h' } ⟨I.ok,I.os,I.bare,⟨fun b o e n hb hx=>?_,fun b o e n hb hx=>?_,I.base.free,fun b o e hx=>?_,I.base.oj,I.base.lp,I.base.kX⟩,⟨m,hn.sameBut hs (Ne.symm (cne x c hc)),fun j y v' e1 e2 e3=>?_⟩,fun y c' e=>?_,I.free,I.cM,fun p hp=>?_,tracked ⟨oc,hoc,I.cM x c hc⟩ hs,by simpa using I.len⟩ ⟨c,hs,.inr hc⟩
  ·exact (hs.2 b (HH (HF (Ht e) (I.ok.cab x c hfn hc)))).trans (I.base.keep b o e n hb hx)
  ·obtain ⟨sl,e1⟩:=I.base.slot b o e n hb hx;exact ⟨sl,(hs.2 b (HH (HF (Ht e) (I.ok.cab x c hfn hc)))).trans e1⟩
  ·obtain ⟨o',e1⟩:=I.base.there b o e hx;exact ⟨o',(hs.2 b (HH (HF (Ht e) (I.ok.cab x c hfn hc)))).trans e1⟩
  ·by_cases hj:j=i
   ·subst hj;rw [hi] at e1;cases e1;rw [Hs hiσ] at e2;cases e2;exact ⟨u,r,.inr ⟨.inl hk,c,hc,hc'⟩⟩
   ·rw [Hk (Ne.symm hj)] at e2;obtain ⟨u',r',q⟩:=hl j y v' e1 e2 e3;refine ⟨u',r',?_⟩;rcases q with q | ⟨k,c',e,z'⟩
    ·exact .inl q
    ·refine .inr ⟨k,c',e,z'.sameBut hs ?_⟩;rintro rfl;exact hj (mC hN e1 (I.ok.inj _ _ _ e hc▸hi))
  ·by_cases hcc:c'=c
   ·subst hcc;exact ⟨_,hc'⟩
   ·obtain ⟨w2,z2⟩:=I.cell y c' e;exact ⟨w2,z2.sameBut hs hcc⟩
  ·obtain ⟨e,n,ne,nf,d⟩:=I.pin p hp;refine ⟨(hs.2 p.1 ?_).trans e,n,ne,nf,d⟩;intro q;rw [q,hoc] at e;have q':oc=p.2:=HV e;exact d w' (by rw [<- q'];exact hocd)
theorem l4 {M:Model} {A:Around} {E:Value->Shared->Prop} {i:Nat} {x:Str} {v:V} {u:Value} {Q:Unit->Shared->Prop} (I:Inv X pins σ H s) (hN:X.N.Nodup) (hi:X.N[i]?=some x) (hx:Loc X.env.scope x) (r:RelV v u)
  (h:∀ s',Inv X pins (σ.set i (some v)) H s'->Q () s') (hf:X.fn x=true\/X.env.scope.names.lookup x=some .local:=by first | exact .inl rfl | exact .inr rfl | assumption):wpAny M A (storeName X.env x u) Q E s :=
 qQ I hN hi hx r (fun s' I' _=>h s' I') hf
end
abbrev XK:=Value->Option Addr->Hp->Prop
abbrev St:=List (Option V)
abbrev VK:=V->Hp->Prop
abbrev TE:=St->Hp->VK->Prop
abbrev TT:=St->Hp->(Bool->Hp->Prop)->Prop
abbrev TA:=St->Hp->(List V->Hp->Prop)->Prop
structure Ends where
 nx:St->Hp->Prop
 rt:VK
 bk:St->Hp->Prop:=fun _ _=>False
 ct:St->Hp->Prop:=fun _ _=>False
abbrev TS:=Ends->St->Hp->Prop
def EP (X:Cx) (pins:List (Addr×Obj)) (σ:St) (Q:VK) (u:Value) (s':Shared):Prop:=∃ v H',Inv X pins σ H' s'/\RelV v u/\Q v H'
def TP (X:Cx) (pins:List (Addr×Obj)) (σ:St) (Q:Bool->Hp->Prop) (b:Bool) (s':Shared):Prop:=∃ H',Inv X pins σ H' s'/\Q b H'
def AP (X:Cx) (pins:List (Addr×Obj)) (σ:St) (Q:List V->Hp->Prop) (us:List Value) (s':Shared):Prop:=∃ vs H',Inv X pins σ H' s'/\Vals vs us/\Q vs H'
def SP (X:Cx) (pins:List (Addr×Obj)) (D:Ends) (f:Flow) (s':Shared):Prop :=
 match f with
 | .next=>∃ σ' H',Inv X pins σ' H' s'/\D.nx σ' H'
 | .brk=>∃ σ' H',Inv X pins σ' H' s'/\D.bk σ' H'
 | .cont=>∃ σ' H',Inv X pins σ' H' s'/\D.ct σ' H'
 | .ret u=>∃ v σ' H',Inv X pins σ' H' s'/\RelV v u/\D.rt v H'
def PE (X:Cx) (e:Expr) (t:TE):Prop :=
 ∀ (pins:List (Addr×Obj)) (s:Shared) (σ:St) (H:Hp) (Q:VK),Inv X pins σ H s->t σ H Q->wpAny (model X.prog X.w) X.A (eval e X.env) (EP X pins σ Q) X.xe s
def PT (X:Cx) (e:Expr) (t:TT):Prop :=
 ∀ (pins:List (Addr×Obj)) (s:Shared) (σ:St) (H:Hp) (Q:Bool->Hp->Prop),Inv X pins σ H s->t σ H Q->wpAny (model X.prog X.w) X.A (isTrue e X.env (eval e X.env)) (TP X pins σ Q) X.xe s
def PW (X:Cx) (e:Expr) (t:TT):Prop :=
 ∀ (whole:Sem Value) (pins:List (Addr×Obj)) (s:Shared) (σ:St) (H:Hp) (Q:Bool->Hp->Prop),Inv X pins σ H s->t σ H Q->wpAny (model X.prog X.w) X.A (isTrue e X.env whole) (TP X pins σ Q) X.xe s
theorem PW.pt {X:Cx} {e:Expr} {t:TT} (h:PW X e t):PT X e t:=h _
def PA (X:Cx) (es:List Expr) (t:TA):Prop :=
 ∀ (pos:Pos) (pins:List (Addr×Obj)) (s:Shared) (σ:St) (H:Hp) (Q:List V->Hp->Prop),Inv X pins σ H s->t σ H Q->wpAny (model X.prog X.w) X.A (spliced (backTo pos (starEach es X.env))) (AP X pins σ Q) X.xe s
def PS (X:Cx) (st:Stmt) (t:TS):Prop :=
 ∀ (pins:List (Addr×Obj)) (s:Shared) (σ:St) (H:Hp) (D:Ends),Inv X pins σ H s->t D σ H->wpAny (model X.prog X.w) X.A (exec st X.env) (SP X pins D) X.xe s
def PSs (X:Cx) (st:List Stmt) (t:TS):Prop :=
 ∀ (pins:List (Addr×Obj)) (s:Shared) (σ:St) (H:Hp) (D:Ends),Inv X pins σ H s->t D σ H->wpAny (model X.prog X.w) X.A (execs st X.env) (SP X pins D) X.xe s
theorem thn {α:Type} {t:Sem α} {Q Q':α->Shared->Prop} {M:Model} {A:Around} {E:Value->Shared->Prop} {s:Shared} (h:wpAny M A t Q E s) (hQ:∀ a s,Q a s->Q' a s):wpAny M A t Q' E s:=HR h hQ fun _ _ x=>x
end L2
namespace L2
open PySem PySem.Spec PyProof.Rows
section
variable {X:Cx}
theorem bin {a b:Expr} {ta tb:TE} (ha:PE X a ta) (hb:PE X b tb) {pins:List (Addr×Obj)} {s:Shared} {σ:St} {H:Hp} {R:V->V->Hp->Prop} (I:Inv X pins σ H s) (h:ta σ H fun x H1=>tb σ H1 fun y H2=>R x y H2)
  {α:Type} {Q:α->Shared->Prop} {f:Value->Value->Sem α}
  (hf:∀ v u s2 x y H2,Inv X pins σ H2 s2->RelV x v->RelV y u->R x y H2->wpAny (model X.prog X.w) X.A (f v u) Q X.xe s2) :
  wpAny (model X.prog X.w) X.A (eval a X.env) (fun v s₁=>wpAny (model X.prog X.w) X.A (eval b X.env) (fun u s₂=>wpAny (model X.prog X.w) X.A (f v u) Q X.xe s₂) X.xe s₁) X.xe s:=by
 refine thn (ha pins s σ H _ I h) fun v s1 ⟨x,H1,I1,r1,q1⟩=>?_;refine thn (hb pins s1 σ H1 _ I1 q1) fun u s2 ⟨y,H2,I2,r2,q2⟩=>?_;exact hf v u s2 x y H2 I2 r1 r2 q2
def aJ (i:Nat):TE:=fun σ H Q=>∃ v,σ[i]?=some (some v)/\Q v H
def tC (v:V):TE:=fun _ H Q=>Q v H
theorem pY {i:Nat} {x:Str} {pos:Pos} (hN:X.N[i]?=some x) (hv:Vis X.env.scope x) (hd:(x==("__debug__" : Str))=false:=by decide) (hcd:(x==("__classdict__" : Str))=false:=by decide):PE X (.Name x pos) (aJ i):=by
 intro pins s σ H Q I h;obtain ⟨v,e,h⟩:=h;obtain ⟨m,hn,hl⟩:=I.loc;obtain ⟨u,r,l⟩:=hl i x v hN e hv;have fin:EP X pins σ Q u s:=⟨v,H,I,r,h⟩;rcases l with ⟨hk,hm⟩ | ⟨hk,c,hc,hcell⟩
 ·exact wpAny_Name (wpAny_loadName_local I.ok.kind hk hn hm fin) hd
 ·rcases hk with hk | hk
  ·exact wpAny_Name (wpAny_loadName_cell I.ok.kind hk hc hcell fin) hd
  ·exact wpAny_Name (wpAny_loadName_free I.ok.kind hk hc hcell fin hcd) hd
theorem AQ {i j pos}:PE X (.Constant (.int i) j pos) (tC (.int i)):=fun _ _ _ H _ I h=>wpAny_Constant_int ⟨.int i,H,I.tok _,⟨_,rfl⟩,h⟩
theorem Fo {b j pos}:PE X (.Constant (.bool b) j pos) (tC (.bl b)):=fun _ _ _ H _ I h=>Constant_bool ⟨.bl b,H,I,rfl,h⟩
theorem z9 {j pos}:PE X (.Constant .none j pos) (tC .non):=fun _ _ _ H _ I h=>Constant_none ⟨.non,H,I,rfl,h⟩
theorem zH {x j pos}:PE X (.Constant (.str x) j pos) (tC (.str x)):=fun _ _ _ H _ I h=>Calls.Constant_str ⟨.str x,H,I.tok _,⟨_,rfl⟩,h⟩
def Gl (X:Cx) (x:Str):Prop:=X.env.kindOf x=some .globalImplicit
theorem k8 {E:Value->Shared->Prop} {pins:List (Addr×Obj)} {s:Shared} {σ:St} {H:Hp} {x:Str} {u:Value} {pos:Pos} {Q:Value->Shared->Prop} (I:Inv X pins σ H s) (hg:Gl X x) (hm:X.mg x=some u) (h:Q u s)
  (hd:(x==("__debug__" : Str))=false:=by decide):wpAny (model X.prog X.w) X.A (eval (.Name x pos) X.env) Q E s :=
 Calls.Name_function_global I.ok.kind hg (Calls.loadGlobal_global (by rw [I.ok.glob];exact I.mod.glob.keeps I.bk) hm h) hd
theorem iT {E:Value->Shared->Prop} {pins:List (Addr×Obj)} {s:Shared} {σ:St} {H:Hp} {x:Str} {u:Value} {pos:Pos} {Q:Value->Shared->Prop} (I:Inv X pins σ H s) (hg:Gl X x) (hm:X.mg x=none) (hv:bootBuiltins x=some u) (h:Q u s)
  (hn:x ≠ "__name__" := by decide) (hd:(x==("__debug__" : Str))=false:=by decide):wpAny (model X.prog X.w) X.A (eval (.Name x pos) X.env) Q E s:=by
 obtain ⟨mb,h1,h2⟩:=I.mod.blt;exact Calls.Name_function_global I.ok.kind hg (Calls.loadGlobal_builtin (by rw [I.ok.glob];exact I.mod.glob.keeps I.bk) hm (by rw [I.ok.blt];exact h1.keeps I.bk) ((h2 x hn).trans hv) h) hd
theorem wX {x:Str} {v:V} {u:Value} {pos:Pos} (hg:Gl X x) (hm:X.mg x=some u) (r:RelV v u) (hd:(x==("__debug__" : Str))=false:=by decide):PE X (.Name x pos) (tC v) :=
 fun _ _ _ H _ I h=>k8 I hg hm ⟨v,H,I,r,h⟩ hd
theorem vO {x:Str} {v:V} {u:Value} {pos:Pos} (hg:Gl X x) (hm:X.mg x=none) (hv:bootBuiltins x=some u) (r:RelV v u) (hn:x ≠ "__name__" := by decide) (hd:(x==("__debug__" : Str))=false:=by decide):PE X (.Name x pos) (tC v) :=
 fun _ _ _ H _ I h=>iT I hg hm hv ⟨v,H,I,r,h⟩ hn hd
variable {a b:Expr} {ta tb:TE} {pos:Pos}
def PC (X:Cx) (op:CmpOp) (a b:Expr) (t:TE):Prop :=
 ∀ (pins:List (Addr×Obj)) (s:Shared) (σ:St) (H:Hp) (Q:VK),Inv X pins σ H s->t σ H Q ->
  wpAny (model X.prog X.w) X.A (eval a X.env) (fun v s₁=>wpAny (model X.prog X.w) X.A (eval b X.env) (fun u s₂=>wpAny (model X.prog X.w) X.A (compareOp op v u) (EP X pins σ Q) X.xe s₂) X.xe s₁) X.xe s
theorem tm (b:Expr) {op:CmpOp} (h:op≠.In) (h2:op≠.NotIn):behindInMarks op b=false:=by
 have e1:(op==CmpOp.In)=false:=by cases op <;> first | rfl | exact absurd rfl h
 have e2:(op==CmpOp.NotIn)=false:=by cases op <;> first | rfl | exact absurd rfl h2
 cases b <;> simp [behindInMarks,e1,e2]
def tB (t:TE):TT:=fun σ H Q=>t σ H fun x H1=>∃ c,x=.bl c/\Q c H1
theorem F4 {op:CmpOp} {t:TE} (h:PC X op a b t) (h1:behindInMarks op b=false:=by first | exact tm _ (by decide) (by decide) | rfl):PT X (.Compare a [op] [b] pos) (tB t):=by
 intro pins s σ H Q I hw;refine wpAny_isTrue_Compare1 (thn (h pins s σ H _ I hw) fun v s1 h1=>thn h1 fun u s2 h2=>thn h2 fun c s3 ⟨x,H1,I1,r1,q1⟩=>?_) h1;obtain ⟨d,rfl,q⟩:=q1;cases r1;exact Iv ⟨H1,I1,q⟩
theorem zI {e:Expr} {t:TE} (h:PE X e t) (he:∀ whole,isTrue e X.env whole=(do let v<-whole;standAt e.pos;holding [v] (truthy v)):=by intro _;rfl):PT X e (tB t):=by
 intro pins s σ H Q I hw;refine isTrue_plain (thn (h pins s σ H _ I hw) fun v s1 ⟨x,H1,I1,r1,q1⟩=>?_) (he _);obtain ⟨d,rfl,q⟩:=q1;cases r1;exact Iv ⟨H1,I1,q⟩
variable {tA tB':TT} {rest:List Expr}
def Cm (t u:TT):TT:=fun σ H Q=>t σ H fun c H1=>if c=true then u σ H1 Q else Q false H1
def tOr (t u:TT):TT:=fun σ H Q=>t σ H fun c H1=>if c=true then Q true H1 else u σ H1 Q
def x8 (t:TT):TT:=fun σ H Q=>t σ H fun c H1=>Q (!c) H1
theorem pw_and1 (ha:PT X a tA):PW X (.BoolOp .And [a] pos) tA:=by
 intro wh pins s σ H Q I h;refine isTrue_and (thn (ha pins s σ H Q I h) fun c s1 e=>?_);cases c with
 | true=>exact isTrue_and_nil e
 | false=>exact e
theorem pw_or1 (ha:PT X a tA):PW X (.BoolOp .Or [a] pos) tA:=by
 intro wh pins s σ H Q I h;refine isTrue_or (thn (ha pins s σ H Q I h) fun c s1 e=>?_);cases c with
 | false=>exact isTrue_or_nil e
 | true=>exact e
theorem pw_and (ha:PT X a tA) (hb:PW X (.BoolOp .And (b :: rest) pos) tB'):PW X (.BoolOp .And (a :: b :: rest) pos) (Cm tA tB'):=by
 intro wh pins s σ H Q I h;refine isTrue_and (thn (ha pins s σ H _ I h) fun c s1 ⟨H1,I1,q1⟩=>?_);cases c with
 | true=>exact hb wh pins s1 σ H1 Q I1 q1
 | false=>exact ⟨H1,I1,q1⟩
theorem pw_or (ha:PT X a tA) (hb:PW X (.BoolOp .Or (b :: rest) pos) tB'):PW X (.BoolOp .Or (a :: b :: rest) pos) (tOr tA tB'):=by
 intro wh pins s σ H Q I h;refine isTrue_or (thn (ha pins s σ H _ I h) fun c s1 ⟨H1,I1,q1⟩=>?_);cases c with
 | true=>exact ⟨H1,I1,q1⟩
 | false=>exact hb wh pins s1 σ H1 Q I1 q1
theorem Au (ha:PT X a tA):PT X (.UnaryOp .Not a pos) (x8 tA):=by
 intro pins s σ H Q I h;exact isTrue_not (ha pins s σ H (fun c H1=>Q (!c) H1) I h)
def xN (ta tb:TE):TE:=fun σ H Q=>ta σ H fun x H1=>∃ c,x=.bl c/\if c=true then tb σ H1 Q else Q (.bl false) H1
def DQ (ta tb:TE):TE:=fun σ H Q=>ta σ H fun x H1=>∃ c,x=.bl c/\if c=true then Q (.bl true) H1 else tb σ H1 Q
def w8 (ta:TE):TE:=fun σ H Q=>ta σ H fun x H1=>∃ c,x=.bl c/\Q (.bl (!c)) H1
theorem B9 {op} {t:TE} (h:PE X a t):PE X (.BoolOp op [a] pos) t:=fun pins s σ H Q I hw=>BoolOp_one (h pins s σ H Q I hw)
theorem BC (ha:PE X a ta) (hb:PE X (.BoolOp .And (b :: rest) pos) tb):PE X (.BoolOp .And (a :: b :: rest) pos) (xN ta tb):=by
 intro pins s σ H Q I h;refine BoolOp_and (thn (ha pins s σ H _ I h) fun v s1 ⟨x,H1,I1,r1,q1⟩=>?_);obtain ⟨c,rfl,q1⟩:=q1;cases r1;refine Iv ?_;cases c with
 | true=>exact hb pins s1 σ H1 Q I1 q1
 | false=>exact ⟨.bl false,H1,I1,rfl,q1⟩
theorem Eb (ha:PE X a ta) (hb:PE X (.BoolOp .Or (b :: rest) pos) tb):PE X (.BoolOp .Or (a :: b :: rest) pos) (DQ ta tb):=by
 intro pins s σ H Q I h;refine BoolOp_or (thn (ha pins s σ H _ I h) fun v s1 ⟨x,H1,I1,r1,q1⟩=>?_);obtain ⟨c,rfl,q1⟩:=q1;cases r1;refine Iv ?_;cases c with
 | false=>exact hb pins s1 σ H1 Q I1 q1
 | true=>exact ⟨.bl true,H1,I1,rfl,q1⟩
theorem zT (ha:PE X a ta):PE X (.UnaryOp .Not a pos) (w8 ta):=by
 intro pins s σ H Q I h;refine UnaryOp_ (thn (ha pins s σ H _ I h) fun v s1 ⟨x,H1,I1,r1,q1⟩=>?_);obtain ⟨c,rfl,q1⟩:=q1;cases r1;exact not_of (Iv ⟨.bl (!c),H1,I1,rfl,q1⟩)
def tIf (t:TT) (ta tb:TE):TE:=fun σ H Q=>t σ H fun c H1=>if c=true then ta σ H1 Q else tb σ H1 Q
theorem tH {c:Expr} (hc:PT X c tA) (ha:PE X a ta) (hb:PE X b tb):PE X (.IfExp c a b pos) (tIf tA ta tb):=by
 intro pins s σ H Q I h;refine wpAny_IfExp (thn (hc pins s σ H _ I h) fun d s1 ⟨H1,I1,q1⟩=>?_);cases d with
 | true=>exact ha pins s1 σ H1 Q I1 q1
 | false=>exact hb pins s1 σ H1 Q I1 q1
end
end L2
namespace L2
open PySem PySem.Spec PyProof.Rows
def SqL (K:Fg) (H:Hp) (a:Addr) (xs:List V):Prop :=
 Rd H a (.lst xs) \/
  ∃ (o:Obj) (its:Array Value) (n:Nat),K.lookup a=some o/\o.cls=.type "list" /\ o.dict=none/\o.data=.seq its n/\its.size<=sizeLine/\Vals xs its.toList
def SqT (K:Fg) (H:Hp) (a:Addr) (xs:List V):Prop :=
 Rd H a (.tup xs) \/
  ∃ (o:Obj) (its:Array Value) (n:Nat),K.lookup a=some o/\o.cls=.type "tuple" /\ o.data=.seq its n/\its.size<=sizeLine/\Vals xs its.toList
noncomputable def Gq:Value->Option V
 | .none=>some .non
 | .bool b=>some (.bl b)
 | .int i _=>some (.int i)
 | .str x _=>some (.str x)
 | .bytes b _=>some (.byt b)
 | .float b _=>some (.flt b)
 | .ref a=>some (.ref a)
 | .type n=>some (.ty n)
 | _=>none
theorem RelV.abs {x:V} {u:Value} (r:RelV x u):Gq u=some x:=by
 cases x with
 | non=>cases r;rfl
 | bl _=>cases r;rfl
 | int _=>obtain ⟨t,rfl⟩:=r;rfl
 | str _=>obtain ⟨t,rfl⟩:=r;rfl
 | byt _=>obtain ⟨t,rfl⟩:=r;rfl
 | flt _=>obtain ⟨t,rfl⟩:=r;rfl
 | ref _=>cases r;rfl
 | ty _=>cases r;rfl
theorem RelV.inj {x y:V} {u:Value} (r:RelV x u) (q:RelV y u):x=y:=HV (r.abs.symm.trans q.abs)
theorem Vals.inj:∀ {xs ys:List V} {us:List Value},Vals xs us->Vals ys us->xs=ys
 | _,_,_,.nil,.nil=>rfl
 | _,_,_,.cons r t,.cons r' t'=>by rw [r.inj r',Vals.inj t t']
section
variable {X:Cx} {pins:List (Addr×Obj)} {σ:St} {H:Hp} {s:Shared} {a:Addr} {xs ys:List V}
theorem SqT.of {K:Fg} (h:H a=some (.tup xs)):SqT K H a xs:=.inl (.inl h)
theorem Inv.list (I:Inv X pins σ H s) (h:SqL X.K H a xs):∃ its:List Value,Vals xs its/\PlainL s.heap a its.toArray/\xs.length<=sizeLine:=by
 rcases h with h | ⟨o,its,n,hk,hc,hd,hs,hz,r⟩
 ·obtain ⟨z,its,n,r,e⟩:=h.ok I.hok;exact ⟨its,r,⟨_,n,e,rfl,rfl,rfl⟩,z⟩
 ·refine ⟨its.toList,r,⟨o,n,I.kIn a o hk,hc,hd,by simpa using hs⟩,?_⟩;have e:=r.length;simp only [HM] at e;omega
theorem Inv.tuple (I:Inv X pins σ H s) (h:SqT X.K H a xs):∃ its:List Value,Vals xs its/\IsTup s.heap a its.toArray/\xs.length<=sizeLine:=by
 rcases h with h | ⟨o,its,n,hk,hc,hs,hz,r⟩
 ·obtain ⟨z,its,r,p⟩:=h.ok I.hok;exact ⟨its,r,p,z⟩
 ·refine ⟨its.toList,r,⟨o,I.kIn a o hk,hc,n,by simpa using hs⟩,?_⟩;have e:=r.length;simp only [HM] at e;omega
theorem Inv.uC (I:Inv X pins σ H s) (h:SqL X.K H a xs) (h':SqL X.K H a ys):xs=ys:=by
 obtain ⟨its,r,⟨o,n,e,_,_,d⟩,_⟩:=I.list h;obtain ⟨its',r',⟨o',n',e',_,_,d'⟩,_⟩:=I.list h';rw [e] at e';cases e';rw [d] at d';injection d' with d1 _;have:its=its':=by simpa using congrArg Array.toList d1
 subst this;exact r.inj r'
theorem Inv.oN (I:Inv X pins σ H s) (h:SqT X.K H a xs) (h':SqT X.K H a ys):xs=ys:=by
 obtain ⟨its,r,⟨o,e,_,n,d⟩,_⟩:=I.tuple h;obtain ⟨its',r',⟨o',e',_,n',d'⟩,_⟩:=I.tuple h';rw [e] at e';cases e';rw [d] at d';injection d' with d1 _;have:its=its':=by simpa using congrArg Array.toList d1
 subst this;exact r.inj r'
end
abbrev Cx.sv (X:Cx) (E:Value->Shared->Prop):Cx:={ X with xe:=E }
abbrev Cx.nox (X:Cx):Cx:=X.sv fun _ _=>False
theorem Cx.Ok.sv {X:Cx} (ok:X.Ok) (E:Value->Shared->Prop):(X.sv E).Ok :=
 ⟨ok.mod,ok.kind,ok.glob,ok.blt,ok.above,ok.inj,ok.has,ok.cab,ok.hd,ok.frames,ok.stk,ok.exf,ok.bs,ok.bsz,ok.wH,ok.yn,ok.jL,ok.frf,ok.tabs⟩
theorem Cx.Ok.fj {X:Cx} {E:Value->Shared->Prop} (ok:(X.sv E).Ok):X.Ok :=
 ⟨ok.mod,ok.kind,ok.glob,ok.blt,ok.above,ok.inj,ok.has,ok.cab,ok.hd,ok.frames,ok.stk,ok.exf,ok.bs,ok.bsz,ok.wH,ok.yn,ok.jL,ok.frf,ok.tabs⟩
section
variable {X:Cx} {pins:List (Addr×Obj)} {σ:St} {H:Hp} {s:Shared} {E:Value->Shared->Prop}
theorem Inv.sv (I:Inv X pins σ H s) (E:Value->Shared->Prop):Inv (X.sv E) pins σ H s:=⟨I.ok.sv E,I.os,I.bare,I.base,I.loc,I.cell,I.free,I.cM,I.pin,I.hok,I.len⟩
theorem Inv.fj (I:Inv (X.sv E) pins σ H s):Inv X pins σ H s:=⟨I.ok.fj,I.os,I.bare,I.base,I.loc,I.cell,I.free,I.cM,I.pin,I.hok,I.len⟩
theorem SP.fj {D:Ends} {f:Flow} {s':Shared} (h:SP (X.sv E) pins D f s'):SP X pins D f s':=by
 cases f with
 | next=>obtain ⟨σ',H',I,q⟩:=h;exact ⟨σ',H',I.fj,q⟩
 | brk=>obtain ⟨σ',H',I,q⟩:=h;exact ⟨σ',H',I.fj,q⟩
 | cont=>obtain ⟨σ',H',I,q⟩:=h;exact ⟨σ',H',I.fj,q⟩
 | ret u=>obtain ⟨v,σ',H',I,r,q⟩:=h;exact ⟨v,σ',H',I.fj,r,q⟩
theorem PSs.nox {st:List Stmt} {t:TS} (h:PSs X.nox st t):PSs X st t:=fun pins s σ H D I hw =>
 HR (h pins s σ H D (I.sv _) hw) (fun _ _ q=>q.fj) fun _ _ z=>False.elim z
end
section
variable {X:Cx} {st:Stmt} {rest:List Stmt} {t u:TS} {e:Expr} {te:TE} {pos:Pos}
def kQ:TS:=fun D σ H=>D.nx σ H
def iU (t u:TS):TS:=fun D σ H=>t { D with nx:=u D } σ H
theorem wk:PSs X [] kQ:=fun _ _ σ H _ I h=>wpAny_execs_nil ⟨σ,H,I,h⟩
theorem tW (h1:PS X st t) (h2:PSs X rest u):PSs X (st :: rest) (iU t u):=by
 intro pins s σ H D I h;refine wpAny_execs_cons (thn (h1 pins s σ H { D with nx:=u D } I h) fun f s1 q=>?_);cases f with
 | next =>
  obtain ⟨σ',H',I',q⟩:=q;exact h2 pins s1 σ' H' D I' q
 | ret v=>exact q
 | brk=>exact q
 | cont=>exact q
theorem wu (h1:PS X st t):PSs X [st] t:=by
 intro pins s σ H D I h;refine wpAny_execs_cons (thn (h1 pins s σ H D I h) fun f s1 q=>?_);cases f with
 | next=>exact wpAny_execs_nil q
 | ret v=>exact q
 | brk=>exact q
 | cont=>exact q
def zK:TS:=fun D σ H=>D.bk σ H
def Dl:TS:=fun D σ H=>D.ct σ H
theorem Inv.quiet {pins:List (Addr×Obj)} {σ:St} {H:Hp} {s:Shared} (I:Inv X pins σ H s):interactive X.env=false:=by simp [interactive,I.ok.kind]
def pU (te:TE):TS:=fun D σ H=>te σ H fun _ H1=>D.nx σ H1
theorem xI (he:PE X e te) (hs:swapsWith e none pos.line X.env=pure false:=by rfl):PS X (.Expr e pos) (pU te):=by
 intro pins s σ H D I h;exact wpAny_Expr_any (thn (he pins s σ H _ I h) fun v s1 ⟨x,H1,I1,r1,q1⟩=>⟨σ,H1,I1,q1⟩) I.quiet hs
def wO (te:TE):TS:=fun D σ H=>te σ H D.rt
theorem zM (he:PE X e te):PS X (.Return (some e) pos) (wO te):=by
 intro pins s σ H D I h;exact wpAny_Return_some (thn (he pins s σ H _ I h) fun v s1 ⟨x,H1,I1,r1,q1⟩=>⟨x,σ,H1,I1,r1,q1⟩)
def CZ:TS:=fun D _ H=>D.rt .non H
def sG (c:TT) (t u:TS):TS:=fun D σ H=>c σ H fun b H1=>if b=true then t D σ H1 else u D σ H1
theorem DF {c:Expr} {a b:List Stmt} {tc:TT} (hc:PT X c tc) (ha:PSs X a t) (hb:PSs X b u):PS X (.If c a b pos) (sG tc t u):=by
 intro pins s σ H D I h;refine wpAny_If (thn (hc pins s σ H _ I h) fun d s1 ⟨H1,I1,q1⟩=>?_);cases d with
 | true=>exact ha pins s1 σ H1 D I1 q1
 | false=>exact hb pins s1 σ H1 D I1 q1
def z7:TS:=fun _ _ _=>False
end
abbrev TG:=V->St->Hp->(St->Hp->Prop)->Prop
abbrev TGs:=List V->St->Hp->(St->Hp->Prop)->Prop
def PG (X:Cx) (target:Expr) (t:TG):Prop :=
 ∀ (pins:List (Addr×Obj)) (s:Shared) (σ:St) (H:Hp) (v:V) (u:Value) (Q:St->Hp->Prop),Inv X pins σ H s->RelV v u->t v σ H Q ->
  wpAny (model X.prog X.w) X.A (assign target X.env u) (fun _ s'=>∃ σ' H',Inv X pins σ' H' s'/\Q σ' H') X.xe s
def PGs (X:Cx) (ts:List Expr) (t:TGs):Prop :=
 ∀ (pins:List (Addr×Obj)) (s:Shared) (σ:St) (H:Hp) (vs:List V) (us:List Value) (Q:St->Hp->Prop),Inv X pins σ H s->Vals vs us->t vs σ H Q ->
  wpAny (model X.prog X.w) X.A (assignInOrder ((assignEach ts X.env).map (·.2)) us) (fun _ s'=>∃ σ' H',Inv X pins σ' H' s'/\Q σ' H') X.xe s
abbrev Cw:=V->V->V->Hp->(Hp->Prop)->Prop
def DV (X:Cx) (t:Cw):Prop :=
 ∀ (pins:List (Addr×Obj)) (s:Shared) (σ:St) (H:Hp) (o i v:V) (ov iv u:Value) (Q:Hp->Prop),Inv X pins σ H s->RelV o ov->RelV i iv->RelV v u->t o i v H Q ->
  wpAny (model X.prog X.w) X.A (setItem ov iv u) (fun _ s'=>∃ H',Inv X pins σ H' s'/\Q H') X.xe s
section
variable {X:Cx} {pos:Pos}
def aT (i:Nat):TG:=fun v σ H Q=>Q (σ.set i (some v)) H
theorem jl {i:Nat} {x:Str} (hN:X.N.Nodup) (hi:X.N[i]?=some x) (hx:Loc X.env.scope x) (hf:X.fn x=true\/X.env.scope.names.lookup x=some .local:=by first | exact .inl rfl | exact .inr rfl | assumption):PG X (.Name x pos) (aT i):=by
 intro pins s σ H v u Q I r h;exact wpAny_assign_Name (l4 I hN hi hx r (fun s' I'=>⟨_,H,I',h⟩) hf)
def EX:TGs:=fun vs σ H Q=>vs=[]/\Q σ H
def xC (t:TG) (u:TGs):TGs:=fun vs σ H Q=>∃ v r,vs=v :: r/\t v σ H fun σ' H'=>u r σ' H' Q
theorem xB:PGs X [] EX:=by
 intro pins s σ H vs us Q I r h;obtain ⟨e,h⟩:=h;subst e;cases r;exact assignInOrder_nil ⟨σ,H,I,h⟩
theorem sM {e:Expr} {es:List Expr} {t:TG} {u:TGs} (h1:PG X e t) (h2:PGs X es u)
  (hs:(assignEach (e :: es) X.env).map (·.2)=assign e X.env :: (assignEach es X.env).map (·.2):=by rfl):PGs X (e :: es) (xC t u):=by
 intro pins s σ H vs us Q I r h;obtain ⟨v,vr,e1,h⟩:=h;subst e1;cases r with
 | cons r rr =>
  rw [hs];refine assignInOrder_cons (thn (h1 pins s σ H _ _ _ I r h) fun _ s1 ⟨σ1,H1,I1,q1⟩=>?_);exact h2 pins s1 σ1 H1 _ _ Q I1 rr q1
def Ee (K:Fg) (n:Nat) (t:TGs):TG:=fun v σ H Q=>∃ a xs,v=.ref a/\SqT K H a xs/\xs.length=n/\t xs σ H Q
theorem zR {es:List Expr} {k:Nat} {t:TGs} {n:Nat} (hc:X.calm=true) (h:PGs X es t)
  (hn:(assignEach es X.env).length=n:=by rfl) (hst:(assignEach es X.env).findIdx? (·.1)=none:=by rfl):PG X (.Tuple es k pos) (Ee X.K n t):=by
 intro pins s σ H v u Q I r hw;obtain ⟨a,xs,e1,hq,hl,hw⟩:=hw;subst e1;cases r;obtain ⟨its,rv,ht,hz⟩:=I.tuple hq;refine assign_Tuple_tuple (I.ok.hd hc) ht (by simp [hn,<-hl,rv.length]) hst fun h' hx=>?_;have I1:Inv X pins σ H { s with heap:=h' }:=I.kept (t':=s.toks) fun b o e=>hx b o (HH (Ht e)) e;exact h pins _ σ H xs _ Q I1 (by simpa using rv) hw
def FA (to ti:TE) (t:Cw):TG:=fun v σ H Q=>to σ H fun o H1=>ti σ H1 fun i H2=>t o i v H2 fun H3=>Q σ H3
theorem zo {o i:Expr} {to ti:TE} {t:Cw} (ho:PE X o to) (hi:PE X i ti) (hs:DV X t)
  (ha:∀ v,assign (.Subscript o i pos) X.env v=(do
   let ov<-holding [v] (eval o X.env)
   let iv<-holding [v,ov] (eval i X.env)
   standAt pos
   holding [v,ov,iv] (setItem ov iv v)
   release [v,ov,iv] []):=by intro _;rfl):PG X (.Subscript o i pos) (FA to ti t):=by
 intro pins s σ H v u Q I r h;rw [ha];refine He (HU (thn (ho pins s σ H _ I h) fun ov s1 ⟨x,H1,I1,r1,q1⟩=>?_));refine He (HU (thn (hi pins s1 σ H1 _ I1 q1) fun iv s2 ⟨y,H2,I2,r2,q2⟩=>?_));refine He (wpAny_standAt (He (HU (thn (hs pins s2 σ H2 x y v ov iv u _ I2 r1 r2 r q2) fun _ s3 ⟨H3,I3,q3⟩=>?_))));exact wpAny_release ⟨σ,H3,I3,q3⟩
def fG (te:TE) (g:TG):TS:=fun D σ H=>te σ H fun x H1=>g x σ H1 D.nx
theorem B1 {tg e:Expr} {te:TE} {g:TG} (he:PE X e te) (hg:PG X tg g) (hs:swapsWithSole [tg] e pos.line X.env=pure false:=by rfl) (hw:swappedStores [tg] e X.env=pure none:=by rfl)
  (h1:(assignEach [tg] X.env).map (·.2)=[assign tg X.env]:=by rfl):PS X (.Assign [tg] e pos) (fG te g):=by
 intro pins s σ H D I h;refine wpAny_Assign_stores (thn (he pins s σ H _ I h) fun v s1 ⟨x,H1,I1,r1,q1⟩=>?_) hs hw;rw [h1];exact thn (hg pins s1 σ H1 x v _ I1 r1 q1) fun _ s2 q=>q
theorem AK {i:Nat} {x:Str} {e:Expr} {te:TE} {pos':Pos} (hN:X.N.Nodup) (hi:X.N[i]?=some x) (hx:Loc X.env.scope x) (he:PE X e te) (hs:swapsWith e (some (.Name x pos')) pos.line X.env=pure false:=by rfl) (hf:X.fn x=true\/X.env.scope.names.lookup x=some .local:=by first | exact .inl rfl | exact .inr rfl | assumption) :
  PS X (.Assign [.Name x pos'] e pos) (fG te (aT i)):=by
 intro pins s σ H D I h;refine wpAny_Assign_Name (thn (he pins s σ H _ I h) fun v s1 ⟨y,H1,I1,r1,q1⟩=>?_) hs;exact l4 I1 hN hi hx r1 (fun s2 I2=>⟨_,H1,I2,q1⟩) hf
end
section
variable {X:Cx} {pos:Pos}
def Bg (c:TT) (tb:TS):TS:=fun D σ H=>∃ W:Nat->St->Hp->Prop,(∃ m,W m σ H)/\∀ m σ H,W m σ H ->
 c σ H fun b H1=>if b=true then ∃ N:St->Hp->Prop,(∀ σ' H',N σ' H'->∃ m',m' < m/\W m' σ' H')/\tb { D with nx:=N,ct:=N,bk:=D.nx } σ H1 else D.nx σ H1
end
structure It where
 go:Nat->Hp->Prop
 yld:Nat->Hp->V->Hp->Prop
 stop:Nat->Hp->Prop
def t8 (X:Cx) (pins:List (Addr×Obj)) (H:Hp) (b:Addr):Prop :=
 H b=none/\b≠X.env.locals/\b ∉ X.fs/\(b∈X.ex\/X.s₀.heap.objs.size<=b)/\(∀ x c,X.env.cells.lookup x=some c->c≠b)/\∀ p∈X.pn++pins,p.1≠b
theorem Inv.Co {X:Cx} {pins:List (Addr×Obj)} {σ:St} {H H':Hp} {s:Shared} {b:Addr} (I:Inv X pins σ H s) (hb:s.heap.objs.size<=b) (hn:H' b=none):t8 X pins H' b:=by
 refine ⟨hn,IP (HF I.lt hb),I.yD hb,.inr (HJ I.sz hb),fun x c e z=>?_,fun p hp z=>?_⟩
 ·obtain ⟨v,q⟩:=I.cell x c e;exact absurd (HF q.lt (by rw [z];exact hb)) (Ic _)
 ·exact absurd (HF (Ht (I.pin p hp).1) (by rw [z];exact hb)) (Ic _)
structure Turn (P:Program) (w:World) (K:Fg) (tg:Expr) (J:It) (fp:List Addr) (it:Addr) (tn:Nat->Heap->Prop):Prop where
 mem:it∈fp
 obj:∀ i h,tn i h->∀ b∈fp,∃ o,h.get? b=some o/\∀ v,o.data≠.cell v
 keep:∀ i h h',tn i h->(∀ b∈fp,∀ o,h.get? b=some o->h'.get? b=some o)->tn i h'
 item:∀ (X:Cx),X.prog=P->X.w=w->X.K=K->X.calm=true->∀ (i:Nat) (pins:List (Addr×Obj)) (s:Shared) (σ:St) (H:Hp) (E:Value->Shared->Prop),Inv X pins σ H s->(∀ b∈fp,t8 X pins H b)->tn i s.heap->J.go i H ->
  wpAny (model P w) X.A (pyNext (.ref it)) (fun r s1=>∃ u,r=some u /\
   wpAny (model P w) X.A (letOwnedTupleGo tg (.ref it) u) (fun _ s2=>∃ x H',Inv X pins σ H' s2/\RelV x u/\J.yld i H x H'/\tn (i+1) s2.heap/\∀ b∈fp,H' b=none) E s1) E s
 done:∀ (X:Cx),X.prog=P->X.w=w->X.K=K->X.calm=true->∀ (i:Nat) (pins:List (Addr×Obj)) (s:Shared) (σ:St) (H:Hp) (E:Value->Shared->Prop),Inv X pins σ H s->(∀ b∈fp,t8 X pins H b)->tn i s.heap->J.stop i H ->
  wpAny (model P w) X.A (pyNext (.ref it)) (fun r s1=>r=none/\Inv X pins σ H s1) E s
 self:∀ (A:Around) (i:Nat) (s:Shared) (Q:Value->Shared->Prop) (E:Value->Shared->Prop),tn i s.heap->Q (.ref it) s->wpAny (model P w) A (pyIter (.ref it)) Q E s
abbrev TI:=St->Hp->(It->Hp->Prop)->Prop
def PIE (X:Cx) (pins:List (Addr×Obj)) (σ:St) (tg:Expr) (R:It->Hp->Prop) (itv:Value) (s2:Shared):Prop :=
 ∃ (it:Addr) (fp:List Addr) (tn:Nat->Heap->Prop) (J:It) (H':Hp),itv=.ref it/\Inv X pins σ H' s2/\Turn X.prog X.w X.K tg J fp it tn/\tn 0 s2.heap/\(∀ b∈fp,t8 X pins H' b)/\R J H'
def PI (X:Cx) (tg iter:Expr) (wi:TI):Prop :=
 ∀ (pins:List (Addr×Obj)) (s:Shared) (σ:St) (H:Hp) (R:It->Hp->Prop),Inv X pins σ H s->wi σ H R ->
  wpAny (model X.prog X.w) X.A (eval iter X.env) (fun v s1=>wpAny (model X.prog X.w) X.A (pyIter v) (PIE X pins σ tg R) X.xe s1) X.xe s
theorem xp {M:Model} {A:Around} {E:Value->Shared->Prop} {s:Shared} {tg:Expr} {it:Addr} {u:Value} {o:Obj} {n:String} {vs:Array Value} {Q:Unit->Shared->Prop} (ho:s.heap.get? it=some o) (hc:o.cls=.type n) (hd:o.data=.fields vs)
    (hn:["enumerate", "zip", "dict_itemiterator", "dict_reverseitemiterator", "odict_iterator", "itertools.zip_longest", "itertools.pairwise"].contains n=false) (hQ:Q () s):wpAny M A (letOwnedTupleGo tg (.ref it) u) Q E s:=by
  unfold letOwnedTupleGo;cases tg <;> first
    | exact Hg hQ
    | (cases u <;> first
        | exact Hg hQ
        | (refine He (wpAny_load ho ?_)
           rw [hc,hd];show wpAny M A (if (["enumerate", "zip", "dict_itemiterator", "dict_reverseitemiterator", "odict_iterator", "itertools.zip_longest", "itertools.pairwise"].contains n&&vs[0]?==some (rawInt _))=true then _ else _) Q E s;rw [Hz (by intro h;rw [hn,Bool.false_and] at h;cases h)]
           exact Hg hQ))
def Itl (K:Fg) (a:Addr):It :=
 ⟨fun i H=>∃ xs x,SqL K H a xs/\xs[i]?=some x,fun i H x H'=>H'=H/\∀ xs,SqL K H a xs->xs[i]?=some x,fun i H=>∃ xs,SqL K H a xs/\xs.length<=i⟩
def Itt (K:Fg) (a:Addr):It :=
 ⟨fun i H=>∃ xs x,SqT K H a xs/\xs[i]?=some x,fun i H x H'=>H'=H/\∀ xs,SqT K H a xs->xs[i]?=some x,fun i H=>∃ xs,SqT K H a xs/\xs.length<=i⟩
def Itr (lo:Int) (n:Nat):It:=⟨fun i _=>i < n,fun i H x H'=>H'=H/\x=.int (lo+i),fun i _=>n<=i⟩
theorem oI {P:Program} {w:World} {K:Fg} {tg:Expr} (a it:Addr):Turn P w K tg (Itl K a) [it] it (fun i h=>h.IsListIter it a i) where
 mem:=by simp
 obj:=fun i h st b hb=>by
  have e:b=it:=by simpa using hb
  subst e;obtain ⟨o,e,c,d⟩:=st;exact ⟨o,e,fun v z=>by rw [d] at z;cases z⟩
 keep:=fun i h h' st k=>st.at fun o e=>k it (by simp) o e
 item:=by
  intro X hP hw hK hc i pins s σ H E I hf st hg;subst hP hw hK;obtain ⟨xs,x,hq,hx⟩:=hg;obtain ⟨its,rv,p,hz⟩:=I.list hq;obtain ⟨u,hu,ru⟩:=rv.get hx;obtain ⟨f0,f1,f2,f3,f4,f5⟩:=hf it (by simp);refine wpAny_pyNext_list_item st p.isList (x:=u) (by simpa using hu) fun h' st' sb=>?_;have I1:Inv X pins σ H { s with heap:=h' }:=I.turned (t':=s.toks) (fun b o hb e=>(sb.2 b hb).trans e) f0 f1 f3 f4 f5;obtain ⟨o,e,c,d⟩:=id st';exact ⟨u,rfl,xp (s:={ s with heap:=h' }) e c d (by decide) ⟨x,H,I1,ru,⟨rfl,fun ys hy=>by rw [I.uC hy hq];exact hx⟩,st',fun b hb=>(hf b hb).1⟩⟩
 done:=by
  intro X hP hw hK hc i pins s σ H E I hf st hg;subst hP hw hK;obtain ⟨xs,hq,hx⟩:=hg;obtain ⟨its,rv,p,hz⟩:=I.list hq;obtain ⟨f0,f1,f2,f3,f4,f5⟩:=hf it (by simp);have hl:=rv.length;exact wpAny_pyNext_list_end (I.ok.hd hc) st p.isList (by simp;omega) fun h' eb=>⟨rfl,I.turned (t':=s.toks) (fun b o hb e=>eb b o hb e) f0 f1 f3 f4 f5⟩
 self:=fun _ _ _ _ _ st h=>wpAny_pyIter_listiter st h
theorem nE {P:Program} {w:World} {K:Fg} {tg:Expr} (a it:Addr):Turn P w K tg (Itt K a) [it] it (fun i h=>h.IsTupleIter it a i) where
 mem:=by simp
 obj:=fun i h st b hb=>by
  have e:b=it:=by simpa using hb
  subst e;obtain ⟨o,e,c,d⟩:=st;exact ⟨o,e,fun v z=>by rw [d] at z;cases z⟩
 keep:=fun i h h' st k=>st.at fun o e=>k it (by simp) o e
 item:=by
  intro X hP hw hK hc i pins s σ H E I hf st hg;subst hP hw hK;obtain ⟨xs,x,hq,hx⟩:=hg;obtain ⟨its,rv,p,hz⟩:=I.tuple hq;obtain ⟨u,hu,ru⟩:=rv.get hx;obtain ⟨f0,f1,f2,f3,f4,f5⟩:=hf it (by simp);refine wpAny_pyNext_tuple_item st (show s.heap.IsTuple a its.toArray from p) (x:=u) (by simpa using hu) fun h' st' sb=>?_;have I1:Inv X pins σ H { s with heap:=h' }:=I.turned (t':=s.toks) (fun b o hb e=>(sb.2 b hb).trans e) f0 f1 f3 f4 f5;obtain ⟨o,e,c,d⟩:=id st';exact ⟨u,rfl,xp (s:={ s with heap:=h' }) e c d (by decide) ⟨x,H,I1,ru,⟨rfl,fun ys hy=>by rw [I.oN hy hq];exact hx⟩,st',fun b hb=>(hf b hb).1⟩⟩
 done:=by
  intro X hP hw hK hc i pins s σ H E I hf st hg;subst hP hw hK;obtain ⟨xs,hq,hx⟩:=hg;obtain ⟨its,rv,p,hz⟩:=I.tuple hq;obtain ⟨f0,f1,f2,f3,f4,f5⟩:=hf it (by simp);have hl:=rv.length;exact wpAny_pyNext_tuple_end (I.ok.hd hc) st (show s.heap.IsTuple a its.toArray from p) (by simp;omega) fun h' eb=>⟨rfl,I.turned (t':=s.toks) (fun b o hb e=>eb b o hb e) f0 f1 f3 f4 f5⟩
 self:=fun _ _ _ _ _ st h=>wpAny_pyIter_tupleiter st h
theorem n0 {P:Program} {w:World} {K:Fg} {tg:Expr} (it:Addr) (lo:Int) (n:Nat):Turn P w K tg (Itr lo n) [it] it (fun i h=>IsRangeIter h it (lo+(i:Nat)*1) ((n:Int) - (i:Nat)) 1) where
 mem:=by simp
 obj:=fun i h st b hb=>by
  have e:b=it:=by simpa using hb
  subst e
  exact ⟨_,st,fun v z=>by
   have z':Data.fields _=Data.cell v:=z
   cases z'⟩
 keep:=fun i h h' st k=>k it (by simp) _ st
 item:=by
  intro X hP hw hK hc i pins s σ H E I hf st hg;subst hP hw hK;obtain ⟨f0,f1,f2,f3,f4,f5⟩:=hf it (by simp);have W:=Walks.range (prog:=X.prog) (w:=X.w) (I.ok.hd hc) it lo 1 n;refine W.item i s _ _ hg st fun v h' tk hv st' kk=>?_;obtain ⟨t,rfl⟩:=hv;have I1:Inv X pins σ H { s with heap:=h',toks:=tk }:=I.turned (fun b o hb e=>kk b o (by simpa using hb) e) f0 f1 f3 f4 f5;refine ⟨_,rfl,xp (s:={ s with heap:=h',toks:=tk }) (n := "range_iterator") st' rfl rfl (by decide) ⟨.int (lo+i),H,I1,⟨t,?_⟩,⟨rfl,rfl⟩,st',fun b hb=>(hf b hb).1⟩⟩;rw [Int.mul_one]
 done:=by
  intro X hP hw hK hc i pins s σ H E I hf st hg;subst hP hw hK;obtain ⟨f0,f1,f2,f3,f4,f5⟩:=hf it (by simp);exact wpAny_pyNext_range_end (I.ok.hd hc) st (by have:n<=i:=hg;omega) fun h' eb=>⟨rfl,I.turned (t':=s.toks) (fun b o hb e=>eb b o hb e) f0 f1 f3 f4 f5⟩
 self:=fun _ _ _ _ _ st h=>wpAny_pyIter_rangeiter st h
end L2
namespace L2
open PySem PySem.Spec PyProof.Rows
section
variable {X:Cx} {tg:Expr}
def iu (K:Fg) (tl:TE):TI:=fun σ H R=>tl σ H fun x H1=>∃ a,x=.ref a/\(∃ xs,SqL K H1 a xs)/\R (Itl K a) H1
def Cy (K:Fg) (tl:TE):TI:=fun σ H R=>tl σ H fun x H1=>∃ a,x=.ref a/\(∃ xs,SqT K H1 a xs)/\R (Itt K a) H1
theorem wq {l:Expr} {tl:TE} (hl:PE X l tl):PI X tg l (iu X.K tl):=by
 intro pins s σ H R I h;refine thn (hl pins s σ H _ I h) fun v s1 ⟨x,H1,I1,r1,q1⟩=>?_;obtain ⟨a,e,⟨xs,hq⟩,q⟩:=q1;subst e;cases r1;obtain ⟨its,rv,p,hz⟩:=I1.list hq;refine wpAny_pyIter_list p.isList ?_;refine ⟨s1.heap.objs.size,[s1.heap.objs.size],_,_,H1,rfl,I1.kept (t':=s1.toks) fun b o e=>Hm _ e,oI a _,⟨_,Hy _ rfl,rfl,rfl⟩,fun b hb=>?_,q⟩;have e:b=s1.heap.objs.size:=by simpa using hb
 subst e;exact I1.Co (Hn _) (I1.hok.fresh (Hn _))
theorem Bj {l:Expr} {tl:TE} (hl:PE X l tl):PI X tg l (Cy X.K tl):=by
 intro pins s σ H R I h;refine thn (hl pins s σ H _ I h) fun v s1 ⟨x,H1,I1,r1,q1⟩=>?_;obtain ⟨a,e,⟨xs,hq⟩,q⟩:=q1;subst e;cases r1;obtain ⟨its,rv,p,hz⟩:=I1.tuple hq;refine wpAny_pyIter_tuple (show s1.heap.IsTuple a its.toArray from p) ?_;refine ⟨s1.heap.objs.size,[s1.heap.objs.size],_,_,H1,rfl,I1.kept (t':=s1.toks) fun b o e=>Hm _ e,nE a _,⟨_,Hy _ rfl,rfl,rfl⟩,fun b hb=>?_,q⟩;have e:b=s1.heap.objs.size:=by simpa using hb
 subst e;exact I1.Co (Hn _) (I1.hok.fresh (Hn _))
theorem sZ {pins:List (Addr×Obj)} {σ:St} {H:Hp} {s:Shared} {R:It->Hp->Prop} {E:Value->Shared->Prop} {lo hi:Int} {t u v:Tok} {tk:Nat} (I:Inv X pins σ H s) (h1:-(2 ^ 62)<=lo) (h2:lo < 2 ^ 62) (h3:-(2 ^ 62)<=hi) (h4:hi < 2 ^ 62)
  (q:R (Itr lo (hi - lo).toNat) H):wpAny (model X.prog X.w) X.A (pyIter (.ref s.heap.objs.size)) (PIE X pins σ tg R) E { s with heap:=s.heap.push { cls:=.type "range", data:=.fields #[.int lo t,.int hi u,.int 1 v] },toks:=tk }:=by
 refine wpAny_pyIter_range (IsRange.new ..) (small_one h1 h2 h3 h4) ?_;have I1:Inv X pins σ H { s with heap:=s.heap.push { cls:=.type "range", data:=.fields #[.int lo t,.int hi u,.int 1 v] },toks:=tk }:=I.kept fun b o e=>Hm _ e
 refine ⟨(s.heap.push { cls:=.type "range", data:=.fields #[.int lo t,.int hi u,.int 1 v] }).objs.size,[(s.heap.push { cls:=.type "range", data:=.fields #[.int lo t,.int hi u,.int 1 v] }).objs.size],_,_,H,rfl,
  I1.kept (t':=tk) fun b o e=>Hm _ e,n0 _ lo (hi - lo).toNat,?_,fun b hb=>?_,q⟩
 ·have e1:lo+((0:Nat):Int)*1=lo:=by simp
  have e2:(((hi - lo).toNat:Nat):Int) - ((0:Nat):Int)=Builtin.Range.rangeSize lo hi 1:=by rw [rangeSize_one];split <;> omega
  show IsRangeIter _ _ (lo+((0:Nat):Int)*1) ((((hi - lo).toNat:Nat):Int) - ((0:Nat):Int)) 1;rw [e1,e2];exact Hy _ rfl
 ·have e:b=(s.heap.push { cls:=.type "range", data:=.fields #[.int lo t,.int hi u,.int 1 v] }).objs.size:=by simpa using hb
  subst e;exact I1.Co (Hn _) (I1.hok.fresh (Hn _))
def tX (ta:TA):TI:=fun σ H R=>ta σ H fun vs H1=>∃ j:Int,vs=[.int j]/\-(2 ^ 62)<=j/\j < 2 ^ 62/\R (Itr 0 j.toNat) H1
def C6 (ta:TA):TI:=fun σ H R=>ta σ H fun vs H1=>∃ i j:Int,vs=[.int i,.int j]/\(-(2 ^ 62)<=i/\i < 2 ^ 62/\-(2 ^ 62)<=j/\j < 2 ^ 62)/\R (Itr i (j - i).toNat) H1
theorem oH {a:Expr} {ta:TA} {p pos:Pos} (hg:Gl X "range") (hm:X.mg "range" = none) (ha:PA X [a] ta) (hs:starEach [a] X.env=[(false,eval a X.env)]:=by rfl):PI X tg (.Call (.Name "range" p) [a] [] pos) (tX ta):=by
 intro pins s σ H R I h;refine Call_ (iT I hg hm boot_range (PyProof.Rows.callWith_type1 (thn (ha pos pins s σ H _ I h) fun us s1 ⟨vs,H1,I1,r1,q1⟩=>?_) hs rfl));obtain ⟨j,e,q1,q2,q⟩:=q1;subst e;cases r1 with
 | cons r rr =>
  cases rr;obtain ⟨t,rfl⟩:=r;exact call_range_1 (sZ I1 (by omega) (by omega) q1 q2 (by simpa using q))
def xW (wi:TI) (g:TG) (tb:TS):TS:=fun D σ H=>wi σ H fun J H1=>∃ W:Nat->Nat->St->Hp->Prop,(∃ m,W 0 m σ H1)/\∀ i m σ H,W i m σ H ->
 (J.stop i H/\D.nx σ H)\/(J.go i H/\∃ N:St->Hp->Prop,(∀ σ' H',N σ' H'->∃ m',m' < m/\W (i+1) m' σ' H')/\∀ x H',J.yld i H x H'->g x σ H' fun σ2 H2=>tb { D with nx:=N,ct:=N,bk:=D.nx } σ2 H2)
noncomputable def ko (fp:List Addr) (h:Heap):List (Addr×Obj):=fp.filterMap fun b=>(h.get? b).map fun o=>(b,o)
theorem c7 {fp:List Addr} {h:Heap} {b:Addr} {o:Obj} (hb:b∈fp) (e:h.get? b=some o):(b,o)∈ko fp h:=List.mem_filterMap.mpr ⟨b,hb,by rw [e];rfl⟩
theorem rW {fp:List Addr} {h:Heap} {p:Addr×Obj} (hp:p∈ko fp h):p.1∈fp/\h.get? p.1=some p.2:=by
 obtain ⟨b,hb,e⟩:=List.mem_filterMap.mp hp;cases q:h.get? b with
 | none=>rw [q] at e;cases e
 | some o =>
  rw [q] at e;have e':(b,o)=p:=HV e;subst e';exact ⟨hb,q⟩
theorem Inv.pinned {pins:List (Addr×Obj)} {σ:St} {H:Hp} {s:Shared} {fp:List Addr} (I:Inv X pins σ H s) (hf:∀ b∈fp,t8 X pins H b) (ho:∀ b∈fp,∃ o,s.heap.get? b=some o/\∀ v,o.data≠.cell v):Inv X (pins++ko fp s.heap) σ H s :=
 I.b8 fun p hp=>(Ir.mp hp).elim (fun z=>I.pin p (HD _ z)) fun z=>by
  obtain ⟨hb,e⟩:=rW z;obtain ⟨f0,f1,f2,_⟩:=hf p.1 hb;obtain ⟨o,e',d⟩:=ho p.1 hb;rw [e] at e';cases e';exact ⟨e,f0,f1,f2,d⟩
theorem Inv.fL {pins pl:List (Addr×Obj)} {σ:St} {H:Hp} {s:Shared} (I:Inv X (pins++pl) σ H s):Inv X pins σ H s:=I.b8 fun p hp=>I.pin p (HD _ (Jt _ hp))
theorem Am {iter:Expr} {body:List Stmt} {wi:TI} {g:TG} {tb:TS} {pos:Pos} (hp:PassesOwn (model X.prog X.w) X.A X.env X.xe) (hc:X.calm=true) (hi:PI X tg iter wi) (hg:PG X tg g) (hb:PSs X body tb)
  (hs:∀ x,foldedSetIterable iter X.env x=pure x:=by intro _;rfl):PS X (.For tg iter body [] pos) (xW wi g tb):=by
 intro pins s σ H D I h;refine wpAny_For (thn (hi pins s σ H _ I h) fun v s1 h1=>thn h1 fun itv s2 h2=>?_) hs;obtain ⟨it,fp,tn,J,H2,e,I2,T,st2,f2,W,⟨m0,w0⟩,turn⟩:=h2;subst e;have stat:∀ {H':Hp},(∀ b∈fp,H' b=none)->∀ b∈fp,t8 X pins H' b:=fun hn b hb=>⟨hn b hb,(f2 b hb).2⟩;refine codeAny_forLoop_any (fun n s'=>∃ i σ' H',Inv X pins σ' H' s'/\tn i s'.heap/\(∀ b∈fp,H' b=none)/\W i n σ' H') ?_ m0 ⟨0,σ,H2,I2,st2,fun b hb=>(f2 b hb).1,w0⟩;rintro n s3 ⟨i,σ3,H3,I3,st3,fr3,w3⟩;rcases turn i n σ3 H3 w3 with ⟨stop,qn⟩ | ⟨go,N,hN,step⟩
 ·refine JY hp (thn (T.done X rfl rfl rfl hc i pins s3 σ3 H3 X.xe I3 (stat fr3) st3 stop) fun r s4 ⟨hr,I4⟩=>?_);subst hr;exact wpAny_execs_nil ⟨σ3,H3,I4,qn⟩
 ·refine JY hp (thn (T.item X rfl rfl rfl hc i pins s3 σ3 H3 X.xe I3 (stat fr3) st3 go) fun r s4 ⟨u,hr,h4⟩=>?_);subst hr;refine JY hp (thn h4 fun _ s5 ⟨x,H5,I5,r5,y5,st5,fr5⟩=>?_);have I5':=I5.pinned (stat fr5) (T.obj _ _ st5);refine JY hp (thn (hg _ s5 σ3 H5 x u _ I5' r5 (step x H5 y5)) fun _ s6 ⟨σ6,H6,I6,q6⟩=>?_);refine JY hp (thn (hb _ s6 σ6 H6 _ I6 q6) fun f s7 q7=>?_);have again:∀ {σ7:St} {H7:Hp},Inv X (pins++ko fp s5.heap) σ7 H7 s7->N σ7 H7->∃ m,m < n/\∃ i σ' H',Inv X pins σ' H' s7/\tn i s7.heap/\(∀ b∈fp,H' b=none)/\W i m σ' H':=fun {σ7 H7} I7 n7=>by
   obtain ⟨m',hm,w7⟩:=hN σ7 H7 n7;refine ⟨m',hm,i+1,σ7,H7,I7.fL,T.keep _ _ _ st5 fun b hb o e=>(I7.pin (b,o) (HD _ (HD _ (c7 hb e)))).1,fun b hb=>?_,w7⟩;obtain ⟨o,e,d⟩:=T.obj _ _ st5 b hb;exact (I7.pin (b,o) (HD _ (HD _ (c7 hb e)))).2.1
  cases f with
  | next=>obtain ⟨σ7,H7,I7,n7⟩:=q7;exact again I7 n7
  | cont=>obtain ⟨σ7,H7,I7,n7⟩:=q7;exact again I7 n7
  | brk=>obtain ⟨σ7,H7,I7,q7⟩:=q7;exact ⟨σ7,H7,I7.fL,q7⟩
  | ret v=>obtain ⟨x7,σ7,H7,I7,r7,q7⟩:=q7;exact ⟨x7,σ7,H7,I7.fL,r7,q7⟩
end
end L2
namespace L2
open PySem PySem.Spec PyProof.Rows
abbrev R2:=V->V->Hp->VK->Prop
def OpR (X:Cx) (f:Value->Value->Sem Value) (r:R2):Prop :=
 ∀ (pins:List (Addr×Obj)) (s:Shared) (σ:St) (H:Hp) (x y:V) (v u:Value) (Q:VK),Inv X pins σ H s->RelV x v->RelV y u->r x y H Q ->
  wpAny (model X.prog X.w) X.A (f v u) (EP X pins σ Q) X.xe s
def UnR (X:Cx) (f:Value->Sem Value) (r:V->Hp->VK->Prop):Prop :=
 ∀ (pins:List (Addr×Obj)) (s:Shared) (σ:St) (H:Hp) (x:V) (v:Value) (Q:VK),Inv X pins σ H s->RelV x v->r x H Q ->
  wpAny (model X.prog X.w) X.A (f v) (EP X pins σ Q) X.xe s
def aE (X:Cx) (f:Value) (r:List V->Hp->VK->Prop):Prop :=
 ∀ (pins:List (Addr×Obj)) (s:Shared) (σ:St) (H:Hp) (xs:List V) (us:List Value) (Q:VK),Inv X pins σ H s->Vals xs us->r xs H Q ->
  wpAny (model X.prog X.w) X.A (call f us) (EP X pins σ Q) X.xe s
def GR (X:Cx) (r:V->Hp->(Bool->Hp->Prop)->Prop):Prop :=
 ∀ (pins:List (Addr×Obj)) (s:Shared) (σ:St) (H:Hp) (x:V) (v:Value) (Q:Bool->Hp->Prop),Inv X pins σ H s->RelV x v->r x H Q ->
  wpAny (model X.prog X.w) X.A (truthy v) (TP X pins σ Q) X.xe s
def tOp (r:R2) (ta tb:TE):TE:=fun σ H Q=>ta σ H fun x H1=>tb σ H1 fun y H2=>r x y H2 Q
def tUn (r:V->Hp->VK->Prop) (ta:TE):TE:=fun σ H Q=>ta σ H fun x H1=>r x H1 Q
def rI (C:Int->Int->Prop) (g:Int->Int->V):R2:=fun x y H Q=>∃ i j,x=.int i/\y=.int j/\C i j/\Q (g i j) H
def rI0 (g:Int->Int->V):R2:=fun x y H Q=>∃ i j,x=.int i/\y=.int j/\Q (g i j) H
def rU (g:Int->V):V->Hp->VK->Prop:=fun x H Q=>∃ i,x=.int i/\Q (g i) H
section
variable {X:Cx} {a b c:Expr} {ta tb tc:TE} {pos:Pos}
theorem C7 (ha:PE X a ta) (hb:PE X b tb) {pins:List (Addr×Obj)} {s:Shared} {σ:St} {H:Hp} {R:V->V->Hp->Prop} (I:Inv X pins σ H s)
  (h:ta σ H fun x H1=>tb σ H1 fun y H2=>R x y H2) {Q:Value->Shared->Prop} {f:Value->Value->Sem Value}
  (hf:∀ v u s2 x y H2,Inv X pins σ H2 s2->RelV x v->RelV y u->R x y H2->wpAny (model X.prog X.w) X.A (f v u) Q X.xe s2) :
  wpAny (model X.prog X.w) X.A (eval a X.env) (fun v s₁=>wpAny (model X.prog X.w) X.A (eval b X.env) (fun u s₂=>wpAny (model X.prog X.w) X.A (f v u) Q X.xe s₂) X.xe s₁) X.xe s:=by
 refine thn (ha pins s σ H _ I h) fun v s1 ⟨x,H1,I1,r1,q1⟩=>?_;refine thn (hb pins s1 σ H1 _ I1 q1) fun u s2 ⟨y,H2,I2,r2,q2⟩=>?_;exact hf v u s2 x y H2 I2 r1 r2 q2
theorem C5 {op:Operator} {r:R2} (ho:OpR X (binaryOp op) r) (ha:PE X a ta) (hb:PE X b tb):PE X (.BinOp a op b pos) (tOp r ta tb):=by
 intro pins s σ H Q I h;exact wpAny_BinOp (C7 ha hb I h fun v u s2 x y H2 I2 rx ry q=>ho pins s2 σ H2 x y v u Q I2 rx ry q)
theorem CL {op:UnaryOp} {r:V->Hp->VK->Prop} (ho:UnR X (unaryOp op) r) (ha:PE X a ta):PE X (.UnaryOp op a pos) (tUn r ta):=by
 intro pins s σ H Q I h;exact UnaryOp_ (thn (ha pins s σ H _ I h) fun v s1 ⟨x,H1,I1,r1,q1⟩=>ho pins s1 σ H1 x v Q I1 r1 q1)
theorem opI {f:Value->Value->Sem Value} {C:Int->Int->Prop} {g:Int->Int->Int}
  (rule:∀ (i j:Int) (t u:Tok) (s:Shared) (Q:Value->Shared->Prop) (E:Value->Shared->Prop),C i j->Q (.int (g i j) s.toks) { s with toks:=s.toks+1 }->wpAny (model X.prog X.w) X.A (f (.int i t) (.int j u)) Q E s) :
  OpR X f (rI C fun i j=>.int (g i j)):=by
 intro pins s σ H x y v u Q I rx ry h;obtain ⟨i,j,rfl,rfl,hc,q⟩:=h;obtain ⟨t,rfl⟩:=rx;obtain ⟨t',rfl⟩:=ry;exact rule i j t t' s _ _ hc ⟨.int (g i j),H,I.tok _,⟨_,rfl⟩,q⟩
theorem FT {f:Value->Value->Sem Value} {g:Int->Int->Int}
  (rule:∀ (i j:Int) (t u:Tok) (s:Shared) (Q:Value->Shared->Prop) (E:Value->Shared->Prop),Q (.int (g i j) s.toks) { s with toks:=s.toks+1 }->wpAny (model X.prog X.w) X.A (f (.int i t) (.int j u)) Q E s) :
  OpR X f (rI0 fun i j=>.int (g i j)):=by
 intro pins s σ H x y v u Q I rx ry h;obtain ⟨i,j,rfl,rfl,q⟩:=h;obtain ⟨t,rfl⟩:=rx;obtain ⟨t',rfl⟩:=ry;exact rule i j t t' s _ _ ⟨.int (g i j),H,I.tok _,⟨_,rfl⟩,q⟩
theorem Cg {f:Value->Value->Sem Value} {g:Int->Int->Bool}
  (rule:∀ (i j:Int) (t u:Tok) (s:Shared) (Q:Value->Shared->Prop) (E:Value->Shared->Prop),Q (.bool (g i j)) s->wpAny (model X.prog X.w) X.A (f (.int i t) (.int j u)) Q E s) :
  OpR X f (rI0 fun i j=>.bl (g i j)):=by
 intro pins s σ H x y v u Q I rx ry h;obtain ⟨i,j,rfl,rfl,q⟩:=h;obtain ⟨t,rfl⟩:=rx;obtain ⟨t',rfl⟩:=ry;exact rule i j t t' s _ _ ⟨.bl (g i j),H,I,rfl,q⟩
def Fu (i j:Int):Prop:=0<=j/\j<=1000000/\i.natAbs < 2 ^ 64
def AJ (i j:Int):Prop:=(-(2 ^ 64) < i/\i < 2 ^ 64)\/(-(2 ^ 64) < j/\j < 2 ^ 64)
theorem AJ.ok {i j:Int} (h:AJ i j):IntMulOk i j:=by
 rcases h with ⟨h1,h2⟩ | ⟨h1,h2⟩
 ·exact .of_left (intBits_le_64 h1 h2)
 ·exact .of_right (intBits_le_64 h1 h2)
theorem zm:OpR X (binaryOp .Add) (rI0 fun i j=>.int (i+j)):=FT fun _ _ _ _ _ _ _ q=>add_int q
theorem BA:OpR X (binaryOp .Sub) (rI0 fun i j=>.int (i - j)):=FT fun _ _ _ _ _ _ _ q=>sub_int q
theorem yV:OpR X (binaryOp .Mult) (rI AJ fun i j=>.int (i*j)):=opI fun _ _ _ _ _ _ _ hc q=>mul_int q hc.ok
theorem BM:OpR X (binaryOp .Mod) (rI (fun _ j=>0 < j) fun i j=>.int (i % j)):=opI fun i j _ _ _ _ _ hc q=>by
 have h1:(0:Int) < j:=hc;exact mod_int' (by omega) (by rw [Int.fmod_eq_emod_of_nonneg i (by omega)];exact q)
theorem zN:OpR X (binaryOp .Pow) (rI Fu fun i j=>.int (i ^ j.toNat)):=opI fun _ _ _ _ _ _ _ hc q=>pow_int_small hc.1 hc.2.1 hc.2.2 q
theorem unI {f:Value->Sem Value} {g:Int->Int}
  (rule:∀ (i:Int) (t:Tok) (s:Shared) (Q:Value->Shared->Prop) (E:Value->Shared->Prop),Q (.int (g i) s.toks) { s with toks:=s.toks+1 }->wpAny (model X.prog X.w) X.A (f (.int i t)) Q E s) :
  UnR X f (rU fun i=>.int (g i)):=by
 intro pins s σ H x v Q I rx h;obtain ⟨i,rfl,q⟩:=h;obtain ⟨t,rfl⟩:=rx;exact rule i t s _ _ ⟨.int (g i),H,I.tok _,⟨_,rfl⟩,q⟩
theorem zw:UnR X (unaryOp .USub) (rU fun i=>.int (-i)):=unI fun _ _ _ _ _ q=>neg_int q
end
section
variable {X:Cx} {a b c:Expr} {ta tb tc:TE} {pos:Pos}
theorem qM {pins:List (Addr×Obj)} {σ:St} {H:Hp} {s:Shared} {Q:VK} {k k':Bool} (I:Inv X pins σ H s) (q:Q (.bl k) H) (e:k=k'):EP X pins σ Q (.bool k') s:=by
 subst e;exact ⟨.bl k,H,I,rfl,q⟩
theorem CC:OpR X (compareOp .Lt) (rI0 fun i j=>.bl (decide (i < j))):=Cg fun _ _ _ _ _ _ _ q=>lt_int q
theorem E6:OpR X (compareOp .LtE) (rI0 fun i j=>.bl (decide (i<=j))):=Cg fun _ _ _ _ _ _ _ q=>le_int q
theorem E4:OpR X (compareOp .Gt) (rI0 fun i j=>.bl (decide (j < i))):=Cg fun _ _ _ _ _ _ _ q=>gt_int q
theorem EO:OpR X (compareOp .GtE) (rI0 fun i j=>.bl (decide (j<=i))):=Cg fun _ _ _ _ _ _ _ q=>ge_int q
theorem qK:OpR X (compareOp .Lt) (fun x y H Q=>∃ i j,x=.str i/\y=.str j/\Q (.bl (decide (i.cps.toList < j.cps.toList))) H):=by
 intro pins s σ H x y v u Q I rx ry h;obtain ⟨i,j,rfl,rfl,q⟩:=h;obtain ⟨t,rfl⟩:=rx;obtain ⟨t',rfl⟩:=ry;exact lt_str (qM I q rfl)
theorem pO:OpR X (compareOp .In) (fun x y H Q=>∃ i j,x=.str i/\y=.str j/\Q (.bl (!(Builtin.Str.occurrences j i 0 j.length 1).isEmpty)) H):=by
 intro pins s σ H x y v u Q I rx ry h;obtain ⟨i,j,rfl,rfl,q⟩:=h;obtain ⟨t,rfl⟩:=rx;obtain ⟨t',rfl⟩:=ry;exact in_str (qM I q rfl)
theorem zU:OpR X (compareOp .Is) (fun x y H Q=>y=.non/\Q (.bl (decide (x=.non))) H):=by
 intro pins s σ H x y v u Q I rx ry h;obtain ⟨rfl,q⟩:=h;cases ry;refine is_none_gen (qM I q ?_);cases x <;> first
  | (cases rx;rfl)
  | (obtain ⟨t,rfl⟩:=rx;rfl)
theorem aC (b:Expr) {op:CmpOp} (h:op≠.In:=by decide) (h2:op≠.NotIn:=by decide):behindInMarks op b=false:=by
 have e1:(op==CmpOp.In)=false:=by cases op <;> first | rfl | exact absurd rfl h
 have e2:(op==CmpOp.NotIn)=false:=by cases op <;> first | rfl | exact absurd rfl h2
 cases b <;> simp [behindInMarks,e1,e2]
theorem yb {op:CmpOp} {r:R2} (ho:OpR X (compareOp op) r) (ha:PE X a ta) (hb:PE X b tb) (hm:behindInMarks op b=false):PE X (.Compare a [op] [b] pos) (tOp r ta tb):=by
 intro pins s σ H Q I h;exact wpAny_Compare1 (C7 ha hb I h fun v u s2 x y H2 I2 rx ry q=>ho pins s2 σ H2 x y v u Q I2 rx ry q) hm
def kP (t:TE):TT:=fun σ H Q=>t σ H fun x H'=>∃ k,x=.bl k/\Q k H'
theorem xH {op:CmpOp} {r:R2} (ho:OpR X (compareOp op) r) (ha:PE X a ta) (hb:PE X b tb) (hm:behindInMarks op b=false):PT X (.Compare a [op] [b] pos) (kP (tOp r ta tb)):=by
 intro pins s σ H Q I h
 refine wpAny_isTrue_Compare1 (thn (ha pins s σ H _ I h) fun v s1 ⟨x,H1,I1,r1,q1⟩=>thn (hb pins s1 σ H1 _ I1 q1) fun u s2 ⟨y,H2,I2,r2,q2⟩ =>
  thn (ho pins s2 σ H2 x y v u _ I2 r1 r2 q2) fun c s3 ⟨z,H3,I3,r3,k,e,q3⟩=>?_) hm
 subst e;cases r3;exact Iv ⟨H3,I3,q3⟩
def qO (r r':R2) (ta tb tc:TE):TE:=fun σ H Q=>ta σ H fun x H1=>tb σ H1 fun y H2=>r x y H2 fun z H3=>∃ k,z=.bl k /\
 (if k=true then tc σ H3 fun w' H4=>r' y w' H4 Q else Q (.bl false) H3)
theorem ux {op op':CmpOp} {r r':R2} (ho:OpR X (compareOp op) r) (ho':OpR X (compareOp op') r') (ha:PE X a ta) (hb:PE X b tb) (hc:PE X c tc)
  (hm:lastMarks [op,op'] [b,c]=false:=by with_unfolding_all rfl):PT X (.Compare a [op,op'] [b,c] pos) (kP (qO r r' ta tb tc)):=by
 intro pins s σ H Q I h
 refine isTrue_chain (thn (ha pins s σ H _ I h) fun v s1 ⟨x,H1,I1,r1,q1⟩=>test_link (thn (hb pins s1 σ H1 _ I1 q1) fun u s2 ⟨y,H2,I2,r2,q2⟩ =>
  thn (ho pins s2 σ H2 x y v u _ I2 r1 r2 q2) fun d s3 ⟨z,H3,I3,r3,k,e,q3⟩=>?_)) hm
 subst e;cases r3;refine Iv ?_;cases k with
 | false =>
  obtain ⟨k',e',q'⟩:=q3;cases e';exact ite_ff ⟨H3,I3,q'⟩
 | true =>
  refine ite_tt (test_last (thn (hc pins s3 σ H3 _ I3 q3) fun w' s4 ⟨z',H4,I4,r4,q4⟩=>thn (ho' pins s4 σ H4 y z' u w' _ I4 r2 r4 q4) fun d' s5 ⟨z2,H5,I5,r5,k2,e2,q5⟩=>?_));subst e2;cases r5;exact Iv ⟨H5,I5,q5⟩
def Ds (K:Fg) (x:V) (H:Hp) (k:Bool):Prop :=
 match x with
 | .non=>k=false
 | .bl b=>k=b
 | .int i=>k=(i != 0)
 | .str y=>y.length<=sizeLine/\k=((y.length:Int) != 0)
 | .byt y=>y.size<=sizeLine/\k=((y.size:Int) != 0)
 | .ref p=>(∃ xs,SqL K H p xs/\k=!xs.isEmpty)\/(∃ xs,SqT K H p xs/\k=!xs.isEmpty)\/∃ kvs,H p=some (.dK kvs)/\k=!kvs.isEmpty
 | _=>False
theorem oe {κ:Type} {kvs:List (κ×V)} {vs:List (κ×Value)} (r:KV kvs vs):(!vs.isEmpty)=!kvs.isEmpty:=by
 cases r <;> rfl
theorem i6 {xs:List V} {its:List Value} (r:Vals xs its):(!its.toArray.isEmpty)=!xs.isEmpty:=by
 cases r <;> simp
theorem iW:(sizeLine:Nat) < 2 ^ 63:=by rw [Ie];decide
theorem Fw:GR X (fun x H Q=>∃ k,Ds X.K x H k/\Q k H):=by
 intro pins s σ H x v Q I rx h;obtain ⟨k,e,q⟩:=h;have hl:=iW;have hs:sizeLine=16777216:=Ie;cases x with
 | non =>
  cases rx;have e':k=false:=e;subst e';exact truthy_none ⟨H,I,q⟩
 | bl b =>
  cases rx;have e':k=b:=e;subst e';exact Iv ⟨H,I,q⟩
 | int i =>
  obtain ⟨t,rfl⟩:=rx;have e':k=(i != 0):=e;subst e';exact PySem.P.truthy_int ⟨H,I,q⟩
 | str y =>
  obtain ⟨t,rfl⟩:=rx;obtain ⟨hy,e'⟩:y.length<=sizeLine/\k=((y.length:Int) != 0):=e;subst e';exact PySem.P.truthy_str (by omega) ⟨H,I.tok _,q⟩
 | byt y =>
  obtain ⟨t,rfl⟩:=rx;obtain ⟨hy,e'⟩:y.size<=sizeLine/\k=((y.size:Int) != 0):=e;subst e';exact PySem.W.truthy_bytes (by omega) ⟨H,I.tok _,q⟩
 | ref p =>
  cases rx;have e':(∃ xs,SqL X.K H p xs/\k=!xs.isEmpty)\/(∃ xs,SqT X.K H p xs/\k=!xs.isEmpty)\/∃ kvs,H p=some (.dK kvs)/\k=!kvs.isEmpty:=e;rcases e' with ⟨xs,hx,e'⟩ | ⟨xs,hx,e'⟩ | ⟨kvs,hx,e'⟩
  ·subst e';obtain ⟨its,r,pl,hz⟩:=I.list hx;have hlen:=r.length;exact wpAny_truthy_list pl.isList (by simp only [Hx];omega) ⟨H,I.tok _,by rw [i6 r];exact q⟩
  ·subst e';obtain ⟨its,r,pl,hz⟩:=I.tuple hx;have hlen:=r.length;exact truthy_tuple pl (by simp only [Hx];omega) ⟨H,I.tok _,by rw [i6 r];exact q⟩
  ·subst e';obtain ⟨hz,hS,vs,r,m⟩:kvs.length<=sizeLine/\(p==sysModules)=false/\∃ vs,KV kvs vs/\s.heap.DictOf (aY X.prog X.w) p vs:=I.hok p _ hx;have hlen:kvs.length=vs.length:=Paired.length r;exact wpAny_truthy_dict hS m (by omega) ⟨H,I.tok _,by rw [oe r];exact q⟩
 | _=>exact (show False from e).elim
theorem nK:OpR X (binaryOp .Add) (fun x y H Q=>∃ i j,x=.str i/\y=.str j/\i.length+j.length<=sizeLine/\Q (.str (i++j)) H):=by
 intro pins s σ H x y v u Q I rx ry h;obtain ⟨i,j,rfl,rfl,hz,q⟩:=h;obtain ⟨t,rfl⟩:=rx;obtain ⟨t',rfl⟩:=ry;exact add_str (fun t' tk=>⟨.str (i++j),H,I.tok _,⟨_,rfl⟩,q⟩) hz
theorem vals1 {x:V} {us:List Value} (r:Vals [x] us):∃ u,us=[u]/\RelV x u:=by
 cases r with
 | cons r1 r2=>cases r2;exact ⟨_,rfl,r1⟩
theorem vals2 {x y:V} {us:List Value} (r:Vals [x,y] us):∃ u w',us=[u,w']/\RelV x u/\RelV y w':=by
 cases r with
 | cons r1 r2 =>
  cases r2 with
  | cons r3 r4=>cases r4;exact ⟨_,_,rfl,r1,r3⟩
theorem tG:aE X (.builtin "abs") (fun xs H Q=>∃ i,xs=[.int i]/\Q (.int (if i < 0 then -i else i)) H):=by
 intro pins s σ H xs us Q I r h;obtain ⟨i,rfl,q⟩:=h;obtain ⟨u,rfl,t,rfl⟩:=vals1 r;exact call_abs_int fun u tk=>⟨.int (if i < 0 then -i else i),H,I.tok _,⟨_,rfl⟩,q⟩
theorem qZ (hc:X.calm=true):aE X (.builtin "min") (fun xs H Q=>∃ i j,xs=[.int i,.int j]/\Q (.int (if j < i then j else i)) H):=by
 intro pins s σ H xs us Q I r h;obtain ⟨i,j,rfl,q⟩:=h;obtain ⟨u,w',rfl,⟨t,rfl⟩,⟨t',rfl⟩⟩:=vals2 r;refine min_two_ints (I.ok.hd hc) fun h' tk k=>⟨_,H,I.kept k,?_,q⟩;by_cases hj:j < i
 ·rw [Hv hj,Hv hj];exact ⟨_,rfl⟩
 ·rw [Hz hj,Hz hj];exact ⟨_,rfl⟩
theorem pN:aE X (.type "int") (fun xs H Q=>(∃ i,xs=[.int i]/\Q (.int i) H)\/∃ k,xs=[.bl k]/\Q (.int (if k then 1 else 0)) H):=by
 intro pins s σ H xs us Q I r h;rcases h with ⟨i,rfl,q⟩ | ⟨k,rfl,q⟩
 ·obtain ⟨u,rfl,t,rfl⟩:=vals1 r;exact call_int_int ⟨.int i,H,I,⟨_,rfl⟩,q⟩
 ·obtain ⟨u,rfl,r1⟩:=vals1 r;cases r1;exact call_int_bool ⟨.int (if k then 1 else 0),H,I.tok _,⟨_,rfl⟩,q⟩
def FI (K:Fg) (x:V) (H:Hp) (n:Nat):Prop :=
 match x with
 | .str y=>y.length<=sizeLine/\n=y.length
 | .byt y=>y.size<=sizeLine/\n=y.size
 | .ref p=>(∃ xs,SqL K H p xs/\n=xs.length)\/∃ xs,SqT K H p xs/\n=xs.length
 | _=>False
theorem sR:aE X (.builtin "len") (fun xs H Q=>∃ x n,xs=[x]/\FI X.K x H n/\Q (.int n) H):=by
 intro pins s σ H xs us Q I r h;obtain ⟨x,n,rfl,e,q⟩:=h;obtain ⟨u,rfl,rx⟩:=vals1 r;have hl:=iW;have hs:sizeLine=16777216:=Ie;cases x with
 | str y =>
  obtain ⟨t,rfl⟩:=rx;obtain ⟨hy,e'⟩:y.length<=sizeLine/\n=y.length:=e;subst e';exact len_str (by omega) ⟨.int _,H,I.tok _,⟨_,rfl⟩,q⟩
 | byt y =>
  obtain ⟨t,rfl⟩:=rx;obtain ⟨hy,e'⟩:y.size<=sizeLine/\n=y.size:=e;subst e';exact PySem.W.len_bytes (by omega) ⟨.int _,H,I.tok _,⟨_,rfl⟩,q⟩
 | ref p =>
  cases rx;have e':(∃ xs,SqL X.K H p xs/\n=xs.length)\/∃ xs,SqT X.K H p xs/\n=xs.length:=e;rcases e' with ⟨xs,hx,e'⟩ | ⟨xs,hx,e'⟩
  ·subst e';obtain ⟨its,r',pl,hz⟩:=I.list hx;have hlen:=r'.length;exact Calls.call_len_list pl.isList (by simp only [Hx];omega) ⟨.int xs.length,H,I.tok _,⟨_,by simp only [Hx];rw [hlen]⟩,q⟩
  ·subst e';obtain ⟨its,r',pl,hz⟩:=I.tuple hx;have hlen:=r'.length;exact len_tuple pl (by simp only [Hx];omega) ⟨.int xs.length,H,I.tok _,⟨_,by simp only [Hx];rw [hlen]⟩,q⟩
 | _=>exact (show False from e).elim
end
end L2
namespace L2
open PySem PySem.Spec PyProof.Rows
structure bN (k:Nat) (A:Around):Prop where
 hd:A.handled=none
 dp:A.depth+3*k+5 < recursionLimit
 un:A.units+16*k+200 < cLine
 gd:A.guards=some []
theorem bN.mono {j k:Nat} {A:Around} (r:bN k A) (h:j<=k):bN j A:=⟨r.hd,by have:=r.dp;omega,by have:=r.un;omega,r.gd⟩
theorem bN.deeper {k:Nat} {A:Around} (r:bN (k+1) A) (env:Env):bN k (A.deeper env) :=
 ⟨r.hd,by have:=r.dp;show A.depth+1+3*k+5 < _;omega,by have:=r.un;show A.units+3+16*k+200 < _;omega,r.gd⟩
theorem bN.in1 {k:Nat} {A:Around} (r:bN (k+1) A):bN k A.in1 :=
 ⟨r.hd,by have:=r.dp;show A.depth+3*k+5 < _;omega,by have:=r.un;show A.units+1+16*k+200 < _;omega,r.gd⟩
theorem bN.depth {k:Nat} {A:Around} (r:bN k A):A.depth < recursionLimit:=by have:=r.dp;omega
theorem bN.units {k:Nat} {A:Around} (r:bN k A):A.units+64 < cLine:=by have:=r.un;omega
def bo:TA:=fun _ H Q=>Q [] H
def ah (ta:TE) (tr:TA):TA:=fun σ H Q=>ta σ H fun x H1=>tr σ H1 fun xs H2=>Q (x :: xs) H2
section
variable {X:Cx} {e:Expr} {es:List Expr} {te:TE} {t:TA} {pos:Pos}
theorem Bm:PA X [] bo:=fun _ _ _ _ H Q I h=>Calls.spliced_nil ⟨[],H,I,.nil,h⟩
theorem xr (ha:PE X e te) (hr:PA X es t) (hs:starEach (e :: es) X.env=(false,eval e X.env) :: starEach es X.env:=by rfl):PA X (e :: es) (ah te t):=by
 intro pos pins s σ H Q I h;rw [hs];show wpAny _ _ (spliced ((false,eval e X.env) :: backTo pos (starEach es X.env))) _ _ s;refine Calls.spliced_cons (thn (ha pins s σ H _ I h) fun u s1 ⟨x,H1,I1,r1,q1⟩=>?_);exact thn (hr pos pins s1 σ H1 _ I1 q1) fun us s2 ⟨xs,H2,I2,r2,q2⟩=>⟨x :: xs,H2,I2,.cons r1 r2,q2⟩
def tP (t:TA):TE:=fun σ H Q=>t σ H fun xs H1=>xs.length<=sizeLine/\∀ p,H1 p=none->Q (.ref p) (upd H1 p (.tup xs))
def yp (t:TA):TE:=fun σ H Q=>t σ H fun xs H1=>xs.length<=sizeLine/\∀ p,H1 p=none->Q (.ref p) (upd H1 p (.lst xs))
theorem zg {x1} (h:PA X es t):PE X (.Tuple es x1 pos) (tP t):=by
 intro pins s σ H Q I hq;refine wpAny_Tuple_spliced (thn (h pos pins s σ H _ I hq) fun us s1 ⟨xs,H1,I1,r,z,q⟩=>⟨by rw [<- r.length];exact z,?_⟩);have hf:H1 s1.heap.objs.size=none:=I1.hok.fresh (Hn _);refine ⟨.ref s1.heap.objs.size,upd H1 s1.heap.objs.size (.tup xs),I1.laid (t':=s1.toks) (fun b u e=>Hm _ e) (Hn _) ?_,rfl,q _ hf⟩;exact ⟨z,us,r,⟨_,Hy _ rfl,rfl,_,rfl⟩⟩
theorem Aw (h:PA X es t):PE X (.List es pos) (yp t):=by
 intro pins s σ H Q I hq;refine wpAny_List_spliced (thn (h pos pins s σ H _ I hq) fun us s1 ⟨xs,H1,I1,r,z,q⟩=>⟨by rw [<- r.length];exact z,?_⟩);have hf:H1 s1.heap.objs.size=none:=I1.hok.fresh (Hn _);refine ⟨.ref s1.heap.objs.size,upd H1 s1.heap.objs.size (.lst xs),I1.laid (t':=s1.toks) (fun b u e=>Hm _ e) (Hn _) ?_,rfl,q _ hf⟩;exact ⟨z,us,0,r,Hy _ rfl⟩
end
abbrev Sp:=List V->Hp->VK->XK->Prop
abbrev CXT:=List Env->Hp->Shared->XK->Value->Shared->Prop
structure p8 (P:Program) (w:World) (K:Fg) (mg:Str->Option Value) (base:Heap) (A:Around) (outer:List Env) (s:Shared) (H:Hp):Prop where
 frames:A.frames=some outer
 mod:Mod K mg base
 bs:∀ b o,base.get? b=some o->s.heap.get? b=some o/\H b=none
 bsz:base.objs.size<=s.heap.objs.size
 jL:s.heap.FunFrames base outer
 frf:∀ b∈frs outer,H b=none
 tabs:yB H
 hok:HOk P w H s.heap
 bare:AllBare s.gens
def CE (outer:List Env) (P:Program) (w:World) (H:Hp) (s:Shared) (Q:VK) (u:Value) (s':Shared):Prop :=
 ∃ v H',s'.os=s.os/\AllBare s'.gens/\Un (frs outer) [] H H' s.heap s'.heap/\HOk P w H' s'.heap/\RelV v u/\Q v H'
def CR (CX:CXT) (outer:List Env) (P:Program) (w:World) (H:Hp) (s:Shared) (Q:VK) (E:XK) (r:Result) (s':Shared):Prop :=
 match r with
 | .ok (.ret u)=>CE outer P w H s Q u s'
 | .ok _=>False
 | .error e=>CX outer H s E e s'
structure bq (P:Program) (w:World) (K:Fg) (mg:Str->Option Value) (base:Heap) (CX:CXT) (k:Nat) (f:Addr) (fd:FuncData) (ps:List Str) (sp:Sp):Prop where
 len:∀ vs H Q E,sp vs H Q E->vs.length=ps.length
 run:∀ (A:Around) (outer:List Env) (s:Shared) (H:Hp) (args:Args) (us:List Value) (vs:List V) (Q:VK) (E:XK),bN k A->p8 P w K mg base A outer s H->BindsTo s fd args (ps.zip us)->Vals vs us->sp vs H Q E ->
  codeAny (model P w) A (.call (.ref f) args) (CR CX outer P w H s Q E) s
theorem bq.mono {P:Program} {w:World} {K:Fg} {mg:Str->Option Value} {base:Heap} {CX:CXT} {j k:Nat} {f:Addr} {fd:FuncData} {ps:List Str} {sp:Sp} (F:bq P w K mg base CX j f fd ps sp) (h:j<=k) :
  bq P w K mg base CX k f fd ps sp:=⟨F.len,fun A outer s H args us vs Q E hr=>F.run A outer s H args us vs Q E (hr.mono h)⟩
section
variable {X:Cx} {pins:List (Addr×Obj)} {σ:St} {H:Hp} {s s':Shared}
theorem Inv.yA (I:Inv X pins σ H s):p8 X.prog X.w X.K X.mg X.base X.A X.stack s H :=
 ⟨I.ok.frames,I.ok.mod,I.bs,HJ I.ok.bsz I.sz,I.stack,I.pX,fun t ht=>I.base.kX _ _ _ (I.ok.tabs t ht),I.hok,I.bare⟩
theorem Inv.after {Q:VK} {u:Value} (I:Inv X pins σ H s) (h:CE X.stack X.prog X.w H s Q u s'):EP X pins σ Q u s':=by
 obtain ⟨v,H',os,bare,un,hok,r,q⟩:=h;obtain ⟨hh,g,d,t,os'⟩:=s';obtain rfl:os'=s.os:=os;exact ⟨v,H',I.call (h':=hh) (g':=g) (d':=d) (t':=t) (ch:=[]) un hok bare (fun b z=>absurd z (by simp)),r,q⟩
end
def ba (sp:Sp) (dvs:List V) (E:XK) (t:TA):TE:=fun σ H Q=>t σ H fun vs H1=>sp (vs++dvs) H1 Q E
def Binds (K:Fg) (fd:FuncData) (ps:List Str) (ds:List Value):Prop :=
 ∀ (s:Shared) (us:List Value),K.In s.heap->(us++ds).length=ps.length->BindsTo s fd ⟨us,[]⟩ (ps.zip (us++ds))
theorem Binds.all {K:Fg} {fd:FuncData} {ps:List Str} (h:∀ us:List Value,us.length=ps.length->bindArgs fd ⟨us,[]⟩=pure (ps.zip us)):Binds K fd ps []:=fun s us _ hl=>by
 rw [Iw] at hl ⊢;exact .of_eq (h us hl)
def Passes (CX:CXT) (X:Cx) (E:XK):Prop:=∀ (pins:List (Addr×Obj)) (σ:St) (H:Hp) (s:Shared) (e:Value) (s':Shared),Inv X pins σ H s->CX X.stack H s E e s'->X.xe e s'
section
variable {X:Cx} {CX:CXT} {k:Nat} {f C:Addr} {fd:FuncData} {ps:List Str} {sp:Sp} {dvs:List V} {ds:List Value} {E:XK} {x m:Str} {p pos apos:Pos} {e o:Expr} {es:List Expr} {ta:TE} {t:TA}
theorem Ar {pins:List (Addr×Obj)} {σ:St} {H:Hp} {s:Shared} {Q:VK} {us:List Value} {vs:List V} (F:bq X.prog X.w X.K X.mg X.base CX k f fd ps sp) (hr:bN k X.A) (hb:Binds X.K fd ps ds) (hd:Vals dvs ds) (hx:Passes CX X E)
  (I:Inv X pins σ H s) (r:Vals vs us) (h:sp (vs++dvs) H Q E):wpAny (model X.prog X.w) X.A (call (.ref f) us) (EP X pins σ Q) X.xe s:=by
 have r2:Vals (vs++dvs) (us++ds):=r.append hd;have hl:(us++ds).length=ps.length:=by rw [<- r2.length];exact F.len _ _ _ _ h
 refine wpAny_call (Jj (F.run X.A X.stack s H ⟨us,[]⟩ (us++ds) (vs++dvs) Q E hr I.yA (hb s us I.kIn hl) r2 h) fun r s' hq=>?_);cases r with
 | error e=>exact hx pins σ H s e s' I hq
 | ok fl =>
  cases fl with
  | ret u=>exact I.after hq
  | next=>exact False.elim hq
  | brk=>exact False.elim hq
  | cont=>exact False.elim hq
theorem xj (F:bq X.prog X.w X.K X.mg X.base CX k f fd ps sp) (hr:bN k X.A) (hg:Gl X x) (hm:X.mg x=some (.ref f)) (hk:PySem.W.keepIn X.K (.ref f)=true) (hb:Binds X.K fd ps ds) (hd:Vals dvs ds) (hx:Passes CX X E)
  (ha:PA X (e :: es) t) (hdb:(x==("__debug__" : Str))=false:=by decide) (he:starEach (e :: es) X.env=(false,eval e X.env) :: starEach es X.env:=by rfl) (hpl:(backTo pos (starEach es X.env)).any (·.1)=false:=by rfl) :
  PE X (.Call (.Name x p) (e :: es) [] pos) (ba sp dvs E t):=by
 intro pins s σ H Q I h;refine Jf (k8 I hg hm ?_ hdb);refine PySem.W.callWith_K (h₀:=X.base) I.ok.mod.kin hk (thn (ha pos pins s σ H _ I h) fun us s1 ⟨vs,H1,I1,r,q⟩=>⟨I1.kIn,?_⟩) he hpl;exact Ar F hr hb hd hx I1 r q
end
def PK (X:Cx) (kws:List Keyword) (t:TA):Prop :=
 ∀ (pos:Pos) (pins:List (Addr×Obj)) (s:Shared) (σ:St) (H:Hp) (Q:List V->Hp->Prop),Inv X pins σ H s->t σ H Q->wpAny (model X.prog X.w) X.A (evalAll ((backToKw pos (keywordEach kws X.env)).map (·.2))) (AP X pins σ Q) X.xe s
section
variable {X:Cx} {CX:CXT} {k:Nat} {f C:Addr} {fd:FuncData} {ps ks:List Str} {sp:Sp} {E:XK} {x m:Str} {p pos apos kpos:Pos} {e o:Expr} {es:List Expr} {kws:List Keyword} {te ta:TE} {t tk:TA} {nm:Option Str}
theorem Bo:PK X [] bo:=fun _ _ _ _ H Q I h=>wpAny_evalAll_nil ⟨[],H,I,.nil,h⟩
theorem wD (ha:PE X e te) (hr:PK X kws t):PK X (⟨nm,e,kpos⟩ :: kws) (ah te t):=by
 intro pos pins s σ H Q I h;show wpAny _ _ (evalAll ((do let v<-eval e X.env;standAt pos;pure v) :: (backToKw pos (keywordEach kws X.env)).map (·.2))) _ _ s;refine wpAny_evalAll_cons (He (thn (ha pins s σ H _ I h) fun u s1 ⟨x,H1,I1,r1,q1⟩=>He (wpAny_standAt (Hg ?_))));exact thn (hr pos pins s1 σ H1 _ I1 q1) fun us s2 ⟨xs,H2,I2,r2,q2⟩=>⟨x :: xs,H2,I2,.cons r1 r2,q2⟩
variable {g:List Value->List Value->List Value} {gV:List V->List V->List V}
end
structure ao (N P:List Str) (sc:Scope):Prop where
 kind:sc.kind=.function
 co:sc.isCoroutine=false
 gen:sc.isGenerator=false
 nd:N.Nodup
 pre:N.take P.length=P
 par:∀ x∈P,sc.names.lookup x=some .local\/sc.names.lookup x=some .cell
 As:∀ y∈sc.names,y.2≠.free
theorem kj {kindOf:Str->Option NameKind} {x:Str}:∀ {binds:List (Str×Value)} {m:Str->Option Value},(∀ v,(x,v) ∉ binds)->bindL kindOf binds m x=m x
 | [],_,_=>rfl
 | (n,v) :: r,m,h=>by
  unfold bindL;rw [kj fun w hw=>h w (Hr _ hw)];split
  ·have:x≠n:=by rintro rfl;exact h v Hu
   simp [this]
  ·rfl
theorem j6 {kindOf:Str->Option NameKind} {x:Str}:∀ {binds:List (Str×Value)} {m:Str->Option Value},(∀ v,(x,v) ∉ binds)->bindC kindOf binds m x=m x
 | [],_,_=>rfl
 | (n,v) :: r,m,h=>by
  unfold bindC;rw [j6 fun w hw=>h w (Hr _ hw)];split
  ·rfl
  ·have:x≠n:=by rintro rfl;exact h v Hu
   simp [this]
theorem jM {kindOf:Str->Option NameKind} {x:Str} {v:Value}:∀ {P:List Str} {vs:List Value} {i:Nat} {m:Str->Option Value},P.Nodup->P[i]?=some x->vs[i]?=some v->kindOf x=some .local ->
  bindL kindOf (P.zip vs) m x=some v
 | [],_,_,_,_,h,_,_=>by simp at h
 | _ :: _,[],_,_,_,_,h,_=>by simp at h
 | p :: P,w :: vs,0,m,nd,h1,h2,hk=>by
  simp at h1 h2;subst h1;subst h2;show bindL kindOf ((p,w) :: P.zip vs) m p=_;unfold bindL;rw [kj fun v hv=>(Ih.mp nd).1 (JZ hv).1,Hv hk];simp
 | p :: P,w :: vs,i+1,m,nd,h1,h2,hk=>by
  show bindL kindOf ((p,w) :: P.zip vs) m x=_;unfold bindL;exact jM (i:=i) (Ih.mp nd).2 (by simpa using h1) (by simpa using h2) hk
theorem ki {kindOf:Str->Option NameKind} {x:Str} {v:Value}:∀ {P:List Str} {vs:List Value} {i:Nat} {m:Str->Option Value},P.Nodup->P[i]?=some x->vs[i]?=some v->kindOf x≠some .local ->
  bindC kindOf (P.zip vs) m x=some v
 | [],_,_,_,_,h,_,_=>by simp at h
 | _ :: _,[],_,_,_,_,h,_=>by simp at h
 | p :: P,w :: vs,0,m,nd,h1,h2,hk=>by
  simp at h1 h2;subst h1;subst h2;show bindC kindOf ((p,w) :: P.zip vs) m p=_;unfold bindC;rw [j6 fun v hv=>(Ih.mp nd).1 (JZ hv).1,Hz hk];simp
 | p :: P,w :: vs,i+1,m,nd,h1,h2,hk=>by
  show bindC kindOf ((p,w) :: P.zip vs) m x=_;unfold bindC;exact ki (i:=i) (Ih.mp nd).2 (by simpa using h1) (by simpa using h2) hk
noncomputable def start (N:List Str) (vs:List V):St:=vs.map some++List.replicate (N.length - vs.length) none
noncomputable def sy (CX:CXT) (P:Program) (w:World) (K:Fg) (mg:Str->Option Value) (base:Heap) (N:List Str) (qual:Str) (scope:Scope) (f:Addr) (cd:Value) (A:Around) (outer:List Env) (s:Shared) (H:Hp) (E:XK):Cx where
 prog:=P
 w:=w
 K:=K
 mg:=mg
 base:=base
 A:=A.deeper (envOfC qual scope s.heap.objs.size f cd)
 N:=N
 s₀:=s
 H₀:=H
 env:=envOfC qual scope s.heap.objs.size f cd
 outer:=outer
 stack:=envOfC qual scope s.heap.objs.size f cd :: outer
 ex:=[]
 calm:=true
 fn:=fun _=>true
 pn:=[]
 xe:=fun e s'=>wpAny (model P w) (A.deeper (envOfC qual scope s.heap.objs.size f cd)) (leaving (envOfC qual scope s.heap.objs.size f cd) e) (fun _ s''=>CX outer H s E e s'') (fun e' s''=>CX outer H s E e' s'') s'
theorem jB {sc:Scope} {n:Nat} {x:Str} (h:sc.names.lookup x=some .cell):∃ c,(cellsFrom n sc.names []).lookup x=some c:=by
 have q:=PySem.W.cellsFrom_some sc.names n [] (.inl h);exact Option.isSome_iff_exists.mp q
theorem p9 {CX:CXT} {P:Program} {w:World} {K:Fg} {mg:Str->Option Value} {base:Heap} {N ps:List Str} {qual:Str} {scope:Scope} {f:Addr} {cd:Value} {A:Around} {outer:List Env} {s s1:Shared} {H:Hp} {E:XK} {us:List Value} {vs:List V}
  (S:ao N ps scope) (hd:A.handled=none) (e0:p8 P w K mg base A outer s H) (hl:vs.length=ps.length) (r:Vals vs us)
  (x:InCallC s s.heap.objs.size (bindL (envOfC qual scope s.heap.objs.size f cd).kindOf (ps.zip us) fun _=>none) (cellsFrom (s.heap.objs.size+1) scope.names []) (bindC (envOfC qual scope s.heap.objs.size f cd).kindOf (ps.zip us) fun _=>none) s1) :
  Inv (sy CX P w K mg base N qual scope f cd A outer s H E) [] (start N vs) H s1:=by
 have hpl:ps.length<=N.length:=by have:=congrArg List.length S.pre;rw [IE] at this;omega
 obtain ⟨h1,tk,rfl,hk⟩:=x.done;have noA:∀ b:Addr,b ∉ (sy CX P w K mg base N qual scope f cd A outer s H E).ex:=fun b z=>absurd (show b∈([]:List Addr) from z) (by simp)
 refine ⟨⟨e0.mod,S.kind,rfl,rfl,Hn _,fun y z c h1 h2=>?_,fun y hy=>?_,fun y c _ h=>?_,fun _=>hd,Around.frames_deeper e0.frames,.inr ⟨rfl,rfl⟩,fun b z=>absurd z (noA b),e0.bs,e0.bsz,fun b _ _=>noA b,fun b z=>absurd z (noA b),e0.jL,e0.frf,e0.tabs⟩,
  rfl,e0.bare,Un.kept hk,⟨_,x.toInCall.ns,fun i y v h1 h2 h3=>?_⟩,fun y c h=>⟨_,x.cell y c h⟩,e0.hok.fresh (Hn _),fun y c h=>?_,fun p hp=>absurd (show p∈([]:List (Addr×Obj)) from hp) (by simp),e0.hok.kept hk,?_⟩
 ·exact name_of_addr x.apart (Io h1) (Io h2)
 ·have hy:scope.names.lookup y=some .cell\/scope.names.lookup y=some .free:=hy;rcases hy with hy | hy
  ·exact jB hy
  ·exact absurd rfl (S.As _ (Io hy))
 ·exact Jk (x.above y c (Io h))
 ·have hi:i < vs.length:=by
   unfold start at h2;by_cases hi:i < vs.length
   ·exact hi
   ·rw [HE (by simpa using hi)] at h2;rw [List.getElem?_replicate] at h2;split at h2 <;> cases h2
  have ha:vs[i]?=some v:=by
   unfold start at h2;rw [HN (by simpa using hi),Hq] at h2;cases e:vs[i]? with
   | none=>rw [e] at h2;cases h2
   | some a=>rw [e] at h2;cases h2;rfl
  obtain ⟨u,hu,rv⟩:=r.get ha;have hp:ps[i]?=some y:=by
   rw [<- S.pre,List.getElem?_take_of_lt (by omega)];exact h1
  have ndP:ps.Nodup:=by rw [<- S.pre];exact S.nd.sublist (List.take_sublist _ _)
  refine ⟨u,rv,?_⟩;rcases S.par y (HG hp) with k | k
  ·exact .inl ⟨k,jM ndP hp hu k⟩
  ·obtain ⟨c,e⟩:=jB (n:=s.heap.objs.size+1) k;refine .inr ⟨.inl k,c,e,?_⟩;have q:=x.cell y c e;rw [ki ndP hp hu (by show scope.names.lookup y≠_;rw [k];decide)] at q;exact q
 ·exact e0.hok.fresh (Jk (x.above y c (Io h)))
 ·unfold start;show _=N.length;rw [Ho,Hf,J3];omega
theorem BE {CX:CXT} {P:Program} {w:World} {K:Fg} {mg:Str->Option Value} {base:Heap} {k:Nat} {f:Addr} {name qual:Str} {params:Arguments} {body:List Stmt} {scope:Scope} {dV kV doc pm cdv ct oc:Value} {an od:Option Addr}
  {osl:Array (Option Value)} {N ps:List Str} {sp:Sp} (lk:K.lookup f=some ⟨oc,od,.func (PySem.W.fnOf name qual params body scope dV kV doc pm an cdv ct),osl⟩) (hcd:PySem.W.codeIn K cdv qual=true) (S:ao N ps scope)
  (len:∀ vs H Q E,sp vs H Q E->vs.length=ps.length)
  (cB:∀ (A:Around) (outer:List Env) (s:Shared) (H:Hp) (vs:List V) (Q:VK) (E:XK),bN k (A.deeper (envOfC qual scope s.heap.objs.size f cdv))->sp vs H Q E ->
   ∃ t,PSs (sy CX P w K mg base N qual scope f cdv A outer s H E) body t/\t { nx:=fun _ H'=>Q .non H',rt:=Q } (start N vs) H) :
  bq P w K mg base CX (k+1) f (PySem.W.fnOf name qual params body scope dV kV doc pm an cdv ct) ps sp:=by
 refine ⟨len,fun A outer s H args us vs Q E hr e0 hb r hsp=>?_⟩;have hl:=len _ _ _ _ hsp;have KX:K.In s.heap:=e0.mod.kin.keeps fun b o e=>(e0.bs b o e).1;have lim:s.heap.NoLimit:=e0.mod.nolimit.keeps fun b o e=>(e0.bs b o e).1;have hkind:∀ y∈ps.zip us,scope.names.lookup y.1=some .local\/(scope.names.lookup y.1=some .cell/\((cellsFrom (s.heap.objs.size+1) scope.names []).lookup y.1).isSome=true):=fun ⟨n,v⟩ hy=>by
  rcases S.par n (JZ hy).1 with q | q
  ·exact .inl q
  ·exact .inr ⟨q,PySem.W.cellsFrom_some _ _ _ (.inl q)⟩
 refine codeAny_call_function hr.depth (KX _ _ lk) rfl S.co S.gen rfl (PySem.W.codeRec_of KX hcd) (hb _ _ _ _ ?_);refine wpAny_newFunctionEnv_cells S.kind hkind fun env he s1 x=>?_;subst he;refine ⟨lim.keeps x.toInCall.keep,codeAny_func ?_⟩;obtain ⟨t,ht,hq⟩:=cB A outer s H vs Q E (hr.deeper _) hsp;have I:Inv (sy CX P w K mg base N qual scope f cdv A outer s H E) [] (start N vs) H s1:=p9 S hr.hd e0 hl r x;refine HR (ht [] s1 (start N vs) H _ I hq) (fun fl s' hs=>?_) fun e s' hs=>hs;have fin:∀ {σ':St} {H':Hp} {v:V} {u:Value},Inv (sy CX P w K mg base N qual scope f cdv A outer s H E) [] σ' H' s'->RelV v u->Q v H'->CE outer P w H s Q u s' :=
  fun {σ' H' v u} J rv q=>⟨v,H',J.os,J.bare,J.base,J.hok,rv,q⟩
 cases fl with
 | ret u =>
  obtain ⟨v,σ',H',J,rv,q⟩:=hs;exact fin J rv q
 | next =>
  obtain ⟨σ',H',J,q⟩:=hs;exact fin (v:=V.non) (u:=Value.none) J rfl q
 | brk =>
  obtain ⟨_,_,_,q⟩:=hs;exact False.elim q
 | cont =>
  obtain ⟨_,_,_,q⟩:=hs;exact False.elim q
end L2
namespace L2
open PySem PySem.Spec PyProof.Rows
section
variable {X:Cx} {x:Str} {p pos:Pos} {e:Expr} {es:List Expr} {t:TA} {id T:String} {r:List V->Hp->VK->Prop}
def tCB (r:List V->Hp->VK->Prop) (t:TA):TE:=fun σ H Q=>t σ H fun vs H1=>r vs H1 Q
theorem sW (hc:aE X (.builtin id) r) (hg:Gl X x) (hm:X.mg x=none) (hv:bootBuiltins x=some (.builtin id)) (ha:PA X (e :: es) t) (hn:x ≠ "__name__" := by decide) (hdb:(x==("__debug__" : Str))=false:=by decide)
  (he:starEach (e :: es) X.env=(false,eval e X.env) :: starEach es X.env:=by rfl) (hpl:(backTo pos (starEach es X.env)).any (·.1)=false:=by rfl):PE X (.Call (.Name x p) (e :: es) [] pos) (tCB r t):=by
 intro pins s σ H Q I h;refine Jf (iT I hg hm hv ?_ hn hdb);exact PyProof.Rows.callWith_builtin1 (thn (ha pos pins s σ H _ I h) fun us s1 ⟨vs,H1,I1,r1,q1⟩=>hc pins s1 σ H1 vs us Q I1 r1 q1) he hpl
theorem oY (hc:aE X (.type T) r) (hg:Gl X x) (hm:X.mg x=none) (hv:bootBuiltins x=some (.type T)) (ha:PA X (e :: es) t) (hn:x ≠ "__name__" := by decide) (hdb:(x==("__debug__" : Str))=false:=by decide)
  (he:starEach (e :: es) X.env=(false,eval e X.env) :: starEach es X.env:=by rfl) (hpl:(backTo pos (starEach es X.env)).any (·.1)=false:=by rfl):PE X (.Call (.Name x p) (e :: es) [] pos) (tCB r t):=by
 intro pins s σ H Q I h;refine Jf (iT I hg hm hv ?_ hn hdb);exact PyProof.Rows.callWith_type1 (thn (ha pos pins s σ H _ I h) fun us s1 ⟨vs,H1,I1,r1,q1⟩=>hc pins s1 σ H1 vs us Q I1 r1 q1) he hpl
end
end L2
namespace HT
open PySem PyProof.Rows
section
variable {prog:Program} {w:World} {A:Around} {E:Value->Shared->Prop} {s:Shared}
theorem xO {t b:Addr} {vs ws:List Value} {Q:Value->Shared->Prop} (ht:IsTup s.heap t vs.toArray) (hb:IsTup s.heap b ws.toArray) (hv:vs≠[])
  (h1:ws=[]->Q (.ref t) s) (h2:ws≠[]->Q (.ref s.heap.objs.size) { s with heap:=s.heap.push { cls:=.type "tuple", data:=.seq (vs++ws).toArray } })
  (hsz:vs.length+ws.length<=sizeLine):wpAny (model prog w) A (binaryOp .Add (.ref t) (.ref b)) Q E s:=by
 obtain ⟨⟨cls,dd,data,sl⟩,ho,hc,n,hd⟩:=id ht;obtain ⟨⟨cls2,dd2,data2,sl2⟩,ho2,hc2,n2,hd2⟩:=id hb;simp only at hc hd hc2 hd2;subst hc hd hc2 hd2;have e:vs.toArray++ws.toArray=(vs++ws).toArray:=by simp
 by_cases hw:ws=[]
 ·exact concat_meets ⟨_,ho,rfl⟩ ⟨_,ho2,rfl⟩ noFill_tuple_add seq_tuple_add PySem.F.slot_tuple_add PySem.F.entry_tuple_add (PySem.F.args_tuple_add_2 _ _)
   (tuple_addW1 t b vs.toArray ws.toArray n n2 dd dd2 sl sl2 (by simpa using hv) (by simp [hw])) ⟨ho,ho2,h1 hw⟩
 ·refine concat_meets ⟨_,ho,rfl⟩ ⟨_,ho2,rfl⟩ noFill_tuple_add seq_tuple_add PySem.F.slot_tuple_add PySem.F.entry_tuple_add (PySem.F.args_tuple_add_2 _ _)
   (tuple_addW2 t b vs.toArray ws.toArray n n2 dd dd2 sl sl2 (by simpa using hv) (by simpa using hw) (by rw [Hx,Hx];exact hsz)) ⟨ho,ho2,?_⟩
  rw [e];exact h2 hw
noncomputable def sIx (n d:Nat):Option Int->Nat
 | none=>d
 | some v=>if v < 0 then (v+(n:Int)).toNat else min v.toNat n
theorem mN (n d:Nat) (hd:d<=n) (o:Option Int):sIx n d o<=n:=by
 cases o with
 | none=>exact hd
 | some v =>
  show (if v < 0 then (v+(n:Int)).toNat else min v.toNat n)<=n;by_cases hv:v < 0
  ·rw [Hv hv];omega
  ·rw [Hz hv];exact Nat.min_le_right _ _
theorem pq (v:Int) (n d:Nat):(if v < 0 then max (v+(n:Int)) 0 else min v (n:Int))=((sIx n d (some v):Nat):Int):=by
 show (if v < 0 then max (v+(n:Int)) 0 else min v (n:Int))=(((if v < 0 then (v+(n:Int)).toNat else min v.toNat n):Nat):Int);by_cases hv:v < 0
 ·simp only [Hv hv];omega
 ·simp only [Hz hv];omega
theorem n4 (lo hi:Option Int) (n:Nat):Builtin.Slice.sliceAdjust lo hi 1 (n:Int)=(((sIx n 0 lo:Nat):Int),((sIx n n hi:Nat):Int)):=by
 have h1:¬((1:Int) < 0):=by omega
 unfold Builtin.Slice.sliceAdjust;simp only [h1,Jd];refine Prod.ext ?_ ?_
 ·cases lo with
  | none=>rfl
  | some v=>exact pq v n 0
 ·cases hi with
  | none=>rfl
  | some v=>exact pq v n n
theorem nW (i j:Nat):Builtin.Slice.slicePlaces (i:Int) (j:Int) 1=j - i:=by
 unfold Builtin.Slice.slicePlaces;have h1:(1:Int) > 0:=by omega
 simp only [h1,JJ,Int.ediv_one];split <;> omega
theorem iE {v:Value} {o:Option Int} {Q:Option Int->Shared->Prop} (p:IsPart v o) (h:Q o s):wpAny (model prog w) A (Builtin.Slice.slicePartIndex v) Q E s:=by
 cases p with
 | none=>exact slicePart_none h
 | int i t=>exact slicePart_int h
theorem fD {sl:Addr} {vl vu:Value} {lo hi:Option Int} {n:Nat} {Q:Int×Int×Nat->Shared->Prop} (hs:s.heap.IsSliceOf sl vl vu .none) (pl:IsPart vl lo) (pu:IsPart vu hi)
  (h:Q (((sIx n 0 lo:Nat):Int),1,sIx n n hi - sIx n 0 lo) s):wpAny (model prog w) A (Builtin.Slice.sliceApplied (.ref sl) (pure (n:Int))) Q E s:=by
 obtain ⟨os,hos,hcs,hds⟩:=id hs;unfold Builtin.Slice.sliceApplied Builtin.Slice.sliceFields;refine He (He (wpAny_field hos hds (x:=vl) rfl (He (wpAny_field hos hds (x:=vu) rfl (He (wpAny_field hos hds (x:=.none) rfl (Hg ?_)))))));refine He (slicePart_none ?_);show wpAny _ _ (if ((1:Int)==0)=true then _ else _) _ _ s;rw [Hz (by decide)];refine He (iE pl (He (iE pu (He (Hg ?_)))));show wpAny _ _ (match Builtin.Slice.sliceAdjust lo hi 1 (n:Int) with | (lo,hi)=>pure (lo,(1:Int),Builtin.Slice.slicePlaces lo hi 1)) _ _ s;rw [n4 lo hi n];show wpAny _ _ (pure (((sIx n 0 lo:Nat):Int),(1:Int),Builtin.Slice.slicePlaces ((sIx n 0 lo:Nat):Int) ((sIx n n hi:Nat):Int) 1)) _ _ s;rw [nW];exact Hg h
theorem tj (xs:Array Value) (i k:Nat):((List.range k).filterMap fun (m:Nat)=>xs[((i:Int)+(m:Int)*1).toNat]?).toArray=((xs.toList.drop i).take k).toArray:=by
 have e:(fun (m:Nat)=>xs[((i:Int)+(m:Int)*1).toNat]?)=fun m=>xs[i+m]?:=by
  funext m;have:((i:Int)+(m:Int)*1).toNat=i+m:=by omega
  rw [this]
 rw [e];have:=pick_run xs i k;rw [List.filterMap_map] at this;have e2:((fun x=>xs[x]?)∘fun x=>i+x)=fun m=>xs[i+m]?:=rfl;rw [e2] at this;rw [this]
theorem fg {t sl:Addr} {items:Array Value} {vl vu:Value} {lo hi:Option Int} {Q:Value->Shared->Prop} (ht:IsTup s.heap t items) (hs:s.heap.IsSliceOf sl vl vu .none) (pl:IsPart vl lo) (pu:IsPart vu hi)
  (hw:¬(sIx items.size 0 lo=0/\sIx items.size items.size hi=items.size))
  (h:Q (.ref s.heap.objs.size) { s with heap:=s.heap.push { cls:=.type "tuple", data:=.seq ((items.toList.drop (sIx items.size 0 lo)).take (sIx items.size items.size hi - sIx items.size 0 lo)).toArray } })
  (hsz:items.size<=sizeLine):wpAny (model prog w) A (getItem (.ref t) (.ref sl)) Q E s:=by
 have htake:sizeOk (.seq ((items.toList.drop (sIx items.size 0 lo)).take (sIx items.size items.size hi - sIx items.size 0 lo)).toArray):=by
  show ((items.toList.drop (sIx items.size 0 lo)).take (sIx items.size items.size hi - sIx items.size 0 lo)).toArray.size<=sizeLine;rw [Hx,IE,Jq,HM];omega
 have hj:sIx items.size items.size hi<=items.size:=mN _ _ (Hn _) hi;obtain ⟨os,hos,hcs,hds⟩:=id hs;have hTs:s.TypeIs (.ref sl) "slice" := ⟨os,hos,hcs⟩;unfold getItem;try with_reducible refine HU ?_
 first | refine He (Hg ?_) | skip
 refine He (wpAny_sequenceKey ht.typeIs (by decide) ?_)
 refine He (Iz (name:=Str.ofString "__getitem__") ht.typeIs PyProof.Rows.slot_tuple_getitem
  (Im PyProof.Rows.slot_tuple_getitem ht.typeIs entry_tuple_getitem ?_ (args_tuple_getitem _ _)))
 show wpAny _ _ (Builtin.Tuple.tupleItemsOf (.ref t)>>=_) _ _ s;refine He (tupleItemsOf_ ht ?_);refine He (wpAny_typeOf hTs ?_);rw [Hv (by decide)];refine He (fD hs pl pu ?_);have hno:¬((((sIx items.size 0 lo:Nat):Int)==0&&(1:Int)==1&&(sIx items.size items.size hi - sIx items.size 0 lo)==items.size)=true):=by
  intro q;rw [HL,HL] at q;have q1:((sIx items.size 0 lo:Nat):Int)=0:=eq_of_beq q.1.1;have q2:sIx items.size items.size hi - sIx items.size 0 lo=items.size:=eq_of_beq q.2;exact hw ⟨by omega,by omega⟩
 show wpAny _ _ (if (((sIx items.size 0 lo:Nat):Int)==0&&(1:Int)==1&&(sIx items.size items.size hi - sIx items.size 0 lo)==items.size)=true then _ else _) _ _ s;rw [Hz hno,tj];first
  | exact He (m:=Builtin.Tuple.tupleExact _) (Ia (Hg ⟨_,rfl,Hg h⟩) htake)
  | exact He (m:=Builtin.Tuple.tupleExact _) (Ia (He (Hg (Hg ⟨_,rfl,Hg h⟩))) htake)
  | exact He (He (m:=Builtin.Tuple.tupleExact _) (Ia (Hg (Hg ⟨_,rfl,Hg h⟩)) htake))
  | exact He (He (m:=Builtin.Tuple.tupleExact _) (Ia (Hg ⟨_,rfl,Hg h⟩) htake))
end
end HT
namespace L2
open PySem PySem.Spec PyProof.Rows
abbrev TO:=St->Hp->(Option Int->Hp->Prop)->Prop
def PO (X:Cx) (e:Option Expr) (t:TO):Prop :=
 ∀ (pins:List (Addr×Obj)) (s:Shared) (σ:St) (H:Hp) (Q:Option Int->Hp->Prop),Inv X pins σ H s->t σ H Q ->
  wpAny (model X.prog X.w) X.A (evalPart e X.env) (fun u s'=>∃ o H',Inv X pins σ H' s'/\IsPart u o/\Q o H') X.xe s
def lx:TO:=fun _ H Q=>Q none H
def wg (t:TE):TO:=fun σ H Q=>t σ H fun x H1=>∃ i,x=.int i/\Q (some i) H1
section
variable {X:Cx} {e:Expr} {te:TE} {lo hi:Option Expr} {tl th:TO} {pos p2:Pos}
theorem xZ:PO X none lx:=by
 intro pins s σ H Q I h;rw [evalPart_none];exact Hg ⟨none,H,I,.none,h⟩
theorem vP (h:PE X e te):PO X (some e) (wg te):=by
 intro pins s σ H Q I hw;rw [evalPart_some];refine thn (h pins s σ H _ I hw) fun u s1 ⟨x,H1,I1,r1,q1⟩=>?_;obtain ⟨i,rfl,q⟩:=q1;obtain ⟨t,rfl⟩:=r1;exact ⟨some i,H1,I1,.int i t,q⟩
def SlR (X:Cx) (r:V->Option Int->Option Int->Hp->VK->Prop):Prop :=
 ∀ (pins:List (Addr×Obj)) (s:Shared) (σ:St) (H:Hp) (x:V) (v vl vu:Value) (lo hi:Option Int) (sl:Addr) (Q:VK),Inv X pins σ H s->RelV x v->s.heap.IsSliceOf sl vl vu .none->IsPart vl lo->IsPart vu hi->r x lo hi H Q ->
  ∃ T id,typeLookup (.type T) "__getitem__" = pure (some (.builtin id))/\s.TypeIs v T/\wpAny (model X.prog X.w) X.A (getItem v (.ref sl)) (EP X pins σ Q) X.xe s
theorem SlR.or {r r':V->Option Int->Option Int->Hp->VK->Prop} (h:SlR X r) (h':SlR X r'):SlR X (fun x lo hi H Q=>r x lo hi H Q\/r' x lo hi H Q):=by
 intro pins s σ H x v vl vu lo hi sl Q I rx hs pl pu q;rcases q with q | q
 ·exact h pins s σ H x v vl vu lo hi sl Q I rx hs pl pu q
 ·exact h' pins s σ H x v vl vu lo hi sl Q I rx hs pl pu q
def tSl (r:V->Option Int->Option Int->Hp->VK->Prop) (te:TE) (tl th:TO):TE:=fun σ H Q=>te σ H fun x H1=>tl σ H1 fun l H2=>th σ H2 fun u H3=>r x l u H3 Q
theorem tV {r:V->Option Int->Option Int->Hp->VK->Prop} (hr:SlR X r) (he:PE X e te) (hl:PO X lo tl) (hu:PO X hi th):PE X (.Subscript e (.Slice lo hi none p2) pos) (tSl r te tl th):=by
 intro pins s σ H Q I h;refine Subscript_ (thn (he pins s σ H _ I h) fun v s1 ⟨x,H1,I1,r1,q1⟩=>?_);refine wpAny_Slice (thn (hl pins s1 σ H1 _ I1 q1) fun vl s2 ⟨l,H2,I2,pl,q2⟩=>thn (hu pins s2 σ H2 _ I2 q2) fun vu s3 ⟨u,H3,I3,pu,q3⟩=>?_);rw [evalPart_none];refine Hg ?_;have I4:Inv X pins σ H3 { s3 with heap:=s3.heap.push { cls:=.type "slice", data:=.fields #[vl,vu,.none] } }:=I3.kept (t':=s3.toks) fun b ob q=>Hm _ q;obtain ⟨T,id,hT,ht,hg⟩:=hr pins { s3 with heap:=s3.heap.push { cls:=.type "slice", data:=.fields #[vl,vu,.none] } } σ H3 x v vl vu l u s3.heap.objs.size Q I4 r1 (Heap.IsSliceOf.new ..) pl pu q3;show wpAny (model X.prog X.w) X.A (subscriptTail e (.Slice lo hi none p2) v (.ref s3.heap.objs.size)) (EP X pins σ Q) X.xe { s3 with heap:=s3.heap.push { cls:=.type "slice", data:=.fields #[vl,vu,.none] } };exact tail_any (ops:=[.ref s3.heap.objs.size,v]) ht hT hg (by with_unfolding_all rfl)
noncomputable def sx (xs:List V) (lo hi:Option Int):List V:=(xs.drop (HT.sIx xs.length 0 lo)).take (HT.sIx xs.length xs.length hi - HT.sIx xs.length 0 lo)
theorem fU (xs:List V) (lo hi:Option Int):(sx xs lo hi).length<=xs.length:=by
 unfold sx;rw [IE,Jq];omega
def Fd (K:Fg):V->Option Int->Option Int->Hp->VK->Prop:=fun x lo hi H Q=>∃ a xs,x=.ref a/\SqT K H a xs /\
 ¬(HT.sIx xs.length 0 lo=0/\HT.sIx xs.length xs.length hi=xs.length)/\∀ p,H p=none->Q (.ref p) (upd H p (.tup (sx xs lo hi)))
theorem mF:SlR X (Fd X.K):=by
 intro pins s σ H x v vl vu lo hi sl Q I rx hs pl pu h;obtain ⟨a,xs,rfl,hx,hw,q⟩:=h;cases rx;obtain ⟨its,r,ht,hz⟩:=I.tuple hx;have hlen:its.toArray.size=xs.length:=by rw [Hx];exact r.length.symm
 refine ⟨"tuple", _,PyProof.Rows.slot_tuple_getitem.lookup,ht.typeIs,?_⟩;refine HT.fg ht hs pl pu (by rw [hlen];exact hw) ?_ (by rw [hlen];exact hz);rw [hlen];refine ⟨.ref s.heap.objs.size,_,I.laid (t':=s.toks) (o:=.tup (sx xs lo hi)) (fun b ob q=>Hm _ q) (Hn _) ?_,rfl,q _ (I.hok.fresh (Hn _))⟩;exact ⟨HJ (fU xs lo hi) hz,_,(r.drop (HT.sIx xs.length 0 lo)).take (HT.sIx xs.length xs.length hi - HT.sIx xs.length 0 lo),IsTup.new _ _⟩
def Ap (K:Fg):R2:=fun x y H Q=>∃ a b xs ys,x=.ref a/\y=.ref b/\SqT K H a xs/\SqT K H b ys/\xs≠[]/\xs.length+ys.length<=sizeLine /\
 (ys=[]->Q (.ref a) H)/\(ys≠[]->∀ p,H p=none->Q (.ref p) (upd H p (.tup (xs++ys))))
theorem Vals.lb {xs:List V} {us:List Value} (r:Vals xs us):us=[]↔xs=[]:=by
 cases r with
 | nil=>simp
 | cons _ _=>simp
theorem xi:OpR X (binaryOp .Add) (Ap X.K):=by
 intro pins s σ H x y v u Q I rx ry h;obtain ⟨a,b,xs,ys,rfl,rfl,ha,hb,hx,hz,q1,q2⟩:=h;cases rx;cases ry;obtain ⟨its,r1,p1,_⟩:=I.tuple ha;obtain ⟨its2,r2,p2,_⟩:=I.tuple hb;refine HT.xO p1 p2 (fun z=>hx (r1.lb.mp z)) (fun z=>⟨.ref a,H,I,rfl,q1 (r2.lb.mp z)⟩) (fun z=>?_) (by rw [<- r1.length,<-r2.length];exact hz);refine ⟨.ref s.heap.objs.size,_,I.laid (t':=s.toks) (o:=.tup (xs++ys)) (fun b ob q=>Hm _ q) (Hn _) ?_,rfl,q2 (fun w=>z (r2.lb.mpr w)) _ (I.hok.fresh (Hn _))⟩;exact ⟨by rw [Ho];exact hz,_,r1.append r2,IsTup.new _ _⟩
end
end L2
namespace L2
open PySem PySem.Spec PyProof.Rows
noncomputable def ixN (n:Nat) (i:Int):Option Nat:=if 0<=i then (if i < n then some i.toNat else none) else if -(n:Int)<=i then some (i+n).toNat else none
noncomputable def atI {α:Type} (xs:List α) (i:Int):Option α:=(ixN xs.length i).bind fun j=>xs[j]?
theorem qe {n:Nat} {i:Int} {j:Nat} (h:ixN n i=some j):seqIndex? i n=some j/\j < n/\-(n:Int)<=i/\i < n:=by
 unfold ixN at h;by_cases h0:0<=i
 ·rw [Hv h0] at h;by_cases h1:i < n
  ·rw [Hv h1] at h;have e:i.toNat=j:=HV h;exact ⟨by rw [seqIndex_of h0 h1,e],by omega,by omega,h1⟩
  ·rw [Hz h1] at h;cases h
 ·rw [Hz h0] at h;by_cases h1:-(n:Int)<=i
  ·rw [Hv h1] at h;have e:(i+n).toNat=j:=HV h;exact ⟨by rw [seqIndex_neg (by omega) h1,e],by omega,h1,by omega⟩
  ·rw [Hz h1] at h;cases h
theorem lO {α:Type} {xs:List α} {i:Int} {v:α} (h:atI xs i=some v):∃ j,seqIndex? i xs.length=some j/\xs[j]?=some v/\j < xs.length/\-(xs.length:Int)<=i/\i < xs.length:=by
 unfold atI at h;cases e:ixN xs.length i with
 | none=>rw [e] at h;cases h
 | some j =>
  rw [e] at h;obtain ⟨h1,h2,h3,h4⟩:=qe e;exact ⟨j,h1,h,h2,h3,h4⟩
theorem lB {α:Type} {xs:List α} {j:Nat} {v:α} (h:xs[j]?=some v):atI xs (j:Int)=some v:=by
 have hj:j < xs.length:=(Hl.mp h).1;have e:ixN xs.length (j:Int)=some j:=by
  unfold ixN;rw [Hv (by omega),Hv (by omega)];simp
 unfold atI;rw [e];exact h
def lH (b:Expr):Prop:=∀ o i,subscripted b false o i=operate [o,i] (getItem o i)
def IxR (X:Cx) (r:R2):Prop :=
 ∀ (value slice:Expr) (pins:List (Addr×Obj)) (s:Shared) (σ:St) (H:Hp) (x y:V) (v u:Value) (Q:VK),Inv X pins σ H s->RelV x v->RelV y u->r x y H Q ->
  subscripted slice false v u=operate [v,u] (getItem v u)->wpAny (model X.prog X.w) X.A (subscriptTail value slice v u) (EP X pins σ Q) X.xe s
def MtR (X:Cx) (id:String) (r:V->List V->Hp->VK->Prop):Prop :=
 ∀ (pins:List (Addr×Obj)) (s:Shared) (σ:St) (H:Hp) (x:V) (xs:List V) (v:Value) (us:List Value) (Q:VK),Inv X pins σ H s->RelV x v->Vals xs us->r x xs H Q ->
  wpAny (model X.prog X.w) X.A (call (.builtin id) (v :: us)) (EP X pins σ Q) X.xe s
section
variable {X:Cx} {a b:Expr} {ta tb:TE} {pos:Pos}
theorem IxR.or {r r':R2} (h:IxR X r) (h':IxR X r'):IxR X (fun x y H Q=>r x y H Q\/r' x y H Q):=by
 intro value slice pins s σ H x y v u Q I rx ry q hs;rcases q with q | q
 ·exact h value slice pins s σ H x y v u Q I rx ry q hs
 ·exact h' value slice pins s σ H x y v u Q I rx ry q hs
theorem Fb {r:R2} (hr:IxR X r) (ha:PE X a ta) (hb:PE X b tb) (hs:lH b):PE X (.Subscript a b pos) (tOp r ta tb):=by
 intro pins s σ H Q I h;exact Subscript_ (C7 ha hb I h fun v u s2 x y H2 I2 rx ry q=>hr a b pins s2 σ H2 x y v u Q I2 rx ry q (hs _ _))
def FN (K:Fg):R2:=fun x y H Q=>∃ p xs i v,x=.ref p/\y=.int i/\SqL K H p xs/\atI xs i=some v/\Q v H
def Fx (K:Fg):R2:=fun x y H Q=>∃ p xs i v,x=.ref p/\y=.int i/\SqT K H p xs/\atI xs i=some v/\Q v H
def FJ:R2:=fun x y H Q=>∃ z i c,x=.str z/\y=.int i/\z.length<=sizeLine/\atI z.cps.toList i=some c/\Q (.str ⟨#[c]⟩) H
theorem wL:IxR X (FN X.K):=by
 intro value slice pins s σ H x y v u Q I rx ry h hs;obtain ⟨p,xs,i,z,rfl,rfl,hq,he,q⟩:=h;cases rx;obtain ⟨t,rfl⟩:=ry;obtain ⟨its,r,pl,hz⟩:=I.list hq;obtain ⟨j,h1,h2,h3,h4,h5⟩:=lO he;obtain ⟨w,ew,rw'⟩:=r.get h2;have hl:=r.length;have hn:=iW;have fin:EP X pins σ Q w s:=⟨z,H,I,rw',q⟩;by_cases h0:0<=i
 ·have hj:i.toNat=j:=by
   rw [seqIndex_of h0 h5] at h1;exact HV h1
  exact item_listR pl.isList h0 (by omega) (by rw [hj];simpa using ew) fin hs
 ·have hj:(i+(its.toArray.size:Int)).toNat=j:=by
   rw [seqIndex_neg (by omega) h4] at h1;rw [Hx,<-hl];exact HV h1
  exact subscriptTail_builtinR (x:=w) pl.isList.typeIs slot_list_getitem.lookup
   (wpAny_getItem_list_neg (Q:=fun r s'=>r=w/\EP X pins σ Q r s') pl.isList (by omega) (by rw [Hx] <;> omega) (by omega) (by rw [hj];simpa using ew) ⟨rfl,fin⟩) hs
theorem zV:IxR X (Fx X.K):=by
 intro value slice pins s σ H x y v u Q I rx ry h hs;obtain ⟨p,xs,i,z,rfl,rfl,hq,he,q⟩:=h;cases rx;obtain ⟨t,rfl⟩:=ry;obtain ⟨its,r,pl,hz⟩:=I.tuple hq;obtain ⟨j,h1,h2,h3,h4,h5⟩:=lO he;obtain ⟨w,ew,rw'⟩:=r.get h2;have hl:=r.length;have hn:=iW;have fin:EP X pins σ Q w s:=⟨z,H,I,rw',q⟩;exact subscriptTail_builtinR (x:=w) pl.typeIs slot_tuple_getitem.lookup
  (getItem_tuple (j:=j) (Q:=fun r s'=>r=w/\EP X pins σ Q r s') pl (by omega) (by omega) (by rw [Hx,<-hl];exact h1) (by simpa using ew) ⟨rfl,fin⟩) hs
theorem Ca:IxR X FJ:=by
 intro value slice pins s σ H x y v u Q I rx ry h hs;obtain ⟨z,i,c,rfl,rfl,hz,he,q⟩:=h;obtain ⟨t,rfl⟩:=rx;obtain ⟨t',rfl⟩:=ry;obtain ⟨j,h1,h2,h3,h4,h5⟩:=lO he;have hl:z.cps.toList.length=z.length:=by simp [Str.length]
 rw [hl] at h1 h4 h5;have hn:=iW
 exact tail_any (typeIs_str s z t) slot_str_getitem.lookup (getItem_str (c:=c) (by
  have e1:decide (i < -(2 ^ 63:Int))=false:=Il (by omega);have e2:decide (i>=2 ^ 63)=false:=Il (by omega)
  rw [e1,e2,Bool.or_false]) (by rw [h1];simpa using h2) ⟨.str ⟨#[c]⟩,H,I.tok _,⟨_,rfl⟩,q⟩) hs
def rIx (K:Fg):R2:=fun x y H Q=>FN K x y H Q\/Fx K x y H Q\/FJ x y H Q
theorem yS:IxR X (rIx X.K):=wL.or (zV.or Ca)
theorem nA (its:List Value) (n j:Nat) (u:Value):Obj.mapSeq (·.setIfInBounds j u) { cls:=.type "list", data:=.seq its.toArray n }={ cls:=.type "list", data:=.seq (its.set j u).toArray n }:=by
 simp [Obj.mapSeq]
theorem Inv.lst {pins:List (Addr×Obj)} {σ:St} {H:Hp} {s:Shared} {p:Addr} {xs:List V} (I:Inv X pins σ H s) (h:H p=some (.lst xs)) :
  ∃ (its:List Value) (n:Nat),Vals xs its/\s.heap.get? p=some { cls:=.type "list", data:=.seq its.toArray n }/\xs.length<=sizeLine:=by
 obtain ⟨z,its,n,r,e⟩:=I.hok p _ h;exact ⟨its,n,r,e,z⟩
theorem Inv.Az {pins:List (Addr×Obj)} {σ:St} {H:Hp} {s:Shared} {p:Addr} {xs ys:List V} {its its':List Value} {n n':Nat} {f:Obj->Obj} (I:Inv X pins σ H s) (h:H p=some (.lst xs))
  (ho:s.heap.get? p=some { cls:=.type "list", data:=.seq its.toArray n }) (hf:f { cls:=.type "list", data:=.seq its.toArray n }={ cls:=.type "list", data:=.seq its'.toArray n' }) (r:Vals ys its') (hz:ys.length<=sizeLine) (t:Nat) :
  Inv X pins σ (upd H p (.lst ys)) { s with heap:=s.heap.update p f,toks:=t }:=by
 have e:(s.heap.update p f).get? p=some { cls:=.type "list", data:=.seq its'.toArray n' }:=by
  rw [Iq f ho (by rw [hf] <;> rfl),hf]
 refine I.write (x:=p) (e:=p) (by rw [h];trivial) (.inl rfl) (fun b u hb q=>(HS _ _ (Ne.symm hb)).trans q) ⟨_,e⟩ ?_;exact ⟨hz,its',n',r,e⟩
def Ad:V->V->V->Hp->(Hp->Prop)->Prop:=fun o i v H Q=>∃ p xs k j,o=.ref p/\i=.int k/\H p=some (.lst xs)/\ixN xs.length k=some j/\Q (upd H p (.lst (xs.set j v)))
theorem set_list:DV X Ad:=by
 intro pins s σ H o i v ov iv u Q I ro ri rv h;obtain ⟨p,xs,k,j,rfl,rfl,hp,hj,q⟩:=h;cases ro;obtain ⟨t,rfl⟩:=ri;obtain ⟨its,n,r,ho,hz⟩:=I.lst hp;obtain ⟨h1,h2,h3,h4⟩:=qe hj;have hl:=r.length;have hn:=iW;have I':Inv X pins σ (upd H p (.lst (xs.set j v))) { s with heap:=s.heap.update p (Obj.mapSeq (·.setIfInBounds j u)) } :=
  I.Az hp ho (nA its n j u) (r.set rv j) (by rw [HK];exact hz) s.toks
 by_cases h0:0<=k
 ·have hk:k.toNat=j:=by
   rw [seqIndex_of h0 h4] at h1;exact HV h1
  exact PySem.W.ki_setAt ho h0 (by omega) (by rw [Hx,<-hl];exact h4) (by rw [hk];exact ⟨_,I',q⟩)
 ·have hk:(k+(its.toArray.size:Int)).toNat=j:=by
   rw [seqIndex_neg (by omega) h3] at h1;rw [Hx,<-hl];exact HV h1
  exact PySem.W.ki_setBack ho (by omega) (by rw [Hx,<-hl];exact h3) (by omega) (by rw [hk];exact ⟨_,I',q⟩)
theorem kh (lo hi:Option Int) (n:Nat):(sliceBounds lo hi none n).1=((HT.sIx n 0 lo:Nat):Int)/\(sliceBounds lo hi none n).2.1=((HT.sIx n n hi:Nat):Int)/\(sliceBounds lo hi none n).2.2=1:=by
 refine ⟨?_,?_,rfl⟩
 ·cases lo with
  | none=>simp [sliceBounds,HT.sIx]
  | some i =>
   simp only [sliceBounds,HT.sIx,Option.getD_none,show (1:Int) > 0 by decide,JJ];by_cases h:i < 0
   ·simp only [h,JJ] <;> omega
   ·simp only [h,Jd] <;> omega
 ·cases hi with
  | none=>simp [sliceBounds,HT.sIx]
  | some i =>
   simp only [sliceBounds,HT.sIx,Option.getD_none,show (1:Int) > 0 by decide,JJ];by_cases h:i < 0
   ·simp only [h,JJ] <;> omega
   ·simp only [h,Jd] <;> omega
theorem ji (its:List Value) (lo hi:Option Int):slicePick its.toArray lo hi none=((its.drop (HT.sIx its.length 0 lo)).take (HT.sIx its.length its.length hi - HT.sIx its.length 0 lo)).toArray:=by
 obtain ⟨h1,h2,h3⟩:=kh lo hi its.toArray.size;unfold slicePick;rw [h1,h2,h3];simp only [sliceRange_one,pick_run,Hx] <;> rfl
def Ey (K:Fg):V->Option Int->Option Int->Hp->VK->Prop:=fun x lo hi H Q=>∃ a xs,x=.ref a/\SqL K H a xs/\∀ p,H p=none->Q (.ref p) (upd H p (.lst (sx xs lo hi)))
theorem jq:SlR X (Ey X.K):=by
 intro pins s σ H x v vl vu lo hi sl Q I rx hs pl pu h;obtain ⟨a,xs,rfl,hx,q⟩:=h;cases rx;obtain ⟨its,r,ht,hz⟩:=I.list hx;have hlen:=r.length;refine ⟨"list", _,slot_list_getitem.lookup,ht.isList.typeIs,?_⟩;refine wpAny_getItem_list_slice ht.isList hs pl pu .none (by simp) ?_ (by rw [Hx] <;> omega);rw [ji,<-hlen];refine ⟨.ref s.heap.objs.size,_,I.laid (t':=s.toks) (o:=.lst (sx xs lo hi)) (fun b ob q=>Hm _ q) (Hn _) ?_,rfl,q _ (I.hok.fresh (Hn _))⟩;exact ⟨HJ (fU xs lo hi) hz,_,0,(r.drop (HT.sIx xs.length 0 lo)).take (HT.sIx xs.length xs.length hi - HT.sIx xs.length 0 lo),Hy _ rfl⟩
theorem j3:OpR X (compareOp .NotIn) (fun x y H Q=>∃ i j,x=.str i/\y=.str j/\Q (.bl (!(!(Builtin.Str.occurrences j i 0 j.length 1).isEmpty))) H):=by
 intro pins s σ H x y v u Q I rx ry h;obtain ⟨i,j,rfl,rfl,q⟩:=h;obtain ⟨t,rfl⟩:=rx;obtain ⟨t',rfl⟩:=ry;exact notIn_str ⟨.bl _,H,I,rfl,q⟩
theorem j7:aE X (.type "list") (fun xs H Q=>∃ p ys,xs=[.ref p]/\(SqL X.K H p ys\/SqT X.K H p ys)/\∀ l,H l=none->Q (.ref l) (upd H l (.lst ys))):=by
 intro pins s σ H xs us Q I r h;obtain ⟨p,ys,rfl,hq,q⟩:=h;obtain ⟨u,rfl,rx⟩:=vals1 r;cases rx;have fin:∀ (its:List Value),Vals ys its->ys.length<=sizeLine->∀ (h':Heap) (c':Nat),(∀ b o',s.heap.get? b=some o'->h'.get? b=some o') ->
   h'.get? s.heap.objs.size=some { cls:=.type "list", dict:=none,data:=.seq its.toArray c',slots:=#[] }->EP X pins σ Q (.ref s.heap.objs.size) { s with heap:=h' }:=fun its r' hz h' c' kp e =>
  ⟨.ref s.heap.objs.size,_,I.laid (t':=s.toks) kp (Hn _) (show bj X.prog X.w _ h' _ (.lst ys) from ⟨hz,its,c',r',e⟩),rfl,q _ (I.hok.fresh (Hn _))⟩
 rcases hq with hq | hq
 ·obtain ⟨its,r',pl,hz⟩:=I.list hq;have hlen:=r'.length;obtain ⟨o,ho,hc,n,hd⟩:=pl.isList;exact call_list_seq p (.inl rfl) ho hc hd (fun h' c' kp e=>fin its r' hz h' c' kp e) (by simp only [Hx] <;> omega)
 ·obtain ⟨its,r',pl,hz⟩:=I.tuple hq;have hlen:=r'.length;obtain ⟨o,ho,hc,n,hd⟩:=pl;exact call_list_seq p (.inr rfl) ho hc hd (fun h' c' kp e=>fin its r' hz h' c' kp e) (by simp only [Hx] <;> omega)
theorem jx:aE X (.type "tuple") (fun xs H Q=>∃ p ys,xs=[.ref p]/\((SqL X.K H p ys/\∀ l,H l=none->Q (.ref l) (upd H l (.tup ys)))\/(SqT X.K H p ys/\Q (.ref p) H))):=by
 intro pins s σ H xs us Q I r h;obtain ⟨p,ys,rfl,h⟩:=h;obtain ⟨u,rfl,rx⟩:=vals1 r;cases rx;rcases h with ⟨hq,q⟩ | ⟨hq,q⟩
 ·obtain ⟨its,r',pl,hz⟩:=I.list hq;have hlen:=r'.length;refine call_tuple_list pl.isList (fun h' kp=>?_) (by simp only [Hx] <;> omega);have I1:Inv X pins σ H { s with heap:=h' }:=I.kept (t':=s.toks) kp;have I2:Inv X pins σ (upd H h'.objs.size (.tup ys)) { s with heap:=h'.push { cls:=.type "tuple", data:=.seq its.toArray } } :=
   I1.laid (t':=s.toks) (fun b o e=>Hm _ e) (Hn _) (show bj X.prog X.w _ _ _ (.tup ys) from ⟨hz,its,r',IsTup.new _ _⟩)
  exact ⟨.ref h'.objs.size,_,I2,rfl,q _ (I1.hok.fresh (Hn _))⟩
 ·obtain ⟨its,r',pl,hz⟩:=I.tuple hq;exact call_tuple_same pl ⟨.ref p,H,I,rfl,q⟩
def tyV (K:Fg) (T:String) (x:V) (H:Hp):Prop:=match x with
 | .str _=>T = "str"
 | .int _=>T = "int"
 | .ref p=>(T = "list" /\ ∃ xs,SqL K H p xs)\/(T = "tuple" /\ ∃ o,K.lookup p=some o/\o.cls=.type "tuple" /\ o.dict=none) \/
   (T = "dict" /\ ((∃ kvs,H p=some (.dK kvs))\/(∃ kvs,H p=some (.dT kvs))\/∃ ep xs,H p=some (.dD ep xs)))\/(T = "set" /\ ∃ S n,H p=some (.set S n))
 | _=>False
theorem yH {pins:List (Addr×Obj)} {σ:St} {H:Hp} {s:Shared} {T:String} {x:V} {v:Value} (I:Inv X pins σ H s) (r:RelV x v) (ty:tyV X.K T x H) :
  s.TypeIs v T/\∀ a,v=.ref a->∃ ob,s.heap.get? a=some ob/\ob.dict=none:=by
 cases x with
 | str z =>
  obtain ⟨t,rfl⟩:=r;cases (show T = "str" from ty);exact ⟨typeIs_str s z t,fun _ e=>nomatch e⟩
 | int i =>
  obtain ⟨t,rfl⟩:=r;cases (show T = "int" from ty);exact ⟨typeIs_int s i t,fun _ e=>nomatch e⟩
 | ref p =>
  cases r;rcases ty with ⟨rfl,xs,hq⟩ | ⟨rfl,o,hk,hc,hd⟩ | ⟨rfl,hk⟩ | ⟨rfl,S,n,hk⟩
  ·obtain ⟨its,_,pl,_⟩:=I.list hq;refine ⟨pl.isList.typeIs,fun a e=>?_⟩;cases e;obtain ⟨o,n,e,c,hd,_⟩:=pl;exact ⟨o,e,hd⟩
  ·refine ⟨⟨o,I.kIn p o hk,hc⟩,fun a e=>?_⟩;cases e;exact ⟨o,I.kIn _ o hk,hd⟩
  ·have z:∃ o,s.heap.get? p=some o/\o.ExactDict:=by
    rcases hk with ⟨kvs,hk⟩ | ⟨kvs,hk⟩ | ⟨ep,xs,hk⟩
    ·obtain ⟨_,_,_,_,o,_,_,e,ex,_⟩:=I.hok p _ hk;exact ⟨o,e,ex⟩
    ·obtain ⟨_,_,_,_,o,_,_,e,ex,_⟩:=I.hok p _ hk;exact ⟨o,e,ex⟩
    ·obtain ⟨_,_,_,o,_,e,ex,_⟩:=I.hok p _ hk;exact ⟨o,e,ex⟩
   obtain ⟨o,e,ex⟩:=z;refine ⟨⟨o,e,ex.1⟩,fun a e2=>?_⟩;cases e2;exact ⟨o,e,ex.2.1⟩
  ·obtain ⟨o,_,_,_,e,ex,_⟩:=I.hok p _ hk;refine ⟨⟨o,e,ex.1⟩,fun a e2=>?_⟩;cases e2;exact ⟨o,e,ex.2.1⟩
 | _=>exact False.elim ty
def tBM (K:Fg) (T:String) (r:V->List V->Hp->VK->Prop) (to:TE) (t:TA):TE:=fun σ H Q=>to σ H fun x H1=>tyV K T x H1/\t σ H1 fun xs H2=>r x xs H2 Q
variable {o e:Expr} {es:List Expr} {to:TE} {t:TA} {name:Str} {apos cpos:Pos} {T id:String} {r:V->List V->Hp->VK->Prop}
theorem CK (pa:PlainAttrs T) (slot:Slot T name id) (hty:typeOf (.builtin id)=pure (.type "method_descriptor")) (hm:MtR X id r) (ho:PE X o to) (ha:PA X (e :: es) t)
  (hbase:attributeBase o name X.env (eval o X.env)=eval o X.env:=by rfl)
  (hfew:((backTo cpos (starEach (e :: es) X.env)).all (fun x=>!x.1)&&(backToKw cpos (keywordEach [] X.env)).all (fun x=>x.1.isSome)
   && decide ((e :: es).length+([]:List Keyword).length+(if ([]:List Keyword).isEmpty then 0 else 1) < 30))=true:=by rfl)
  (hline:(apos.endLine==cpos.line)=true:=by rfl) (hs:starEach (e :: es) X.env=(false,eval e X.env) :: starEach es X.env:=by rfl) (hplain:(backTo cpos (starEach es X.env)).any (·.1)=false:=by rfl) :
  PE X (.Call (.Attribute o name apos) (e :: es) [] cpos) (tBM X.K T r to t):=by
 intro pins s σ H Q I h;refine wpAny_Call_method_late hbase hfew hline rfl (thn (ho pins s σ H _ I h) fun v s1 ⟨x,H1,I1,r1,ty,q1⟩=>?_);obtain ⟨h1,h2⟩:=yH I1 r1 ty;refine ⟨T,id,pa,slot,hty,h1,h2,?_⟩;have hA:=ha cpos pins s1 σ H1 _ I1 q1;rw [hs] at hA ⊢;refine Calls.callWith_builtin (by show (false||(backTo cpos (starEach es X.env)).any (·.1))=false;rw [hplain] <;> rfl) (Calls.evalArgs_plain ?_);exact thn hA fun us s2 ⟨vs,H2,I2,r2,q2⟩=>hm pins s2 σ H2 x vs v us Q I2 r1 r2 q2
end
end L2
namespace L2
open PySem PySem.Spec PyProof.Rows
def MtM (X:Cx) (id:String) (r:V->List V->Hp->VK->Prop):Prop :=
 ∀ (pins:List (Addr×Obj)) (s:Shared) (σ:St) (H:Hp) (x:V) (xs:List V) (v:Value) (us:List Value) (Q:VK),Inv X pins σ H s->RelV x v->Vals xs us->r x xs H Q ->
  wpAny (model X.prog X.w) X.A (call (.builtin id) (v :: us)) (EP X pins σ Q) X.xe s
theorem Vals.one:∀ {x:V} {us:List Value},Vals [x] us->∃ u,us=[u]/\RelV x u
 | _,_,.cons r .nil=>⟨_,rfl,r⟩
theorem Vals.dropLast {xs:List V} {us:List Value} (h:Vals xs us):Vals xs.dropLast us.dropLast:=by
 induction h with
 | nil=>exact .nil
 | cons r t ih =>
  cases t with
  | nil=>exact .nil
  | cons q t'=>exact .cons r ih
section
variable {X:Cx} {pins:List (Addr×Obj)} {σ:St} {H:Hp} {s:Shared} {l b:Addr} {xs ys zs:List V}
theorem Inv.GQ {its its':List Value} {n:Nat} {f:Array Value->Array Value} {t':Nat} (I:Inv X pins σ H s) (hH:H l=some (.lst xs))
  (e:s.heap.get? l=some { cls:=.type "list", data:=.seq its.toArray n }) (hf:f its.toArray=its'.toArray) (hv:Vals ys its') (hz:ys.length<=sizeLine) :
  Inv X pins σ (upd H l (.lst ys)) { s with heap:=s.heap.update l (Obj.mapSeq f),toks:=t' }:=by
 have q:=PySem.IsL.update e f;rw [hf] at q;refine I.write (x:=l) (e:=l) (by rw [hH];exact trivial) (.inl rfl) (fun b' u hb hu=>(HS s.heap (Obj.mapSeq f) (Ne.symm hb)).trans hu) ⟨_,q⟩ ?_;exact ⟨hz,its',_,hv,q⟩
theorem Inv.Gb {its:List Value} {t':Nat} (I:Inv X pins σ H s) (hv:Vals ys its) (hz:ys.length<=sizeLine) :
  Inv X pins σ (upd H s.heap.objs.size (.lst ys)) { s with heap:=s.heap.push { cls:=.type "list", data:=.seq its.toArray },toks:=t' } :=
 I.laid (fun _ _ q=>Hm _ q) (Hn _) ⟨hz,its,0,hv,Hy _ rfl⟩
theorem Inv.fresh (I:Inv X pins σ H s):H s.heap.objs.size=none:=I.hok.fresh (Hn _)
theorem Inv.Gg (I:Inv X pins σ H s) (hH:H l=some (.lst xs)):xs.length<=sizeLine/\∃ (its:List Value) (n:Nat),Vals xs its/\xs.length=its.length/\s.heap.get? l=some { cls:=.type "list", data:=.seq its.toArray n }:=by
 obtain ⟨z,its,n,r,e⟩:=I.hok l _ hH;exact ⟨z,its,n,r,r.length,e⟩
end
section
variable {X:Cx}
def pI:V->List V->Hp->VK->Prop:=fun x vs H Q=>∃ l xs y,x=.ref l/\vs=[y]/\H l=some (.lst xs)/\xs.length < sizeLine/\Q .non (upd H l (.lst (xs++[y])))
theorem bV:MtM X "list.append" pI:=by
 intro pins s σ H x vs v us Q I rx rv h;obtain ⟨l,xs,y,rfl,rfl,hH,hz,q⟩:=h;cases rx;obtain ⟨u,rfl,ru⟩:=rv.one;obtain ⟨z,its,n,r,hl,e⟩:=I.Gg hH;refine call_meets F.slot_list_append ⟨_,e,rfl⟩ F.entry_list_append (F.args_list_append_2 _ _) (PySem.list_append l its.toArray n u (by rw [Hx];omega)) ⟨e,?_⟩;refine ⟨.non,_,I.GQ (its':=its++[u]) hH e (by simp) (r.append (.cons ru .nil)) ?_,rfl,q⟩;rw [Ho,IS];omega
end
end L2
namespace L2
open PySem PySem.Spec PyProof.Rows
section
variable {κ:Type} [DecidableEq κ]
noncomputable def putK (kvs:List (κ×V)) (k:κ) (v:V):List (κ×V) :=
 if (kvs.any fun kv=>decide (kv.1=k))=true then kvs.map (fun kv=>if kv.1=k then (kv.1,v) else kv) else kvs++[(k,v)]
theorem k9 (kvs:List (κ×V)) (k:κ) (v:V):(putK kvs k v).length<=kvs.length+1:=by
 unfold putK;split
 ·rw [Hf];omega
 ·rw [Ho,HA,List.length_nil];omega
theorem KV.any {kvs:List (κ×V)} {vs:List (κ×Value)} (r:KV kvs vs) (k:κ):(kvs.any fun kv=>decide (kv.1=k))=vs.any fun kv=>decide (kv.1=k):=by
 unfold KV at r;induction r with
 | nil=>rfl
 | cons h t ih=>rw [Jr,Jr,ih,h.1]
theorem KV.Gr {kvs:List (κ×V)} {vs:List (κ×Value)} (r:KV kvs vs) (k:κ) {y:V} {u:Value} (ry:RelV y u) :
  KV (kvs.map fun kv=>if kv.1=k then (kv.1,y) else kv) (vs.map fun kv=>if kv.1=k then (kv.1,u) else kv):=by
 unfold KV at r ⊢;induction r with
 | nil=>exact .nil
 | @cons p q ps qs h t ih =>
  rw [List.map_cons,List.map_cons];refine .cons ?_ ih;obtain ⟨h1,h2⟩:=h;by_cases e:p.1=k
  ·rw [Hv e,Hv (h1.symm.trans e)];exact ⟨h1,ry⟩
  ·rw [Hz e,Hz (fun z=>e (h1.trans z))];exact ⟨h1,h2⟩
theorem KV.put {kvs:List (κ×V)} {vs:List (κ×Value)} (r:KV kvs vs) (k:κ) {y:V} {u:Value} (ry:RelV y u):KV (putK kvs k y) (stored vs k u):=by
 unfold putK stored;rw [r.any k];by_cases e:(vs.any fun kv=>decide (kv.1=k))=true
 ·rw [Hv e,Hv e];exact r.Gr k ry
 ·rw [Hz e,Hz e];exact Paired.snoc r ⟨rfl,ry⟩
end
theorem EB {P:Program} {w:World} {k:Key} {u:Value} (r:RelV (kV k) u):(aY P w).is k u=true:=by
 cases k with
 | inl i=>obtain ⟨t,e⟩:=(show ∃ t,u=Value.int i t from r);subst e;exact lA P w i t
 | inr x=>obtain ⟨t,e⟩:=(show ∃ t,u=Value.str x t from r);subst e;exact lr P w x t
section
variable {X:Cx} {pins:List (Addr×Obj)} {σ:St} {H:Hp} {s:Shared} {a:Addr} {y v:V} {u r:Value} {o:Option V} {A:Around} {E:Value->Shared->Prop}
theorem Inv.big (I:Inv X pins σ H s):sysModules < s.heap.objs.size:=by
 have h:mainGlobals < s.heap.objs.size:=(I.mod.glob.keeps I.bk).lt;exact Nat.lt_trans (by decide) h
theorem lK {h':Heap} {t':Nat} {ob:HO} (I:Inv X pins σ H s) (mu:Mut (H a)) (hs:Heap.SameBut a s.heap h') (he:∃ q,h'.get? a=some q) (new:bj X.prog X.w (upd H a ob) h' a ob) :
  Inv X pins σ (upd H a ob) { s with heap:=h',toks:=t' } :=
 I.write (x:=a) (e:=a) mu (.inl rfl) (fun b q hb z=>(hs.2 b hb).trans z) he new
end
def FD (i:Expr):Prop:=∀ ov iv,subscripted i false ov iv=operate [ov,iv] (getItem ov iv)
theorem we {prog:Program} {w:World} {A:Around} {E:Value->Shared->Prop} {s:Shared} {env:Env} {value slice:Expr} {pos:Pos} {T id:String} {Q:Value->Shared->Prop}
  (hl:typeLookup (.type T) "__getitem__" = pure (some (.builtin id))) (hs:FD slice)
  (h:wpAny (model prog w) A (eval value env) (fun o s₁=>wpAny (model prog w) A (eval slice env) (fun i s₂=>s₂.TypeIs o T/\wpAny (model prog w) A (getItem o i) Q E s₂) E s₁) E s) :
  wpAny (model prog w) A (eval (.Subscript value slice pos) env) Q E s:=by
 refine Subscript_ (HR h (fun o s₁ h₁=>HR h₁ (fun i s₂ h₂=>?_) fun _ _ x=>x) fun _ _ x=>x);obtain ⟨hT,h₂⟩:=h₂;unfold subscriptTail;refine He ?_;rw [getitemInPython_of_ne hT.not_modules];refine He (JX hT hl ?_);have fin:wpAny (model prog w) A (subscripted slice false o i) (fun r s₃=>wpAny (model prog w) A (letTemporaryGo value o r>>=fun _=>pure r) Q E s₃) E s₂:=by
  rw [hs o i];exact wpAny_operating (HR h₂ (fun r s₃ h₃=>He (wpAny_letTemporaryGo (Hg h₃))) fun _ _ x=>x)
 first
  | exact Hg (He fin)
  | exact He (Hg (He fin))
  | exact He fin
def mU:List (TE×TE)->St->Hp->(List (V×V)->Hp->Prop)->Prop
 | [],_,H,Q=>Q [] H
 | (tk,tv) :: r,σ,H,Q=>tk σ H fun x H1=>tv σ H1 fun y H2=>mU r σ H2 fun ps H3=>Q ((x,y) :: ps) H3
abbrev VV:List (V×V)->List (Value×Value)->Prop:=Paired fun p q=>RelV p.1 q.1/\RelV p.2 q.2
def PPs (X:Cx) (pos:Pos) (keys:List (Option Expr)) (values:List Expr) (trs:List (TE×TE)):Prop :=
 ∀ (pins:List (Addr×Obj)) (s:Shared) (σ:St) (H:Hp) (Q:List (V×V)->Hp->Prop),Inv X pins σ H s->mU trs σ H Q ->
  wpAny (model X.prog X.w) X.A (evalPairs (pairTrees keys values X.env pos)) (fun vs s'=>∃ ps H',Inv X pins σ H' s'/\VV ps vs/\Q ps H') X.xe s
theorem ya {X:Cx} {pos:Pos}:PPs X pos [] [] []:=fun pins s σ H Q I h=>pairTrees_nil_walk ⟨[],H,I,.nil,h⟩
theorem ur {X:Cx} {pos:Pos} {k v:Expr} {ks:List (Option Expr)} {vs:List Expr} {tk tv:TE} {trs:List (TE×TE)} (hk:PE X k tk) (hv:PE X v tv) (hr:PPs X pos ks vs trs) :
  PPs X pos (some k :: ks) (v :: vs) ((tk,tv) :: trs):=fun pins s σ H Q I h =>
 pairTrees_cons_walk (thn (hk pins s σ H _ I h) fun u s1 ⟨x,H1,I1,rx,q1⟩=>thn (hv pins s1 σ H1 _ I1 q1) fun w2 s2 ⟨y,H2,I2,ry,q2⟩ =>
  thn (hr pins s2 σ H2 _ I2 q2) fun ws s3 ⟨ps,H3,I3,rel,q3⟩=>⟨(x,y) :: ps,H3,I3,.cons ⟨rx,ry⟩ rel,q3⟩)
noncomputable def cP (kvs more:List (Key×V)):List (Key×V):=more.foldl (fun acc kv=>putK acc kv.1 kv.2) kvs
theorem KV.merge:∀ {more:List (Key×V)} {rs:List (Key×Value)} {kvs:List (Key×V)} {vs:List (Key×Value)},KV more rs->KV kvs vs->KV (cP kvs more) (merged vs rs):=by
 intro more rs kvs vs r;unfold KV at r;induction r generalizing kvs vs with
 | nil=>intro q;exact q
 | @cons p q ps qs h t ih =>
  intro r0;have e:KV (putK kvs p.1 p.2) (stored vs q.1 q.2):=by
   have:=r0.put p.1 h.2;rw [<- h.1];exact this
  exact ih e
theorem eO:∀ (more kvs:List (Key×V)),(cP kvs more).length<=kvs.length+more.length
 | [],kvs=>by show kvs.length<=kvs.length+0;omega
 | p :: r,kvs=>by
  have h1:=eO r (putK kvs p.1 p.2);have h2:=k9 kvs p.1 p.2;show (cP (putK kvs p.1 p.2) r).length<=_;rw [HA];omega
theorem iG {P:Program} {w:World}:∀ {kvs:List (Key×V)} {ws:List (Value×Value)},VV (kvs.map fun kv=>(kV kv.1,kv.2)) ws->∃ rs,Carries (aY P w) ws rs/\KV kvs rs
 | [],_,r=>by rw [List.map_nil] at r;cases r;exact ⟨[],True.intro,.nil⟩
 | p :: kvs,_,r=>by
  rw [List.map_cons] at r;cases r with
  | @cons a b as bs h t =>
   obtain ⟨rs,c,q⟩:=iG (P:=P) (w:=w) t;obtain ⟨b1,b2⟩:=b;exact ⟨(p.1,b2) :: rs,⟨EB h.1,rfl,c⟩,.cons ⟨rfl,h.2⟩ q⟩
end L2
namespace Att
open PySem PySem.W PySem.Calls PyProof.Rows
theorem gK {P:Params} {h:Heap}:∀ (ns:List Int) (vs:List Value),WellAll P h vs (ns.map WData.int)->IntsAre vs ns:=by
 intro ns;induction ns with
 | nil =>
  intro vs w;rw [List.map_nil] at w;cases w;exact .nil
 | cons n ns ih =>
  intro vs w;rw [List.map_cons] at w;cases w with
  | cons a b =>
   cases a;exact .cons _ _ (ih _ b)
theorem qB {l:OpenLaw} {n:Nat} (hn:l.most=some n) {P:Params} {h:Heap} {args:List WData} {vals:List Value}
  (hpre:l.row.toRowW.claim.pre args=true) (hwl:WellAll P h vals args) :
  ∃ a vs ns,vals=[Value.ref a]/\args=[WData.list (ns.map WData.int)]/\h.get? a=some { cls:=.type "list", data:=.seq vs.toArray }/\IntsAre vs ns/\ns.length<=n:=by
 have hsh:WShape.hasAll [] args [.list .int]=true:=(pre_splitW hpre).1;have hc:l.pre.holds [] { args:=args }=true:=(pre_splitW hpre).2;obtain ⟨d,r,rfl,h1,h2⟩:=hasAllW_cons hsh;obtain rfl:=hasAllW_nil h2;obtain ⟨xs,rfl,h3⟩:=hasW_list h1;obtain ⟨ns,rfl⟩:=items_int h3;have hlen:ns.length<=n:=by
  unfold OpenLaw.pre at hc;have h4:(WTm.not (.lt (.lit (.int (n:Int))) (.len (.arg 0)))).holds [] { args:=[.list (ns.map .int)] }=true:=by
   have h4:=(holds_andW hc).1;rw [hn] at h4;exact h4
  have h5:=condW_of h4 (w_not (w_lt w_lit (w_len_list (w_arg rfl))));rw [Hf] at h5;refine Nat.le_of_not_lt fun q=>?_;have q':(n:Int) < ((ns.length:Nat):Int):=by omega
  first
   | (rw [HY q'] at h5;exact absurd h5 (by decide))
   | (simp at h5;omega)
 cases hwl with
 | cons w1 w2 =>
  cases w2;cases w1 with
  | list ho hall=>exact ⟨_,_,ns,rfl,rfl,ho,gK ns _ hall,hlen⟩
theorem rH (l:OpenLaw) (args:List WData):l.row.toRowW.claim.post args (.bool true) args=true :=
 postW_of (r:=l.row.toRowW) (X:=(true==true))
  (show WShape.has [] (.bool true) .bool=true by first | rfl | decide | simp [WShape.has,WShape.arms,WShape.armsAll])
  (show (WTm.eq .res (.lit (.bool true))).value [] { args:=args,res:=some (.bool true),after:=args }=some (.bool (true==true)) from w_eq_bool (w_res rfl) w_lit) rfl
theorem lz {l:OpenLaw} {n:Nat} {q:Program} {loose:List Str} {XP:(Str->Option Value)->Heap->Prop} {YP:World->Heap->Prop} {d:DefRec}
  (hn:l.most=some n) (hdf:d.params.defaults=[])
  (call:∀ (w:World) (s₀ s₁:Shared) (mg mb:Str->Option Value) (fa:Addr) (o:Obj) (pm cd doc:Value) (a:Addr) (vs:List Value) (ns:List Int),
   Ground q loose [] XP w s₀ mg mb s₁.heap->YP w s₁.heap ->
   s₁.heap.get? fa=some o->o.data=.func (docDef d.name d.params d.body d.scope pm cd doc)->s₁.heap.CodeRec cd d.name->mg d.name=some (.ref fa) ->
   s₁.heap.get? a=some { cls:=.type "list", data:=.seq vs.toArray }->IntsAre vs ns->ns.length<=n->s₁.gens=#[] ->
   codeAny (model l.prog w) callerA (.call (.ref fa) ⟨[.ref a],[]⟩) (fun r s'=>r=.ok (.ret (.bool true))/\OldK s₁.heap s'.heap/\s'.os=s₁.os/\AllBare s'.gens) s₁) :
  WalkO q loose XP YP l.row.toRowW d [] (fun f vs=>PySem.call f vs):=by
 intro w s₀ s₁ mg mb G Y fa o pm cd doc dV kV ho hd hcd hD hmg hg args vals as hpre hlay hrd hwl hlo;obtain rfl:dV=.none:=Dflts.none hD hdf;obtain rfl:kV=.none:=Dflts.noKw hD;obtain ⟨a,vs,ns,rfl,rfl,hobj,hints,hlen⟩:=qB hn hpre hwl;refine enter_call (Jj (call w s₀ s₁ mg mb fa o pm cd doc a vs ns G Y ho (fd_plain hd) hcd hmg hobj hints hlen hg) fun r s' hq=>?_);obtain ⟨rfl,h2,h3,h4⟩:=hq;exact ⟨.inl ⟨.bool true,.bool true,[],rfl,fun _=>rfl,.bool true,rH l _,fun _=>⟨List.Pairwise.nil,fun _ hm=>(nomatch hm)⟩⟩,h2,h3,h4⟩
end Att
namespace L2
open PySem PySem.Spec PyProof.Rows
theorem jX:∀ {vs:List Value} {ns:List Int},IntsAre vs ns->Vals (ns.map V.int) vs
 | _,_,.nil=>.nil
 | _,_,.cons n t h=>.cons ⟨t,rfl⟩ (jX h)
def Cd (H:Hp):Prop:=∀ b,H b=none\/(∃ o xs,H b=some (.frz o (.lst xs)))\/∃ q pos,H b=some (.tbl q pos)
noncomputable def og:Hp:=fun b=>(bp.find? fun t=>t.2.1==b).map fun t=>.tbl t.2.2.1 t.2.2.2
theorem eX {b:Addr} {u:HO} (e:og b=some u):∃ t∈bp,b=t.2.1/\u=.tbl t.2.2.1 t.2.2.2:=by
 obtain ⟨t,h1,h2⟩:=HC.mp e;have h3:(t.2.1==b)=true:=List.find?_some (p:=fun t:Addr×Addr×Str×Pos=>t.2.1==b) h1;exact ⟨t,List.mem_of_find?_eq_some h1,(Jg.mp h3).symm,h2.symm⟩
theorem tu {P:Program} {w:World} {K:Fg} {mg mb:Str->Option Value} {CX:CXT} {k:Nat} {fa a:Addr} {fd:FuncData} {x:Str} {sp:Sp} {s₁:Shared} {vs:List Value} {ns:List Int}
  (KX:K.In s₁.heap) (hns:s₁.heap.Ns mainGlobals mg) (hb:s₁.heap.Ns builtinsNs mb) (hbb:∀ x:Str,x ≠ "__name__" -> mb x=bootBuiltins x) (hlim:s₁.heap.NoLimit) (hg:s₁.gens=#[])
  (ha:s₁.heap.get? a=some { cls:=.type "list", data:=.seq vs.toArray }) (hi:IntsAre vs ns) (hl:ns.length<=sizeLine) (hr:bN k callerA)
  (F:∀ base:Heap,K.In base->base.Ns mainGlobals mg->bq P w K mg base CX k fa fd [x] sp) (hbind:∀ (s:Shared) (u:Value),BindsTo s fd ⟨[u],[]⟩ [(x,u)])
  (hT:∀ t∈bp,PySem.W.CodeHd s₁.heap t.1 t.2.1/\s₁.heap.get? t.2.1=some (PySem.W.tabObj #[])) (hTK:∀ t∈bp,K.lookup t.2.1=none) (hTH:yB og)
  (hbm:∃ bm ob,mg "__builtins__" = some (.ref bm)/\bm≠builtinsNs/\s₁.heap.get? bm=some ob/\ob.cls=.type "module" /\ ob.dict=some builtinsNs/\ob.data=.plain)
  (hsp:∀ H:Hp,Cd H->SqL K H a (ns.map V.int)->sp [.ref a] H (fun v _=>v=.bl true) fun _ _ _=>False)
  (hCX:∀ H e s',CX [] H s₁ (fun _ _ _=>False) e s'->False) :
  codeAny (model P w) callerA (.call (.ref fa) ⟨[.ref a],[]⟩) (fun r s'=>r=.ok (.ret (.bool true))/\OldK s₁.heap s'.heap/\s'.os=s₁.os/\AllBare s'.gens) s₁:=by
 have rv:=jX hi;have lenV:=hi.length;have tA:∀ t∈bp,t.2.1≠a:=fun t ht z=>by
  have e:=(hT t ht).2;rw [z,ha] at e;cases e
 have core:∀ H:Hp,Cd H->SqL K H a (ns.map V.int)->HOk P w H s₁.heap->(∀ b,H b≠none->b=a\/∃ t∈bp,b=t.2.1)->(H a≠none->K.lookup a=none)->yB H ->
   codeAny (model P w) callerA (.call (.ref fa) ⟨[.ref a],[]⟩) (fun r s'=>r=.ok (.ret (.bool true))/\OldK s₁.heap s'.heap/\s'.os=s₁.os/\AllBare s'.gens) s₁:=by
  intro H hO hS hok hA hK hTb;have base_of:∀ {b:Addr} {o:Obj},s₁.heap.get? b=some o->H b=none->(tF s₁.heap H).get? b=some o:=fun e n=>t9 e n;have noA:∀ {b:Addr} {o:Obj} {es:Array DictEntry} {ep:Nat},s₁.heap.get? b=some o->o.data=.dict es ep->H b=none:=fun {b o es ep} e d=>by
   cases q:H b with
   | none=>rfl
   | some u =>
    rcases hA b (by rw [q];simp) with e' | ⟨t,ht,e'⟩
    ·subst e';rw [ha] at e;cases e;have d':Data.seq vs.toArray _=Data.dict es ep:=d;cases d'
    ·subst e';rw [(hT t ht).2] at e;cases e;have d':Data.fields #[]=Data.dict es ep:=d;cases d'
  have nsK:∀ {b:Addr} {m:Str->Option Value},s₁.heap.Ns b m->(tF s₁.heap H).Ns b m:=fun {b m} ⟨o,es,ep,e,d,r⟩=>⟨o,es,ep,base_of e (noA e d),d,r⟩
  have hKb:K.In (tF s₁.heap H):=fun b o e=>base_of (KX b o e) (by
   cases q:H b with
   | none=>rfl
   | some u =>
    rcases hA b (by rw [q];simp) with e' | ⟨t,ht,e'⟩
    ·subst e';rw [hK (by rw [q];simp)] at e;cases e
    ·subst e'
     rw [hTK t ht] at e;cases e)
  have noC:∀ {b:Addr} {o:Obj} {n:String},s₁.heap.get? b=some o->o.cls=.type n->n ≠ "list" -> H b=none:=fun {b o n} e d hn=>by
   cases q:H b with
   | none=>rfl
   | some u =>
    rcases hA b (by rw [q];simp) with e' | ⟨t,ht,e'⟩
    ·subst e';rw [ha] at e;cases e;have d':Value.type "list" = Value.type n:=d;cases d';exact absurd rfl hn
    ·subst e';rw [(hT t ht).2] at e;cases e;cases d
  have hM:Mod K mg (tF s₁.heap H):=⟨hKb,nsK hns,⟨mb,nsK hb,hbb⟩,let ⟨mc,h1,h2⟩:=hlim;⟨mc,nsK h1,h2⟩,
   let ⟨bm,ob,c1,c2,c3,c4,c5⟩:=hbm;⟨bm,ob,c1,c2,base_of c3 (noC c3 c4 (by decide)),c4,c5⟩,
   fun t ht=>let ⟨oc,vc,file,tf,flags,tg,inF,text,tt,c1,c2,c3⟩:=(hT t ht).1;⟨oc,vc,file,tf,flags,tg,inF,text,tt,base_of c1 (noC c1 c2 (by decide)),c2,c3⟩⟩
  have e0:p8 P w K mg (tF s₁.heap H) callerA [] s₁ H:=⟨rfl,hM,fun b o e=>wU e,Nat.le_of_eq (o8 _ _),trivial,fun b hb=>absurd (show b∈([]:List Addr) from hb) (by simp),hTb,hok,.of_eq hg⟩;refine Jj ((F _ hKb (nsK hns)).run callerA [] s₁ H ⟨[.ref a],[]⟩ [.ref a] [.ref a] _ _ hr e0 (hbind s₁ (.ref a)) (.cons rfl .nil) (hsp H hO hS)) fun r s' h=>?_;cases r with
  | error e=>exact (hCX H e s' h).elim
  | ok fl =>
   cases fl with
   | next=>exact False.elim h
   | brk=>exact False.elim h
   | cont=>exact False.elim h
   | ret u =>
    obtain ⟨v,H',os,bare,un,hok',r',q⟩:=h;have q':v=.bl true:=q;subst q';obtain rfl:u=Value.bool true:=r';refine ⟨rfl,⟨fun b o e=>?_,fun b o e=>un.there b o e (by simp)⟩,os,bare⟩;cases q:H b with
    | none=>exact .inl (un.keep b o e q (by intro z;exact absurd (show b∈([]:List Addr) from z) (by simp)) (by simp))
    | some u =>
     rcases hO b with z | ⟨ob,xs,z⟩ | ⟨x,y,z⟩
     ·rw [q] at z;cases z
     ·have z2:=un.lp b ob _ z;obtain ⟨e1,_⟩:=hok b _ z;obtain ⟨e2,_⟩:=hok' b _ z2;rw [e] at e1;cases e1;exact .inl e2
     ·obtain ⟨ps,e2,_⟩:=hok' b _ (un.kX b x y z);rcases hA b (by rw [q];simp) with e' | ⟨t,ht,e'⟩
      ·subst e';obtain ⟨ps0,e3,_⟩:=hok b _ z;rw [ha] at e3;cases e3
      ·subst e';have e4:=(hT t ht).2;rw [e] at e4;cases e4;exact .inr (.inl ⟨((hT t ht).1.tab (hT t ht).2).isCodeTable,rfl,#[],ps,rfl,by rw [e2];simp⟩)
 have okT:∀ {H:Hp} {b:Addr} {u:HO},og b=some u->bj P w H s₁.heap b u:=fun {H b u} e=>by
  obtain ⟨t,ht,rfl,rfl⟩:=eX e;exact ⟨#[],(hT t ht).2,trivial,.inl rfl⟩
 cases hk:K.lookup a with
 | some o =>
  have e:=KX a o hk;rw [ha] at e;cases e;refine core og (fun b=>?_) (.inr ⟨_,vs.toArray,_,hk,rfl,rfl,rfl,by rw [Hx,lenV];exact hl,by simpa using rv⟩) (fun b u z=>okT z) (fun b z=>?_) (fun z=>?_) hTH
  ·cases q:og b with
   | none=>exact .inl rfl
   | some u=>obtain ⟨t,_,_,rfl⟩:=eX q;exact .inr (.inr ⟨_,_,rfl⟩)
  ·cases q:og b with
   | none=>exact absurd q z
   | some u=>obtain ⟨t,ht,e,_⟩:=eX q;exact .inr ⟨t,ht,e⟩
  ·cases q:og a with
   | none=>exact absurd q z
   | some u=>obtain ⟨t,ht,e,_⟩:=eX q;exact absurd e.symm (tA t ht)
 | none =>
  refine core (fun b=>if b=a then some (.frz { cls:=.type "list", data:=.seq vs.toArray } (.lst (ns.map V.int))) else og b) (fun b=>?_) (.inl (.inr ⟨{ cls:=.type "list", data:=.seq vs.toArray },Hv rfl⟩)) (fun b u z=>?_) (fun b z=>?_) (fun _=>hk) fun t ht=>(Hz (tA t ht)).trans (hTH t ht)
  ·by_cases hb:b=a
   ·exact .inr (.inl ⟨_,_,Hv hb⟩)
   ·cases q:og b with
    | none=>exact .inl ((Hz hb).trans q)
    | some u=>obtain ⟨t,_,_,rfl⟩:=eX q;exact .inr (.inr ⟨_,_,(Hz hb).trans q⟩)
  ·by_cases hb:b=a
   ·have z':=(Hv hb).symm.trans z;cases z';subst hb;exact ⟨ha,by rw [Hf];exact hl,vs,_,rv,ha⟩
   ·have z':=(Hz hb).symm.trans z;exact okT z'
  ·by_cases hb:b=a
   ·exact .inl hb
   ·cases q:og b with
    | none=>exact absurd ((Hz hb).trans q) z
    | some u=>obtain ⟨t,ht,e,_⟩:=eX q;exact .inr ⟨t,ht,e⟩
end L2
namespace L2
open PySem PySem.Spec PyProof.Rows
abbrev KOf {K:Fg} {h:Heap} (_:K.In h):Fg:=K
theorem wB {l:PySem.W.OpenLaw} {n k:Nat} {q:Program} {loose:List Str} {XP:(Str->Option Value)->Heap->Prop} {YP:World->Heap->Prop} {d:DefRec} {K:Params->Fg} {CX:World->CXT} {sp:World->Sp} {x:Str}
  (hn:l.most=some n) (hn2:n<=sizeLine) (hdf:d.params.defaults=[]) (hr:bN k callerA)
  (hY:∀ (w:World) (h:Heap),YP w h->(K w.params).In h)
  (hT:∀ (w:World) (h:Heap),YP w h->∀ t∈bp,PySem.W.CodeHd h t.1 t.2.1/\h.get? t.2.1=some (PySem.W.tabObj #[])) (hTK:∀ w:World,∀ t∈bp,(K w.params).lookup t.2.1=none) (hTH:yB og)
  (F:∀ (w:World) (mg:Str->Option Value) (fa:Addr) (h:Heap),(K w.params).In h->h.Ns mainGlobals mg->mg d.name=some (.ref fa) ->
   ∃ fd:FuncData,(∀ (s:Shared) (u:Value),BindsTo s fd ⟨[u],[]⟩ [(x,u)]) /\
    ∀ base:Heap,(K w.params).In base->base.Ns mainGlobals mg->bq l.prog w (K w.params) mg base (CX w) k fa fd [x] (sp w))
  (hsp:∀ (w:World) (H:Hp) (a:Addr) (ns:List Int),ns.length<=n->Cd H->SqL (K w.params) H a (ns.map V.int)->sp w [.ref a] H (fun v _=>v=.bl true) fun _ _ _=>False)
  (hCX:∀ (w:World) (H:Hp) (s:Shared) (e:Value) (s':Shared),CX w [] H s (fun _ _ _=>False) e s'->False) :
  PySem.W.WalkO q loose XP YP l.row.toRowW d [] (fun f vs=>PySem.call f vs):=by
 refine Att.lz hn hdf fun w s₀ s₁ mg mb fa o pm cd doc a vs ns G Y ho hd hcd hmg hobj hints hlen hg=>?_;have KX:=hY w _ Y;obtain ⟨fd,hb,hF⟩:=F w mg fa _ KX G.T.g hmg;exact tu KX G.T.g G.T.b G.T.builtins G.T.nolimit hg hobj hints (HJ hlen hn2) hr hF hb (hT w _ Y) (hTK w) hTH G.T.bmain (fun H hO hS=>hsp w H a ns hlen hO hS) fun H e s'=>hCX w H s₁ e s'
theorem tT {l:PySem.W.OpenLaw} {n k:Nat} {q:Program} {loose:List Str} {XP:(Str->Option Value)->Heap->Prop} {YP:World->Heap->Prop} {d:DefRec} {K:Params->Fg} {CX:CXT} {sp:Fg->Sp} {x:Str}
  (hn:l.most=some n) (hn2:n<=sizeLine) (hdf:d.params.defaults=[]) (hr:bN k callerA)
  (hY:∀ (w:World) (h:Heap),YP w h->(K w.params).In h)
  (hT:∀ (w:World) (h:Heap),YP w h->∀ t∈bp,PySem.W.CodeHd h t.1 t.2.1/\h.get? t.2.1=some (PySem.W.tabObj #[])) (hTK:∀ w:World,∀ t∈bp,(K w.params).lookup t.2.1=none) (hTH:yB og)
  (F:∀ (w:World) (mg:Str->Option Value) (fa:Addr) (h:Heap),(K w.params).In h->h.Ns mainGlobals mg->mg d.name=some (.ref fa) ->
   ∃ fd:FuncData,(∀ (s:Shared) (u:Value),BindsTo s fd ⟨[u],[]⟩ [(x,u)]) /\
    ∀ base:Heap,(K w.params).In base->base.Ns mainGlobals mg->bq l.prog w (K w.params) mg base CX k fa fd [x] (sp (K w.params)))
  (hsp:∀ (K:Fg) (H:Hp) (a:Addr) (ns:List Int),ns.length<=n->Cd H->SqL K H a (ns.map V.int)->sp K [.ref a] H (fun v _=>v=.bl true) fun _ _ _=>False)
  (hCX:∀ (H:Hp) (s:Shared) (e:Value) (s':Shared),CX [] H s (fun _ _ _=>False) e s'->False) :
  PySem.W.WalkO q loose XP YP l.row.toRowW d [] (fun f vs=>PySem.call f vs) :=
 wB (K:=K) (CX:=fun _=>CX) (sp:=fun w=>sp (K w.params)) hn hn2 hdf hr hY hT hTK hTH F (fun w H a ns h1 h2 h3=>hsp (K w.params) H a ns h1 h2 h3) fun _ H s e s'=>hCX H s e s'
end L2
namespace L2
open PySem PySem.Spec PyProof.Rows
noncomputable def gu (s:Stmt):Arguments:=match s with
 | .FunctionDef _ a _ _ _ _ _ _ _ _=>a
 | _=>{ posonlyargs:=[],args:=[],vararg:=none,kwonlyargs:=[],kw_defaults:=[],kwarg:=none,defaults:=[] }
noncomputable def bK (s:Stmt):List Stmt:=match s with
 | .FunctionDef _ _ b _ _ _ _ _ _ _=>b
 | _=>[]
noncomputable def aa (s:Stmt):Scope:=match s with
 | .FunctionDef _ _ _ _ _ _ sc _ _ _=>sc
 | _=>{ kind:=.function,names:=[],isGenerator:=false,isCoroutine:=false }
abbrev CX0:CXT:=fun _ _ _ _ _ _=>False
abbrev E0:XK:=fun _ _ _=>False
theorem oF {X:Cx}:Passes CX0 X E0:=fun _ _ _ _ _ _ _ h=>h.elim
structure Fun (K:Fg) (x qual:Str) (st:Stmt) (f:Addr) (fd:FuncData):Prop where
 ex:∃ (oc:Value) (od:Option Addr) (kV doc pm:Value) (an:Option Addr) (cdv ct:Value) (osl:Array (Option Value)),
  fd=PySem.W.fnOf x qual (gu st) (bK st) (aa st) .none kV doc pm an cdv ct/\K.lookup f=some ⟨oc,od,.func fd,osl⟩/\PySem.W.codeIn K cdv qual=true
 kp:PySem.W.keepIn K (.ref f)=true
section
variable {P:Program} {w:World} {K:Fg} {mg:Str->Option Value} {base:Heap}
theorem Fun.ok {x qual:Str} {st:Stmt} {f:Addr} {fd:FuncData} {N ps:List Str} {k:Nat} {sp:Sp} (F:Fun K x qual st f fd) (S:ao N ps (aa st)) (len:∀ vs H Q E,sp vs H Q E->vs.length=ps.length)
  (cB:∀ (cdv:Value) (A:Around) (outer:List Env) (s:Shared) (H:Hp) (vs:List V) (Q:VK) (E:XK),bN k (A.deeper (envOfC qual (aa st) s.heap.objs.size f cdv))->sp vs H Q E ->
   ∃ t,PSs (sy CX0 P w K mg base N qual (aa st) f cdv A outer s H E).nox (bK st) t/\t { nx:=fun _ H'=>Q .non H',rt:=Q } (start N vs) H):bq P w K mg base CX0 (k+1) f fd ps sp:=by
 obtain ⟨oc,od,kV,doc,pm,an,cdv,ct,osl,rfl,lk,hcd⟩:=F.ex;refine BE lk hcd S len fun A outer s H vs Q E hr hsp=>?_;obtain ⟨t,h,q⟩:=cB cdv A outer s H vs Q E hr hsp;exact ⟨t,h.nox,q⟩
theorem yW {x qual:Str} {st:Stmt} {f:Addr} {oc:Value} {od an:Option Addr} {osl:Array (Option Value)} {kV doc pm cdv ct:Value} (l:K.lookup f=some ⟨oc,od,.func (PySem.W.fnOf x qual (gu st) (bK st) (aa st) .none kV doc pm an cdv ct),osl⟩)
  (c:PySem.W.codeIn K cdv qual=true) (k:PySem.W.keepIn K (.ref f)=true):Fun K x qual st f (PySem.W.fnOf x qual (gu st) (bK st) (aa st) .none kV doc pm an cdv ct):=⟨⟨oc,od,kV,doc,pm,an,cdv,ct,osl,rfl,l,c⟩,k⟩
end
section
variable {X:Cx}
theorem pv (i:Nat) {x:Str} {pos:Pos} (hN:X.N[i]?=some x:=by rfl) (hv:Vis X.env.scope x:=by first | exact Or.inl rfl | exact Or.inr (Or.inl rfl) | exact Or.inr (Or.inr rfl)) (hd:(x==("__debug__" : Str))=false:=by decide)
  (hcd:(x==("__classdict__" : Str))=false:=by decide):PE X (.Name x pos) (aJ i):=pY hN hv hd hcd
end
def az (H H':Hp):Prop:=∀ b o,H b=some o->H' b=some o
theorem az.refl (H:Hp):az H H:=fun _ _ h=>h
theorem az.trans {H H1 H2:Hp} (a:az H H1) (b:az H1 H2):az H H2:=fun c o h=>b c o (a c o h)
theorem az.free {H H':Hp} (e:az H H') {l:Addr} (h:H' l=Option.none):H l=Option.none:=by
 cases q:H l with
 | none=>rfl
 | some o =>
  rw [e l o q] at h;cases h
theorem az.seq {K:Fg} {H H':Hp} {a:Addr} {xs:List V} (e:az H H') (h:SqL K H a xs):SqL K H' a xs:=by
 rcases h with (h | ⟨o,h⟩) | h
 ·exact .inl (.inl (e _ _ h))
 ·exact .inl (.inr ⟨o,e _ _ h⟩)
 ·exact .inr h
noncomputable def kW (env:Env):List (Str×NameKind)->List (Str×Addr)->List (Str×Addr)
 | [],cs=>cs
 | (n,k) :: r,cs=>kW env r (if k==.free then (n,(env.cells.lookup n).getD 0) :: cs else cs)
theorem cI {env:Env}:∀ (ns:List (Str×NameKind)) (cs:List (Str×Addr)),(∀ y∈ns,y.2=.free->∃ c,env.cells.lookup y.1=some c) ->
  (forIn ns cs (fun (x:Str×NameKind) (r:List (Str×Addr))=>if (x.2==NameKind.free)=true then (cellOf env x.1>>=fun a=>pure (ForInStep.yield ((x.1,a) :: r)):Sem _) else pure (ForInStep.yield r)):Sem (List (Str×Addr)))=pure (kW env ns cs)
 | [],_,_=>rfl
 | (n,k) :: r,cs,h=>by
  rw [List.forIn_cons];by_cases hk:k=.free
  ·subst hk;obtain ⟨c,e⟩:=h (n,.free) Hu rfl;have e':env.cells.lookup n=some c:=e;have q:=cI (env:=env) r ((n,c) :: cs) fun y hy=>h y (Hr _ hy);have z:kW env ((n,NameKind.free) :: r) cs=kW env r ((n,c) :: cs):=by
    show kW env r (if (NameKind.free==NameKind.free)=true then (n,(env.cells.lookup n).getD 0) :: cs else cs)=_;rw [Hv (by decide),e'];rfl
   have k:cellOf env n=pure c:=by
    unfold cellOf;rw [e']
   rw [z,<-q];dsimp only;rw [Hv (by decide),k];rfl
  ·have hb:(k==NameKind.free)=false:=by simpa using hk
   have q:=cI (env:=env) r cs fun y hy=>h y (Hr _ hy);have z:kW env ((n,k) :: r) cs=kW env r cs:=by
    show kW env r (if (k==NameKind.free)=true then (n,(env.cells.lookup n).getD 0) :: cs else cs)=_;rw [hb,Hz Ig]
   rw [z,<-q];dsimp only;rw [hb,Hz Ig];rfl
theorem iS {scope:Scope} {env:Env} (h:∀ y∈scope.names,y.2=.free->∃ c,env.cells.lookup y.1=some c):closureFor scope env=pure (kW env scope.names []):=by
 have q:=cI (env:=env) scope.names [] h;unfold closureFor;show (forIn scope.names [] _>>=_:Sem _)=_;refine Eq.trans (congrArg (fun m:Sem (List (Str×Addr))=>m>>=fun r=>pure r) (Eq.trans ?_ q)) rfl;rfl
theorem mE {env:Env}:∀ (ns:List (Str×NameKind)) (cs:List (Str×Addr)),(∀ y∈ns,y.2=.free->∃ c,env.cells.lookup y.1=some c)->(∀ y c,cs.lookup y=some c->env.cells.lookup y=some c) ->
  ∀ y c,(kW env ns cs).lookup y=some c->env.cells.lookup y=some c
 | [],_,_,g,y,c,e=>g y c e
 | (n,k) :: r,cs,h,g,y,c,e=>by
  refine mE r _ (fun z hz=>h z (Hr _ hz)) (fun z d e'=>?_) y c e;by_cases hk:(k==NameKind.free)=true
  ·rw [Hv hk] at e';rw [JQ] at e';obtain ⟨c',ec⟩:=h (n,k) Hu (by simpa using hk);have ec':env.cells.lookup n=some c':=ec;cases hz:z==n with
   | true =>
    rw [hz] at e';have hzn:z=n:=by simpa using hz
    subst hzn;rw [ec'] at e' ⊢;exact e'
   | false=>rw [hz] at e';exact g z d e'
  ·rw [Hz hk] at e';exact g z d e'
theorem kI {env:Env} {y:Str}:∀ (ns:List (Str×NameKind)) (cs:List (Str×Addr)),(∃ c,cs.lookup y=some c)->∃ c,(kW env ns cs).lookup y=some c
 | [],_,h=>h
 | (n,k) :: r,cs,h=>by
  refine kI r _ ?_;by_cases hk:(k==NameKind.free)=true
  ·rw [Hv hk,JQ];cases y==n
   ·exact h
   ·exact ⟨_,rfl⟩
  ·rw [Hz hk];exact h
theorem fF {env:Env} {y:Str}:∀ (ns:List (Str×NameKind)) (cs:List (Str×Addr)),(y,NameKind.free)∈ns->∃ c,(kW env ns cs).lookup y=some c
 | [],_,h=>by simp at h
 | (n,k) :: r,cs,h=>by
  rcases HB.mp h with e | h
  ·cases e;show ∃ c,(kW env r (if (NameKind.free==NameKind.free)=true then (y,(env.cells.lookup y).getD 0) :: cs else cs)).lookup y=some c;refine kI r _ ⟨(env.cells.lookup y).getD 0,?_⟩;rw [Hv (by decide),JQ,Jp]
  ·exact fF r _ h
theorem bH {env:Env} {y:Str} {k:NameKind}:∀ (ns:List (Str×NameKind)),
  (ns.map fun (n,k)=>if (k==NameKind.free&&env.scope.kind==.function&&env.kindOf n==some .cell) then (n,NameKind.cell) else (n,k)).lookup y=some k->(y,k)∈ns\/(k=.cell/\(y,NameKind.free)∈ns)
 | [],h=>by simp at h
 | (n,k') :: r,h=>by
  have ih:=fun q=>bH (env:=env) (y:=y) (k:=k) r q;rw [List.map_cons] at h;have h2:=h;have again:=fun q=>(ih q).elim (fun q=>Or.inl (Hr (n,k') q)) fun q=>(Or.inr ⟨q.1,Hr (n,k') q.2⟩:(y,k)∈(n,k') :: r\/(k=.cell/\(y,NameKind.free)∈(n,k') :: r));dsimp only at h2;clear h;by_cases hc:(k'==NameKind.free&&env.scope.kind==.function&&env.kindOf n==some .cell)=true
  ·rw [Hv hc,JQ] at h2;cases hy:y==n with
   | true =>
    rw [hy] at h2;have e1:y=n:=by simpa using hy
    have hk:k'=.free:=by
     have:=hc;simp at this;exact this.1.1
    have e2:k=.cell:=(HV h2).symm;exact .inr ⟨e2,by rw [e1,hk];exact Hu⟩
   | false=>rw [hy] at h2;exact again h2
  ·rw [Hz hc,JQ] at h2;cases hy:y==n with
   | true =>
    rw [hy] at h2;have e1:y=n:=by simpa using hy
    have e2:k'=k:=HV h2;exact .inl (by rw [e1,e2];exact Hu)
   | false=>rw [hy] at h2;exact again h2
noncomputable def cxB (X:Cx) (N':List Str) (scope:Scope) (C:Addr) (s3:Shared) (H3:Hp) (ex:List Addr):Cx :=
  { prog:=X.prog,w:=X.w,K:=X.K,mg:=X.mg,base:=X.base,A:=X.A,N:=N',s₀:=s3,H₀:=H3,env:=compEnvC scope (kW X.env scope.names []) C X.env,outer:=X.stack,stack:=X.stack,ex:=ex,
    fn:=fun _=>false,calm:=true,pn:=[],xe:=fun _ _=>False }
def ei (X:Cx) (scope:Scope):List Str->List Nat->Prop
 | [],[]=>True
 | y :: ys,j :: js=>X.N[j]?=some y/\(X.env.scope.names.lookup y=some .cell/\scope.names.lookup y=some .free)/\ei X scope ys js
 | _,_=>False
theorem ei.get {X:Cx} {scope:Scope}:∀ {ys:List Str} {js:List Nat} {k:Nat} {y:Str},ei X scope ys js->ys[k]?=some y->∃ j,js[k]?=some j/\X.N[j]?=some y/\X.env.scope.names.lookup y=some .cell/\scope.names.lookup y=some .free
 | [],_,_,_,_,e=>by simp at e
 | _ :: _,[],_,_,h,_=>False.elim h
 | y :: ys,j :: js,0,z,h,e=>by simp at e;subst e;exact ⟨j,rfl,h.1,h.2.1⟩
 | y :: ys,j :: js,k+1,z,h,e=>by
  obtain ⟨j',e1,e2⟩:=ei.get (k:=k) h.2.2 (by simpa using e);exact ⟨j',by simpa using e1,e2⟩
theorem ei.len {X:Cx} {scope:Scope}:∀ {ys:List Str} {js:List Nat},ei X scope ys js->ys.length=js.length
 | [],[],_=>rfl
 | _ :: _,_ :: _,h=>by simp [ei.len h.2.2]
 | [],_ :: _,h=>False.elim h
 | _ :: _,[],h=>False.elim h
noncomputable def aZ (js:List Nat) (σ:St):St:=js.map fun j=>(σ[j]?).getD none
structure fw (X:Cx) (scope:Scope) (x:Str):Prop where
 kind:scope.kind=.function
 cells:∀ y∈scope.names,y.2≠.cell
 locs:∀ y∈scope.names,y.2=.local->scope.names.lookup y.1=some .local
 var:scope.names.lookup x=some .local
 free:∀ y∈scope.names,y.2=.free->X.env.scope.names.lookup y.1=some .cell
def PTs (X:Cx) (ifs:List Expr) (t:TT):Prop :=
 ∀ (pins:List (Addr×Obj)) (s:Shared) (σ:St) (H:Hp) (Q:Bool->Hp->Prop),Inv X pins σ H s->t σ H Q ->
  wpAny (model X.prog X.w) X.A (forIn ifs true fun c r=>if r=true then do let ok<-isTrue c X.env (eval c X.env);pure (ForInStep.yield ok) else pure (ForInStep.yield r)) (TP X pins σ Q) X.xe s
def Ao:TT:=fun _ H Q=>Q true H
theorem xb {X:Cx}:PTs X [] Ao:=fun _ _ _ H _ I h=>wpAny_tests_nil ⟨H,I,h⟩
theorem wG {X:Cx} {c:Expr} {t:TT} (h:PT X c t):PTs X [c] t:=fun pins s σ H Q I q=>wpAny_tests_one (h pins s σ H Q I q)
theorem rR {X:Cx} {pins:List (Addr×Obj)} {σ:St} {H:Hp} {s3:Shared} {h1:Heap} {tk:Nat} {scope:Scope} {x:Str} {ys:List Str} {js:List Nat} {ex:List Addr} (I:Inv X pins σ H s3) (hc:X.calm=true) (B:fw X scope x) (cap:ei X scope ys js)
  (hns:h1.Ns s3.heap.objs.size (fun _=>none)) (hk:∀ b o,s3.heap.get? b=some o->h1.get? b=some o)
  (hex:∀ b∈ex,b ∉ frs X.stack/\b < s3.heap.objs.size/\(∀ y c,X.env.cells.lookup y=some c->c≠b)/\X.base.get? b=none) :
  Inv (cxB X (x :: ys) scope s3.heap.objs.size s3 H ex) [] (none :: aZ js σ) H { s3 with heap:=h1,toks:=tk }:=by
 have hfree:∀ y∈scope.names,y.2=.free->∃ c,X.env.cells.lookup y.1=some c:=fun y hy hf=>I.ok.has y.1 (.inl (B.free y hy hf));have sub:=mE (env:=X.env) scope.names [] hfree (fun _ _ e=>by simp at e)
 refine ⟨⟨I.ok.mod,B.kind,I.ok.glob,I.ok.blt,Hn _,fun y z c h1 h2=>I.ok.inj y z c (sub _ _ h1) (sub _ _ h2),fun y hy=>?_,fun y c hf _=>?_,fun _=>I.ok.hd hc,I.ok.frames,.inl rfl,fun b hb=>?_,fun b o e=>I.bs b o e,HJ I.ok.bsz I.sz,fun b o e hb=>?_,fun b hb=>(hex b hb).1,I.stack,I.pX,fun t ht=>I.base.kX _ _ _ (I.ok.tabs t ht)⟩,
  rfl,I.bare,Un.kept hk,⟨_,hns,fun i y v e1 e2 e3=>?_⟩,fun y c e=>?_,I.hok.fresh (Hn _),fun y c e=>I.cM y c (sub _ _ e),fun p hp=>absurd (show p∈([]:List (Addr×Obj)) from hp) (by simp),I.hok.kept hk,?_⟩
 ·have hy:(relabel scope X.env).names.lookup y=some .cell\/(relabel scope X.env).names.lookup y=some .free:=hy;rcases hy with hy | hy
  ·rcases bH _ hy with q | ⟨_,q⟩
   ·exact absurd rfl (B.cells _ q)
   ·exact fF _ _ q
  ·rcases bH _ hy with q | ⟨q,_⟩
   ·exact fF _ _ q
   ·cases q
 ·exact absurd (show false=true from hf) (by simp)
 ·exact ⟨HH (hex b hb).2.1,fun y c e=>(hex b hb).2.2.1 y c (sub _ _ e)⟩
 ·have e':X.base.get? b=some o:=e;have:=(hex b hb).2.2.2;rw [e'] at this;cases this
 ·cases i with
  | zero=>simp at e2
  | succ i =>
   have e1':ys[i]?=some y:=by simpa [cxB] using e1
   have e2':(aZ js σ)[i]?=some (some v):=by simpa using e2
   obtain ⟨j,ej,en,ec,ef⟩:=cap.get e1';have e4:σ[j]?=some (some v):=by
    unfold aZ at e2';rw [Hq,ej] at e2';simp only [Option.map_some,Option.some.injEq] at e2';cases q:σ[j]? with
    | none=>rw [q] at e2';cases e2'
    | some w=>rw [q] at e2';simp at e2';rw [e2']
   obtain ⟨m,hn,hl⟩:=I.loc;obtain ⟨u,r,l⟩:=hl j y v en e4 (.inr (.inl ec));refine ⟨u,r,.inr ?_⟩;rcases l with ⟨kl,_⟩ | ⟨kc,c,ecl,cell⟩
   ·have kl:X.env.scope.names.lookup y=some .local:=kl;rw [ec] at kl;cases kl
   ·have e3:(relabel scope X.env).names.lookup y=some .local\/(relabel scope X.env).names.lookup y=some .cell\/(relabel scope X.env).names.lookup y=some .free:=e3;refine ⟨?_,?_⟩
    ·rcases e3 with q | q | q
     ·rcases bH _ q with q | ⟨q,_⟩
      ·have:=B.locs _ q rfl;rw [ef] at this;cases this
      ·cases q
     ·exact .inl q
     ·exact .inr q
    ·have mem:(y,NameKind.free)∈scope.names:=Io ef;obtain ⟨c',ec'⟩:=fF (env:=X.env) scope.names [] mem;have:=sub _ _ ec';rw [ecl] at this;cases this;obtain ⟨o,ho,hd⟩:=cell;exact ⟨c,ec',o,hk _ _ ho,hd⟩
 ·obtain ⟨v,o,ho,hd⟩:=I.cell y c (sub _ _ e);exact ⟨v,o,hk _ _ ho,hd⟩
 ·show (none :: aZ js σ).length=(x :: ys).length;rw [HA,HA,cap.len];unfold aZ;rw [Hf]
def gm (js:List Nat) (wi:TI) (tt:TT) (te:TE):TE:=fun σ H Q=>wi σ H fun J H1=>∃ W:Nat->Nat->List V->Hp->Prop,(∃ m,W 0 m [] H1)/\∀ i m acc H,W i m acc H ->
 (J.stop i H/\acc.length<=sizeLine/\∀ p,H p=none->Q (.ref p) (upd H p (.lst acc)))\/(J.go i H/\acc.length < sizeLine/\∀ x H',J.yld i H x H' ->
  tt (some x :: aZ js σ) H' fun b H2=>if b=true then te (some x :: aZ js σ) H2 fun y H3=>∃ m',m' < m/\W (i+1) m' (acc++[y]) H3 else ∃ m',m' < m/\W (i+1) m' acc H2)
theorem sL {M:Model} {A:Around} {α β:Type} {E E':Value->Shared->Prop} {a:α} {t:Sem α} {u:Sem β} {Q:α->Shared->Prop} {R:β->Shared->Prop} {s s':Shared} (e:t=pure a) (h:wpAny M A t Q E s) (k:Q a s->wpAny M A u R E' s'):wpAny M A u R E' s':=by
 subst e;exact fun Γ p hΓ=>k (h Γ p hΓ) Γ p hΓ
theorem mJ {X:Cx} {pins:List (Addr×Obj)} {σ:St} {H:Hp} {s2:Shared} {elt iter:Expr} {x:Str} {px pos:Pos} {ifs:List Expr} {scope:Scope} {tt:TT} {te:TE} {ys:List Str} {js:List Nat} {it:Addr} {fp:List Addr} {tn:Nat->Heap->Prop} {J:It}
    {Q:VK} {E:Value->Shared->Prop} {RR:Value->Addr->Result->Shared->Prop} (hc:X.calm=true) (B:fw X scope x) (nd:(x :: ys).Nodup) (cap:ei X scope ys js)
    (ht:∀ C s3 H3 ex,PTs (cxB X (x :: ys) scope C s3 H3 ex) ifs tt) (he:∀ C s3 H3 ex,PE (cxB X (x :: ys) scope C s3 H3 ex) elt te)
    (I:Inv X pins σ H s2) (T:Turn X.prog X.w X.K (.Name x px) J fp it tn) (h0:tn 0 s2.heap) (hf:∀ b∈fp,t8 X pins H b)
    (W:Nat->Nat->List V->Hp->Prop) (w0:∃ m,W 0 m [] H)
    (turn:∀ i m acc H,W i m acc H->(J.stop i H/\acc.length<=sizeLine/\∀ p,H p=none->Q (.ref p) (upd H p (.lst acc)))\/(J.go i H/\acc.length < sizeLine/\∀ x H',J.yld i H x H' ->
      tt (some x :: aZ js σ) H' fun b H2=>if b=true then te (some x :: aZ js σ) H2 fun y H3=>∃ m',m' < m/\W (i+1) m' (acc++[y]) H3 else ∃ m',m' < m/\W (i+1) m' acc H2))
    (hRR:∀ (D C:Addr) (H':Hp) (s':Shared) (m':Str->Option Value),s'.heap.Ns C m'->s2.heap.objs.size<=C->C≠D->H' C=none->Inv X pins σ H' s'->Q (.ref D) H'->RR (.ref D) C (.ok .next) s') :
    wpAny (model X.prog X.w) X.A (newList []) (fun acc s₃=>wpAny (model X.prog X.w) X.A (newFunctionEnv scope X.env.globals (kW X.env scope.names []) [] X.env.qual none .none (some X.env)) (fun cenv s₄ =>
      codeAny (model X.prog X.w) X.A (.compStart (.ListComp elt [⟨.Name x px,iter,ifs,0⟩] scope pos) 0 (.ref it) acc { cenv with scope:=relabel scope X.env }) (RR acc cenv.locals) s₄) E s₃) E s2:=by
  refine Ia (wpAny_newFunctionEnv B.cells (by intro y hy;simp at hy) (fun h1 hns hsb=>?_) B.kind);dsimp only at hns hsb ⊢;have hD:H s2.heap.objs.size=none:=I.hok.fresh (Hn _);generalize hH2:s2.heap.push { cls:=.type "list", dict:=none,data:=.seq ([]:List Value).toArray }=P2 at hns hsb ⊢;have hgetD:P2.get? s2.heap.objs.size=some { cls:=.type "list", dict:=none,data:=.seq ([]:List Value).toArray }:=by rw [<- hH2];exact Hy _ rfl
  have hold:∀ b o,s2.heap.get? b=some o->P2.get? b=some o:=fun b o e=>by rw [<- hH2];exact Hm _ e
  have hsz:P2.objs.size=s2.heap.objs.size+1:=by rw [<- hH2,Heap.size_push]
  have I3:Inv X pins σ H { s2 with heap:=P2,toks:=s2.toks }:=I.kept hold;generalize hDe:s2.heap.objs.size=D at *;have keep1:∀ b o,P2.get? b=some o->h1.get? b=some o:=fun b o e=>hsb.extBut b o (HH (Ht e)) (Hm _ e);have hfp:∀ b∈fp,b < D:=fun b hb=>by
    obtain ⟨o,e,_⟩:=T.obj _ _ h0 b hb;rw [<- hDe];exact Ht e
  have hstk:∀ b,b≠X.env.locals->b ∉ X.fs->b ∉ frs X.stack:=fun b h1 h2 z=>(HB.mp (I.mM b z)).elim h1 h2;have hDl:D≠X.env.locals:=fun z=>absurd I.lt (by rw [hDe,z];exact Ic _);have hDfs:D ∉ X.fs:=I.yD (by rw [hDe];exact Hn _);have hDc:∀ y c,X.env.cells.lookup y=some c->c≠D:=fun y c e z=>by
    obtain ⟨v,q⟩:=I.cell y c e;have:=q.lt;rw [z,hDe] at this;exact absurd this (Ic _)
  have hex:∀ b∈D :: fp,b ∉ frs X.stack/\b < ({ s2 with heap:=P2,toks:=s2.toks }:Shared).heap.objs.size/\(∀ y c,X.env.cells.lookup y=some c->c≠b)/\X.base.get? b=none:=fun b hb=>by
    rcases HB.mp hb with rfl | hb
    · refine ⟨hstk _ hDl hDfs,by show _ < P2.objs.size;rw [hsz];exact IZ _,hDc,?_⟩;cases q:X.base.get? b with
      | none=>rfl
      | some o =>
        have:=Ht (I.bk b o q);rw [hDe] at this;exact absurd this (Ic _)
    · obtain ⟨f0,f1,f2,f3,f4,f5⟩:=hf b hb;refine ⟨hstk _ f1 f2,by show _ < P2.objs.size;rw [hsz];exact IW (hfp b hb),f4,?_⟩;cases q:X.base.get? b with
      | none=>rfl
      | some o =>
        rcases f3 with z | z
        · exact absurd z (I.ok.wH b o q)
        · exact absurd (HF (Ht q) (HJ I.ok.bsz z)) (Ic _)
  have IB:=rR (tk:=s2.toks) (ex:=D :: fp) I3 hc B cap (h1:=h1) hns keep1 hex;have hCD:P2.objs.size≠D:=by rw [hsz];exact Nat.succ_ne_self _
  have start:codeAny (model X.prog X.w) X.A (.compLoop (.ListComp elt [⟨.Name x px,iter,ifs,0⟩] scope pos) 0 (.ref it) (.ref D) (compEnvC scope (kW X.env scope.names []) P2.objs.size X.env)) (RR (.ref D) P2.objs.size) { s2 with heap:=h1,toks:=s2.toks }:=by
    obtain ⟨m0,w0⟩:=w0;refine codeAny_compLoop_tests (fun n s=>∃ i v0 H' acc its k,Inv (cxB X (x :: ys) scope P2.objs.size { s2 with heap:=P2,toks:=s2.toks } H (D :: fp)) [] (v0 :: aZ js σ) H' s/\tn i s.heap/\(∀ b∈D :: fp,H' b=none)/\s.heap.get? D=some { cls:=.type "list", data:=.seq its k }/\Vals acc its.toList/\acc.length<=sizeLine/\W i n acc H') ?_ m0 ?_
    · rintro n s ⟨i,v0,H3,acc,its,k,I4,t4,fr4,g4,va,hl4,w4⟩;have hDm:D∈D :: fp:=Hu;have exf:=I4.ok.exf;have fsub:∀ b∈D :: fp,b ∉ (cxB X (x :: ys) scope P2.objs.size { s2 with heap:=P2,toks:=s2.toks } H (D :: fp)).fs:=fun b hb=>(hex b hb).1;have stat:∀ {H':Hp} {ob:Obj},(∀ b∈fp,H' b=none)->∀ b∈fp,t8 (cxB X (x :: ys) scope P2.objs.size { s2 with heap:=P2,toks:=s2.toks } H (D :: fp)) [(D,ob)] H' b:=fun {H' ob} hn b hb =>
        ⟨hn b hb,(exf b (Hr _ hb)).1,fsub b (Hr _ hb),.inl (Hr _ hb),(exf b (Hr _ hb)).2,fun p hp z=>by
          have hp':p∈[(D,ob)]:=hp;have e:=Hw.mp hp';rw [e] at z
          exact absurd (hfp b hb) (by rw [<- show D=b from z];exact Ic _)⟩
      have frp:∀ b∈fp,H3 b=none:=fun b hb=>fr4 b (Hr _ hb);have I5:Inv (cxB X (x :: ys) scope P2.objs.size { s2 with heap:=P2,toks:=s2.toks } H (D :: fp)) [(D,{ cls:=.type "list", data:=.seq its k })] (v0 :: aZ js σ) H3 s:=I4.b8 fun p hp=>by
        rw [Hw.mp hp];exact ⟨g4,fr4 D hDm,(exf D hDm).1,fsub D hDm,fun v z=>nomatch z⟩
      rcases turn i n acc H3 w4 with ⟨stop,hacc,q⟩ | ⟨go,hacc,step⟩
      · refine HR (T.done (cxB X (x :: ys) scope P2.objs.size { s2 with heap:=P2,toks:=s2.toks } H (D :: fp)) rfl rfl rfl rfl i _ s _ H3 (fun _ _=>False) I5 (stat frp) t4 stop) (fun r s1 ⟨hr,I6⟩=>?_) (fun _ _ z=>z.elim);subst hr;obtain ⟨m',hn',_⟩:=id I6.loc;have pD:=(I6.pin (D,{ cls:=.type "list", data:=.seq its k }) (HD _ (Hw.mpr rfl))).1;have nD:H3 D=none:=fr4 D hDm;have u:=I6.base;have uu:Un (frs X.stack) (D :: fp) H (upd H3 D (.lst acc)) P2 s1.heap :=
          ⟨u.keep,u.slot,fun b o q n hx=>by rw [ab fun z=>hx (by rw [z];exact hDm)];exact u.free b o q n hx,u.there,
           fun b xs q=>by rw [ab (ae (u.oj b xs q) nD)];exact u.oj b xs q,fun b o v q=>by rw [ab (ae (u.lp b o v q) nD)];exact u.lp b o v q,
           fun b x y q=>by rw [ab (ae (u.kX b x y q) nD)];exact u.kX b x y q⟩
        have hok:HOk X.prog X.w (upd H3 D (.lst acc)) s1.heap:=fun b o e=>by
          by_cases hb:b=D
          · subst hb;rw [ag] at e;cases e;exact ⟨hacc,its.toList,k,va,by rw [Array.toArray_toList];exact pD⟩
          · rw [ab hb] at e;exact (I6.hok b o e).jk (fun c v _ q=>q) (fun c q=>by rw [ab (ae q nD)];exact q) (fun c xs q=>by rw [ab (ae q nD)];exact q) fun c o u vs q _=>by rw [ab (ae q nD)];exact q
        have fin:=I3.call (g':=s1.gens) (t':=s1.toks) (d':=s1.drawn) uu hok I6.bare (fun b hb=>by
          rcases HB.mp hb with z | hb
          · rw [z];refine ⟨.inr (by rw [<- hDe];exact I.sz),hDl,hDc,fun p hp z=>?_⟩;have:=Ht (I.pin p hp).1;rw [z,hDe] at this;exact Ic _ this
          · exact ⟨(hf b hb).2.2.2.1,(hf b hb).2.1,(hf b hb).2.2.2.2.1,(hf b hb).2.2.2.2.2⟩)
        have es:({ heap:=s1.heap,gens:=s1.gens,drawn:=s1.drawn,toks:=s1.toks,os:=s2.os }:Shared)=s1:=by
          have:=I6.os;obtain ⟨a1,a2,a3,a4,a5⟩:=s1;have e5:a5=s2.os:=this;rw [e5]
        have fin':Inv X pins σ (upd H3 D (.lst acc)) s1:=es▸fin;exact hRR D P2.objs.size (upd H3 D (.lst acc)) s1 m' hn' (by rw [hsz];exact JK _) hCD (by rw [ab hCD];exact I6.free) fin' (q D nD)
      · refine HR (T.item (cxB X (x :: ys) scope P2.objs.size { s2 with heap:=P2,toks:=s2.toks } H (D :: fp)) rfl rfl rfl rfl i _ s _ H3 (fun _ _=>False) I5 (stat frp) t4 go) (fun r s1 ⟨u,hr,h4⟩=>?_) (fun _ _ z=>z.elim);subst hr;refine sL (a:=()) rfl h4 fun ⟨x',H5,I6,r6,y6,t6,fr6⟩=>?_;have I7:=I6.pinned (stat fr6) (T.obj _ _ t6);have kx:(relabel scope X.env).names.lookup x=some .local:=lookup_relabel_local B.var;have pg:PG (cxB X (x :: ys) scope P2.objs.size { s2 with heap:=P2,toks:=s2.toks } H (D :: fp)) (.Name x px) (aT 0):=jl nd rfl (.inl kx) (.inr kx);refine HR (pg _ s1 _ H5 x' u (fun σ' H'=>σ'=some x' :: aZ js σ/\H'=H5) I7 r6 ⟨rfl,rfl⟩) (fun _ s2' ⟨σ6,H6,I8,e1,e2⟩=>?_) (fun _ _ z=>z.elim);subst e1 e2;refine HR (ht _ _ _ _ _ s2' _ _ _ I8 (step x' H6 y6)) (fun b s3' ⟨H7,I9,q9⟩=>?_) (fun _ _ z=>z.elim);have pinsKeep:∀ {σ':St} {H':Hp} {s':Shared},Inv (cxB X (x :: ys) scope P2.objs.size { s2 with heap:=P2,toks:=s2.toks } H (D :: fp)) ([(D,{ cls:=.type "list", data:=.seq its k })]++ko fp s1.heap) σ' H' s' ->
            s'.heap.get? D=some { cls:=.type "list", data:=.seq its k }/\(∀ b∈D :: fp,H' b=none)/\∀ b∈fp,∀ o,s1.heap.get? b=some o->s'.heap.get? b=some o:=fun {σ' H' s'} J=>by
          have pd:=J.pin (D,{ cls:=.type "list", data:=.seq its k }) (HD _ (Jt _ (Hw.mpr rfl)));refine ⟨pd.1,fun b hb=>?_,fun b hb o e=>(J.pin (b,o) (HD _ (HD _ (c7 hb e)))).1⟩;rcases HB.mp hb with rfl | hb
          · exact pd.2.1
          · obtain ⟨o,e,_⟩:=T.obj _ _ t6 b hb;exact (J.pin (b,o) (HD _ (HD _ (c7 hb e)))).2.1
        cases b with
        | false =>
          rw [Hz Ig] at q9;obtain ⟨m',hm,w9⟩:=q9;obtain ⟨p1,p2,p3⟩:=pinsKeep I9;rw [Hz Ig];exact ⟨m',hm,i+1,some x',H7,acc,its,k,I9.b8 (fun p hp=>absurd hp (by simp)),T.keep _ _ _ t6 p3,p2,p1,va,hl4,w9⟩
        | true =>
          rw [Hv rfl] at q9;rw [Hv rfl];refine HR (he _ _ _ _ _ s3' _ _ _ I9 q9) (fun y s4' ⟨yv,H8,I10,ry,m',hm,w10⟩=>?_) (fun _ _ z=>z.elim);obtain ⟨p1,p2,p3⟩:=pinsKeep I10;have hsize:its.size=acc.length:=by rw [va.length];simp
          have I11:=I10.b8 (pins':=[]) (fun p hp=>absurd hp (by simp));refine wpAny_list_append_plain ⟨k,p1⟩ (fun h' hpl hsame=>?_) (by rw [hsize];exact Jk hacc);obtain ⟨k',e'⟩:=hpl;have neD:∀ {b:Addr} {o:HO},H8 b=some o->b≠D:=fun e z=>by rw [z,p2 D hDm] at e;cases e
          refine ⟨m',hm,i+1,some x',H8,acc++[yv],its.push y,k',?_,?_,p2,e',?_,?_,w10⟩
          · refine I11.step (g':=s4'.gens) (t':=s4'.toks) (d':=s4'.drawn) (ch:=[D]) (fun b hb=>?_) (fun b o _ _ hc' e _=>?_) (fun b o _ _ hc' e _=>⟨o.slots,?_⟩) (fun b o hc' e n=>n) (fun b o hc' e=>⟨o,?_⟩) (fun _ _ z=>z) (fun _ _ _ z=>z) (fun _ _ _ z=>z) (fun m hn=>hn.sameBut hsame (Ne.symm (exf D hDm).1)) (fun b o e=>?_) I11.bare
            · rw [Hw.mp hb];exact ⟨.inl hDm,(exf D hDm).1,(exf D hDm).2,fun p hp=>absurd (show p∈([]:List (Addr×Obj)) from hp) (by simp)⟩
            · exact (hsame.2 b fun z=>hc' (Hw.mpr z)).trans e
            · exact (hsame.2 b fun z=>hc' (Hw.mpr z)).trans e
            · exact (hsame.2 b fun z=>hc' (Hw.mpr z)).trans e
            · refine (I11.hok b o e).jk (fun c v hc' q=>(hsame.2 c ?_).trans q) (fun _ q=>q) (fun _ _ q=>q) fun _ _ _ _ q _=>q;rcases hc' with z | z
              · rw [z];exact neD e
              · exact neD z
          · refine T.keep _ _ _ t6 fun b hb o e=>(hsame.2 b ?_).trans (p3 b hb o e);exact HH (hfp b hb)
          · rw [JL];exact va.append (.cons ry .nil)
          · rw [Ho,IS];exact hacc
    · refine ⟨0,none,H,[],#[],_,IB,T.keep _ _ _ h0 (fun b hb o e=>keep1 b o (hold b o e)),fun b hb=>?_,keep1 _ _ hgetD,.nil,Ip _,w0⟩;rcases HB.mp hb with rfl | hb
      · exact hD
      · exact (hf b hb).1
  exact codeAny_compStart_list start (T.self _ 0 _ _ _ (T.keep _ _ _ h0 (fun b hb o e=>keep1 b o (hold b o e))) start)
theorem x9 {X:Cx} {elt iter:Expr} {x:Str} {px pos:Pos} {ifs:List Expr} {scope:Scope} {wi:TI} {tt:TT} {te:TE} {ys:List Str} {js:List Nat} (hc:X.calm=true) (hi:PI X (.Name x px) iter wi) (B:fw X scope x) (nd:(x :: ys).Nodup) (cap:ei X scope ys js)
  (ht:∀ C s3 H3 ex,PTs (cxB X (x :: ys) scope C s3 H3 ex) ifs tt) (he:∀ C s3 H3 ex,PE (cxB X (x :: ys) scope C s3 H3 ex) elt te) (hs:∀ x,foldedSetIterable iter X.env x=pure x:=by intro _;rfl) :
  PE X (.ListComp elt [⟨.Name x px,iter,ifs,0⟩] scope pos) (gm js wi tt te):=by
 intro pins s σ H Q I h;have hcl:=iS (scope:=scope) (env:=X.env) fun y hy hf=>I.ok.has y.1 (.inl (B.free y hy hf));rw [eval_ListComp];refine wpAny_comprehension_free (use:=none) rfl hs hcl B.kind B.locs (HR (hi pins s σ H _ I h) (fun xv s1 h1=>HR h1 (fun itv s2 h2=>?_) fun _ _ e=>e) fun _ _ e=>e);obtain ⟨it,fp,tn,J,H2,e,I2,T,st2,f2,W,w0,turn⟩:=h2;subst e;refine mJ (RR:=fun acc C=>compPost (model X.prog X.w) X.A X.xe none (EP X pins σ Q) acc C) hc B nd cap ht he I2 T st2 f2 W w0 turn ?_;intro D C H' s' m' hn hC hCD hCn I' q;refine ⟨m',hn,fun h' hs'=>⟨.ref D,H',?_,rfl,q⟩⟩;have hL:X.env.locals≠C:=HH (HF I2.lt hC);have neC:∀ {b:Addr} {o:HO},H' b=some o->b≠C:=fun e z=>by rw [z,hCn] at e;cases e
 refine I'.step (g':=s'.gens) (t':=s'.toks) (d':=s'.drawn) (ch:=[C]) (fun b hb=>?_) (fun b o _ _ hc' e _=>?_) (fun b o _ _ hc' e _=>⟨o.slots,?_⟩) (fun b o hc' e n=>n) (fun b o hc' e=>⟨o,?_⟩) (fun _ _ z=>z) (fun _ _ _ z=>z) (fun _ _ _ z=>z) (fun m hn=>hn.sameBut hs' hL) (fun b o e=>?_) I'.bare
 ·rw [Hw.mp hb];refine ⟨.inr (HJ I2.sz hC),Ne.symm hL,fun y c e z=>?_,fun p hp z=>?_⟩
  ·obtain ⟨v,q⟩:=I2.cell y c e;have:=q.lt;rw [z] at this;exact absurd (HF this hC) (Ic _)
  ·have:=Ht (I2.pin p hp).1;rw [z] at this;exact absurd (HF this hC) (Ic _)
 ·exact (hs'.2 b fun z=>hc' (Hw.mpr z)).trans e
 ·exact (hs'.2 b fun z=>hc' (Hw.mpr z)).trans e
 ·exact (hs'.2 b fun z=>hc' (Hw.mpr z)).trans e
 ·refine (I'.hok b o e).jk (fun c v hc' q=>(hs'.2 c ?_).trans q) (fun _ q=>q) (fun _ _ q=>q) fun _ _ _ _ q _=>q;rcases hc' with z | z
  ·rw [z];exact neC e
  ·exact neC z
theorem xT {X:Cx} {elt iter:Expr} {x y:Str} {px py pos spos:Pos} {ifs:List Expr} {scope:Scope} {wi:TI} {tt:TT} {te:TE} {ys:List Str} {js:List Nat} {i:Nat} (hN:X.N.Nodup) (hi':X.N[i]?=some y) (hy:X.env.scope.names.lookup y=some .local)
  (hsw:swapsWith (.ListComp elt [⟨.Name x px,iter,ifs,0⟩] scope pos) (some (.Name y py)) spos.line X.env=pure true) (hc:X.calm=true) (hi:PI X (.Name x px) iter wi) (B:fw X scope x) (nd:(x :: ys).Nodup) (cap:ei X scope ys js)
  (ht:∀ C s3 H3 ex,PTs (cxB X (x :: ys) scope C s3 H3 ex) ifs tt) (he:∀ C s3 H3 ex,PE (cxB X (x :: ys) scope C s3 H3 ex) elt te) (hs:∀ x,foldedSetIterable iter X.env x=pure x:=by intro _;rfl) :
  PS X (.Assign [.Name y py] (.ListComp elt [⟨.Name x px,iter,ifs,0⟩] scope pos) spos) (fG (gm js wi tt te) (aT i)):=by
 intro pins s σ H Dn I h;have hcl:=iS (scope:=scope) (env:=X.env) fun y hy hf=>I.ok.has y.1 (.inl (B.free y hy hf));rw [exec_Assign_Name_used _ _ _ _ hsw];refine He (wpAny_standAt (He ?_));show wpAny _ X.A (do let _<-comprehension (.ListComp elt [⟨.Name x px,iter,ifs,0⟩] scope pos) scope X.env _ (newList []) false (eval iter X.env) (some (assign (.Name y py) X.env))) _ _ s
 refine He (HR (wpAny_comprehension_free (use:=some (assign (.Name y py) X.env)) (Q:=fun _ s'=>SP X pins Dn .next s') rfl hs hcl B.kind B.locs
  (HR (hi pins s σ H _ I h) (fun xv s1 h1=>HR h1 (fun itv s2 h2=>?_) fun _ _ e=>e) fun _ _ e=>e)) (fun _ s' hq=>Hg (Hg hq)) fun _ _ e=>e)
 obtain ⟨it,fp,tn,J,H2,e,I2,T,st2,f2,W,w0,turn⟩:=h2;subst e;refine mJ (Q:=fun x H1=>aT i x σ H1 Dn.nx) (RR:=fun acc C=>compPost (model X.prog X.w) X.A X.xe (some (assign (.Name y py) X.env)) (fun _ s'=>SP X pins Dn .next s') acc C) hc B nd cap ht he I2 T st2 f2 W w0 turn ?_;intro D C H' s' m' hn hC hCD hCn I' q;have hL:X.env.locals≠C:=HH (HF I2.lt hC);have hCfs:C ∉ X.fs:=I2.yD hC;obtain ⟨oC,esC,epC,hoC,hdC,restC⟩:=id hn;have I'':Inv X (pins++[(C,oC)]) σ H' s':=I'.b8 fun p hp=>by
  rcases Ir.mp hp with z | z
  ·exact I'.pin p (HD _ z)
  ·rw [Hw.mp z];exact ⟨hoC,hCn,Ne.symm hL,hCfs,fun v z=>by rw [hdC] at z;cases z⟩
 show wpAny _ X.A (assign (.Name y py) X.env (.ref D)) _ _ _;refine HR (jl (pos:=py) hN hi' (.inl hy) (.inr hy) _ s' σ H' (.ref D) (.ref D) Dn.nx I'' rfl q) (fun _ s3 ⟨σ3,H3,I3,q3⟩=>?_) fun _ _ e=>e;have pC:=I3.pin (C,oC) (HD _ (HD _ (Hw.mpr rfl)));have hn3:s3.heap.Ns C m':=⟨oC,esC,epC,pC.1,hdC,restC⟩;have hCn3:H3 C=none:=pC.2.1;refine ⟨m',hn3,fun h' hs'=>⟨σ3,H3,?_,q3⟩⟩;have I4:=I3.fL;have neC:∀ {b:Addr} {o:HO},H3 b=some o->b≠C:=fun e z=>by rw [z,hCn3] at e;cases e
 refine I4.step (g':=s3.gens) (t':=s3.toks) (d':=s3.drawn) (ch:=[C]) (fun b hb=>?_) (fun b o _ _ hc' e _=>?_) (fun b o _ _ hc' e _=>⟨o.slots,?_⟩) (fun b o hc' e n=>n) (fun b o hc' e=>⟨o,?_⟩) (fun _ _ z=>z) (fun _ _ _ z=>z) (fun _ _ _ z=>z) (fun m hn=>hn.sameBut hs' hL) (fun b o e=>?_) I4.bare
 ·rw [Hw.mp hb];refine ⟨.inr (HJ I2.sz hC),Ne.symm hL,fun y c e z=>?_,fun p hp z=>?_⟩
  ·obtain ⟨v,q⟩:=I2.cell y c e;have:=q.lt;rw [z] at this;exact absurd (HF this hC) (Ic _)
  ·have:=Ht (I2.pin p hp).1;rw [z] at this;exact absurd (HF this hC) (Ic _)
 ·exact (hs'.2 b fun z=>hc' (Hw.mpr z)).trans e
 ·exact (hs'.2 b fun z=>hc' (Hw.mpr z)).trans e
 ·exact (hs'.2 b fun z=>hc' (Hw.mpr z)).trans e
 ·refine (I4.hok b o e).jk (fun c v hc' q=>(hs'.2 c ?_).trans q) (fun _ q=>q) (fun _ _ q=>q) fun _ _ _ _ q _=>q;rcases hc' with z | z
  ·rw [z];exact neC e
  ·exact neC z
def Its (x:Str):It:=⟨fun i _=>i < x.length,fun i H v H'=>H'=H/\∃ c,x.cps[i]?=some c/\v=.str ⟨#[c]⟩,fun i _=>x.length<=i⟩
def Hb (tl:TE):TI:=fun σ H R=>tl σ H fun x H1=>∃ z,x=.str z/\R (Its z) H1
section
variable {X:Cx}
theorem rD:OpR X (compareOp .LtE) (fun x y H Q=>∃ i j,x=.str i/\y=.str j/\Q (.bl (!(decide (j.cps.toList < i.cps.toList)))) H):=by
 intro pins s σ H x y v u Q I rx ry h;obtain ⟨i,j,rfl,rfl,q⟩:=h;obtain ⟨t,rfl⟩:=rx;obtain ⟨t',rfl⟩:=ry;exact P.le_str ⟨.bl _,H,I,rfl,q⟩
theorem OpR.or' {f:Value->Value->Sem Value} {r r':R2} (h:OpR X f r) (h':OpR X f r'):OpR X f (fun x y H Q=>r x y H Q\/r' x y H Q):=by
 intro pins s σ H x y v u Q I rx ry q;rcases q with q | q
 ·exact h pins s σ H x y v u Q I rx ry q
 ·exact h' pins s σ H x y v u Q I rx ry q
theorem ub:OpR X (binaryOp .FloorDiv) (rI (fun _ j=>0 < j/\j.natAbs.log2 < 9000) fun i j=>.int (i / j)):=opI fun i j _ _ _ _ _ hc q=>by
 have h1:(0:Int) < j:=hc.1;exact floordiv_int (by omega) (by rw [Int.fdiv_eq_ediv_of_nonneg i (by omega)];exact q) (.inl (PyProof.noPylong_of_log2 hc.2))
theorem rK (hc:X.calm=true):aE X (.builtin "all") (fun xs H Q=>∃ (a:Addr) (bs:List Bool),xs=[.ref a]/\SqL X.K H a (bs.map V.bl)/\Q (.bl (bs.all id)) H):=by
 intro pins s σ H xs us Q I r h;obtain ⟨a,bs,rfl,hq,q⟩:=h;obtain ⟨u,rfl,r1⟩:=vals1 r;cases (show u=Value.ref a from r1);obtain ⟨its,rv,p,hz⟩:=I.list hq;have ha:a < s.heap.objs.size:=by
  obtain ⟨o,e,_⟩:=p.isList;exact Ht e
 refine call_all_walk (wpAny_pyIter_list p.isList ?_);refine ⟨s.heap.objs.size,_,_,_,_,_,fun i=>(bs[i]?).getD true,rfl,Walks.list (show X.A.in1.handled=none from I.ok.hd hc) s.heap.objs.size a (HH ha) its.toArray,⟨⟨_,Hy _ rfl,rfl,rfl⟩,p.isList.push _⟩,?_,?_⟩
 ·intro i v s' Q' E' hv hQ;have hv':its[i]?=some v:=by simpa using hv
  have hi:i < its.length:=(Hl.mp hv').1;have hb:i < bs.length:=by have:=rv.length;rw [Hf] at this;omega
  obtain ⟨u,hu,ru⟩:=rv.get (i:=i) (x:=.bl bs[i]) (by rw [Hq,Hj hb];rfl);rw [hv'] at hu;cases hu;cases (show v=Value.bool bs[i] from ru);dsimp only at hQ;rw [Hj hb] at hQ;exact Iv hQ
 ·intro h' tk kk;have e:(List.range its.toArray.size).all (fun i=>(bs[i]?).getD true)=bs.all id:=by
   have hl:its.toArray.size=bs.length:=by rw [Hx,<-rv.length,Hf]
   rw [hl,Bool.eq_iff_iff,JU,JU];constructor
   ·intro h b hb;obtain ⟨i,hi,e⟩:=List.mem_iff_getElem.mp hb;have:=h i (List.mem_range.mpr hi);rw [Hj hi,e] at this;exact this
   ·intro h i hi;rw [Hj (List.mem_range.mp hi)];exact h _ (List.getElem_mem _)
  rw [e];have I1:Inv X pins σ H { s with heap:=s.heap.push { cls:=.type "list_iterator", data:=.fields #[.ref a,rawInt 0] },toks:=s.toks }:=I.kept fun b o e=>Hm _ e;have hn:H s.heap.objs.size=none:=I.hok.fresh (Hn _)
  have I2:Inv X pins σ H { s with heap:=h',toks:=tk }:=I.kept fun b o e=>kk b o (by
   intro z;have:=Hw.mp z;rw [this] at e
   exact absurd (Ht e) (Ic _)) (Hm _ e)
  exact ⟨.bl _,H,I2,rfl,q⟩
noncomputable def oT (x:Str) (lo hi:Option Int):Str:=⟨((x.cps.toList.drop (HT.sIx x.length 0 lo)).take (HT.sIx x.length x.length hi - HT.sIx x.length 0 lo)).toArray⟩
theorem ED (lo hi:Option Int) (n:Nat):Builtin.Str.strSliceIndices lo hi 1 n=(List.range (HT.sIx n n hi - HT.sIx n 0 lo)).map (HT.sIx n 0 lo+·):=by
 rw [<- sliceRange_one];unfold Builtin.Str.strSliceIndices;dsimp only;have h1:(1:Int) > 0:=by decide
 have e0:(match lo with | none=>(if (1:Int) > 0 then 0 else (n:Int) - 1) | some i=>if (1:Int) > 0 then max 0 (min (if i < 0 then i+(n:Int) else i) (n:Int)) else max (-1) (min (if i < 0 then i+(n:Int) else i) ((n:Int) - 1)))=((HT.sIx n 0 lo:Nat):Int):=by
  cases lo with
  | none=>simp [HT.sIx]
  | some i =>
   simp only [HT.sIx,h1,JJ];by_cases h:i < 0
   ·simp only [h,JJ] <;> omega
   ·simp only [h,Jd] <;> omega
 have e1:(match hi with | none=>(if (1:Int) > 0 then (n:Int) else -1) | some i=>if (1:Int) > 0 then max 0 (min (if i < 0 then i+(n:Int) else i) (n:Int)) else max (-1) (min (if i < 0 then i+(n:Int) else i) ((n:Int) - 1)))=((HT.sIx n n hi:Nat):Int):=by
  cases hi with
  | none=>simp [HT.sIx]
  | some i =>
   simp only [HT.sIx,h1,JJ];by_cases h:i < 0
   ·simp only [h,JJ] <;> omega
   ·simp only [h,Jd] <;> omega
 rw [<- e0,<-e1];cases lo <;> cases hi <;> rfl
theorem mN (n:Nat) (v:Option Int):HT.sIx n n v<=n/\HT.sIx n 0 v<=n:=by
 cases v with
 | none=>simp [HT.sIx]
 | some i =>
  simp only [HT.sIx];split <;> omega
def E1:V->Option Int->Option Int->Hp->VK->Prop:=fun x lo hi H Q=>∃ z,x=.str z/\z.length<=sizeLine/\Q (.str (oT z lo hi)) H
theorem g8 (x:Str) (lo hi:Option Int):(oT x lo hi).length<=x.length:=by
 have e:x.cps.toList.length=x.length:=by simp [Str.length]
 show (((x.cps.toList.drop _).take _).toArray).size<=x.length;rw [Hx,IE,Jq,e];omega
theorem mQ:SlR X E1:=by
 intro pins s σ H x v vl vu lo hi sl Q I rx hs pl pu h;obtain ⟨z,rfl,hz,q⟩:=h;obtain ⟨t,rfl⟩:=rx;refine ⟨"str", _,F.slot_str_getitem.lookup,typeIs_str _ _ _,?_⟩;obtain ⟨l,el,el'⟩:∃ l:Option (Int×Tok),l.map (·.1)=lo/\vl=partValue l:=by
  cases pl with
  | none=>exact ⟨none,rfl,rfl⟩
  | int i t=>exact ⟨some (i,t),rfl,rfl⟩
 obtain ⟨u,eu,eu'⟩:∃ l:Option (Int×Tok),l.map (·.1)=hi/\vu=partValue l:=by
  cases pu with
  | none=>exact ⟨none,rfl,rfl⟩
  | int i t=>exact ⟨some (i,t),rfl,rfl⟩
 subst el' eu';obtain ⟨o,h1,h2,h3⟩:=hs;refine wpAny_getItem_str_slice (l:=l) (u:=u) (st:=none) ⟨o,h1,h2,h3⟩ rfl ?_;have pk:slicePicked z l u none=(List.range (HT.sIx z.length z.length hi - HT.sIx z.length 0 lo)).map (HT.sIx z.length 0 lo+·):=by
  rw [<- ED,<-el,<-eu];rfl
 have ez:z.cps.toList.length=z.length:=by simp [Str.length]
 have cut:(⟨((slicePicked z l u none).filterMap (z.cps[·]?)).toArray⟩:Str)=oT z lo hi:=by
  rw [pk,pick_run];rfl
 unfold sliceMade;split
 ·rename_i hc;have hl:(slicePicked z l u none).length=z.length:=by
   have:=(Iu.mp hc).2;simpa using this
  rw [pk,Hf,HP] at hl;have b1:=mN z.length hi;have b2:=mN z.length lo;have h0:HT.sIx z.length 0 lo=0\/z.length=0:=by omega
  have e:oT z lo hi=z:=by
   unfold oT;rcases h0 with h0 | h0
   ·rw [h0,List.drop_zero,Jl (by omega)]
   ·have hn:z.cps.toList=[]:=List.eq_nil_of_length_eq_zero (by omega);rw [hn];have:z.cps=#[]:=by
     have:=congrArg List.toArray hn;simpa using this
    obtain ⟨c⟩:=z;simp only at this;subst this;simp
  rw [e] at q;exact ⟨.str z,H,I,⟨t,rfl⟩,q⟩
 ·rw [cut];exact ⟨HJ (g8 _ _ _) hz,⟨.str _,H,I.tok _,⟨_,rfl⟩,q⟩⟩
end
mutual
def Dn (p:Addr) (H:Hp):PyData->V->Prop
 | .none,v=>v=.non
 | .bool b,v=>v=.bl b
 | .int i,v=>v=.int i
 | .str x,v=>v=.str x
 | .list ds,v=>∃ a xs,v=.ref a/\a≠p/\H a=some (.lst xs)/\DnL p H ds xs
 | .tuple ds,v=>∃ a xs,v=.ref a/\a≠p/\H a=some (.tup xs)/\DnL p H ds xs
 | .dict kvs,v=>kvs=[]/\∃ a,v=.ref a/\a≠p/\H a=some (.dK [])
def DnL (p:Addr) (H:Hp):List PyData->List V->Prop
 | [],vs=>vs=[]
 | d :: ds,vs=>∃ v r,vs=v :: r/\Dn p H d v/\DnL p H ds r
end
open PySem PySem.Spec PyProof.Rows
def rOr (r r':R2):R2:=fun x y H Q=>r x y H Q\/r' x y H Q
def BV (r r':V->Option Int->Option Int->Hp->VK->Prop):V->Option Int->Option Int->Hp->VK->Prop:=fun x l u H Q=>r x l u H Q\/r' x l u H Q
def zJ:R2:=fun x y H Q=>∃ i j,x=.str i/\y=.str j/\i.length+j.length<=sizeLine/\Q (.str (i++j)) H
def FW:R2:=fun x y H Q=>∃ i j,x=.str i/\y=.str j/\Q (.bl (decide (i.cps.toList < j.cps.toList))) H
def Ft:R2:=fun x y H Q=>∃ i j,x=.str i/\y=.str j/\Q (.bl (!(decide (j.cps.toList < i.cps.toList)))) H
def GB:R2:=fun x y H Q=>∃ i j,x=.str i/\y=.str j/\Q (.bl (!(Builtin.Str.occurrences j i 0 j.length 1).isEmpty)) H
def xR:R2:=fun x y H Q=>∃ i j,x=.str i/\y=.str j/\Q (.bl (!(!(Builtin.Str.occurrences j i 0 j.length 1).isEmpty))) H
def Fz (K:Fg):List V->Hp->VK->Prop:=fun xs H Q=>∃ (a:Addr) (bs:List Bool),xs=[.ref a]/\SqL K H a (bs.map V.bl)/\Q (.bl (bs.all id)) H
def B4 (K:Fg):List V->Hp->VK->Prop:=fun xs H Q=>∃ x n,xs=[x]/\FI K x H n/\Q (.int n) H
def D7:List V->Hp->VK->Prop:=fun xs H Q=>∃ i,xs=[.int i]/\Q (.int (if i < 0 then -i else i)) H
def By:List V->Hp->VK->Prop:=fun xs H Q=>(∃ i,xs=[.int i]/\Q (.int i) H)\/∃ k,xs=[.bl k]/\Q (.int (if k then 1 else 0)) H
section
variable {X:Cx}
theorem orR {f:Value->Value->Sem Value} {r r':R2} (h:OpR X f r) (h':OpR X f r'):OpR X f (rOr r r'):=OpR.or' h h'
theorem orS {r r':V->Option Int->Option Int->Hp->VK->Prop} (h:SlR X r) (h':SlR X r'):SlR X (BV r r'):=SlR.or h h'
theorem xA:OpR X (binaryOp .Add) zJ:=nK
theorem AR:OpR X (compareOp .Lt) FW:=qK
theorem yR:OpR X (compareOp .LtE) Ft:=rD
theorem BG:OpR X (compareOp .In) GB:=pO
theorem rM:OpR X (compareOp .NotIn) xR:=j3
theorem qG (hc:X.calm=true):aE X (.builtin "all") (Fz X.K):=rK hc
theorem rG:aE X (.builtin "len") (B4 X.K):=sR
theorem qE:aE X (.builtin "abs") D7:=tG
theorem oK:aE X (.type "int") By:=pN
end
end L2
namespace L2
open PySem
noncomputable def lV (sc scope:Scope) (x:Str):Bool :=
 (scope.kind==.function)&&scope.names.all (fun y=>y.2 != .cell)&&scope.names.all (fun y=>y.2 != .local||scope.names.lookup y.1==some .local)&&(scope.names.lookup x==some .local)&&scope.names.all (fun y=>y.2 != .free||sc.names.lookup y.1==some .cell)
theorem bsc {X:Cx} {sc scope:Scope} {x:Str} (e:X.env.scope=sc) (h:lV sc scope x=true):fw X scope x:=by
 unfold lV at h;simp only [HL,JU,J1,bne_iff_ne,Jg,ne_eq] at h;obtain ⟨⟨⟨⟨h1,h2⟩,h3⟩,h4⟩,h5⟩:=h;exact ⟨h1,fun y hy=>h2 y hy,fun y hy e=>(h3 y hy).resolve_left fun z=>z e,h4,fun y hy e'=>by rw [e];exact (h5 y hy).resolve_left fun z=>z e'⟩
end L2
namespace L2
open PySem
theorem aN {e:Expr} {es:List Expr} {env:Env} (h:PySem.W.isStarred e=false):starEach (e :: es) env=(false,eval e env) :: starEach es env:=by
 cases e <;> first | rfl | exact absurd h (by simp [PySem.W.isStarred])
theorem bU {pos:Pos} {env:Env}:∀ {es:List Expr},es.all (fun e=>!PySem.W.isStarred e)=true->(backTo pos (starEach es env)).any (·.1)=false
 | [],_=>rfl
 | e :: es,h=>by
  rw [List.all_cons,HL] at h;rw [aN (by simpa using h.1)];have ih:=bU (pos:=pos) (env:=env) h.2;unfold backTo at ih ⊢;rw [List.map_cons,Jr,ih];rfl
structure JE (X:Cx) (e:Expr) (t:TE):Prop where
 h:PE X e t
structure JT (X:Cx) (e:Expr) (t:TT):Prop where
 h:PT X e t
structure JW (X:Cx) (e:Expr) (t:TT):Prop where
 h:PW X e t
structure JA (X:Cx) (es:List Expr) (t:TA):Prop where
 h:PA X es t
structure JS (X:Cx) (s:Stmt) (t:TS):Prop where
 h:PS X s t
structure JSs (X:Cx) (s:List Stmt) (t:TS):Prop where
 h:PSs X s t
structure JG (X:Cx) (e:Expr) (t:TG):Prop where
 h:PG X e t
structure JI (X:Cx) (tg e:Expr) (t:TI):Prop where
 h:PI X tg e t
structure JO (X:Cx) (e:Option Expr) (t:TO):Prop where
 h:PO X e t
structure JC (X:Cx) (N:List Str) (scope:Scope) (e:Expr) (t:TE):Prop where
 h:∀ C s3 H3 ex,PE (cxB X N scope C s3 H3 ex) e t
structure JTs (X:Cx) (N:List Str) (scope:Scope) (e:List Expr) (t:TT):Prop where
 h:∀ C s3 H3 ex,PTs (cxB X N scope C s3 H3 ex) e t
structure JP (X:Cx) (pos:Pos) (ks:List (Option Expr)) (vs:List Expr) (t:List (TE×TE)):Prop where
 h:PPs X pos ks vs t
section
variable {X:Cx} {e a b c:Expr} {es rest:List Expr} {te ta tb tc:TE} {tA tB':TT} {t:TA} {x:Str} {p pos:Pos} {id T:String} {r:List V->Hp->VK->Prop} {CX:CXT} {k:Nat} {f:Addr} {fd:FuncData} {ps:List Str} {sp:Sp} {ds:List Value} {dvs:List V} {E:XK}
theorem yr (i:Nat) (hN:X.N[i]?=some x) (hv:Vis X.env.scope x) (hd:(x==("__debug__" : Str))=false) (hcd:(x==("__classdict__" : Str))=false):JE X (.Name x pos) (aJ i):=⟨pY hN hv hd hcd⟩
theorem aj {i j}:JE X (.Constant (.int i) j pos) (tC (.int i)):=⟨AQ⟩
theorem eBl {b j}:JE X (.Constant (.bool b) j pos) (tC (.bl b)):=⟨Fo⟩
theorem BL {j}:JE X (.Constant .none j pos) (tC .non):=⟨z9⟩
theorem aR {x j}:JE X (.Constant (.str x) j pos) (tC (.str x)):=⟨zH⟩
theorem ai:JA X [] bo:=⟨Bm⟩
theorem eA (ha:JE X e te) (hr:JA X es t) (h:PySem.W.isStarred e=false):JA X (e :: es) (ah te t):=⟨xr ha.h hr.h (aN h)⟩
theorem wI (F:bq X.prog X.w X.K X.mg X.base CX k f fd ps sp) (hr:bN k X.A) (hg:Gl X x) (hm:X.mg x=some (.ref f)) (hk:PySem.W.keepIn X.K (.ref f)=true) (hb:Binds X.K fd ps ds) (hd:Vals dvs ds) (hx:Passes CX X E)
  (ha:JA X (e :: es) t) (h1:PySem.W.isStarred e=false) (h2:es.all (fun e=>!PySem.W.isStarred e)=true) (hdb:(x==("__debug__" : Str))=false):JE X (.Call (.Name x p) (e :: es) [] pos) (ba sp dvs E t) :=
 ⟨xj F hr hg hm hk hb hd hx ha.h hdb (aN h1) (bU h2)⟩
theorem eB (hc:aE X (.builtin id) r) (hg:Gl X x) (hm:X.mg x=none) (hv:bootBuiltins x=some (.builtin id)) (ha:JA X (e :: es) t) (h1:PySem.W.isStarred e=false) (h2:es.all (fun e=>!PySem.W.isStarred e)=true)
  (hn:x ≠ "__name__") (hdb:(x==("__debug__" : Str))=false):JE X (.Call (.Name x p) (e :: es) [] pos) (tCB r t):=⟨sW hc hg hm hv ha.h hn hdb (aN h1) (bU h2)⟩
theorem eTy (hc:aE X (.type T) r) (hg:Gl X x) (hm:X.mg x=none) (hv:bootBuiltins x=some (.type T)) (ha:JA X (e :: es) t) (h1:PySem.W.isStarred e=false) (h2:es.all (fun e=>!PySem.W.isStarred e)=true)
  (hn:x ≠ "__name__") (hdb:(x==("__debug__" : Str))=false):JE X (.Call (.Name x p) (e :: es) [] pos) (tCB r t):=⟨oY hc hg hm hv ha.h hn hdb (aN h1) (bU h2)⟩
theorem eR1 {tg a:Expr} {ta:TA} (hg:Gl X "range") (hm:X.mg "range" = none) (ha:JA X [a] ta) (h:PySem.W.isStarred a=false):JI X tg (.Call (.Name "range" p) [a] [] pos) (tX ta):=⟨oH hg hm ha.h (aN h)⟩
theorem eIL {tg:Expr} (h:JE X e te):JI X tg e (iu X.K te):=⟨wq h.h⟩
theorem eIT {tg:Expr} (h:JE X e te):JI X tg e (Cy X.K te):=⟨Bj h.h⟩
theorem vU {v:V} {u:Value} (hg:Gl X x) (hm:X.mg x=some u) (r:RelV v u) (hd:(x==("__debug__" : Str))=false):JE X (.Name x pos) (tC v):=⟨wX hg hm r hd⟩
theorem FV {v:V} {u:Value} (hg:Gl X x) (hm:X.mg x=none) (hv:bootBuiltins x=some u) (r:RelV v u) (hn:x ≠ "__name__") (hd:(x==("__debug__" : Str))=false):JE X (.Name x pos) (tC v):=⟨vO hg hm hv r hn hd⟩
theorem eOp {op:Operator} {r:R2} (ho:OpR X (binaryOp op) r) (ha:JE X a ta) (hb:JE X b tb):JE X (.BinOp a op b pos) (tOp r ta tb):=⟨C5 ho ha.h hb.h⟩
theorem eUn {op:UnaryOp} {r:V->Hp->VK->Prop} (ho:UnR X (unaryOp op) r) (ha:JE X a ta):JE X (.UnaryOp op a pos) (tUn r ta):=⟨CL ho ha.h⟩
theorem GL (ha:JE X a ta):JE X (.UnaryOp .Not a pos) (w8 ta):=⟨zT ha.h⟩
theorem uF {op} (h:JE X a te):JE X (.BoolOp op [a] pos) te:=⟨B9 h.h⟩
theorem Af (ha:JE X a ta) (hb:JE X (.BoolOp .And (b :: rest) pos) tb):JE X (.BoolOp .And (a :: b :: rest) pos) (xN ta tb):=⟨BC ha.h hb.h⟩
theorem eOr (ha:JE X a ta) (hb:JE X (.BoolOp .Or (b :: rest) pos) tb):JE X (.BoolOp .Or (a :: b :: rest) pos) (DQ ta tb):=⟨Eb ha.h hb.h⟩
theorem eIf (hc:JT X c tA) (ha:JE X a ta) (hb:JE X b tb):JE X (.IfExp c a b pos) (tIf tA ta tb):=⟨tH hc.h ha.h hb.h⟩
theorem eT {op:CmpOp} {r:R2} (ho:OpR X (compareOp op) r) (ha:JE X a ta) (hb:JE X b tb) (hm:behindInMarks op b=false):JE X (.Compare a [op] [b] pos) (tOp r ta tb):=⟨yb ho ha.h hb.h hm⟩
theorem kR {op:CmpOp} {r:R2} (ho:OpR X (compareOp op) r) (ha:JE X a ta) (hb:JE X b tb) (hm:behindInMarks op b=false):JT X (.Compare a [op] [b] pos) (kP (tOp r ta tb)):=⟨xH ho ha.h hb.h hm⟩
theorem rO {op op':CmpOp} {r r':R2} (ho:OpR X (compareOp op) r) (ho':OpR X (compareOp op') r') (ha:JE X a ta) (hb:JE X b tb) (hc:JE X c tc) (hm:lastMarks [op,op'] [b,c]=false):JT X (.Compare a [op,op'] [b,c] pos) (kP (qO r r' ta tb tc)):=⟨ux ho ho' ha.h hb.h hc.h hm⟩
theorem uJ (h:JE X e te) (he:∀ whole,isTrue e X.env whole=(do let v<-whole;standAt e.pos;holding [v] (truthy v))):JT X e (tB te):=⟨zI h.h he⟩
theorem cF (ha:JT X a tA):JT X (.UnaryOp .Not a pos) (x8 tA):=⟨Au ha.h⟩
theorem iK (ha:JT X a tA):JW X (.BoolOp .And [a] pos) tA:=⟨pw_and1 ha.h⟩
theorem Ah (ha:JT X a tA):JW X (.BoolOp .Or [a] pos) tA:=⟨pw_or1 ha.h⟩
theorem nN (ha:JT X a tA) (hb:JW X (.BoolOp .And (b :: rest) pos) tB'):JW X (.BoolOp .And (a :: b :: rest) pos) (Cm tA tB'):=⟨pw_and ha.h hb.h⟩
theorem F3 (ha:JT X a tA) (hb:JW X (.BoolOp .Or (b :: rest) pos) tB'):JW X (.BoolOp .Or (a :: b :: rest) pos) (tOr tA tB'):=⟨pw_or ha.h hb.h⟩
theorem eW (h:JW X e tA):JT X e tA:=⟨PW.pt h.h⟩
theorem cG {x1} (h:JA X es t):JE X (.Tuple es x1 pos) (tP t):=⟨zg h.h⟩
theorem ij (h:JA X es t):JE X (.List es pos) (yp t):=⟨Aw h.h⟩
theorem eIx {r:R2} (hr:IxR X r) (ha:JE X a ta) (hb:JE X b tb) (hs:lH b):JE X (.Subscript a b pos) (tOp r ta tb):=⟨Fb hr ha.h hb.h hs⟩
theorem Ct:JO X none lx:=⟨xZ⟩
theorem eP (h:JE X e te):JO X (some e) (wg te):=⟨vP h.h⟩
theorem eSl {p2:Pos} {lo hi:Option Expr} {tl th:TO} {r:V->Option Int->Option Int->Hp->VK->Prop} (hr:SlR X r) (he:JE X e te) (hl:JO X lo tl) (hu:JO X hi th):JE X (.Subscript e (.Slice lo hi none p2) pos) (tSl r te tl th):=⟨tV hr he.h hl.h hu.h⟩
theorem ePN:JP X pos [] [] []:=⟨ya⟩
theorem ePC {k v:Expr} {ks:List (Option Expr)} {vs:List Expr} {tk tv:TE} {trs:List (TE×TE)} (hk:JE X k tk) (hv:JE X v tv) (hr:JP X pos ks vs trs):JP X pos (some k :: ks) (v :: vs) ((tk,tv) :: trs):=⟨ur hk.h hv.h hr.h⟩
theorem oz {i:Nat} {pos':Pos} (he:JE X e te) (hN:X.N.Nodup) (hi:X.N[i]?=some x) (hx:Loc X.env.scope x) (hs:swapsWith e (some (.Name x pos')) pos.line X.env=pure false) (hf:X.fn x=true\/X.env.scope.names.lookup x=some .local) :
  JS X (.Assign [.Name x pos'] e pos) (fG te (aT i)):=⟨AK hN hi hx he.h hs hf⟩
theorem F9 {tg:Expr} {g:TG} (he:JE X e te) (hg:JG X tg g) (hs:swapsWithSole [tg] e pos.line X.env=pure false) (hw:swappedStores [tg] e X.env=pure none) (h1:(assignEach [tg] X.env).map (·.2)=[assign tg X.env]):JS X (.Assign [tg] e pos) (fG te g):=⟨B1 he.h hg.h hs hw h1⟩
theorem EZ {iter tg:Expr} {body:List Stmt} {wi:TI} {g:TG} {tb:TS} (hi:JI X tg iter wi) (hg:JG X tg g) (hb:JSs X body tb) (hp:PassesOwn (model X.prog X.w) X.A X.env X.xe) (hc:X.calm=true) (hs:∀ x,foldedSetIterable iter X.env x=pure x):JS X (.For tg iter body [] pos) (xW wi g tb):=⟨Am hp hc hi.h hg.h hb.h hs⟩
theorem bw {a b:List Stmt} {tc:TT} {t u:TS} (hc:JT X c tc) (ha:JSs X a t) (hb:JSs X b u):JS X (.If c a b pos) (sG tc t u):=⟨DF hc.h ha.h hb.h⟩
theorem aU (he:JE X e te):JS X (.Return (some e) pos) (wO te):=⟨zM he.h⟩
theorem eGN {i:Nat} (hN:X.N.Nodup) (hi:X.N[i]?=some x) (hx:Loc X.env.scope x) (hf:X.fn x=true\/X.env.scope.names.lookup x=some .local):JG X (.Name x pos) (aT i):=⟨jl hN hi hx hf⟩
theorem nB (he:JE X e te) (hs:swapsWith e none pos.line X.env=pure false):JS X (.Expr e pos) (pU te):=⟨xI he.h hs⟩
theorem Ge {o i:Expr} {to ti:TE} {t:Cw} (ho:JE X o to) (hi:JE X i ti) (hs:DV X t) (ha:∀ v,assign (.Subscript o i pos) X.env v=(do
   let ov<-holding [v] (eval o X.env)
   let iv<-holding [v,ov] (eval i X.env)
   standAt pos
   holding [v,ov,iv] (setItem ov iv v)
   release [v,ov,iv] [])):JG X (.Subscript o i pos) (FA to ti t):=⟨zo ho.h hi.h hs ha⟩
theorem bD:JSs X [] kQ:=⟨wk⟩
theorem aF {s:Stmt} {t:TS} (h:JS X s t):JSs X [s] t:=⟨wu h.h⟩
theorem aA {s:Stmt} {rest:List Stmt} {t u:TS} (h:JS X s t) (hr:JSs X rest u):JSs X (s :: rest) (iU t u):=⟨tW h.h hr.h⟩
theorem xU {elt iter:Expr} {px:Pos} {ifs:List Expr} {scope:Scope} {wi:TI} {tt:TT} {js:List Nat} (ys:List Str) (hi:JI X (.Name x px) iter wi) (ht:JTs X (x :: ys) scope ifs tt) (he:JC X (x :: ys) scope elt te)
  (hc:X.calm=true) (B:fw X scope x) (nd:(x :: ys).Nodup) (cap:ei X scope ys js) (hs:∀ x,foldedSetIterable iter X.env x=pure x):JE X (.ListComp elt [⟨.Name x px,iter,ifs,0⟩] scope pos) (gm js wi tt te):=⟨x9 hc hi.h B nd cap ht.h he.h hs⟩
theorem oE {elt iter:Expr} {y:Str} {px py spos:Pos} {ifs:List Expr} {scope:Scope} {wi:TI} {tt:TT} {js:List Nat} {i:Nat} (ys:List Str) (hi:JI X (.Name x px) iter wi) (ht:JTs X (x :: ys) scope ifs tt) (he:JC X (x :: ys) scope elt te)
  (hN:X.N.Nodup) (hi':X.N[i]?=some y) (hy:X.env.scope.names.lookup y=some .local) (hsw:swapsWith (.ListComp elt [⟨.Name x px,iter,ifs,0⟩] scope pos) (some (.Name y py)) spos.line X.env=pure true)
  (hc:X.calm=true) (B:fw X scope x) (nd:(x :: ys).Nodup) (cap:ei X scope ys js) (hs:∀ x,foldedSetIterable iter X.env x=pure x):JS X (.Assign [.Name y py] (.ListComp elt [⟨.Name x px,iter,ifs,0⟩] scope pos) spos) (fG (gm js wi tt te) (aT i)):=⟨xT hN hi' hy hsw hc hi.h B nd cap ht.h he.h hs⟩
theorem eC {N:List Str} {scope:Scope} (h:∀ C s3 H3 ex,JE (cxB X N scope C s3 H3 ex) e te):JC X N scope e te:=⟨fun C s3 H3 ex=>(h C s3 H3 ex).h⟩
theorem eT0 {N:List Str} {scope:Scope}:JTs X N scope [] Ao:=⟨fun _ _ _ _=>xb⟩
theorem eT1 {N:List Str} {scope:Scope} (h:∀ C s3 H3 ex,JT (cxB X N scope C s3 H3 ex) e tA):JTs X N scope [e] tA:=⟨fun C s3 H3 ex=>wG (h C s3 H3 ex).h⟩
theorem eBM {apos cpos:Pos} {o:Expr} {name:Str} {to:TE} {r:V->List V->Hp->VK->Prop} (ho:JE X o to) (ha:JA X (e :: es) t) (hm:MtR X id r) (pa:PlainAttrs T) (slot:Slot T name id) (hty:typeOf (.builtin id)=pure (.type "method_descriptor"))
  (hbase:attributeBase o name X.env (eval o X.env)=eval o X.env)
  (hfew:((backTo cpos (starEach (e :: es) X.env)).all (fun x=>!x.1)&&(backToKw cpos (keywordEach [] X.env)).all (fun x=>x.1.isSome)
   && decide ((e :: es).length+([]:List Keyword).length+(if ([]:List Keyword).isEmpty then 0 else 1) < 30))=true)
  (hline:(apos.endLine==cpos.line)=true) (h1:PySem.W.isStarred e=false) (h2:es.all (fun e=>!PySem.W.isStarred e)=true):JE X (.Call (.Attribute o name apos) (e :: es) [] cpos) (tBM X.K T r to t):=⟨CK pa slot hty hm ho.h ha.h hbase hfew hline (aN h1) (bU h2)⟩
end
open PySem.Spec PyProof.Rows
noncomputable def tyN:PyData->String
 | .none => "NoneType" | .bool _ => "bool" | .int _ => "int" | .str _ => "str" | .list _ => "list" | .tuple _ => "tuple" | .dict _ => "dict"
noncomputable def isS:PyData->Bool | .str _=>true | _=>false
noncomputable def isI:PyData->Bool | .int _=>true | .bool _=>true | _=>false
noncomputable def isB:PyData->Bool | .bool _=>true | _=>false
noncomputable def isT:PyData->Bool | .tuple _=>true | _=>false
noncomputable def isL:PyData->Bool | .list _=>true | _=>false
section
variable {K:Fg}
theorem DY (d:PyData):PySem.W.kitOne K (.type (tyN d)) (.type "str")=some (isS d):=by cases d <;> with_unfolding_all rfl
theorem D6 (d:PyData):PySem.W.kitOne K (.type (tyN d)) (.type "int")=some (isI d):=by cases d <;> with_unfolding_all rfl
theorem DC (d:PyData):PySem.W.kitOne K (.type (tyN d)) (.type "bool")=some (isB d):=by cases d <;> with_unfolding_all rfl
theorem DM (d:PyData):PySem.W.kitOne K (.type (tyN d)) (.type "tuple")=some (isT d):=by cases d <;> with_unfolding_all rfl
theorem CP (d:PyData):PySem.W.kitOne K (.type (tyN d)) (.type "list")=some (isL d):=by cases d <;> with_unfolding_all rfl
variable {p:Addr} {H:Hp} {d:PyData} {v:V} {Q:VK}
end
theorem EL {b:Bool} {A B:Prop} (e:b=true) (h:A):if b=true then A else B:=by rw [Hv e];exact h
theorem Eh {b:Bool} {A B:Prop} (e:b=false) (h:B):if b=true then A else B:=by rw [Hz (by rw [e];exact Ig)];exact h
theorem dJ {b:Bool} {A B:Prop} (h1:b=true->A) (h2:b=false->B):if b=true then A else B:=by
 cases b with
 | true=>rw [Hv rfl];exact h1 rfl
 | false=>rw [Hz Ig];exact h2 rfl
section
variable {r r':R2} {x y:V} {H:Hp} {Q:VK}
theorem BR {K:Fg} {z:Str} (l:z.length<=sizeLine) (h:Q (.int z.length) H):B4 K [.str z] H Q:=⟨_,_,rfl,⟨l,rfl⟩,h⟩
theorem yE {K:Fg} {p:Addr} {xs:List V} (s:SqL K H p xs) (h:Q (.int xs.length) H):B4 K [.ref p] H Q:=⟨_,_,rfl,.inl ⟨xs,s,rfl⟩,h⟩
theorem yI {K:Fg} {p:Addr} {xs:List V} (s:SqT K H p xs) (h:Q (.int xs.length) H):B4 K [.ref p] H Q:=⟨_,_,rfl,.inr ⟨xs,s,rfl⟩,h⟩
theorem Dv {i:Int} (h:Q (.int (if i < 0 then -i else i)) H):D7 [.int i] H Q:=⟨i,rfl,h⟩
end
theorem Fun.okJ {P:Program} {w:World} {K:Fg} {mg:Str->Option Value} {base:Heap} {x qual:Str} {st:Stmt} {f:Addr} {fd:FuncData} {N ps:List Str} {k:Nat} {sp:Sp} (F:Fun K x qual st f fd) (S:ao N ps (aa st)) (len:∀ vs H Q E,sp vs H Q E->vs.length=ps.length)
  (cB:∀ (cdv:Value) (A:Around) (outer:List Env) (s:Shared) (H:Hp) (vs:List V) (Q:VK) (E:XK),bN k (A.deeper (envOfC qual (aa st) s.heap.objs.size f cdv))->sp vs H Q E ->
   ∃ t,JSs (sy CX0 P w K mg base N qual (aa st) f cdv A outer s H E).nox (bK st) t/\t { nx:=fun _ H'=>Q .non H',rt:=Q } (start N vs) H):bq P w K mg base CX0 (k+1) f fd ps sp :=
 F.ok S len fun cdv A outer s H vs Q E hr h=>let ⟨t,j,q⟩:=cB cdv A outer s H vs Q E hr h;⟨t,j.h,q⟩
theorem da:∀ {ss:List Str} {us:List Value},Vals (ss.map V.str) us->StrsAre us ss
 | [],_,r=>by cases r;exact .nil
 | s :: ss,_,r=>by
  cases r with
  | cons r1 r2 =>
   obtain ⟨t,rfl⟩:=r1;exact .cons _ _ (da r2)
theorem oJ:∀ {ss:List Str} {us:List Value},StrsAre us ss->Vals (ss.map V.str) us
 | [],_,r=>by cases r;exact .nil
 | s :: ss,_,r=>by
  cases r with
  | cons _ _ r2=>exact .cons ⟨_,rfl⟩ (oJ r2)
section
variable {X:Cx}
def oM:V->List V->Hp->VK->Prop:=fun x vs H Q=>∃ z y:Str,x=.str z/\vs=[.str y]/\Q (.bl (decide (y.length<=z.length)&&Builtin.Str.subAt z y 0)) H
theorem qw:MtM X "str.startswith" oM:=by
 intro pins s σ H x vs v us Q I rx rv h;obtain ⟨z,y,rfl,rfl,q⟩:=h;obtain ⟨t,rfl⟩:=rx;obtain ⟨u,rfl,ru⟩:=rv.one;obtain ⟨t',rfl⟩:=ru;refine call_meets F.slot_str_startswith (typeIs_str _ _ _) F.entry_str_startswith (F.args_str_startswith_2 _ _) (gives_str_startswith z y t t').meets ?_;exact ⟨.bl _,H,I,by simp only [Nat.zero_add];rfl,q⟩
def zA (K:Fg):List V->Hp->VK->Prop:=fun xs H Q=>∃ p ys,xs=[.ref p]/\(SqL K H p ys\/SqT K H p ys)/\∀ l,H l=none->Q (.ref l) (upd H l (.lst ys))
def vz (K:Fg):List V->Hp->VK->Prop:=fun xs H Q=>∃ p ys,xs=[.ref p]/\((SqL K H p ys/\∀ l,H l=none->Q (.ref l) (upd H l (.tup ys)))\/(SqT K H p ys/\Q (.ref p) H))
def AB:List V->Hp->VK->Prop:=fun xs H Q=>∃ i j,xs=[.int i,.int j]/\Q (.int (if j < i then j else i)) H
def FL:R2:=fun x y H Q=>y=.non/\Q (.bl (decide (x=.non))) H
theorem oa:aE X (.type "list") (zA X.K):=j7
theorem lD:aE X (.type "tuple") (vz X.K):=jx
theorem nH (hc:X.calm=true):aE X (.builtin "min") AB:=qZ hc
theorem wZ:OpR X (compareOp .Is) FL:=zU
end
noncomputable def qT (xs:List Str):St:=xs.map fun _=>none
def yZ (n:List Str) (js:List Nat) (wi:TI) (g:TG) (te:TE):TE:=fun σ H Q=>wi σ H fun J H1=>∃ W:Nat->Nat->St->List V->Hp->Prop,(∃ m,W 0 m (qT n++aZ js σ) [] H1)/\∀ i m σB acc H,W i m σB acc H ->
 (J.stop i H/\acc.length<=sizeLine/\∀ p,H p=none->Q (.ref p) (upd H p (.lst acc)))\/(J.go i H/\acc.length < sizeLine/\∀ x H',J.yld i H x H' ->
  g x σB H' fun σ2 H2=>te σ2 H2 fun y H3=>∃ m',m' < m/\W (i+1) m' σ2 (acc++[y]) H3)
def Gy (K:Fg) (te:TE):TT:=fun σ H Q=>te σ H fun x H'=>∃ k,Ds K x H' k/\Q k H'
structure JGl (X:Cx) (es:List Expr) (t:TGs):Prop where
 h:PGs X es t
section
variable {X:Cx} {es:List Expr} {t:TGs} {pos:Pos} {x:Str} {i:Nat}
theorem FZ:JGl X [] EX:=⟨xB⟩
theorem Cn (hN:X.N.Nodup) (hi:X.N[i]?=some x) (hx:Loc X.env.scope x) (hf:X.fn x=true\/X.env.scope.names.lookup x=some .local) (h:JGl X es t):JGl X (.Name x pos :: es) (xC (aT i) t):=⟨sM (jl hN hi hx hf) h.h rfl⟩
theorem eGT {n:Nat} {k} (hc:X.calm=true) (h:JGl X es t) (hn:(assignEach es X.env).length=n) (hst:(assignEach es X.env).findIdx? (·.1)=none):JG X (.Tuple es k pos) (Ee X.K n t):=⟨zR hc h.h hn hst⟩
end
section
variable {X:Cx}
def tFs:List TE->Str->TE
 | [],out=>fun _ H Q=>out.length<=sizeLine/\Q (.str out) H
 | t :: ts,out=>fun σ H Q=>t σ H fun x H1=>∃ y,x=.str y/\(out++y).length<=sizeLine/\tFs ts (out++y) σ H1 Q
def PFs (X:Cx) (vs:List Expr) (ts:List TE):Prop :=
 ∀ (pins:List (Addr×Obj)) (s:Shared) (σ:St) (H:Hp) (Q:VK) (out:Str),Inv X pins σ H s->tFs ts out σ H Q->wpAny (model X.prog X.w) X.A (joinParts out (evalEach vs X.env)) (EP X pins σ Q) X.xe s
theorem ym:PFs X [] []:=by
 intro pins s σ H Q out I h;exact joinParts_nil ⟨.str out,H,I.tok _,⟨_,rfl⟩,h.2⟩ h.1
theorem uz {v:Expr} {vs:List Expr} {t:TE} {ts:List TE} (hv:PE X v t) (hr:PFs X vs ts):PFs X (v :: vs) (t :: ts):=by
 intro pins s σ H Q out I h;show wpAny _ _ (joinParts out (eval v X.env :: evalEach vs X.env)) _ _ s;refine joinParts_cons (thn (hv pins s σ H _ I h) fun u s1 ⟨x,H1,I1,r1,y,ex,hz,q⟩=>?_);subst ex;obtain ⟨t',rfl⟩:=r1;exact ⟨hz,hr pins s1 σ H1 Q _ I1 q⟩
end
structure JF (X:Cx) (vs:List Expr) (ts:List TE):Prop where
 h:PFs X vs ts
section
variable {X:Cx}
theorem eF0:JF X [] []:=⟨ym⟩
theorem eFc {v:Expr} {vs:List Expr} {t:TE} {ts:List TE} (hv:JE X v t) (hr:JF X vs ts):JF X (v :: vs) (t :: ts):=⟨uz hv.h hr.h⟩
end
def KD (w:World) (K:Fg) (a:Addr) (f:Str->Option V):Prop:=∃ es n,K.lookup a=some ⟨.type "dict", none,.dict es n,#[]⟩/\PySem.W.KeysLit w.params es.toList/\(a==sysModules)=false/\∀ z v,f z=some v->∃ u,findBy Value.isStrOf es z=some u/\RelV v u
def uN (K:Fg):V->List V->Hp->VK->Prop:=fun x vs H Q=>∃ (z:Str) (a:Addr) (ss:List Str),x=.str z/\vs=[.ref a]/\(SqL K H a (ss.map V.str)\/SqT K H a (ss.map V.str))/\(ss.map (·.length)).sum+ss.length*z.length<=16777216/\Q (.str (Txt.join z ss)) H
theorem ml {X:Cx}:MtM X "str.join" (uN X.K):=by
 intro pins s σ H x vs v us Q I rx rv h;obtain ⟨z,a,ss,rfl,rfl,hq,hok,q⟩:=h;obtain ⟨t,rfl⟩:=rx;obtain ⟨u,rfl,ru⟩:=rv.one;cases (show u=Value.ref a from ru);rcases hq with hq | hq
 ·obtain ⟨its,r,p,hz⟩:=I.list hq;exact join_list p.isList (by simpa using da r) hok fun t' k=>⟨.str _,H,I.tok k,⟨t',rfl⟩,q⟩
 ·obtain ⟨its,r,p,hz⟩:=I.tuple hq;exact join_tuple p (by simpa using da r) hok fun t' k=>⟨.str _,H,I.tok k,⟨t',rfl⟩,q⟩
section
variable {X:Cx}
def z5 (K:Fg):R2:=fun x y H Q=>∃ l b xs zs,x=.ref l/\y=.ref b/\SqL K H l xs/\SqL K H b zs/\xs.length+zs.length<=sizeLine/\∀ p,H p=none->Q (.ref p) (upd H p (.lst (xs++zs)))
theorem vV:OpR X (binaryOp .Add) (z5 X.K):=by
 intro pins s σ H x y v u Q I rx ry h;obtain ⟨l,b,xs,zs,rfl,rfl,hH,hB,hz,q⟩:=h;cases rx;cases ry;obtain ⟨its,r,p,_⟩:=I.list hH;obtain ⟨its2,r2,p2,_⟩:=I.list hB;obtain ⟨⟨cls,dd,data,sl⟩,n,ho,hc,hd0,hd⟩:=p;obtain ⟨⟨cls2,dd2,data2,sl2⟩,n2,ho2,hc2,hd02,hd2⟩:=p2;simp only at hc hd hc2 hd2;subst hc hd hc2 hd2;have e:its.toArray++its2.toArray=(its++its2).toArray:=by simp
 refine concat_meets ⟨_,ho,rfl⟩ ⟨_,ho2,rfl⟩ noFill_list_add seq_list_add PySem.F.slot_list_add PySem.F.entry_list_add (PySem.F.args_list_add_2 _ _) (list_addW l b its.toArray its2.toArray n n2 dd dd2 sl sl2 (by rw [Hx,Hx,<-r.length,<-r2.length];exact hz)) ⟨ho,ho2,?_⟩;rw [e];exact ⟨.ref _,_,I.Gb (t':=s.toks) (r.append r2) (by rw [Ho];omega),rfl,q _ I.fresh⟩
end
mutual
noncomputable def hkB:PyData->Bool
 | .int _=>true
 | .str _=>true
 | .tuple ds=>su ds
 | _=>false
noncomputable def su:List PyData->Bool
 | []=>true
 | d :: ds=>hkB d&&su ds
end
theorem jd:∀ {ds:List PyData},su ds=true↔∀ d∈ds,hkB d=true
 | []=>by simp [su]
 | d :: ds=>by simp [su,jd (ds:=ds)]
noncomputable def kyB (d:PyData):Bool:=hkB d&&d.canLay0&&decide (d.depth<=6)
noncomputable def hk6 (d:PyData):Bool:=hkB d&&decide (d.depth<=6)
mutual
theorem fo:∀ (d e:PyData),hkB d=true->hkB e=true->(PyData.eqv d e=true↔d=e)
 | .int i,e,_,h=>by
  cases e with
  | int j=>simp [PyData.eqv]
  | str y=>simp [PyData.eqv]
  | tuple es=>simp [PyData.eqv]
  | _=>cases h
 | .str x,e,_,h=>by
  cases e with
  | int j=>simp [PyData.eqv]
  | str y=>simp [PyData.eqv]
  | tuple es=>simp [PyData.eqv]
  | _=>cases h
 | .tuple ds,e,h1,h=>by
  cases e with
  | int j=>simp [PyData.eqv]
  | str y=>simp [PyData.eqv]
  | tuple es=>simp only [PyData.eqv,PyData.tuple.injEq];exact oQ ds es h1 h
  | _=>cases h
 | .none,_,h,_=>by cases h
 | .bool _,_,h,_=>by cases h
 | .list _,_,h,_=>by cases h
 | .dict _,_,h,_=>by cases h
theorem oQ:∀ (ds es:List PyData),su ds=true->su es=true->(PyData.eqvAll ds es=true↔ds=es)
 | [],[],_,_=>by simp [PyData.eqvAll]
 | [],_ :: _,_,_=>by simp [PyData.eqvAll]
 | _ :: _,[],_,_=>by simp [PyData.eqvAll]
 | d :: ds,e :: es,h1,h2=>by
  simp only [su,HL] at h1 h2;rw [PyData.eqvAll,HL,fo d e h1.1 h2.1,oQ ds es h1.2 h2.2,List.cons.injEq]
end
theorem ka {d:PyData} {ds:List PyData} (h:d∈ds):d.depth+1<=(PyData.tuple ds).depth:=by
 have:∀ {ds:List PyData},d∈ds->d.depth<=PyData.depthAll ds:=by
  intro ds;induction ds with
  | nil=>intro h;cases h
  | cons x xs ih =>
   intro h;rw [PyData.depthAll];rcases HB.mp h with rfl | h
   ·exact Nat.le_max_left _ _
   ·exact HJ (ih h) (Nat.le_max_right _ _)
 rw [PyData.depth];have:=this h;omega
theorem fJ {h:Heap}:∀ {vs:List Value} {ds:List PyData} {as:List Addr},ReadsAll h vs ds as->vs.length=ds.length/\∀ (i:Nat) (v:Value),vs[i]?=some v->∃ d bs,ds[i]?=some d/\Reads h v d bs
 | _,_,_,.nil=>⟨rfl,fun i v e=>by simp at e⟩
 | _,_,_,.cons r t=>by
  obtain ⟨l,f⟩:=fJ t;refine ⟨by simp [l],fun i v e=>?_⟩;cases i with
  | zero=>simp at e;subst e;exact ⟨_,_,rfl,r⟩
  | succ i=>simpa using f i v (by simpa using e)
section
variable {P:Program} {w:World} {A:Around} {E:Value->Shared->Prop} {s:Shared}
theorem rp:∀ (n:Nat) {d:PyData} {v:Value} {as:List Addr} {Q:Bool->Shared->Prop},Reads s.heap v d as->hkB d=true->d.depth<=n->Q true s->wpAny (model P w) A (eqIsQuiet n v) Q E s:=by
 intro n;induction n with
 | zero =>
  intro d v as Q r h hd q;cases r with
  | int i t=>rw [eqIsQuiet_byValue _ rfl];exact Hg q
  | str x t=>rw [eqIsQuiet_byValue _ rfl];exact Hg q
  | tuple _ _ _ _=>rw [PyData.depth] at hd;omega
  | _=>cases h
 | succ n ih =>
  intro d v as Q r h hd q;cases r with
  | int i t=>rw [eqIsQuiet_byValue _ rfl];exact Hg q
  | str x t=>rw [eqIsQuiet_byValue _ rfl];exact Hg q
  | @tuple a o vs k xs as ho hc hdt ra =>
   have hT:s.TypeIs (.ref a) "tuple" := ⟨o,ho,hc⟩;unfold eqIsQuiet;refine He (JX hT F.slot_tuple_eq.lookup ?_);show wpAny _ _ (isInstance (.ref a) (.type "tuple")>>=_) _ _ s;refine He (wpAny_isInstance hT isSubtype_tuple_tuple ?_);simp only [Bool.not_true,Jh,Jd];refine He (wpAny_seqItems ho hdt (He ?_));show wpAny _ _ (forIn vs _ _) _ _ s;rw [<- Array.forIn_toList];have hx:=jd.mp h;refine Jo _ (fun rest r s'=>r.1=none/\s'=s/\∀ u∈rest,u∈vs.toList) _ ?_ ?_ _ _ ⟨rfl,rfl,fun _ z=>z⟩
   ·rintro u rest r s' ⟨hr,rfl,hall⟩;obtain ⟨i,hi⟩:=IG.mp (hall u Hu);obtain ⟨d',bs,e1,r1⟩:=(fJ ra).2 i u hi;have hm:=HG e1;refine He (ih r1 (hx d' hm) (by have:=ka hm;omega) ?_);simp only [Bool.not_true,Jh,Jd];exact Hg ⟨rfl,rfl,fun y hy=>hall y (Hr _ hy)⟩
   ·rintro ⟨r1,r2⟩ s' ⟨hr,rfl,_⟩;simp only at hr;subst hr;exact Hg q
  | _=>cases h
theorem uP:∀ (n:Nat) {A:Around} {s:Shared} {E:Value->Shared->Prop} {d:PyData} {v:Value} {as:List Addr} {Q:Int->Shared->Prop},Reads s.heap v d as->hkB d=true->d.depth<=n->A.units+n < cLine ->
  (∀ t,Q (bG w d) { s with toks:=t })->wpAny (model P w) A (pyHash v) Q E s:=by
 intro n;induction n with
 | zero =>
  intro A s E d v as Q r h hd hu q;cases r with
  | int i t=>exact wpAny_pyHash_int (q _)
  | str x t=>exact wpAny_pyHash_str (q _)
  | tuple _ _ _ _=>rw [PyData.depth] at hd;omega
  | _=>cases h
 | succ n ih =>
  intro A s E d v as Q r h hd hu q;cases r with
  | int i t=>exact wpAny_pyHash_int (q _)
  | str x t=>exact wpAny_pyHash_str (q _)
  | @tuple a o vs k xs as ho hc hdt ra =>
   have hT:s.TypeIs (.ref a) "tuple" := ⟨o,ho,hc⟩;have hx:=jd.mp h;unfold pyHash;first | unfold pyHashByItsType | skip
   first | refine He (wpAny_cRoomFor_or (.inr (by omega)) ?_) | skip
   refine He (JX hT F.slot_tuple_hash.lookup ?_);show wpAny _ _ (if (some (Value.builtin "tuple.__hash__")==some Value.none)=true then _ else _) Q E s;rw [Hz (by rw [beq_builtin_none];exact Ig)];refine He (JX hT F.slot_tuple_hash.lookup ?_);show wpAny _ _ (callSpecialIfBoundUnlessNone? (.ref a) "__hash__" _>>=_) Q E s;refine He (wpAny_callSpecialIfBoundUnlessNone?_slot hT F.slot_tuple_hash (Im F.slot_tuple_hash hT F.entry_tuple_hash ?_ (F.args_tuple_hash_1 _)));show wpAny _ _ (Builtin.Tuple.tupleItemsOf (.ref a)>>=_) _ _ s;refine He (wpAny_tupleItemsOf ho hdt (He ?_));rw [<- Array.forIn_toList];have hap:∀ (l m:List PyData),bP w (l++m)=bP w l++bP w m:=by
    intro l m;induction l with
    | nil=>rfl
    | cons x l ihl=>rw [List.cons_append,bP,bP,ihl];rfl
   refine Jo _ (fun rest (b:Array Int) s'=>∃ i,rest=vs.toList.drop i/\b.toList=bP w (xs.take i)/\∃ t,s'={ s with toks:=t }) _ ?_ ?_ _ _ ⟨0,rfl,rfl,_,rfl⟩
   ·rintro u rest b s' ⟨i,hr,hb,t,rfl⟩;have hi:vs.toList[i]?=some u:=by
     have:(vs.toList.drop i)[0]?=some u:=by rw [<- hr];rfl
     simpa using this
    obtain ⟨d',bs,e1,r1⟩:=(fJ ra).2 i u hi;have hm:=HG e1;refine He (ih (s:={ s with toks:=t }) r1 (hx d' hm) (by have:=ka hm;omega) (by have:A.in1.units=A.units+1:=rfl;omega) fun t'=>?_);have nx:rest=vs.toList.drop (i+1)/\(b.push (bG w d')).toList=bP w (xs.take (i+1))/\∃ t'',({ s with toks:=t' }:Shared)={ s with toks:=t'' }:=by
     refine ⟨?_,?_,_,rfl⟩
     ·have:=congrArg List.tail hr;simpa [List.tail_drop] using this
     ·rw [List.take_add_one,e1,hap,JL,hb];rfl
    first
     | exact Hg ⟨i+1,nx⟩
     | exact He (Hg (Hg ⟨i+1,nx⟩))
   ·rintro b s' ⟨i,hr,hb,t,rfl⟩;have hi:vs.toList.length<=i:=by
     have:=congrArg List.length hr;simp at this;simpa using (by omega:vs.size<=i)
    rw [Jl (by rw [<- (fJ ra).1];exact hi)] at hb;show wpAny _ _ (retInt (Builtin.Tuple.tupleHashOf b.toList)) _ _ _;rw [hb];refine wpAny_ret_mkInt ?_;have q':=q;rw [bG] at q';unfold reduceHash at q';show wpAny _ _ (if (decide (-(2:Int) ^ 63<=Builtin.Tuple.tupleHashOf (bP w xs))&&decide (Builtin.Tuple.tupleHashOf (bP w xs) < 2 ^ 63))=true then _ else _) Q E _;by_cases hc:(decide (-(2:Int) ^ 63<=Builtin.Tuple.tupleHashOf (bP w xs))&&decide (Builtin.Tuple.tupleHashOf (bP w xs) < 2 ^ 63))=true
    ·rw [Hv hc];rw [Hv hc] at q';exact Hg (q' _)
    ·rw [Hz hc];rw [Hz hc] at q';exact He (IJ (Hg (q' _)))
  | _=>cases h
end
open PySem PySem.Spec PyProof.Rows
theorem aB {d:PyData}:kyB d=true↔hkB d=true/\d.canLay0=true/\d.depth<=6:=by simp [kyB,and_assoc]
section
variable {P:Program} {w:World} {A:Around} {E:Value->Shared->Prop} {s:Shared}
structure yw (w:World) (h:Heap) (es:Array DictEntry) (ks:List PyData):Prop where
 len:es.size=ks.length
 nd:ks.Nodup
 at_:∀ (j:Nat) (k:PyData),ks[j]?=some k->kyB k=true/\∃ e bs,es[j]?=some e/\e.hash=bG w k/\Reads h e.key k bs
theorem yw.at' {h:Heap} {es:Array DictEntry} {ks:List PyData} (N:yw w h es ks) {j:Nat} {e:DictEntry} (he:es[j]?=some e):∃ k bs,ks[j]?=some k/\kyB k=true/\e.hash=bG w k/\Reads h e.key k bs:=by
 have hj:j < ks.length:=by rw [<- N.len];exact (Array.getElem?_eq_some_iff.mp he).1
 obtain ⟨a,e',bs,b,c,r⟩:=N.at_ j _ (Hj hj);rw [he] at b;cases b;exact ⟨_,bs,Hj hj,a,c,r⟩
theorem yw.one {h:Heap} {es:Array DictEntry} {ks:List PyData} (N:yw w h es ks) {i j:Nat} {k:PyData} (hi:ks[i]?=some k) (hj:ks[j]?=some k):i=j :=
 (List.getElem?_inj (Hl.mp hi).1 N.nd).mp (hi.trans hj.symm)
theorem wa {key key':Value} {k k':PyData} {as bs:List Addr} (hu:A.units+6 < cLine) (r:Reads s.heap key k as) (r':Reads s.heap key' k' bs) (h:kyB k=true) (h':kyB k'=true):SeqAt.EqAt A s key' key (PyData.eqv k' k):=by
 rw [aB] at h h';exact SeqAt.eqAt_reads k' k A s key' key bs as r' r h'.2.1 h.2.1 (by have:=Nat.min_le_right k'.depth k.depth;omega)
theorem BB {key:Value} {k:PyData} {as:List Addr} {st:List Value} {Q:Bool->Shared->Prop} (r:Reads s.heap key k as) (h:kyB k=true) (hst:∀ v∈st,∃ k' bs,Reads s.heap v k' bs/\kyB k'=true) (q:Q false s) :
  wpAny (model P w) A (tableMayTell key st) Q E s:=by
 rw [aB] at h;unfold tableMayTell;split
 ·exact Hg q
 ·refine He (rp 8 r h.1 (by omega) ?_);rw [Hz (by simp)];refine He (Jo _ (fun rest b s'=>s'=s/\b=(none,())/\∀ v∈rest,v∈st) _ ?_ ?_ _ _ ⟨rfl,rfl,fun _ z=>z⟩)
  ·rintro v rest b s' ⟨rfl,rfl,hr⟩;obtain ⟨k',bs,r',h'⟩:=hst v (hr v Hu);rw [aB] at h';refine He (rp 8 r' h'.1 (by omega) ?_);rw [Hz (by simp)];exact Hg ⟨rfl,rfl,fun v hv=>hr v (Hr _ hv)⟩
  ·rintro b s' ⟨rfl,rfl,_⟩;exact Hg q
theorem pH {h:Heap} {v:Value} {x:Str} {as:List Addr} (r:Reads h v (.str x) as):∃ t,v=.str x t:=by cases r;exact ⟨_,rfl⟩
theorem lu {h:Heap} {v:Value} {x:Str} {k:PyData} {as:List Addr} (r:Reads h v k as) (hk:hkB k=true) (hp:v.isStr x=true):k=.str x:=by
 cases r with
 | str y t=>simp [Value.isStr] at hp;simp [hp]
 | int i t=>simp [Value.isStr] at hp
 | tuple _ _ _ _=>simp [Value.isStr] at hp
 | _=>cases hk
theorem oV {α:Type} {c:Prop} [Decidable c] {x y:Sem α} {Q:α->Shared->Prop} (hx:wpAny (model P w) A x Q E s) (hy:wpAny (model P w) A y Q E s):wpAny (model P w) A (if c then x else y) Q E s:=by
 split
 ·exact hx
 ·exact hy
theorem A5 {α:Type} {c:Prop} [Decidable c] {m:Sem Bool} {f:Bool->Sem α} {Q:α->Shared->Prop} (hm:∀ Q':Bool->Shared->Prop,Q' false s->wpAny (model P w) A m Q' E s) (h:wpAny (model P w) A (f false) Q E s) :
  wpAny (model P w) A (if c then (pure false:Sem Bool)>>=f else m>>=f) Q E s:=oV (He (Hg h)) (He (hm _ h))
theorem uZ {w0:World} {d:Addr} {o:Obj} {es:Array DictEntry} {ep:Nat} {ks:List PyData} {k:PyData} {key:Value} {as:List Addr} {Q:Option Nat->Shared->Prop}
  (hu:A.units+6 < cLine) (hk:Reads s.heap key k as) (hky:kyB k=true) (ho:s.heap.get? d=some o) (hd:o.data=.dict es ep) (N:yw w0 s.heap es ks)
  (hnone:(∀ j:Nat,ks[j]?≠some k)->Q none s) (hsome:∀ j:Nat,ks[j]?=some k->Q (some j) s):wpAny (model P w) A (dictFind d key (bG w0 k)) Q E s:=by
 have hk3:=aB.mp hky;have hsz:=N.len;have hash_at:∀ j:Nat,ks[j]?=some k->((es[j]?.map (·.hash))==some (bG w0 k))=true:=fun j hj=>by
  obtain ⟨_,e,bs,he,hh,_⟩:=N.at_ j k hj;rw [he];simp [hh]
 have same:∀ {k'},kyB k'=true->(PyData.eqv k' k=true↔k'=k):=fun h'=>fo _ _ (aB.mp h').1 hk3.1;have done:∀ i:Nat,i<=es.size->(∀ j:Nat,j < i->ks[j]?≠some k)->[]=(List.range' i (es.size - i)).filter (fun i=>(es[i]?.map (·.hash))==some (bG w0 k))->∀ j:Nat,ks[j]?≠some k:=by
  intro i hi hno hr j hj;rcases Ja j i with h | h
  ·exact hno j h hj
  ·have hjl:j < es.size:=by rw [hsz];exact (Hl.mp hj).1
   have:=List.filter_eq_nil_iff.mp hr.symm j (List.mem_range'_1.mpr ⟨h,by omega⟩);exact this (hash_at j hj)
 have skip:∀ {i x:Nat},(∀ j:Nat,j < i->ks[j]?≠some k)->(∀ j:Nat,i<=j->j < x->((es[j]?.map (·.hash))==some (bG w0 k))=false)->∀ j:Nat,j < x->ks[j]?≠some k:=by
  intro i x hno hs j hjx hj;rcases Ja j i with h | h
  ·exact hno j h hj
  ·have:=hs j h hjx;rw [hash_at j hj] at this;cases this
 have step:∀ {x:Nat} {k':PyData},ks[x]?=some k'->k'≠k->(∀ j:Nat,j < x->ks[j]?≠some k)->∀ j:Nat,j < x+1->ks[j]?≠some k:=by
  intro x k' hx hne hno j hj hjk;rcases Ja j x with h | h
  ·exact hno j h hjk
  ·have:j=x:=by omega
   subst this;rw [hx] at hjk;cases hjk;exact hne rfl
 have plain:wpAny (model P w) A (dictWalkPlain d key (bG w0 k) es (placesWithHash es.size (fun i=>es[i]?.map (·.hash)) (bG w0 k))) Q E s:=by
  unfold dictWalkPlain
  refine He (Jo _ (fun rest b s'=>s'=s/\b=(none,())/\∃ i:Nat,rest=(List.range' i (es.size - i)).filter (fun i=>(es[i]?.map (·.hash))==some (bG w0 k))/\i<=es.size/\∀ j:Nat,j < i->ks[j]?≠some k) _ ?_ ?_ _ _
   ⟨rfl,rfl,0,by rw [placesWithHash,List.range_eq_range',Nat.sub_zero],Ip _,fun _ h=>absurd h (Nat.not_lt_zero _)⟩)
  ·rintro x rest b s' ⟨rfl,rfl,i,hr,hi,hno⟩;obtain ⟨hix,hxn,hpx,hskip,hrest⟩:=filter_range'_cons _ _ _ _ _ hr.symm;have hlt:x < es.size:=by omega
   have hex:es[x]?=some es[x]:=HI hlt;obtain ⟨k',bs,hkx,hk',hh,hr'⟩:=N.at' hex;have hno':=skip hno hskip;have hrest':rest=(List.range' (x+1) (es.size - (x+1))).filter (fun i=>(es[i]?.map (·.hash))==some (bG w0 k)):=by rw [hrest];congr 2;omega
   rw [hex] at hpx ⊢;have hhx:(es[x].hash==bG w0 k)=true:=by simpa using hpx
   dsimp only;rw [Hv hhx];refine He (IH ho hd (He (wa hu hk hr' hky hk' _ _ _ _ (He (IH ho hd ?_)))));rw [Hz (by simp)];by_cases z:k'=k
   ·subst z;rw [(same hky).mpr rfl];first | rw [Hv rfl] | skip
    exact He (IJ (Hg (Hg (hsome x hkx))))
   ·have:PyData.eqv k' k=false:=by
     cases q:PyData.eqv k' k with
     | false=>rfl
     | true=>exact absurd ((same hk').mp q) z
    rw [this];rw [Hz (by simp)];exact He (IJ (Hg ⟨rfl,rfl,x+1,hrest',hlt,step hkx z hno'⟩))
  ·rintro b s' ⟨rfl,rfl,i,hr,hi,hno⟩;exact Hg (hnone (done i hi hno hr))
 have hst:∀ v∈(placesWithHash es.size (fun i=>es[i]?.map (·.hash)) (bG w0 k)).filterMap (fun i=>es[i]?.map (·.key)),∃ k' bs,Reads s.heap v k' bs/\kyB k'=true:=by
  intro v hv;obtain ⟨i,_,hi⟩:=List.mem_filterMap.mp hv;obtain ⟨e,he,rfl⟩:=HC.mp hi;obtain ⟨k',bs,_,h1,_,h2⟩:=N.at' he;exact ⟨k',bs,h2,h1⟩
 unfold dictFind;try with_reducible refine HU ?_
 refine He (JH ho hd ?_);have shape:(∃ i t,key=.int i t)\/(∃ x t,key=.str x t/\k=.str x)\/∃ a,key=.ref a:=by
  cases hk with
  | int i t=>exact .inl ⟨i,t,rfl⟩
  | str x t=>exact .inr (.inl ⟨x,t,rfl,rfl⟩)
  | tuple _ _ _ _=>exact .inr (.inr ⟨_,rfl⟩)
  | _=>cases hk3.1
 rcases shape with ⟨i,t,rfl⟩ | ⟨x,t,rfl,ek⟩ | ⟨a,rfl⟩;refine oV plain ?_
 rotate_left
 refine oV ?_ (oV plain ?_)
 ·subst ek;unfold foundByValue;cases hf:es.findIdx? (·.key.isStr x) with
  | none =>
   refine Hg (hnone fun j hj=>?_);obtain ⟨_,e,bs,he,_,r⟩:=N.at_ j _ hj;have:=Array.findIdx?_eq_none_iff.mp hf e (Array.mem_of_getElem? he);obtain ⟨t',e'⟩:=pH r;rw [e'] at this;simp [Value.isStr] at this
  | some i =>
   have hi:=(Array.findIdx?_eq_some_iff_getElem.mp hf);obtain ⟨hlt,hp,_⟩:=hi;have hex:es[i]?=some es[i]:=HI hlt;obtain ⟨k',bs,hkx,hk',hh,hr'⟩:=N.at' hex;have e1:k'=.str x:=lu hr' (aB.mp hk').1 hp;subst e1;dsimp only;rw [hex];dsimp only;refine He (IH ho hd (He (wa hu hk hr' hky hk' _ _ _ _ (He (IH ho hd ?_)))));rw [Hz (by simp),(same hky).mpr rfl];first | rw [Hv rfl] | skip
   exact He (IJ (Hg (hsome i hkx)))
 rotate_left
 refine oV plain ?_;have hany:¬(es.any fun e=>e.key==Value.ref a&&e.hash != bG w0 k)=true:=by
  rw [<- Array.any_toList,JR];rintro ⟨e,hin,hc⟩;obtain ⟨j,hj⟩:=IG.mp hin;obtain ⟨k',bs,_,_,h3,h4⟩:=N.at' (j:=j) (e:=e) (by simpa using hj);simp only [HL,Jg,bne_iff_ne,ne_eq] at hc;rw [hc.1] at h4;exact hc.2 (by rw [h3,(PySem.Reads.unique h4 _ _ hk).1])
 dsimp only;rw [Hz hany]
 all_goals
  refine A5 (fun Q' q=>BB hk hky hst q) ?_;try dsimp only
  rw [Hz (by simp)]
  refine He (Jo _ (fun rest b s'=>s'=s/\∃ (i:Nat) (hit:Option Nat),b=(none,hit)/\rest=(List.range' i (es.size - i)).filter (fun i=>(es[i]?.map (·.hash))==some (bG w0 k))/\i<=es.size /\
    ((hit=none/\∀ j:Nat,j < i->ks[j]?≠some k)\/∃ j,hit=some j/\j < i/\ks[j]?=some k)) _ ?_ ?_ _ _
   ⟨rfl,0,none,rfl,by rw [placesWithHash,List.range_eq_range',Nat.sub_zero],Ip _,.inl ⟨rfl,fun _ h=>absurd h (Nat.not_lt_zero _)⟩⟩)
  ·rintro x rest b s' ⟨rfl,i,hit,rfl,hr,hi,hH⟩;obtain ⟨hix,hxn,hpx,hskip,hrest⟩:=filter_range'_cons _ _ _ _ _ hr.symm;have hlt:x < es.size:=by omega
   have hex:es[x]?=some es[x]:=HI hlt;obtain ⟨k',bs,hkx,hk',hh,hr'⟩:=N.at' hex;have hrest':rest=(List.range' (x+1) (es.size - (x+1))).filter (fun i=>(es[i]?.map (·.hash))==some (bG w0 k)):=by rw [hrest];congr 2;omega
   rw [hex] at hpx ⊢;have hhx:=(show (es[x].hash==bG w0 k)=true by simpa using hpx);dsimp only;rw [Hv hhx];refine He (IH ho hd (He (wa hu hk hr' hky hk' _ _ _ _ (He (IH ho hd ?_)))));rw [Hz (by simp)];cases q:PyData.eqv k' k with
   | true =>
    have z:=(same hk').mp q;rw [z] at hkx;first | rw [Hv rfl] | skip
    have h0:hit=none:=by
     rcases hH with ⟨h0,_⟩ | ⟨j,_,hj,hjk⟩
     ·exact h0
     ·exact absurd (N.one hjk hkx) (by omega)
    subst h0;simp only [Option.isSome_none,Jh,Jd];first | refine He (Hg ?_) | skip
    refine He (IJ ?_);split
    ·exact Hg (Hg (hsome x hkx))
    ·exact Hg ⟨rfl,x+1,some x,rfl,hrest',hlt,.inr ⟨x,rfl,IZ x,hkx⟩⟩
   | false =>
    rw [Hz (by simp)];have z:k'≠k:=fun e=>by rw [(same hk').mpr e] at q;cases q
    have st:(hit=none/\∀ j:Nat,j < x+1->ks[j]?≠some k)\/∃ j,hit=some j/\j < x+1/\ks[j]?=some k:=by
     rcases hH with ⟨h0,hno⟩ | ⟨j,h0,hj,hjk⟩
     ·exact .inl ⟨h0,step hkx z (skip hno hskip)⟩
     ·exact .inr ⟨j,h0,by omega,hjk⟩
    refine He (IJ ?_);first | rw [Hz (by simp)] | skip
    first
     | exact Hg ⟨rfl,x+1,hit,rfl,hrest',hlt,st⟩
     | exact He (Hg (Hg ⟨rfl,x+1,hit,rfl,hrest',hlt,st⟩))
  ·rintro b s' ⟨rfl,i,hit,rfl,hr,hi,hH⟩;rcases hH with ⟨rfl,hno⟩ | ⟨j,rfl,_,hj⟩
   ·exact Hg (hnone (done i hi hno hr))
   ·exact Hg (hsome j hj)
end
open PySem PySem.Spec PyProof.Rows
noncomputable def kD:Key->PyData | .inl i=>.int i | .inr x=>.str x
noncomputable def cvK (kv:Key×V):PyData×V×V:=(kD kv.1,kV kv.1,kv.2)
theorem Aa {a b:Key} (h:kD a=kD b):a=b:=by
 cases a <;> cases b <;> simp [kD] at h <;> simp [h]
theorem vW (w:World) (k:Key):bG w (kD k)=Fp w k:=by cases k <;> rfl
theorem l5 {P:Program} {w:World} {H:Hp} (h:Heap) (hb:sysModules < h.objs.size):bj P w H (h.push { cls:=.type "dict", data:=.dict #[] }) h.objs.size (.dD 0 []) :=
 ⟨Ip _,beq_eq_false_iff_ne.mpr (Ne.symm (HH hb)),List.nodup_nil,_,#[],Hy _ rfl,⟨rfl,rfl,rfl⟩,rfl,.nil⟩
theorem kN {P:Program} {w:World}:∀ {kvs:List (Key×V)} {vs:List (Key×Value)} {es:List DictEntry},KV kvs vs->Pairs (aY P w) es vs->(∀ e∈es,∃ k,(aY P w).is k e.key=true/\e.hash=(aY P w).hash k)->Paired (yl w) (kvs.map cvK) es
 | [],_,_,r,q,_=>by cases r;cases q;exact .nil
 | p :: kvs,_,es,r,q,h=>by
  cases r with
  | cons r t =>
   cases q with
   | @cons e kv es' kvs' h1 h2 h3 =>
    obtain ⟨k,hk,hh⟩:=h e Hu;have e1:k=p.1:=by rw [r.1];exact (aY P w).inj _ _ _ hk h1
    subst e1;refine .cons ⟨?_,?_,?_⟩ (kN t h3 fun e he=>h e (Hr _ he))
    ·rw [hh];exact (vW w _).symm
    ·show RelV (kV p.1) e.key;rcases aG (show lE p.1 e.key=true from hk) with ⟨i,t,e1,e2⟩ | ⟨x,t,e1,e2⟩
     ·rw [e1,e2];exact ⟨t,rfl⟩
     ·rw [e1,e2];exact ⟨t,rfl⟩
    ·show RelV p.2 e.val;rw [h2];exact r.2
theorem De {P:Program} {w:World} {H:Hp} {h:Heap} {a:Addr} {kvs:List (Key×V)} {vs:List (Key×Value)} (z:kvs.length<=sizeLine) (hd:(a==sysModules)=false) (rel:KV kvs vs) (dd:h.DictOf (aY P w) a vs) :
  ∃ ep,bj P w H h a (.dD ep (kvs.map cvK)):=by
 obtain ⟨o,es,ep,h1,h2,h3,h4,h5,h6⟩:=dd;refine ⟨ep,by rw [Hf];exact z,hd,?_,o,es,h1,h2,h3,kN rel h5 fun e he=>h4 e (Array.mem_toList_iff.mp he)⟩;have e1:vs.map (·.1)=kvs.map (·.1):=by
  clear h5 h6 z;unfold KV at rel;induction rel with
  | nil=>rfl
  | cons r t ih=>rw [List.map_cons,List.map_cons,ih,r.1]
 rw [e1] at h6;rw [Ij];have:(kvs.map ((fun x:PyData×V×V=>x.1)∘cvK))=(kvs.map (·.1)).map kD:=by rw [Ij];rfl
 rw [this];exact List.Pairwise.map kD (fun _ _ n z=>n (Aa z)) h6
def oG (trs:List (TE×TE)):TE:=fun σ H Q=>∀ p,H p=none->mU trs σ (upd H p (.dD 0 [])) fun ps H2=>H2 p=some (.dD 0 [])/\∃ kvs:List (Key×V),ps=kvs.map (fun kv=>(kV kv.1,kv.2))/\kvs.length<=15/\∀ ep,Q (.ref p) (upd H2 p (.dD ep ((cP [] kvs).map cvK)))
section
variable {X:Cx} {pos:Pos}
theorem uf {keys:List (Option Expr)} {values:List Expr} {trs:List (TE×TE)} (h:PPs X pos keys values trs) (hall:keys.all (·.isSome)=true) (hl:keys.length=values.length) (h0:keys≠[])
  (h15:keys.length<=15):PE X (.Dict keys values pos) (oG trs):=by
 intro pins s σ H Q I q;have hn:=I.hok.fresh (Hn s.heap.objs.size);have I1:=I.laid (o:=.dD 0 []) (h':=s.heap.push { cls:=.type "dict", data:=.dict #[] }) (t':=s.toks) (fun _ _ q=>Hm _ q) (Hn _) (l5 s.heap I.big);refine wpAny_Dict_walk (knd:=aY X.prog X.w) hall hl h0 h15 (thn (h pins _ σ _ _ I1 (q _ hn)) fun ws s2 ⟨ps,H2,I2,rel,e,kvs,ep,lk,q2⟩=>?_);subst ep;obtain ⟨rs,c,rk⟩:=iG (P:=X.prog) (w:=X.w) rel;obtain ⟨z,hd,nd,o,es,g1,g2,g3,g4⟩:=(show bj X.prog X.w H2 s2.heap s.heap.objs.size (.dD 0 []) from I2.hok _ _ e);have ees:es=#[]:=by
  cases es with
  | mk l=>cases g4;rfl
 subst ees;have dd:s2.heap.DictOf (aY X.prog X.w) s.heap.objs.size []:=⟨o,#[],0,g1,g2,g3,fun e he=>by simp at he,.nil,List.nodup_nil⟩;refine ⟨rs,c,dd,fun h' dd' hs=>?_⟩;have hz:(cP [] kvs).length<=sizeLine:=by
  have h1:=eO kvs [];rw [List.length_nil] at h1;rw [Ie];omega
 have he:∃ q,h'.get? s.heap.objs.size=some q:=let ⟨q,_,_,hq,_⟩:=dd';⟨q,hq⟩
 obtain ⟨ep,new⟩:=De (H:=upd H2 s.heap.objs.size (.dD 0 [])) hz hd (rk.merge .nil) dd';exact ⟨.ref s.heap.objs.size,_,lK I2 (by rw [e];exact True.intro) hs he (ob:=.dD ep ((cP [] kvs).map cvK)) new,rfl,q2 ep⟩
end
noncomputable def qP (xs:List (PyData×V×V)) (k:PyData):Option V:=(xs.find? fun x=>PyData.eqv x.1 k).map (·.2.2)
noncomputable def kZ (xs:List (PyData×V×V)) (k:PyData) (j v:V):List (PyData×V×V) :=
 if (xs.any fun x=>PyData.eqv x.1 k)=true then xs.map (fun x=>if PyData.eqv x.1 k=true then (x.1,x.2.1,v) else x) else xs++[(k,j,v)]
def iy (h:Heap) (xs:List (PyData×V×V)):Prop:=∀ x∈xs,kyB x.1=true/\∀ u,RelV x.2.1 u->∃ bs,Reads h u x.1 bs
section
variable {X:Cx} {pins:List (Addr×Obj)} {σ:St} {H:Hp} {s:Shared} {a:Addr} {A:Around} {E:Value->Shared->Prop} {ep:Nat} {xs:List (PyData×V×V)} {k:PyData} {u:Value} {as:List Addr}
theorem eD {α β:Type} {R:α->β->Prop}:∀ {l:List α} {m:List β},Paired R l m->∀ (j:Nat) (x:α),l[j]?=some x->∃ y,m[j]?=some y/\R x y
 | _,_,.nil,j,x,e=>by simp at e
 | _,_,.cons r t,0,x,e=>by simp at e;subst e;exact ⟨_,rfl,r⟩
 | _,_,.cons r t,j+1,x,e=>by simpa using eD t j x (by simpa using e)
theorem qq {P:Program} {w:World} {h:Heap} {es:Array DictEntry} (kr:iy h xs) (nd:(xs.map (·.1)).Nodup) (r:Paired (yl w) xs es.toList):yw w h es (xs.map (·.1)) where
 len:=by rw [Hf,Paired.length r];simp
 nd:=nd
 at_:=fun j k e=>by
  rw [Hq] at e;obtain ⟨x,hx,rfl⟩:=HC.mp e;obtain ⟨en,h1,h2,h3,h4⟩:=eD r j x hx;obtain ⟨k1,k2⟩:=kr x (HG hx);obtain ⟨bs,r1⟩:=k2 _ h3;exact ⟨k1,en,bs,by simpa using h1,h2,r1⟩
theorem qC {j:Nat} (kr:iy s.heap xs) (nd:(xs.map (·.1)).Nodup) (ky:kyB k=true) (hj:(xs.map (·.1))[j]?=some k):∃ x,xs[j]?=some x/\x.1=k/\xs.find? (fun x=>PyData.eqv x.1 k)=some x:=by
 rw [Hq] at hj;obtain ⟨x,hx,rfl⟩:=HC.mp hj;refine ⟨x,hx,rfl,?_⟩;rw [List.find?_eq_some_iff_getElem];obtain ⟨hl,e⟩:=Hl.mp hx;refine ⟨(fo _ _ (aB.mp ky).1 (aB.mp ky).1).mpr rfl,j,hl,e,fun i hi=>?_⟩;have hil:i < xs.length:=by omega
 cases q:PyData.eqv xs[i].1 x.1 with
 | false=>rfl
 | true =>
  have z:=(fo _ _ (aB.mp (kr _ (List.getElem_mem hil)).1).1 (aB.mp ky).1).mp q;have e1:(xs.map (·.1))[i]?=some x.1:=by rw [Hq,Hj hil,Option.map_some,z]
  have e2:(xs.map (·.1))[j]?=some x.1:=by rw [Hq,hx];rfl
  have:=(List.getElem?_inj (by rw [Hf];exact hil) nd).mp (e1.trans e2.symm);omega
theorem o4 (kr:iy s.heap xs) (ky:kyB k=true) (h:∀ j:Nat,(xs.map (·.1))[j]?≠some k):xs.find? (fun x=>PyData.eqv x.1 k)=none:=by
 rw [List.find?_eq_none];intro x hx q;have z:=(fo _ _ (aB.mp (kr x hx).1).1 (aB.mp ky).1).mp q;obtain ⟨j,hj⟩:=IG.mp hx;exact h j (by rw [Hq,hj,Option.map_some,z])
theorem Er {Q:Option Value->Shared->Prop} (hu:A.units+6 < cLine) (I:Inv X pins σ H s) (e:H a=some (.dD ep xs)) (kr:iy s.heap xs) (hk:Reads s.heap u k as) (ky:kyB k=true)
  (q:∀ t ov,Ei (qP xs k) ov->Q ov { s with toks:=t }):wpAny (model X.prog X.w) A (dictGet a u) Q E s:=by
 obtain ⟨z,hd,nd,o,es,g1,g2,g3,g4⟩:=(show bj X.prog X.w H s.heap a (.dD ep xs) from I.hok _ _ e);unfold dictGet;refine HU (He (uP 6 hk (aB.mp ky).1 (aB.mp ky).2.2 hu fun t=>?_));refine He (uZ (s:={ s with toks:=t }) hu hk ky g1 g3 (qq (P:=X.prog) kr nd g4) (fun hno=>?_) fun j hj=>?_)
 ·refine Hg (q _ _ ?_);unfold qP;rw [o4 (s:=s) kr ky hno];exact True.intro
 ·obtain ⟨x,hx,e1,e2⟩:=qC (s:=s) kr nd ky hj;obtain ⟨en,h1,h2,h3,h4⟩:=eD g4 j x hx;refine He (JH (s:={ s with toks:=t }) g1 g3 (Hg (q _ _ ?_)));unfold qP;rw [e2,show es[j]?=some en by simpa using h1];exact h4
theorem i9 (I:Inv X pins σ H s) (e:H a=some (.dD ep xs)):s.TypeIs (.ref a) "dict" /\ (a==sysModules)=false:=by
 obtain ⟨z,hd,nd,o,es,g1,g2,g3,g4⟩:=(show bj X.prog X.w H s.heap a (.dD ep xs) from I.hok _ _ e);exact ⟨⟨o,g1,g2.1⟩,hd⟩
theorem BO {v:V} {Q:Value->Shared->Prop} (hu:A.units+7 < cLine) (I:Inv X pins σ H s) (e:H a=some (.dD ep xs)) (kr:iy s.heap xs) (hk:Reads s.heap u k as) (ky:kyB k=true) (hv:qP xs k=some v)
  (q:∀ t w',RelV v w'->Q w' { s with toks:=t }):wpAny (model X.prog X.w) A (getItem (.ref a) u) Q E s:=by
 obtain ⟨T,_⟩:=i9 I e;unfold getItem;refine HU (He (wpAny_sequenceKey T (by decide) (He (Iz (name:=Str.ofString "__getitem__") T slot_dict_getitem (Im slot_dict_getitem T entry_dict_getitem ?_ (args_dict_getitem _ _))))));refine He (m:=dictGet a u) (Er (by have:A.in1.units=A.units+1:=rfl;omega) I e kr hk ky fun t ov r=>?_);rw [hv] at r;cases ov with
 | none=>cases r
 | some w'=>exact Hg ⟨w',rfl,Hg (q t w' r)⟩
theorem md {j v:V}:(kZ xs k j v).length<=xs.length+1:=by
 unfold kZ;split
 ·rw [Hf];omega
 ·rw [Ho];exact Hn _
theorem l9 {j v:V} (h:xs.find? (fun x=>PyData.eqv x.1 k)=none):kZ xs k j v=xs++[(k,j,v)]:=by
 unfold kZ;rw [Hz];rw [JR];rintro ⟨x,hx,q⟩;exact absurd q (by simpa using List.find?_eq_none.mp h x hx)
theorem l0 {j v:V} {x:PyData×V×V} (h:xs.find? (fun x=>PyData.eqv x.1 k)=some x):kZ xs k j v=xs.map (fun x=>if PyData.eqv x.1 k=true then (x.1,x.2.1,v) else x):=by
 unfold kZ;rw [Hv];rw [JR];exact ⟨x,List.mem_of_find?_eq_some h,by simpa using List.find?_some h⟩
theorem qf {w:World} {h:Heap} {v:V} {r:Value} (ky:kyB k=true) (rv:RelV v r):∀ {xs:List (PyData×V×V)} {es:List DictEntry} {i:Nat},iy h xs->(xs.map (·.1)).Nodup->(xs.map (·.1))[i]?=some k->Paired (yl w) xs es ->
  Paired (yl w) (xs.map (fun x=>if PyData.eqv x.1 k=true then (x.1,x.2.1,v) else x)) (es.modify i fun e=>{ e with val:=r })
 | [],es,i,_,_,hi,_=>by simp at hi
 | x :: xs,es,i,kr,nd,hi,p=>by
  cases p with
  | @cons _ e _ es' h1 h2 =>
   have ky':=(kr x Hu).1;rw [List.map_cons,Ih] at nd;have off:∀ {ys:List (PyData×V×V)} {fs:List DictEntry},k ∉ ys.map (·.1)->iy h ys->Paired (yl w) ys fs->Paired (yl w) (ys.map (fun x=>if PyData.eqv x.1 k=true then (x.1,x.2.1,v) else x)) fs:=by
    intro ys fs hn kr' q;have:(ys.map (fun x=>if PyData.eqv x.1 k=true then (x.1,x.2.1,v) else x))=ys:=by
     refine (List.map_congr_left fun y hy=>?_).trans (List.map_id _);rw [Hz]
     ·rfl
     ·intro z;exact hn (HW.mpr ⟨y,hy,(fo _ _ (aB.mp (kr' y hy).1).1 (aB.mp ky).1).mp z⟩)
    rw [this];exact q
   cases i with
   | zero =>
    simp at hi;subst hi;rw [List.map_cons,Hv ((fo _ _ (aB.mp ky).1 (aB.mp ky).1).mpr rfl)];exact .cons ⟨h1.1,h1.2.1,rv⟩ (off nd.1 (fun y hy=>kr y (Hr _ hy)) h2)
   | succ i =>
    have hi':(xs.map (·.1))[i]?=some k:=by simpa using hi
    have ne:x.1≠k:=fun z=>nd.1 (by rw [z];exact HG hi');rw [List.map_cons,Hz fun z=>ne ((fo _ _ (aB.mp ky').1 (aB.mp ky).1).mp z)];exact .cons h1 (qf ky rv (fun y hy=>kr y (Hr _ hy)) nd.2 hi' h2)
theorem y0 {j v:V} {r:Value} {Q:Unit->Shared->Prop} (hu:A.units+6 < cLine) (I:Inv X pins σ H s) (e:H a=some (.dD ep xs)) (kr:iy s.heap xs) (hk:Reads s.heap u k as) (ky:kyB k=true) (rj:RelV j u) (rv:RelV v r) (hl:xs.length < sizeLine)
  (q:∀ ep' s',Inv X pins σ (upd H a (.dD ep' (kZ xs k j v))) s'->(∀ b o,b≠a->s.heap.get? b=some o->s'.heap.get? b=some o)->Q () s'):wpAny (model X.prog X.w) A (dictSet a u r) Q E s:=by
 obtain ⟨T,hd⟩:=i9 I e;obtain ⟨z,_,nd,o,es,g1,g2,g3,g4⟩:=(show bj X.prog X.w H s.heap a (.dD ep xs) from I.hok _ _ e);have hsz:es.size=xs.length:=by rw [Paired.length g4];simp
 unfold dictSet dictSetHashed;refine HU (He (uP 6 hk (aB.mp ky).1 (aB.mp ky).2.2 hu fun t=>HU ?_));have hl':(kZ xs k j v).length<=sizeLine:=by have:=md (xs:=xs) (k:=k) (j:=j) (v:=v);omega
 refine He (uZ (s:={ s with toks:=t }) hu hk ky g1 g3 (qq (P:=X.prog) kr nd g4) (fun hno=>?_) fun i hi=>?_)
 ·have fn:=o4 (s:=s) kr ky hno;refine He (IJ (wpAny_updateDictKeys (s:={ s with toks:=t }) (hz:=by omega) g1 g3 (q (ep+1) _ (lK (t':=t) (I.tok t) (by rw [e];exact True.intro) (Jc ..) ⟨_,Iq _ g1 (Obj.isFreed_of_dict (Obj.data_mapDictKeys g3 _))⟩ ?_) fun b o hb e=>(HS _ _ (Ne.symm hb)).trans e)));refine ⟨hl',hd,?_,_,_,Iq _ g1 (Obj.isFreed_of_dict (Obj.data_mapDictKeys g3 _)),g2.mapDictKeys _,Obj.data_mapDictKeys g3 _,?_⟩
  ·rw [l9 fn,HX,List.nodup_append];refine ⟨nd,by simp,fun y hy z hz=>?_⟩;simp only [List.map_cons,List.map_nil,Hw] at hz;subst hz;rintro rfl;obtain ⟨i,hi⟩:=IG.mp hy;exact hno i hi
  ·rw [l9 fn,JL];exact Paired.snoc g4 ⟨rfl,rj,rv⟩
 ·obtain ⟨x,hx,e1,e2⟩:=qC (s:=s) kr nd ky hi;refine He (IJ (He (wpAny_updateDict (s:={ s with toks:=t }) g1 g3 (wpAny_point (q ep _ (lK (t':=t) (I.tok t) (by rw [e];exact True.intro) (Jc ..) ⟨_,Iq _ g1 (Obj.isFreed_of_dict (Obj.data_mapDict g3 _))⟩ ?_) fun b o hb e=>(HS _ _ (Ne.symm hb)).trans e)))));refine ⟨hl',hd,?_,_,_,Iq _ g1 (Obj.isFreed_of_dict (Obj.data_mapDict g3 _)),g2.mapDict _,Obj.data_mapDict g3 _,?_⟩
  ·rw [l0 e2,Ij];have:(xs.map ((fun x:PyData×V×V=>x.1)∘fun y=>if PyData.eqv y.1 k=true then (y.1,y.2.1,v) else y))=xs.map (·.1):=List.map_congr_left fun y _=>by
    show (if PyData.eqv y.1 k=true then (y.1,y.2.1,v) else y).1=y.1;split <;> rfl
   rw [this];exact nd
  ·rw [l0 e2,Array.toList_modify];exact qf ky rv kr nd hi g4
theorem CW {j v:V} {r:Value} {Q:Unit->Shared->Prop} (hu:A.units+7 < cLine) (I:Inv X pins σ H s) (e:H a=some (.dD ep xs)) (kr:iy s.heap xs) (hk:Reads s.heap u k as) (ky:kyB k=true) (rj:RelV j u) (rv:RelV v r) (hl:xs.length < sizeLine)
  (q:∀ ep' s',Inv X pins σ (upd H a (.dD ep' (kZ xs k j v))) s'->Q () s'):wpAny (model X.prog X.w) A (setItem (.ref a) u r) Q E s:=by
 obtain ⟨T,hd⟩:=i9 I e;unfold setItem;refine HU (He (wpAny_sequenceKey T (by decide) (He (Iz (name:=Str.ofString "__setitem__") T slot_dict_setitem (Im slot_dict_setitem T entry_dict_setitem ?_ (args_dict_setitem _ _ _))))));refine He (m:=Builtin.Dict.notOrdered "__setitem__" ⟨[.ref a,u,r],[]⟩) (wpAny_notOrdered_dict T ?_);exact He (m:=dictSet a u r) (y0 (by have:A.in1.units=A.units+1:=rfl;omega) I e kr hk ky rj rv hl fun ep' s' I' _=>Hg ⟨.none,rfl,Hg (q ep' s' I')⟩)
end
open PySem PySem.Spec PyProof.Rows
section
variable {P:Program} {w:World} {A:Around} {E:Value->Shared->Prop} {s:Shared} {it d:Addr} {o od:Obj} {es:Array DictEntry} {i ep:Nat}
theorem BZ {Q:Value->Shared->Prop} (hd:(d==sysModules)=false) (g1:s.heap.get? d=some od) (g2:od.ExactDict) (g3:od.data=.dict es ep)
  (q:Q (.ref s.heap.objs.size) { s with heap:=s.heap.push { cls:=.type "dict_keyiterator", data:=.fields #[.ref d,.int 0 0,.int es.size 0,.int ep 0] } }):wpAny (model P w) A (pyIter (.ref d)) Q E s:=by
 have T:s.TypeIs (.ref d) "dict" := ⟨od,g1,g2.1⟩;refine wpAny_pyIter_slot T F.slot_dict_iter (Im F.slot_dict_iter T F.entry_dict_iter ?_ (F.args_dict_iter_1 _));unfold Builtin.«dict.__iter__» Builtin.Dict.dictSlotNone
 refine He (He (wpAny_notOrdered_dict T ?_));show wpAny _ _ (pure (Value.ref d):Sem Value) _ _ s;refine Hg ?_;show wpAny _ _ (Builtin.Dict.showsAll d>>=_) _ _ s;unfold Builtin.Dict.showsAll;rw [Hz (by rw [hd];exact Ig)];refine He (Hg (He (JH g1 g3 (He (IH g1 g3 ?_)))));exact He (Ia (Hg ⟨_,rfl, "dict_keyiterator", _,⟨_,Hy _ rfl,rfl⟩,Jv.lookup,q⟩))
theorem z4 {Q:Option Value->Shared->Prop} (hit:s.heap.IsKeyIter it d i es.size ep) (g1:s.heap.get? d=some od) (g3:od.data=.dict es ep) {e:DictEntry} (he:es[i]?=some e)
  (q:∀ h',h'.IsKeyIter it d (i+1) es.size ep->Heap.SameBut it s.heap h'->Q (some e.key) { s with heap:=h' }):wpAny (model P w) A (pyNext (.ref it)) Q E s:=by
 obtain ⟨ob,ho,hc,hd⟩:=id hit;have T:=hit.typeIs;unfold pyNext;refine He (wpAny_attempt (Iz (name:=Str.ofString "__next__") T Jv (Im Jv T F.entry_dict_keyiterator_next ?_ (F.args_dict_keyiterator_next_1 _))));refine He (Hg (He (He ?_)));first | refine He (Js T (Hg (He (Jw ho hd ?_)))) | refine He (JM T (Hg (He (Jw ho hd ?_))))
 simp only [show Builtin.Dict_items.ownsTuple "dict_keyiterator" = false by decide,Jh,Jd];show wpAny _ _ (if (Value.ref d==Value.none)=true then _ else _) _ _ s;rw [Hz (show ¬((Value.ref d==Value.none)=true) from Ig)];refine He (Hg (He (JH g1 g3 ?_)));rw [Hz (by simp)];refine He (Hg (He (IH g1 g3 ?_)));rw [Hz (by simp)];refine Hg ?_;simp only [show ¬((i:Int) < 0) from by omega,Jd,IX,he];refine He ?_;first | refine He (Js T (Hg (He (wpAny_isOneOf_keyiter T ?_)))) | refine He (JM T (Hg (He (wpAny_isOneOf_keyiter T ?_))))
 show wpAny _ _ (setField (.ref it) 1 (rawInt ((i:Int)+1))>>=_) _ _ s;have hit':(s.heap.update it (Obj.mapFields (·.setIfInBounds 1 (rawInt ((i:Int)+1))))).IsKeyIter it d (i+1) es.size ep :=
  ⟨_,Iq _ ho (Obj.isFreed_of_fields (Obj.data_mapFields hd _)),(Obj.cls_mapFields ..).trans hc,by rw [Obj.data_mapFields hd];simp [rawInt]⟩
 refine He (wpAny_setField ho hd (by simp) (He (HU ?_)));refine He (wpAny_isOneOf_keyiter (s:={ s with heap:=s.heap.update it (Obj.mapFields (·.setIfInBounds 1 (rawInt ((i:Int)+1)))) }) hit'.typeIs ?_);show wpAny _ _ (pure e.key:Sem Value) _ _ _;exact Hg (Hg ⟨_,rfl,Hg (q _ hit' (Jc ..))⟩)
theorem Em {Q:Option Value->Shared->Prop} (hh:A.handled=none) (hit:s.heap.IsKeyIter it d i es.size ep) (g1:s.heap.get? d=some od) (g3:od.data=.dict es ep) (he:es.size<=i)
  (q:∀ h',Heap.ExtBut it s.heap h'->Q none { s with heap:=h' }):wpAny (model P w) A (pyNext (.ref it)) Q E s:=by
 obtain ⟨ob,ho,hc,hd⟩:=id hit;have T:=hit.typeIs;unfold pyNext;refine He (wpAny_attempt (Iz (name:=Str.ofString "__next__") T Jv (Im Jv T F.entry_dict_keyiterator_next ?_ (F.args_dict_keyiterator_next_1 _))));refine He (Hg (He (He ?_)));first | refine He (Js T (Hg (He (Jw ho hd ?_)))) | refine He (JM T (Hg (He (Jw ho hd ?_))))
 simp only [show Builtin.Dict_items.ownsTuple "dict_keyiterator" = false by decide,Jh,Jd];show wpAny _ _ (if (Value.ref d==Value.none)=true then _ else _) _ _ s;rw [Hz (show ¬((Value.ref d==Value.none)=true) from Ig)];refine He (Hg (He (JH g1 g3 ?_)));rw [Hz (by simp)];refine He (Hg (He (IH g1 g3 ?_)));rw [Hz (by simp)];refine Hg ?_;simp only [show ¬((i:Int) < 0) from by omega,Jd,IX,JV he];refine He ?_;first | refine He (Js T (Hg ?_)) | refine He (JM T (Hg ?_))
 show wpAny _ _ (setField (.ref it) 0 .none>>=_) _ _ s;refine He (wpAny_setField ho hd (by simp) ?_);show wpAny _ _ (newExc (.type "StopIteration") []>>=_) _ _ _;refine He ?_;simp only [newExc,newTuple];refine He (Ia (He (m:=firstArgMember _ _) (wpAny_of_eq (a:=Value.none) (by first | rfl | (simp only [firstArgMember];rfl)) (Ia ?_ (by size_fits)))) (by size_fits));simp only [raiseNew];refine He (wpAny_handled ?_);rw [show A.in1.handled=none from hh];refine He (Hg (wpAny_throw ?_));refine He (wpAny_isInstance (b:=true) (T := "StopIteration") ⟨_,Hy _ rfl,rfl⟩ isSubtype_stop ?_);exact Hg (q _ (((Jc ..).extBut.push _).push _))
end
def Itd (a:Addr) (ep:Nat) (xs:List (PyData×V×V)):It :=
 ⟨fun i H=>H a=some (.dD ep xs)/\i < xs.length,fun i H x H'=>H'=H/\(xs[i]?).map (·.2.1)=some x,fun i H=>H a=some (.dD ep xs)/\xs.length<=i⟩
def GC (tl:TE):TI:=fun σ H R=>tl σ H fun x H1=>∃ a ep xs,x=.ref a/\H1 a=some (.dD ep xs)/\R (Itd a ep xs) H1
open PySem PySem.Spec PyProof.Rows
def Itz (K:Fg) (a b:Addr) (xs ys:List V):It :=
 ⟨fun i H=>SqL K H a xs/\SqL K H b ys/\i < xs.length/\i < ys.length,fun i H x H'=>∃ p u v,H p=none/\x=.ref p/\xs[i]?=some u/\ys[i]?=some v/\H'=upd H p (.tup [u,v]),fun i H=>SqL K H a xs/\SqL K H b ys/\(xs.length<=i\/ys.length<=i)⟩
def Gp (K:Fg) (t:TA):TI:=fun σ H R=>t σ H fun vs H1=>∃ a b xs ys,vs=[.ref a,.ref b]/\SqL K H1 a xs/\SqL K H1 b ys/\R (Itz K a b xs ys) H1
open PySem PySem.Spec PyProof.Rows
def TkX (xs:List (PyData×V×V)):Prop:=∀ x∈xs,∃ t,x.1=.str t/\x.2.1=.str t
def Iti (a:Addr) (ep:Nat) (xs:List (PyData×V×V)):It :=
 ⟨fun i H=>H a=some (.dD ep xs)/\TkX xs/\i < xs.length,fun i H x H'=>∃ p y,H p=none/\x=.ref p/\xs[i]?=some y/\H'=upd H p (.tup [y.2.1,y.2.2]),fun i H=>H a=some (.dD ep xs)/\TkX xs/\xs.length<=i⟩
def GY (tl:TE):TI:=fun σ H R=>tl σ H fun x H1=>∃ a ep xs,x=.ref a/\H1 a=some (.dD ep xs)/\TkX xs/\R (Iti a ep xs) H1
open PySem PySem.Spec PyProof.Rows
section
variable {P:Program} {w:World} {H H':Hp} {h h':Heap} {f:Addr} {o:Obj} {u:HO} {fs ex:List Addr}
noncomputable def off (H:Hp) (f:Addr):Hp:=fun b=>if b=f then none else H b
theorem off_ne {b:Addr} (n:b≠f):off H f b=H b:=Hz n
theorem iV:off H f f=none:=Hv rfl
theorem HOk.drop (ok:HOk P w H h) (hf:H f=some (.frz o u)) (hd:∀ vs,o.data≠.fields vs):HOk P w (off H f) h:=fun a x e=>by
 by_cases ha:a=f
 ·rw [ha,iV] at e;cases e
 ·rw [off_ne ha] at e;have ne:∀ {b:Addr} {y:HO},H b=some y->(∀ o u,y≠.frz o u)->b≠f:=fun q n z=>by rw [z,hf] at q;cases q;exact n _ _ rfl
  refine (ok a x e).jk (fun _ _ _ q=>q) (fun b q=>?_) (fun b xs q=>?_) fun b ob v vs q d=>?_
  ·rw [off_ne (ne q fun _ _ z=>by cases z)];exact q
  ·rw [off_ne (ne q fun _ _ z=>by cases z)];exact q
  ·rw [off_ne fun z=>?_];exact q;rw [z,hf] at q;cases q;exact hd _ d
theorem HOk.hold (ok:HOk P w H h) (hn:H f=none) (ho:h.get? f=some o):HOk P w (upd H f (.frz o (.own f))) h:=fun a x e=>by
 by_cases ha:a=f
 ·subst ha;rw [ag] at e;cases e;exact ⟨ho,o,ho⟩
 ·rw [ab ha] at e;exact (ok a x e).jk (fun _ _ _ q=>q) (fun c q=>by rw [ab (ae q hn)];exact q) (fun c xs q=>by rw [ab (ae q hn)];exact q) fun c o u vs q _=>by rw [ab (ae q hn)];exact q
theorem Un.held (un:Un fs ex (upd H f (.frz o (.own f))) H' h h') (hn:H f=none) (ho:h.get? f=some o) (ok:HOk P w H' h'):Un fs ex H (off H' f) h h':=by
 have hz:=un.lp f o _ ag;have hg:h'.get? f=some o:=(ok f _ hz).1;have ne:∀ {b:Addr} {y:HO},H b=some y->b≠f:=fun q z=>by rw [z,hn] at q;cases q
 refine ⟨fun b ob q n hb hx=>?_,fun b ob q n hb hx=>?_,fun b ob q n hx=>?_,fun b ob q hx=>un.there b ob q hx,fun b xs q=>?_,fun b ob v q=>?_,fun b x y q=>?_⟩
 ·by_cases hbf:b=f
  ·subst hbf;rw [ho] at q;cases q;exact hg
  ·exact un.keep b ob q (by rw [ab hbf];exact n) hb hx
 ·by_cases hbf:b=f
  ·subst hbf;rw [ho] at q;cases q;exact ⟨o.slots,hg⟩
  ·exact un.slot b ob q (by rw [ab hbf];exact n) hb hx
 ·by_cases hbf:b=f
  ·rw [hbf];exact iV
  ·rw [off_ne hbf];exact un.free b ob q (by rw [ab hbf];exact n) hx
 ·rw [off_ne (ne q)];exact un.oj b xs (by rw [ab (ne q)];exact q)
 ·rw [off_ne (ne q)];exact un.lp b ob v (by rw [ab (ne q)];exact q)
 ·rw [off_ne (ne q)];exact un.kX b x y (by rw [ab (ne q)];exact q)
end
open PySem PySem.Spec PySem.Calls PyProof.Rows
def uw (H:Hp) (f:Addr) (q:Str) (mk:Value->Value->Obj):Prop:=∃ c ctv oc u vs t,H f=some (.frz (mk (.ref c) ctv) (.own f))/\H c=some (.frz oc u)/\oc.data=.fields vs/\vs[1]?=some (.str q t)
def FE (q:Str) (mk:Value->Value->Obj):TE:=fun _ H Q=>∀ f H',H f=none->(∀ b o,H b=some o->H' b=some o)->uw H' f q mk->Q (.ref f) H'
section
variable {X:Cx} {pins:List (Addr×Obj)} {σ:St} {H:Hp} {s:Shared}
theorem Inv.tab (I:Inv X pins σ H s) {t:Addr×Addr×Str×Pos} (ht:t∈bp):H t.2.1=some (.tbl t.2.2.1 t.2.2.2):=I.base.kX _ _ _ (I.ok.tabs t ht)
theorem Inv.Bb (I:Inv X pins σ H s) {P:Addr} {ps:Array Value} (hP:s.heap.get? P=some { cls:=.none,data:=.fields ps }):s.heap.BuiltinsAt X.mg P:=by
 obtain ⟨bm,ob,b1,b2,b3,b4,b5,b6⟩:=I.mod.bmain;have b3':=I.bk _ _ b3;refine ⟨bm,ob,b1,b2,fun z=>?_,fun z=>?_,b3',b4,b5,b6⟩
 ·obtain ⟨o,es,ep,e,hd,_⟩:=I.mod.glob;rw [z,e] at b3;cases b3;rw [hd] at b6;cases b6
 ·rw [z,hP] at b3';cases b3';cases b6
theorem Inv.EV (I:Inv X pins σ H s) {P:Addr} {ps:Array Value} (hP:s.heap.get? P=some { cls:=.none,data:=.fields ps }):mainGlobals≠P:=fun z=>by
 obtain ⟨o,es,ep,e,hd,_⟩:=I.mod.glob.keeps I.bk;rw [z,hP] at e;cases e;cases hd
end
theorem vv {X:Cx} {params:Arguments} {body:Expr} {scope:Scope} {clos:List (Str×Addr)} {t:Addr×Addr×Str×Pos} (ht:t∈bp) (hcode:X.env.code=.ref t.1) (hq:X.env.qual ++ "<lambda>" = t.2.2.1)
  (hdef:defaultsOf params X.env=([],[])) (hcl:closureFor scope X.env=pure clos) :
  PE X (.Lambda params body scope t.2.2.2) (FE t.2.2.1 fun cv ctv=>{ cls:=.type "function", data:=.func (PySem.W.kla_fn "<lambda>" t.2.2.1 params body scope clos ((X.mg "__name__").getD .none) cv ctv) }):=by
 obtain ⟨c,P,q0,pos⟩:=t;subst hq;intro pins s σ H Q I q;have hT:H P=some (.tbl _ pos):=I.tab ht;obtain ⟨ps,hP,tr,cd⟩:=I.hok _ _ hT;have nP:∀ b,H b=none->b≠P:=fun b n z=>by rw [z,hT] at n;cases n
 have C:=(I.ok.mod.hds _ ht).keeps I.bk;refine PySem.W.kla_eval hdef ?_;rcases cd with cd | ⟨c',oc,u,vs,tq,c1,c2,c3,c4⟩
 ·refine PySem.W.kla_makeFunction (mg:=X.mg) hcl I.ok.glob (I.mod.glob.keeps I.bk) hcode C hP tr cd (I.EV hP) (I.Bb hP) fun c' ctv h' tk hx hge hlt hrec htb=>?_;obtain ⟨c₂,oc,vs,tq,e2,hoc,hd,hv⟩:=hrec;cases e2;have hnc:H c'=none:=I.hok.fresh hge
  have un:Un X.fs [] H (upd H c' (.frz oc (.own c'))) s.heap h':=⟨fun b o e n _ _=>hx b o (nP b n) e,fun b o e n _ _=>⟨o.slots,hx b o (nP b n) e⟩,
   fun b o e n _=>by rw [ab (HH (HF (Ht e) hge))];exact n,fun b o e _=>by
    by_cases hb:b=P
    ·exact ⟨_,by rw [hb];exact htb⟩
    ·exact ⟨o,hx b o hb e⟩,
   fun b xs e=>by rw [ab (ae e hnc)];exact e,fun b o v e=>by rw [ab (ae e hnc)];exact e,fun b x y e=>by rw [ab (ae e hnc)];exact e⟩
  have hok1:HOk X.prog X.w (upd H c' (.frz oc (.own c'))) h':=fun a x e=>by
   by_cases ha:a=c'
   ·subst ha;rw [ag] at e;cases e;exact ⟨hoc,oc,hoc⟩
   ·rw [ab ha] at e;by_cases hb:a=P
    ·subst hb;rw [hT] at e;cases e;exact ⟨_,htb,by rw [Array.toList_append];exact TriplesOk_snoc _ _ _ _ tr,.inr ⟨c',oc,.own c',vs,tq,by rw [Array.toList_append];exact codeAmong_snoc _ tr cd,ag,hd,hv⟩⟩
    ·refine (I.hok a x e).jk (fun b v hb' r=>hx b v (fun z=>?_) r) (fun b r=>by rw [ab (ae r hnc)];exact r) (fun b xs r=>by rw [ab (ae r hnc)];exact r) fun b o v vs r _=>by rw [ab (ae r hnc)];exact r
     rcases hb' with z2 | z2
     ·exact hb (z2.symm.trans z)
     ·rw [z,hT] at z2;cases z2
  have I1:=I.un (t':=tk) un hok1;generalize hO:(PySem.W.kla_obj "<lambda>" (X.env.qual ++ "<lambda>") params body scope clos ((X.mg "__name__").getD .none) c' ctv)=O;have hn:upd H c' (.frz oc (.own c')) h'.objs.size=none:=hok1.fresh (Hn _);have hn0:H h'.objs.size=none:=by rw [ab (IP hlt)] at hn;exact hn
  have hpush:(h'.push O).get? h'.objs.size=some O:=Hy _ (by rw [<- hO];rfl);have I2:=I1.laid (h':=h'.push O) (t':=tk) (o:=.frz O (.own h'.objs.size)) (fun b o e=>Hm _ e) (Hn _) ⟨hpush,O,hpush⟩;refine ⟨.ref h'.objs.size,_,I2,rfl,q _ _ hn0 (fun b o e=>?_) ⟨c',ctv,oc,.own c',vs,tq,by rw [<- hO];exact ag,?_,hd,hv⟩⟩
  ·rw [ab (ae e hn0),ab (ae e hnc)];exact e
  ·rw [ab (HH hlt)];exact ag
 ·refine PySem.W.kla_makeFunctionHit (mg:=X.mg) hcl I.ok.glob (I.mod.glob.keeps I.bk) hcode C hP tr c1 (I.Bb hP) fun ctv h' tk hk hsz=>?_;generalize hO:({ cls:=.type "function", data:=.func (PySem.W.kla_fn "<lambda>" (X.env.qual ++ "<lambda>") params body scope clos ((X.mg "__name__").getD .none) (.ref c') ctv) }:Obj)=O;have k2:∀ b o,s.heap.get? b=some o->(h'.push O).get? b=some o:=fun b o e=>Hm _ (hk b o e);have hf:s.heap.objs.size<=h'.objs.size:=hsz;have hn:H h'.objs.size=none:=I.hok.fresh hf;have hpush:(h'.push O).get? h'.objs.size=some O:=Hy _ (by rw [<- hO];rfl);refine ⟨.ref h'.objs.size,upd H h'.objs.size (.frz O (.own h'.objs.size)),?_,rfl,q _ _ hn (fun b o e=>by rw [ab (ae e hn)];exact e) ⟨c',ctv,oc,u,vs,tq,by rw [ag];exact congrArg (fun z=>some (HO.frz z (HO.own h'.objs.size))) hO.symm,by rw [ab (ae c2 hn)];exact c2,c3,c4⟩⟩;exact I.laid k2 hf ⟨hpush,O,hpush⟩
open PySem PySem.Spec PySem.Calls PyProof.Rows
noncomputable def cxL (CX:CXT) (P:Program) (w:World) (K:Fg) (mg:Str->Option Value) (base:Heap) (N:List Str) (qual:Str) (scope:Scope) (f:Addr) (cd:Value) (cl:List (Str×Addr)) (A:Around) (outer:List Env) (s:Shared) (H H0:Hp) (E:XK):Cx where
 prog:=P
 w:=w
 K:=K
 mg:=mg
 base:=base
 A:=A.deeper (PySem.W.envX qual scope s.heap.objs.size f cd cl)
 N:=N
 s₀:=s
 H₀:=H
 env:=PySem.W.envX qual scope s.heap.objs.size f cd cl
 outer:=outer
 stack:=PySem.W.envX qual scope s.heap.objs.size f cd cl :: outer
 ex:=[]
 calm:=true
 fn:=fun _=>false
 pn:=[]
 xe:=fun e s'=>wpAny (model P w) (A.deeper (PySem.W.envX qual scope s.heap.objs.size f cd cl)) (leaving (PySem.W.envX qual scope s.heap.objs.size f cd cl) e) (fun _ s''=>CX outer H0 s E e s'') (fun e' s''=>CX outer H0 s E e' s'') s'
structure fN (ps:List Str) (g:Str) (scope:Scope):Prop where
 kind:scope.kind=.function
 co:scope.isCoroutine=false
 gen:scope.isGenerator=false
 cell:∀ x∈scope.names,x.2≠.cell
 par:∀ y∈ps,scope.names.lookup y=some .local
 cap:scope.names.lookup g=some .free
 one:∀ y,scope.names.lookup y=some .free->y=g
 lk:∀ (us:List Value) (i:Nat) (y:Str) (u:Value),us.length=ps.length->ps[i]?=some y->us[i]?=some u->(ps.zip us).reverse.lookup y=some u
theorem p8.less {P:Program} {w:World} {K:Fg} {mg:Str->Option Value} {base:Heap} {A:Around} {outer:List Env} {s:Shared} {H:Hp} {c:Addr} {o:Obj} {u:HO} (e0:p8 P w K mg base A outer s H) (hc:H c=some (.frz o u)) (hd:∀ vs,o.data≠.fields vs):p8 P w K mg base A outer s (off H c):=by
 have z:∀ b,H b=none->off H c b=none:=fun b n=>by
  by_cases h:b=c
  ·rw [h];exact iV
  ·rw [off_ne h];exact n
 refine ⟨e0.frames,e0.mod,fun b o e=>⟨(e0.bs b o e).1,z b (e0.bs b o e).2⟩,e0.bsz,e0.jL,fun b hb=>z b (e0.frf b hb),fun t ht=>?_,e0.hok.drop hc hd,e0.bare⟩;have q2:=e0.tabs t ht;rw [off_ne fun q=>by rw [q,hc] at q2;cases q2];exact q2
theorem xJ {CX:CXT} {P:Program} {w:World} {K:Fg} {mg:Str->Option Value} {base:Heap} {ps:List Str} {g qual:Str} {scope:Scope} {f c:Addr} {cd:Value} {A:Around} {outer:List Env} {s:Shared} {H H0:Hp} {E:XK} {us:List Value} {vs:List V} {wv:V} {uv:Value} {h1:Heap} {tk:Nat} {oc:Obj}
  (S:fN ps g scope) (hd:A.handled=none) (e0:p8 P w K mg base A outer s H) (hl:vs.length=ps.length) (r:Vals vs us) (hc0:H c=none) (hc:s.heap.get? c=some oc) (hcd:oc.data=.cell (some uv)) (rw:RelV wv uv)
  (hns:h1.Ns s.heap.objs.size fun x=>(ps.zip us).reverse.lookup x) (hk:∀ b o,s.heap.get? b=some o->h1.get? b=some o) :
  Inv (cxL CX P w K mg base (ps++[g]) qual scope f cd [(g,c)] A outer s H H0 E) [] (vs.map some++[some wv]) H { s with heap:=h1,toks:=tk }:=by
 have cl1:∀ x b,([(g,c)]:List (Str×Addr)).lookup x=some b->x=g/\b=c:=fun x b e=>by
  by_cases hx:x=g
  ·subst hx;simp at e;exact ⟨rfl,e.symm⟩
  ·have:(x==g)=false:=beq_false_of_ne hx;simp [List.lookup,this] at e
 have clt:=Ht hc
 refine ⟨⟨e0.mod,S.kind,rfl,rfl,Hn _,fun y z b h1 h2=>(cl1 y b h1).1.trans (cl1 z b h2).1.symm,fun y hy=>?_,fun y b q _=>(by cases q),fun _=>hd,Around.frames_deeper e0.frames,.inr ⟨rfl,rfl⟩,fun b z=>absurd (show b∈([]:List Addr) from z) (by simp),e0.bs,e0.bsz,fun b _ _ z=>absurd (show b∈([]:List Addr) from z) (by simp),fun b z=>absurd (show b∈([]:List Addr) from z) (by simp),e0.jL,e0.frf,e0.tabs⟩,
  rfl,e0.bare,Un.kept hk,⟨_,hns,fun i y v h1 h2 h3=>?_⟩,fun y b e=>?_,e0.hok.fresh (Hn _),fun y b e=>?_,fun p hp=>absurd (show p∈([]:List (Addr×Obj)) from hp) (by simp),e0.hok.kept hk,?_⟩
 ·have hy:scope.names.lookup y=some .cell\/scope.names.lookup y=some .free:=hy;rcases hy with hy | hy
  ·exact absurd rfl (S.cell _ (Io hy))
  ·exact ⟨c,by rw [S.one y hy];simp [PySem.W.envX,cxL]⟩
 ·have h1:(ps++[g])[i]?=some y:=h1;by_cases hi:i < ps.length
  ·rw [HN hi] at h1;rw [HN (by simpa [hl] using hi),Hq] at h2;obtain ⟨a,ha,e⟩:=HC.mp h2;cases e;obtain ⟨u,hu,rv⟩:=r.get ha;exact ⟨u,rv,.inl ⟨S.par y (HG h1),S.lk us i y u (by rw [<- r.length,hl]) h1 hu⟩⟩
  ·have hi2:i=ps.length:=by
    have:i < (ps++[g]).length:=(Hl.mp h1).1;rw [Ho,IS] at this;omega
   subst hi2;rw [HE (Hn _),Nat.sub_self] at h1;rw [HE (by simp [hl]),Hf,hl,Nat.sub_self] at h2;cases h1;cases h2;exact ⟨uv,rw,.inr ⟨.inr S.cap,c,by simp [PySem.W.envX,cxL],oc,hk _ _ hc,hcd⟩⟩
 ·obtain ⟨rfl,rfl⟩:=cl1 y b e;exact ⟨_,oc,hk _ _ hc,hcd⟩
 ·obtain ⟨rfl,rfl⟩:=cl1 y b e;exact hc0
 ·show (vs.map some++[some wv]).length=(ps++[g]).length;rw [Ho,Ho,Hf,hl];rfl
theorem wV {CX:CXT} {P:Program} {w:World} {K:Fg} {mg:Str->Option Value} {base:Heap} {k:Nat} {ps:List Str} {g qual name:Str} {params:Arguments} {body:Expr} {scope:Scope} {f c c':Addr} {pm ctv:Value} {A:Around} {outer:List Env} {s:Shared} {H:Hp} {Q:VK} {E:XK} {us:List Value} {vs:List V} {wv:V} {uv:Value} {oc od:Obj} {u2:HO} {cs:Array Value} {tq:Tok} {t:TE}
  (S:fN ps g scope) (hr:bN (k+1) A) (e0:p8 P w K mg base A outer s H) (hl:vs.length=ps.length) (r:Vals vs us)
  (hf:H f=some (.frz { cls:=.type "function", data:=.func (PySem.W.kla_fn name qual params body scope [(g,c)] pm (.ref c') ctv) } (.own f))) (h2:H c'=some (.frz od u2)) (h3:od.data=.fields cs) (h4:cs[1]?=some (.str qual tq))
  (hc:H c=some (.frz oc (.own c))) (hcd:oc.data=.cell (some uv)) (rw':RelV wv uv)
  (hb:bindArgs (PySem.W.kla_fn name qual params body scope [(g,c)] pm (.ref c') ctv) ⟨us,[]⟩=pure (ps.zip us))
  (cB:PE (cxL CX P w K mg base (ps++[g]) qual scope f (.ref c') [(g,c)] A outer s (off H c) H E) body t)
  (ht:t (vs.map some++[some wv]) (off H c) fun v H'=>Q v (upd H' c (.frz oc (.own c)))) :
  codeAny (model P w) A (.call (.ref f) ⟨us,[]⟩) (CR CX outer P w H s Q E) s:=by
 have ndat:∀ vs,oc.data≠.fields vs:=fun vs z=>by rw [hcd] at z;cases z
 have e1:=e0.less hc ndat;have gf:=(e0.hok f _ hf).1;have gc:=(e0.hok c _ hc).1;have gd:=(e0.hok c' _ h2).1;have lim:s.heap.NoLimit:=e0.mod.nolimit.keeps fun b o e=>(e0.bs b o e).1;refine PySem.W.kla_callFunE hr.depth gf rfl S.co S.gen rfl ⟨c',od,cs,tq,rfl,gd,h3,h4⟩ ?_;rw [hb];refine Hg (wpAny_newFunctionEnv S.cell (fun y hy=>S.par _ (JZ hy).1) (fun h₁ hns hsb=>⟨lim.fresh _ hsb,?_⟩) S.kind);have hk₁:∀ b o,s.heap.get? b=some o->h₁.get? b=some o:=fun b o e=>hsb.extBut b o (HH (Ht e)) (Hm _ e);have I:=xJ (CX:=CX) (H0:=H) (E:=E) (f:=f) (qual:=qual) (cd:=.ref c') (tk:=s.toks+(ps.zip us).length) S hr.hd e1 hl r iV gc hcd rw' hns hk₁;refine PySem.W.kla_codeExpr (HR (cB [] _ _ _ _ I ht) (fun u s' hq=>?_) fun _ _ y=>y);obtain ⟨v,H',J,rv,q⟩:=hq;have U:Un (frs outer) [] (off H c) H' s.heap s'.heap:=J.base;have hcn:H' c=none:=U.free c oc gc iV (by simp);have hcg:s'.heap.get? c=some oc:=U.keep c oc gc iV (fun z=>by rw [e0.frf c z] at hc;cases hc) (by simp);have ne:∀ {b:Addr},H b=none->b≠c:=fun n z=>by rw [z,hc] at n;cases n
 refine ⟨v,upd H' c (.frz oc (.own c)),J.os,J.bare,⟨fun b o e n hb hx=>U.keep b o e (by rw [off_ne (ne n)];exact n) hb hx,fun b o e n hb hx=>U.slot b o e (by rw [off_ne (ne n)];exact n) hb hx,fun b o e n hx=>by rw [ab (ne n)];exact U.free b o e (by rw [off_ne (ne n)];exact n) hx,fun b o e hx=>U.there b o e hx,fun b xs e=>?_,fun b o v e=>?_,fun b x y e=>?_⟩,J.hok.hold hcn hcg,rv,q⟩
 ·have hb:b≠c:=fun z=>by rw [z,hc] at e;cases e
  rw [ab hb];exact U.oj b xs (by rw [off_ne hb];exact e)
 ·by_cases hb:b=c
  ·subst hb;rw [ag];rw [hc] at e;exact e
  ·rw [ab hb];exact U.lp b o v (by rw [off_ne hb];exact e)
 ·have hb:b≠c:=fun z=>by rw [z,hc] at e;cases e
  rw [ab hb];exact U.kX b x y (by rw [off_ne hb];exact e)
open PySem PySem.Spec PySem.Calls PyProof.Rows
structure uL where
 name:Str
 qual:Str
 params:Arguments
 body:Expr
 scope:Scope
 ps:List Str
 g:Str
abbrev uL.obj (L:uL) (c c':Addr) (pm ctv:Value):Obj:={ cls:=.type "function", data:=.func (PySem.W.kla_fn L.name L.qual L.params L.body L.scope [(L.g,c)] pm (.ref c') ctv) }
def dC (L:uL) (H:Hp) (f c:Addr) (oc:Obj) (wv:V):Prop:=∃ c' pm ctv od u2 cs tq uv,H f=some (.frz (L.obj c c' pm ctv) (.own f))/\H c'=some (.frz od u2)/\od.data=.fields cs/\cs[1]?=some (.str L.qual tq)/\H c=some (.frz oc (.own c))/\oc.data=.cell (some uv)/\RelV wv uv
theorem dC.fn {L:uL} {P:Program} {w:World} {H:Hp} {h:Heap} {f c:Addr} {oc:Obj} {wv:V} (x:dC L H f c oc wv) (ok:HOk P w H h):PySem.W.FnAt f h:=by
 obtain ⟨c',pm,ctv,od,u2,cs,tq,uv,h1,_⟩:=x;exact ⟨_,_,_,_,(ok f _ h1).1⟩
open PySem PySem.Spec PySem.Calls PyProof.Rows
section
variable {X:Cx} {CX:CXT} {k:Nat} {f c:Addr} {fd:FuncData} {ps:List Str} {sp:Sp} {E:XK} {g:Str} {wv:V} {oc:Obj}
theorem Inv.D2 {pins:List (Addr×Obj)} {σ:St} {H:Hp} {s:Shared} (I:Inv X pins σ H s) (hc:X.env.cells.lookup g=some c) (hfn:X.fn g=true) (ho:s.heap.get? c=some oc) :
  p8 X.prog X.w X.K X.mg X.base X.A X.stack s (upd H c (.frz oc (.own c))):=by
 have hn:=I.cM g c hc;have ge:=I.ok.cab g c hfn hc;have e0:=I.yA;have lt:∀ b o,X.s₀.heap.get? b=some o->b≠c:=fun b o e=>HH (HF (Ht e) ge);refine ⟨e0.frames,e0.mod,fun b o e=>⟨(e0.bs b o e).1,by rw [ab (lt b o (I.ok.bs b o e).1)];exact (e0.bs b o e).2⟩,e0.bsz,e0.jL,fun b hb=>?_,fun t ht=>?_,I.hok.hold hn ho,e0.bare⟩
 ·rw [ab fun z=>?_];exact e0.frf b hb;rcases HB.mp (I.mM b hb) with q | q
  ·exact I.cne g c hc (z.symm.trans q)
  ·obtain ⟨o,e,_⟩:=(I.ok.jL.mem q).2;exact lt b o e z
 ·have q:=e0.tabs t ht;rw [ab (ae q hn)];exact q
theorem vR {pins:List (Addr×Obj)} {σ:St} {H:Hp} {s:Shared} {Q:VK} {us:List Value} {vs:List V} {uv:Value} (F:bq X.prog X.w X.K X.mg X.base CX k f fd ps sp) (hr:bN k X.A) (hb:Binds X.K fd ps []) (hx:Passes CX X E)
  (I:Inv X pins σ H s) (r:Vals vs us) (hc:X.env.cells.lookup g=some c) (hfn:X.fn g=true) (ho:s.heap.get? c=some oc) (hod:oc.data=.cell (some uv))
  (hxc:∀ e s',CX X.stack (upd H c (.frz oc (.own c))) s E e s'->CX X.stack H s E e s')
  (h:sp vs (upd H c (.frz oc (.own c))) (fun v H'=>Q v (off H' c)) E):wpAny (model X.prog X.w) X.A (call (.ref f) us) (EP X pins σ Q) X.xe s:=by
 have hn:=I.cM g c hc;have hl:us.length=ps.length:=by rw [<- r.length];exact F.len _ _ _ _ h
 have bd:=hb s us I.kIn (by rw [Iw];exact hl);rw [Iw] at bd;refine wpAny_call (Jj (F.run X.A X.stack s _ ⟨us,[]⟩ us vs _ E hr (I.D2 hc hfn ho) bd r h) fun r s' hq=>?_);cases r with
 | error e=>exact hx pins σ H s e s' I (hxc e s' hq)
 | ok fl =>
  cases fl with
  | ret u =>
   obtain ⟨v,H',os,bare,un,hok,rv,q⟩:=hq;exact I.after ⟨v,off H' c,os,bare,un.held hn ho hok,hok.drop (un.lp c oc _ ag) (fun vs z=>by rw [hod] at z;cases z),rv,q⟩
  | next=>exact False.elim hq
  | brk=>exact False.elim hq
  | cont=>exact False.elim hq
def Bf (L:uL) (j i1 i2 i3:Nat) (sp:Sp) (E:XK):TE:=fun σ H Q=>∃ v1 v2 v3 wv,σ[i1]?=some (some v1)/\σ[i2]?=some (some v2)/\σ[i3]?=some (some v3)/\σ[j]?=some (some wv)/\∀ f c oc H4,H f=none->H c=none->(∀ b o,H b=some o->H4 b=some o)->dC L H4 f c oc wv->sp [v1,v2,v3,.ref f] H4 (fun v H'=>Q v (off H' c)) E
theorem uB {L:uL} {j i1 i2 i3:Nat} {x:Str} {p pos:Pos} {e:Expr} {es:List Expr} {pm:Value} (F:bq X.prog X.w X.K X.mg X.base CX k f fd ps sp) (hr:bN k X.A) (hg:Gl X x) (hm:X.mg x=some (.ref f)) (hk:PySem.W.keepIn X.K (.ref f)=true) (hb:Binds X.K fd ps []) (hx:Passes CX X E)
  (hxc:∀ H s oc e s',CX X.stack (upd H c (.frz oc (.own c))) s E e s'->CX X.stack H s E e s')
  (ha:PA X (e :: es) (ah (aJ i1) (ah (aJ i2) (ah (aJ i3) (ah (FE L.qual fun cv ctv=>{ cls:=.type "function", data:=.func (PySem.W.kla_fn L.name L.qual L.params L.body L.scope [(L.g,c)] pm cv ctv) }) bo)))))
  (hc:X.env.cells.lookup L.g=some c) (hfn:X.fn L.g=true) (hN:X.N[j]?=some L.g) (hcl:X.env.scope.names.lookup L.g=some .cell)
  (hdb:(x==("__debug__" : Str))=false:=by decide) (he:starEach (e :: es) X.env=(false,eval e X.env) :: starEach es X.env:=by rfl) (hpl:(backTo pos (starEach es X.env)).any (·.1)=false:=by rfl) :
  PE X (.Call (.Name x p) (e :: es) [] pos) (Bf L j i1 i2 i3 sp E):=by
 intro pins s σ H Q I h;obtain ⟨v1,v2,v3,wv,s1,s2,s3,sj,h⟩:=h;refine Jf (k8 I hg hm ?_ hdb)
 refine PySem.W.callWith_K (h₀:=X.base) I.ok.mod.kin hk (thn (ha pos pins s σ H (fun vs H1=>∃ fa,vs=[v1,v2,v3,.ref fa]/\H fa=none/\(∀ b o,H b=some o->H1 b=some o)/\uw H1 fa L.qual fun cv ctv=>{ cls:=.type "function", data:=.func (PySem.W.kla_fn L.name L.qual L.params L.body L.scope [(L.g,c)] pm cv ctv) }) I
  ⟨v1,s1,v2,s2,v3,s3,fun fa H' hn hx hl=>⟨fa,rfl,hn,hx,hl⟩⟩) fun us s1 hq=>?_) he hpl
 obtain ⟨vs,H1,I1,r,fa,rfl,hn,hext,c',ctv,od,u2,cs,tq,a1,a2,a3,a4⟩:=hq;refine ⟨I1.kIn,?_⟩;obtain ⟨m,_,hl⟩:=I1.loc;obtain ⟨uv,rv,lk⟩:=hl j L.g wv hN sj (.inr (.inl hcl));have hcn:=I1.cM L.g c hc;rcases lk with ⟨q,_⟩ | ⟨_,c2,e2,oc,ho,hod⟩
 ·have q:X.env.scope.names.lookup L.g=some .local:=q;rw [hcl] at q;cases q
 ·rw [hc] at e2;cases e2;refine vR F hr hb hx I1 r hc hfn ho hod (hxc H1 _ oc) (h fa c oc _ hn (I.cM L.g c hc) (fun b o q=>?_) ⟨c',pm,ctv,od,u2,cs,tq,uv,?_,?_,a3,a4,ag,hod,rv⟩)
  ·rw [ab (ae (hext b o q) hcn)];exact hext b o q
  ·rw [ab (ae a1 hcn)];exact a1
  ·rw [ab (ae a2 hcn)];exact a2
end
open PySem
def Gf (K:Fg) (a:Addr) (xs:List V):Prop:=∃ (o:Obj) (its:Array Value) (n:Nat),K.lookup a=some o/\o.cls=.type "list" /\ o.dict=none/\o.data=.seq its n/\its.size<=sizeLine/\Vals xs its.toList
def LsF (K:Fg) (F:Addr->Prop) (H:Hp) (a:Addr) (xs:List V):Prop:=(¬F a/\Rd H a (.lst xs))\/Gf K a xs
mutual
def Dm (K:Fg) (F:Addr->Prop) (H:Hp):PyData->V->Prop
 | .none,v=>v=.non
 | .bool b,v=>v=.bl b
 | .int i,v=>v=.int i
 | .str x,v=>v=.str x/\x.length<=sizeLine/\PyData.strOk x=true
 | .list ds,v=>∃ a xs,v=.ref a/\LsF K F H a xs/\xs.length<=sizeLine/\DmL K F H ds xs
 | .tuple ds,v=>∃ a xs,v=.ref a/\SqT K H a xs/\xs.length<=sizeLine/\DmL K F H ds xs
 | .dict kvs,v=>∃ a ep xs,v=.ref a/\¬F a/\H a=some (.dD ep xs)/\xs.length<=sizeLine/\DmP K F H kvs xs
def DmL (K:Fg) (F:Addr->Prop) (H:Hp):List PyData->List V->Prop
 | [],vs=>vs=[]
 | d :: ds,vs=>∃ v r,vs=v :: r/\Dm K F H d v/\DmL K F H ds r
def DmP (K:Fg) (F:Addr->Prop) (H:Hp):List (PyData×PyData)->List (PyData×V×V)->Prop
 | [],vs=>vs=[]
 | (k,d) :: ds,vs=>∃ j v r,vs=(k,j,v) :: r/\hk6 k=true/\Dm K F H k j/\Dm K F H d v/\DmP K F H ds r
end
noncomputable def Wr:HO->Bool | .lst _=>true | .dD _ _=>true | _=>false
def Pr (F:Addr->Prop) (H H':Hp):Prop:=∀ b o,H b=some o->(¬F b\/Wr o=false)->H' b=some o
section
variable {K:PySem.W.Frag} {F F':Addr->Prop} {H H':Hp}
theorem SqT.pr {a:Addr} {xs:List V} (p:Pr F H H') (h:SqT K H a xs):SqT K H' a xs:=by
 rcases h with (h | ⟨o,h⟩) | h
 ·exact .inl (.inl (p _ _ h (.inr rfl)))
 ·exact .inl (.inr ⟨o,p _ _ h (.inr rfl)⟩)
 ·exact .inr h
theorem LsF.pr {a:Addr} {xs:List V} (p:Pr F H H') (hf:∀ b,F' b->F b) (h:LsF K F H a xs):LsF K F' H' a xs:=by
 rcases h with ⟨n,h | ⟨o,h⟩⟩ | h
 ·exact .inl ⟨fun z=>n (hf _ z),.inl (p _ _ h (.inl n))⟩
 ·exact .inl ⟨fun z=>n (hf _ z),.inr ⟨o,p _ _ h (.inl n)⟩⟩
 ·exact .inr h
mutual
theorem Dm.pr (p:Pr F H H') (hf:∀ b,F' b->F b):∀ {d:PyData} {v:V},Dm K F H d v->Dm K F' H' d v
 | .none,v,h=>h
 | .bool b,v,h=>h
 | .int i,v,h=>h
 | .str x,v,h=>h
 | .list ds,v,h=>by
  obtain ⟨a,xs,e,l,z,r⟩:=h;exact ⟨a,xs,e,l.pr p hf,z,DmL.pr p hf r⟩
 | .tuple ds,v,h=>by
  obtain ⟨a,xs,e,l,z,r⟩:=h;exact ⟨a,xs,e,l.pr p,z,DmL.pr p hf r⟩
 | .dict kvs,v,h=>by
  obtain ⟨a,ep,xs,e,n,l,z,r⟩:=h;exact ⟨a,ep,xs,e,fun q=>n (hf _ q),p _ _ l (.inl n),z,DmP.pr p hf r⟩
theorem DmL.pr (p:Pr F H H') (hf:∀ b,F' b->F b):∀ {ds:List PyData} {vs:List V},DmL K F H ds vs->DmL K F' H' ds vs
 | [],vs,h=>h
 | d :: ds,vs,h=>by
  obtain ⟨v,r,e,h1,h2⟩:=h;exact ⟨v,r,e,Dm.pr p hf h1,DmL.pr p hf h2⟩
theorem DmP.pr (p:Pr F H H') (hf:∀ b,F' b->F b):∀ {ds:List (PyData×PyData)} {vs:List (PyData×V×V)},DmP K F H ds vs->DmP K F' H' ds vs
 | [],vs,h=>h
 | (k,d) :: ds,vs,h=>by
  obtain ⟨j,v,r,e,e2,h0,h1,h2⟩:=h;exact ⟨j,v,r,e,e2,Dm.pr p hf h0,Dm.pr p hf h1,DmP.pr p hf h2⟩
end
theorem LsF.fresh {a c:Addr} {xs:List V} (hc:H c=none) (h:LsF K F H a xs):LsF K (fun b=>F b\/b=c) H a xs:=by
 rcases h with ⟨n,h⟩ | h
 ·refine .inl ⟨fun z=>z.elim n fun e=>?_,h⟩;subst e;rcases h with h | ⟨o,h⟩ <;> (rw [hc] at h;cases h)
 ·exact .inr h
mutual
theorem Dm.fresh {c:Addr} (hc:H c=none):∀ {d:PyData} {v:V},Dm K F H d v->Dm K (fun b=>F b\/b=c) H d v
 | .none,v,h=>h
 | .bool b,v,h=>h
 | .int i,v,h=>h
 | .str x,v,h=>h
 | .list ds,v,h=>by
  obtain ⟨a,xs,e,l,z,r⟩:=h;exact ⟨a,xs,e,l.fresh hc,z,DmL.fresh hc r⟩
 | .tuple ds,v,h=>by
  obtain ⟨a,xs,e,l,z,r⟩:=h;exact ⟨a,xs,e,l,z,DmL.fresh hc r⟩
 | .dict kvs,v,h=>by
  obtain ⟨a,ep,xs,e,n,l,z,r⟩:=h;exact ⟨a,ep,xs,e,fun q=>q.elim n fun q=>(by subst q;rw [hc] at l;cases l),l,z,DmP.fresh hc r⟩
theorem DmL.fresh {c:Addr} (hc:H c=none):∀ {ds:List PyData} {vs:List V},DmL K F H ds vs->DmL K (fun b=>F b\/b=c) H ds vs
 | [],vs,h=>h
 | d :: ds,vs,h=>by
  obtain ⟨v,r,e,h1,h2⟩:=h;exact ⟨v,r,e,Dm.fresh hc h1,DmL.fresh hc h2⟩
theorem DmP.fresh {c:Addr} (hc:H c=none):∀ {ds:List (PyData×PyData)} {vs:List (PyData×V×V)},DmP K F H ds vs->DmP K (fun b=>F b\/b=c) H ds vs
 | [],vs,h=>h
 | (k,d) :: ds,vs,h=>by
  obtain ⟨j,v,r,e,e2,h0,h1,h2⟩:=h;exact ⟨j,v,r,e,e2,Dm.fresh hc h0,Dm.fresh hc h1,DmP.fresh hc h2⟩
end
theorem Pr.refl:Pr F H H:=fun _ _ h _=>h
theorem Pr.trans {H1 H2:Hp} (a:Pr F H H1) (b:Pr F' H1 H2) (hf:∀ b,F' b->F b):Pr F H H2:=fun c o h n=>b c o (a c o h n) (n.imp (fun z q=>z (hf _ q)) id)
theorem Pr.of_same (a:az H H'):Pr F H H':=fun c o h _=>a c o h
theorem Dm.mono (hf:∀ b,F' b->F b) {d:PyData} {v:V} (h:Dm K F H d v):Dm K F' H d v:=h.pr Pr.refl hf
theorem DmL.mono (hf:∀ b,F' b->F b) {d:List PyData} {v:List V} (h:DmL K F H d v):DmL K F' H d v:=h.pr Pr.refl hf
theorem DmL.len:∀ {ds:List PyData} {vs:List V},DmL K F H ds vs->vs.length=ds.length
 | [],vs,h=>by rw [show vs=[] from h];rfl
 | d :: ds,vs,h=>by
  obtain ⟨v,r,e,h1,h2⟩:=h;rw [e,HA,HA,DmL.len h2]
theorem DmL.get:∀ {ds:List PyData} {vs:List V} {i:Nat} {d:PyData},DmL K F H ds vs->ds[i]?=some d->∃ v,vs[i]?=some v/\Dm K F H d v
 | [],vs,_,_,h,e=>by simp at e
 | d :: ds,vs,0,d',h,e=>by
  obtain ⟨v,r,e1,h1,h2⟩:=h;simp at e;subst e;subst e1;exact ⟨v,rfl,h1⟩
 | d :: ds,vs,i+1,d',h,e=>by
  obtain ⟨v,r,e1,h1,h2⟩:=h;subst e1;obtain ⟨w,q1,q2⟩:=DmL.get (i:=i) h2 (by simpa using e);exact ⟨w,by simpa using q1,q2⟩
theorem DmL.get' {ds:List PyData} {vs:List V} {i:Nat} {v:V} (h:DmL K F H ds vs) (e:vs[i]?=some v):∃ d,ds[i]?=some d/\Dm K F H d v:=by
 have hl:=h.len;have hi:i < vs.length:=(Hl.mp e).1;have hd:ds[i]?=some (ds[i]'(by omega)):=Hj _;obtain ⟨w,e2,q⟩:=h.get hd;rw [e] at e2;cases e2;exact ⟨_,hd,q⟩
theorem DmL.app:∀ {ds es:List PyData} {vs ws:List V},DmL K F H ds vs->DmL K F H es ws->DmL K F H (ds++es) (vs++ws)
 | [],es,vs,ws,h,q=>by rw [show vs=[] from h];exact q
 | d :: ds,es,vs,ws,h,q=>by
  obtain ⟨v,r,e,h1,h2⟩:=h;subst e;exact ⟨v,r++ws,rfl,h1,DmL.app h2 q⟩
theorem DmL.snoc {ds:List PyData} {vs:List V} {d:PyData} {v:V} (h:DmL K F H ds vs) (q:Dm K F H d v):DmL K F H (ds++[d]) (vs++[v]):=h.app ⟨v,[],rfl,q,rfl⟩
def Top (K:PySem.W.Frag) (F:Addr->Prop) (H:Hp):PyData->Addr->Prop
 | .list ds,a=>∃ xs,H a=some (.lst xs)/\xs.length<=sizeLine/\DmL K F H ds xs
 | .dict kvs,a=>∃ ep xs,H a=some (.dD ep xs)/\xs.length<=sizeLine/\DmP K F H kvs xs
 | _,_=>False
def yC (K:PySem.W.Frag) (F:Addr->Prop) (H:Hp):PyData->Addr->Prop
 | .list ds,a=>∃ xs,SqL K H a xs/\xs.length<=sizeLine/\DmL K F H ds xs
 | .dict kvs,a=>∃ ep xs,H a=some (.dD ep xs)/\xs.length<=sizeLine/\DmP K F H kvs xs
 | _,_=>False
def Vw (K:PySem.W.Frag) (F:Addr->Prop) (H:Hp):PyData->V->Prop
 | .list ds,v=>∃ a,v=.ref a/\yC K F H (.list ds) a
 | .dict ds,v=>∃ a,v=.ref a/\yC K F H (.dict ds) a
 | d,v=>Dm K F H d v
theorem Top.r {d:PyData} {a:Addr} (h:Top K F H d a):yC K F H d a:=by
 cases d with
 | list ds=>obtain ⟨xs,e,z,r⟩:=h;exact ⟨xs,.inl (.inl e),z,r⟩
 | dict ds=>exact h
 | _=>exact h
theorem yC.vw {d:PyData} {a:Addr} (h:yC K F H d a):Vw K F H d (.ref a):=by
 cases d with
 | list ds=>exact ⟨a,rfl,h⟩
 | dict ds=>exact ⟨a,rfl,h⟩
 | _=>exact absurd h id
theorem Dm.vw {d:PyData} {v:V} (h:Dm K F H d v):Vw K F H d v:=by
 cases d with
 | list ds =>
  obtain ⟨a,xs,e,l,z,r⟩:=h;refine ⟨a,e,xs,?_,z,r⟩;rcases l with ⟨n,l⟩ | l
  ·exact .inl l
  ·exact .inr l
 | dict ds=>obtain ⟨a,ep,xs,e,n,l,z,r⟩:=h;exact ⟨a,e,ep,xs,l,z,r⟩
 | _=>exact h
theorem Top.dm {d:PyData} {a:Addr} (h:Top K F H d a) (n:¬F a):Dm K F H d (.ref a):=by
 cases d with
 | list ds=>obtain ⟨xs,e,z,r⟩:=h;exact ⟨a,xs,rfl,.inl ⟨n,.inl e⟩,z,r⟩
 | dict ds=>obtain ⟨ep,xs,e,z,r⟩:=h;exact ⟨a,ep,xs,rfl,n,e,z,r⟩
 | _=>exact absurd h id
theorem Top.wr {d:PyData} {a:Addr} (h:Top K F H d a):∃ o,H a=some o/\Wr o=true:=by
 cases d with
 | list ds=>obtain ⟨xs,e,_⟩:=h;exact ⟨_,e,rfl⟩
 | dict ds=>obtain ⟨ep,xs,e,_⟩:=h;exact ⟨_,e,rfl⟩
 | _=>exact absurd h id
theorem Top.pr {d:PyData} {a:Addr} (h:Top K F H d a) (p:Pr F H H') (hf:∀ b,F' b->F b) (ha:∀ o,H a=some o->H' a=some o):Top K F' H' d a:=by
 cases d with
 | list ds=>obtain ⟨xs,e,z,r⟩:=h;exact ⟨xs,ha _ e,z,r.pr p hf⟩
 | dict ds=>obtain ⟨ep,xs,e,z,r⟩:=h;exact ⟨ep,xs,ha _ e,z,r.pr p hf⟩
 | _=>exact absurd h id
theorem Top.fresh {d:PyData} {a c:Addr} (hc:H c=none) (h:Top K F H d a):Top K (fun b=>F b\/b=c) H d a:=by
 cases d with
 | list ds=>obtain ⟨xs,e,z,r⟩:=h;exact ⟨xs,e,z,r.fresh hc⟩
 | dict ds=>obtain ⟨ep,xs,e,z,r⟩:=h;exact ⟨ep,xs,e,z,r.fresh hc⟩
 | _=>exact absurd h id
end
open PySem
def GH (K:Fg) (tl:TE):TI:=fun σ H R=>iu K tl σ H R\/Cy K tl σ H R
inductive Sl where | un | dat (d:PyData) | own (d:PyData) | ino (d:PyData) | ro (d:PyData)
abbrev En:=List Sl
inductive RV where | dat (d:PyData) | bor (i:Nat) | frs (d:PyData)
inductive PR where | dat (d:PyData) | frs (d:PyData)
inductive AV where | dat (d:PyData) | bor (i:Nat)
inductive PM where | dat | bor | ino
noncomputable def PR.rv:PR->RV | .dat d=>.dat d | .frs d=>.frs d
noncomputable def RV.av:RV->AV | .dat d=>.dat d | .frs d=>.dat d | .bor i=>.bor i
structure Fn where
 ms:List PM
 F:List PyData->Option (PR×List PyData)
noncomputable def isFn:PyData->Bool | .dict [(.list _,.none)]=>true | _=>false
noncomputable def xG (env:En) (i:Nat):Option PyData:=match env[i]? with | some (.own d)=>some d | some (.ino d)=>some d | some (.ro d)=>some d | _=>none
noncomputable def cont (env:En) (i:Nat):Option PyData:=match env[i]? with | some (.own d)=>some d | some (.ino d)=>some d | some (.ro d)=>if isFn d=true then none else some d | _=>none
noncomputable def aK (env:En) (i:Nat):Option PyData:=match env[i]? with | some (.own d)=>some d | some (.ino d)=>some d | _=>none
noncomputable def fE (env:En) (i:Nat) (d:PyData):En:=match env[i]? with | some (.own _)=>env.set i (.own d) | some (.ino _)=>env.set i (.ino d) | _=>env
noncomputable def AV.view (env:En):AV->Option PyData | .dat d=>some d | .bor i=>cont env i
noncomputable def RV.view (env:En) (r:RV):Option PyData:=r.av.view env
def mu (env:En) (i:Nat):Prop:=∃ d,env[i]?=some (.own d)\/env[i]?=some (.ino d)
def IA (env:En) (σ:St) (b:Addr):Prop:=∃ i,mu env i/\σ[i]?=some (some (.ref b))
def FF (F0:Addr->Prop) (env:En) (σ:St) (b:Addr):Prop:=F0 b\/∃ (i:Nat) (d:PyData),env[i]?=some (.own d)/\σ[i]?=some (some (.ref b))
noncomputable def aq:uL:=⟨"<lambda>", "_law_so.<locals>.<lambda>", ⟨[],[⟨"_law_one", none,⟨153,72,153,80⟩⟩,⟨"_law_other", none,⟨153,82,153,92⟩⟩],none,[],[],none,[]⟩,.Compare (.Name "_law_one" ⟨153,94,153,102⟩) [.In] [.Name "_law_good" ⟨153,106,153,115⟩] ⟨153,94,153,115⟩,{ kind:=.function,names:=[("_law_one", .local),("_law_other", .local),("_law_good", .free)],isGenerator:=false,isCoroutine:=false,more:=[] },["_law_one", "_law_other"], "_law_good"⟩
def FnR (K:Fg) (F:Addr->Prop) (H:Hp) (ds:List PyData) (a:Addr):Prop:=∃ c oc wv,dC aq H a c oc wv/\Dm K F H (.list ds) wv
def d8 (K:Fg) (F I:Addr->Prop) (H:Hp):PyData->Addr->Prop
 | .list ds,a=>∃ xs,LsF K I H a xs/\xs.length<=sizeLine/\DmL K F H ds xs
 | .dict kvs,a=>(∃ ep xs,¬I a/\H a=some (.dD ep xs)/\xs.length<=sizeLine/\DmP K F H kvs xs)\/∃ ds,kvs=[(.list ds,.none)]/\FnR K F H ds a
 | _,_=>False
structure Rel (K:Fg) (F0:Addr->Prop) (H₀:Hp) (I:Addr->Prop) (env:En) (σ:St) (H:Hp):Prop where
 len:env.length=σ.length
 dat:∀ (i:Nat) (d:PyData),env[i]?=some (.dat d)->∃ v,σ[i]?=some (some v)/\Dm K (FF F0 env σ) H d v
 own:∀ (i:Nat) (d:PyData),env[i]?=some (.own d)->∃ a,σ[i]?=some (some (.ref a))/\¬F0 a/\(H₀ a=none\/I a)/\Top K (FF F0 env σ) H d a
 ino:∀ (i:Nat) (d:PyData),env[i]?=some (.ino d)->∃ a,σ[i]?=some (some (.ref a))/\F0 a/\I a/\Top K (FF F0 env σ) H d a
 ro:∀ (i:Nat) (d:PyData),env[i]?=some (.ro d)->∃ a,σ[i]?=some (some (.ref a))/\d8 K (FF F0 env σ) (IA env σ) H d a
 sep:∀ i j a,mu env i->mu env j->σ[i]?=some (some (.ref a))->σ[j]?=some (some (.ref a))->i=j
 dom:∀ b,F0 b->H b≠none
 cH:∀ b o,H₀ b=some o->¬I b->H b=some o
section
variable {K:Fg} {F F' I I' F0:Addr->Prop} {H H' H₀:Hp} {env env':En} {σ σ':St}
theorem dC.ext {L:uL} {f c:Addr} {oc:Obj} {wv:V} (x:dC L H f c oc wv) (k:∀ b o u,H b=some (.frz o u)->H' b=some (.frz o u)):dC L H' f c oc wv:=by
 obtain ⟨c',pm,ctv,od,u2,cs,tq,uv,h1,h2,h3,h4,h5,h6⟩:=x;exact ⟨c',pm,ctv,od,u2,cs,tq,uv,k _ _ _ h1,k _ _ _ h2,h3,h4,k _ _ _ h5,h6⟩
theorem d8.r {d:PyData} {a:Addr} (h:d8 K F I H d a) (hn:isFn d=false):yC K F H d a:=by
 cases d with
 | list ds =>
  obtain ⟨xs,l,z,r⟩:=h;exact ⟨xs,l.elim (fun q=>.inl q.2) .inr,z,r⟩
 | dict ds =>
  rcases h with ⟨ep,xs,n,l,z,r⟩ | ⟨es,rfl,_⟩
  ·exact ⟨ep,xs,l,z,r⟩
  ·cases hn
 | _=>exact absurd h id
theorem d8.pr {d:PyData} {a:Addr} (h:d8 K F I H d a) (p:Pr F H H') (hf:∀ b,F' b->F b) (hi:∀ b,I' b->I b) (k:∀ b o,H b=some o->¬I b->H' b=some o):d8 K F' I' H' d a:=by
 cases d with
 | list ds =>
  obtain ⟨xs,l,z,r⟩:=h;refine ⟨xs,?_,z,r.pr p hf⟩;rcases l with ⟨n,l | ⟨o,l⟩⟩ | l
  ·exact .inl ⟨fun q=>n (hi _ q),.inl (k _ _ l n)⟩
  ·exact .inl ⟨fun q=>n (hi _ q),.inr ⟨o,k _ _ l n⟩⟩
  ·exact .inr l
 | dict ds =>
  rcases h with ⟨ep,xs,n,l,z,r⟩ | ⟨es,rfl,c,oc,wv,h1,h2⟩
  ·exact .inl ⟨ep,xs,fun q=>n (hi _ q),k _ _ l n,z,r.pr p hf⟩
  ·exact .inr ⟨es,rfl,c,oc,wv,h1.ext fun b o u e=>p _ _ e (.inr rfl),h2.pr p hf⟩
 | _=>exact absurd h id
theorem d8.fresh {d:PyData} {a c:Addr} (hc:H c=none) (h:d8 K F I H d a):d8 K (fun b=>F b\/b=c) I H d a:=by
 cases d with
 | list ds=>obtain ⟨xs,e,z,r⟩:=h;exact ⟨xs,e,z,r.fresh hc⟩
 | dict ds =>
  rcases h with ⟨ep,xs,n,e,z,r⟩ | ⟨es,rfl,d,oc,wv,h1,h2⟩
  ·exact .inl ⟨ep,xs,n,e,z,r.fresh hc⟩
  ·exact .inr ⟨es,rfl,d,oc,wv,h1,h2.fresh hc⟩
 | _=>exact absurd h id
theorem Dm.ro {d:PyData} {v:V} (h:Dm K F H d v) (hi:∀ b,I b->F b) (l:(∃ ds,d=.list ds)\/∃ ds,d=.dict ds):∃ a,v=.ref a/\d8 K F I H d a:=by
 rcases l with ⟨ds,rfl⟩ | ⟨ds,rfl⟩
 ·obtain ⟨a,xs,e,l,z,r⟩:=h;exact ⟨a,e,xs,l.elim (fun q=>.inl ⟨fun z=>q.1 (hi _ z),q.2⟩) .inr,z,r⟩
 ·obtain ⟨a,ep,xs,e,n,l,z,r⟩:=h;exact ⟨a,e,.inl ⟨ep,xs,fun q=>n (hi _ q),l,z,r⟩⟩
theorem Top.ro {d:PyData} {a:Addr} (h:Top K F H d a) (n:¬I a):d8 K F I H d a:=by
 cases d with
 | list ds=>obtain ⟨xs,e,z,r⟩:=h;exact ⟨xs,.inl ⟨n,.inl e⟩,z,r⟩
 | dict ds=>obtain ⟨ep,xs,e,z,r⟩:=h;exact .inl ⟨ep,xs,n,e,z,r⟩
 | _=>exact absurd h id
theorem Rel.ia (R:Rel K F0 H₀ I env σ H) {b:Addr} (h:IA env σ b):FF F0 env σ b:=by
 obtain ⟨i,⟨d,e | e⟩,s⟩:=h
 ·exact .inr ⟨i,d,e,s⟩
 ·obtain ⟨a,s',f,_⟩:=R.ino i d e;rw [s] at s';cases s';exact .inl f
theorem Rel.iaT (R:Rel K F0 H₀ I env σ H) {b:Addr} (h:IA env σ b):∃ o,H b=some o/\Wr o=true:=by
 obtain ⟨i,⟨d,e | e⟩,s⟩:=h
 ·obtain ⟨a,s',_,_,t⟩:=R.own i d e;rw [s] at s';cases s';exact t.wr
 ·obtain ⟨a,s',_,_,t⟩:=R.ino i d e;rw [s] at s';cases s';exact t.wr
theorem Rel.iaI (R:Rel K F0 H₀ I env σ H) {b:Addr} (h:IA env σ b):H₀ b=none\/I b:=by
 obtain ⟨i,⟨d,e | e⟩,s⟩:=h
 ·obtain ⟨a,s',_,q,t⟩:=R.own i d e;rw [s] at s';cases s';exact q
 ·obtain ⟨a,s',_,q,t⟩:=R.ino i d e;rw [s] at s';cases s';exact .inr q
theorem Rel.dt (R:Rel K F0 H₀ I env σ H) {b:Addr} (h:FF F0 env σ b):H b≠none:=by
 rcases h with h | ⟨i,d,e,s⟩
 ·exact R.dom b h
 ·obtain ⟨o,q,_⟩:=R.iaT ⟨i,⟨d,.inl e⟩,s⟩;rw [q];exact nofun
theorem Rel.mx (R:Rel K F0 H₀ I env σ H) (k:∀ b o,H b=some o->¬IA env σ b->H' b=some o):Pr (FF F0 env σ) H H':=fun b o h n=>k b o h fun q=>by
 rcases n with n | n
 ·exact n (R.ia q)
 ·obtain ⟨o',h',w⟩:=R.iaT q;rw [h] at h';cases h';rw [n] at w;cases w
theorem Rel.rebase (R:Rel K F0 H₀ I env σ H):Rel K F0 H (IA env σ) env σ H :=
 ⟨R.len,R.dat,fun i d e=>let ⟨a,s,n,_,t⟩:=R.own i d e;⟨a,s,n,.inr ⟨i,⟨d,.inl e⟩,s⟩,t⟩,fun i d e=>let ⟨a,s,n,_,t⟩:=R.ino i d e;⟨a,s,n,⟨i,⟨d,.inr e⟩,s⟩,t⟩,R.ro,R.sep,R.dom,fun _ _ h _=>h⟩
theorem Rel.oi (R:Rel K F0 H₀ I env σ H) {a:Addr} (h:H a=none\/IA env σ a):H₀ a=none\/I a:=by
 rcases h with h | h
 ·cases e:H₀ a with
  | none=>exact .inl rfl
  | some o =>
   by_cases z:I a
   ·exact .inr z
   ·have:=R.cH a o e z;rw [h] at this;cases this
 ·exact R.iaI h
theorem Rel.aV (R:Rel K F0 H₀ I env σ H) (S:Rel K F0 H (IA env σ) env' σ' H'):Rel K F0 H₀ I env' σ' H':=by
 refine ⟨S.len,S.dat,fun i d e=>?_,fun i d e=>?_,S.ro,S.sep,S.dom,fun b o h n=>?_⟩
 ·obtain ⟨a,s,n,q,t⟩:=S.own i d e;exact ⟨a,s,n,R.oi q,t⟩
 ·obtain ⟨a,s,n,q,t⟩:=S.ino i d e;refine ⟨a,s,n,?_,t⟩;obtain ⟨j,⟨d',e' | e'⟩,s'⟩:=q
  ·obtain ⟨a',s2,n',_⟩:=R.own j d' e';rw [s'] at s2;cases s2;exact absurd n n'
  ·obtain ⟨a',s2,_,n',_⟩:=R.ino j d' e';rw [s'] at s2;cases s2;exact n'
 ·refine S.cH b o (R.cH b o h n) fun q=>?_;rcases R.iaI q with z | z
  ·rw [h] at z;cases z
  ·exact n z
def Evo:Sl->Sl->Prop
 | .un,s=>s=.un
 | .dat d,s=>s=.dat d
 | .own _,s=>(∃ d,s=.own d)\/(∃ d,s=.dat d)\/s=.un
 | .ino _,s=>∃ d,s=.ino d
 | .ro d,s=>s=.ro d
def KpE (env env':En):Prop:=env'.length=env.length/\∀ (i:Nat) (s:Sl),env[i]?=some s->∃ s',env'[i]?=some s'/\Evo s s'
theorem Evo.refl:∀ s,Evo s s
 | .un=>rfl
 | .dat _=>rfl
 | .own d=>.inl ⟨d,rfl⟩
 | .ino d=>⟨d,rfl⟩
 | .ro _=>rfl
theorem Evo.trans:∀ {a b c:Sl},Evo a b->Evo b c->Evo a c
 | .un,b,c,h,q=>by rw [show b=.un from h] at q;exact q
 | .dat d,b,c,h,q=>by rw [show b=.dat d from h] at q;exact q
 | .own d,b,c,h,q=>by
  rcases h with ⟨d,rfl⟩ | ⟨d,rfl⟩ | rfl
  ·exact q
  ·exact .inr (.inl ⟨d,q⟩)
  ·exact .inr (.inr q)
 | .ino d,b,c,h,q=>by obtain ⟨d,rfl⟩:=h;exact q
 | .ro d,b,c,h,q=>by rw [show b=.ro d from h] at q;exact q
theorem KpE.refl (env:En):KpE env env:=⟨rfl,fun i s e=>⟨s,e,.refl s⟩⟩
theorem KpE.trans {e1 e2 e3:En} (a:KpE e1 e2) (b:KpE e2 e3):KpE e1 e3:=⟨b.1.trans a.1,fun i s e=>by
 obtain ⟨s1,h1,v1⟩:=a.2 i s e;obtain ⟨s2,h2,v2⟩:=b.2 i s1 h1
 exact ⟨s2,h2,v1.trans v2⟩⟩
theorem KpE.back (k:KpE env env') {i:Nat} {s':Sl} (e:env'[i]?=some s'):∃ s,env[i]?=some s/\Evo s s':=by
 have hi:i < env'.length:=(Hl.mp e).1;have:env[i]?=some (env[i]'(by rw [<- k.1];exact hi)):=Hj _;obtain ⟨s2,h2,v⟩:=k.2 i _ this;rw [e] at h2;cases h2;exact ⟨_,this,v⟩
theorem KpE.own (k:KpE env env') {i:Nat} {d:PyData} (e:env'[i]?=some (.own d)):∃ d',env[i]?=some (.own d'):=by
 obtain ⟨s,h,v⟩:=k.back e;cases s with
 | un=>cases v
 | dat _=>cases v
 | own d'=>exact ⟨d',h⟩
 | ino _=>obtain ⟨_,v⟩:=v;cases v
 | ro _=>cases v
theorem KpE.ff (k:KpE env env') {b:Addr} (h:FF F0 env' σ b):FF F0 env σ b:=by
 rcases h with h | ⟨i,d,e,s⟩
 ·exact .inl h
 ·obtain ⟨d',e'⟩:=k.own e;exact .inr ⟨i,d',e',s⟩
theorem KpE.mu (k:KpE env env') {i:Nat} (h:mu env' i):mu env i:=by
 obtain ⟨d,h | h⟩:=h
 ·obtain ⟨d',e⟩:=k.own h;exact ⟨d',.inl e⟩
 ·obtain ⟨s,h,v⟩:=k.back h;cases s with
  | un=>cases v
  | dat _=>cases v
  | own d'=>rcases v with ⟨_,v⟩ | ⟨_,v⟩ | v <;> cases v
  | ino d'=>exact ⟨d',.inr h⟩
  | ro _=>cases v
theorem KpE.ia (k:KpE env env') {b:Addr} (h:IA env' σ b):IA env σ b:=let ⟨i,m,s⟩:=h;⟨i,k.mu m,s⟩
theorem Rel.mz (R:Rel K F0 H₀ I env σ H) (S:Rel K F0 H (IA env σ) env' σ H') (k:KpE env env') {d:PyData} {v:V} (h:Dm K (FF F0 env σ) H d v):Dm K (FF F0 env' σ) H' d v :=
 h.pr (R.mx fun b o e n=>S.cH b o e n) fun _ z=>k.ff z
theorem Rel.same (R:Rel K F0 H₀ I env σ H) (s:az H H'):Rel K F0 H₀ I env σ H':=by
 have p:Pr (FF F0 env σ) H H':=Pr.of_same s;refine ⟨R.len,fun i d e=>?_,fun i d e=>?_,fun i d e=>?_,fun i d e=>?_,R.sep,fun b h=>?_,fun b o h n=>s _ _ (R.cH b o h n)⟩
 ·obtain ⟨v,q,r⟩:=R.dat i d e;exact ⟨v,q,r.pr p fun _ z=>z⟩
 ·obtain ⟨a,q,n,w,t⟩:=R.own i d e;exact ⟨a,q,n,w,t.pr p (fun _ z=>z) (fun o z=>s _ _ z)⟩
 ·obtain ⟨a,q,n,w,t⟩:=R.ino i d e;exact ⟨a,q,n,w,t.pr p (fun _ z=>z) (fun o z=>s _ _ z)⟩
 ·obtain ⟨a,q,t⟩:=R.ro i d e;exact ⟨a,q,t.pr p (fun _ z=>z) (fun _ z=>z) (fun b o z _=>s _ _ z)⟩
 ·cases e:H b with
  | none=>exact absurd e (R.dom b h)
  | some o=>rw [s _ _ e];exact nofun
theorem ey {c:Addr}:FF (fun b=>F0 b\/b=c) env σ=fun b=>FF F0 env σ b\/b=c:=by
 funext b;apply propext;constructor
 ·rintro ((h | h) | h)
  ·exact .inl (.inl h)
  ·exact .inr h
  ·exact .inl (.inr h)
 ·rintro ((h | h) | h)
  ·exact .inl (.inl h)
  ·exact .inr h
  ·exact .inl (.inr h)
theorem Rel.fresh (R:Rel K F0 H₀ I env σ H) {c:Addr} (hc:H c=none) {H':Hp} (s:az H H') (hc':H' c≠none):Rel K (fun b=>F0 b\/b=c) H₀ I env σ H':=by
 have p:Pr (fun b=>FF F0 env σ b\/b=c) H H':=Pr.of_same s;have na:∀ i a,mu env i->σ[i]?=some (some (.ref a))->a≠c:=fun i a m q z=>by
  obtain ⟨o,h,_⟩:=R.iaT ⟨i,m,q⟩;rw [z,hc] at h;cases h
 refine ⟨R.len,fun i d e=>?_,fun i d e=>?_,fun i d e=>?_,fun i d e=>?_,R.sep,fun b h=>?_,fun b o h n=>s _ _ (R.cH b o h n)⟩
 ·obtain ⟨v,q,r⟩:=R.dat i d e;rw [ey];exact ⟨v,q,(r.fresh hc).pr p fun _ z=>z⟩
 ·obtain ⟨a,q,n,w,t⟩:=R.own i d e;rw [ey];exact ⟨a,q,fun z=>z.elim n (na i a ⟨d,.inl e⟩ q),w,(t.fresh hc).pr p (fun _ z=>z) (fun o z=>s _ _ z)⟩
 ·obtain ⟨a,q,n,w,t⟩:=R.ino i d e;rw [ey];exact ⟨a,q,.inl n,w,(t.fresh hc).pr p (fun _ z=>z) (fun o z=>s _ _ z)⟩
 ·obtain ⟨a,q,t⟩:=R.ro i d e;rw [ey];exact ⟨a,q,(t.fresh hc).pr p (fun _ z=>z) (fun _ z=>z) (fun b o z _=>s _ _ z)⟩
 ·rcases h with h | h
  ·cases e:H b with
   | none=>exact absurd e (R.dom b h)
   | some o=>rw [s _ _ e];exact nofun
  ·rw [h];exact hc'
theorem Rel.less {c:Addr} (R:Rel K (fun b=>F0 b\/b=c) H₀ I env σ H) (hi:∀ (i:Nat) (d:PyData),env[i]?=some (.ino d)->σ[i]?≠some (some (.ref c))):Rel K F0 H₀ I env σ H:=by
 have hf:∀ b,FF F0 env σ b->FF (fun b=>F0 b\/b=c) env σ b:=fun b z=>by rw [ey];exact .inl z
 refine ⟨R.len,fun i d e=>?_,fun i d e=>?_,fun i d e=>?_,fun i d e=>?_,R.sep,fun b h=>R.dom b (.inl h),R.cH⟩
 ·obtain ⟨v,q,r⟩:=R.dat i d e;exact ⟨v,q,r.mono hf⟩
 ·obtain ⟨a,q,n,w,t⟩:=R.own i d e;exact ⟨a,q,fun z=>n (.inl z),w,t.pr Pr.refl hf fun _ z=>z⟩
 ·obtain ⟨a,q,n,w,t⟩:=R.ino i d e;refine ⟨a,q,?_,w,t.pr Pr.refl hf fun _ z=>z⟩;rcases n with n | n
  ·exact n
  ·exact absurd (n▸q) (hi i d e)
 ·obtain ⟨a,q,t⟩:=R.ro i d e;exact ⟨a,q,t.pr Pr.refl hf (fun _ z=>z) fun _ _ z _=>z⟩
end
open PySem
def uU (K:Fg) (F:Addr->Prop) (H H':Hp):PR->V->Prop
 | .dat d,v=>Dm K F H' d v
 | .frs d,v=>∃ a,v=.ref a/\H a=none/\Top K (fun b=>F b\/b=a) H' d a
def VwL (K:Fg) (F:Addr->Prop) (H:Hp):List PyData->List V->Prop
 | [],vs=>vs=[]
 | d :: ds,vs=>∃ v r,vs=v :: r/\Vw K F H d v/\VwL K F H ds r
structure Cst where
 d:PyData
 v:V
 ok:∀ (K:Fg) (F:Addr->Prop) (H:Hp),Dm K F H d v
def Cst.i (i:Int):Cst:=⟨.int i,.int i,fun _ _ _=>rfl⟩
def Cst.s (x:Str) (h:x.length<=sizeLine) (h2:PyData.strOk x=true):Cst:=⟨.str x,.str x,fun _ _ _=>⟨rfl,h,h2⟩⟩
def Cst.b (b:Bool):Cst:=⟨.bool b,.bl b,fun _ _ _=>rfl⟩
def Cst.n:Cst:=⟨.none,.non,fun _ _ _=>rfl⟩
structure Prm where
 r:Fg->List V->Hp->VK->Prop
 f:List PyData->Option PR
 ok:∀ (K:Fg) (F:Addr->Prop) (H:Hp) (ds:List PyData) (vs:List V) (pr:PR) (Q:VK),f ds=some pr->VwL K F H ds vs->(∀ b,F b->H b≠none)->(∀ v H',az H H'->uU K F H H' pr v->Q v H')->r K vs H Q
structure Mtd where
 T:String
 r:Fg->V->List V->Hp->VK->Prop
 ty:PyData->Bool
 f:PyData->List PyData->Option PR
 yy:∀ (K:Fg) (F:Addr->Prop) (H:Hp) (d:PyData) (v:V),ty d=true->Vw K F H d v->tyV K T v H
 ok:∀ (K:Fg) (F:Addr->Prop) (H:Hp) (d:PyData) (v:V) (ds:List PyData) (vs:List V) (pr:PR) (Q:VK),f d ds=some pr->Vw K F H d v->VwL K F H ds vs->(∀ b,F b->H b≠none)->(∀ v H',az H H'->uU K F H H' pr v->Q v H')->r K v vs H Q
def MvL (K:Fg) (F:Addr->Prop) (H:Hp):List (Bool×PyData)->List V->Prop
 | [],vs=>vs=[]
 | (true,d) :: ds,vs=>∃ v r,vs=v :: r/\Dm K F H d v/\MvL K F H ds r
 | (false,d) :: ds,vs=>∃ v r,vs=v :: r/\Vw K F H d v/\MvL K F H ds r
structure Mtr where
 T:String
 r:Fg->V->List V->Hp->VK->Prop
 ty:PyData->Bool
 f:PyData->List (Bool×PyData)->Option (PyData×PyData)
 yy:∀ (K:Fg) (F:Addr->Prop) (H:Hp) (d:PyData) (a:Addr),ty d=true->Top K F H d a->tyV K T (.ref a) H
 ok:∀ (K:Fg) (F:Addr->Prop) (H:Hp) (d:PyData) (a:Addr) (as:List (Bool×PyData)) (vs:List V) (d' x:PyData) (Q:VK),f d as=some (d',x)->F a->Top K F H d a->MvL K F H as vs ->
  (∀ v H',(∀ b o,b≠a->H b=some o->H' b=some o)->Top K F H' d' a->Dm K F H' x v->Q v H')->r K (.ref a) vs H Q
structure tD where
 r:Fg->V->V->V->Hp->(Hp->Prop)->Prop
 f:PyData->PyData->PyData->Option PyData
 ok:∀ (K:Fg) (F:Addr->Prop) (H:Hp) (d:PyData) (a:Addr) (k x:PyData) (vk vx:V) (d':PyData) (Q:Hp->Prop),f d k x=some d'->F a->Top K F H d a->Vw K F H k vk->Dm K F H x vx ->
  (∀ H',(∀ b o,b≠a->H b=some o->H' b=some o)->Top K F H' d' a->Q H')->r K (.ref a) vk vx H Q
mutual
inductive XE where
 | var (i:Nat) | mov (i:Nat) | tke (i:Nat) | cst (c:Cst) | glb (g:Nat)
 | prm (p:Prm) (as:XA) | met (m:Mtd) (o:XE) (as:XA) | mtr (m:Mtr) (i:Nat) (as:XA) | call (f:Fn) (as:XA)
 | tup (as:XA) | lst (as:XA) | dsp (as:XP) | fst (as:XA)
 | ifx (c:XT) (a b:XE) | rZ (a b:XE) | orv (a b:XE) | yo (a:XE) | chn (p q:Prm) (a b c:XE) | sl2 (p:Int->Int->Prm) (a b c:XE)
 | cmp (js:List Nat) (it:XI) (c:XT) (e:XE) | y8 (n:List Str) (js:List Nat) (it:XI) (e:XE)
inductive XA where | nil | cons (e:XE) (r:XA)
inductive XP where | nil | cons (k e:XE) (r:XP)
inductive XT where | tst (e:XE) | tru (e:XE) | and (a b:XT) | or (a b:XT) | not (a:XT) | yes
inductive XI where | lst (e:XE) | tup (e:XE) | str (e:XE) | rng1 (as:XA) | rng2 (as:XA) | dct (e:XE) | zip (as:XA) | sq (e:XE) | itm (e:XE)
end
inductive XS where
 | skip | seq (a b:XS) | bx (i:Nat) (e:XE) | oo (i:Nat) (e:XE) | Ab (is:List Nat) (e:XE) | drop (e:XE) | ret (e:XE) | Cz
 | ifs (c:XT) (a b:XS) | fr (i:Nat) (it:XI) (b:XS) | frT (is:List Nat) (it:XI) (b:XS) | wh (n:Nat) (c:XT) (b:XS) | brk | cnt | nev | sto (m:tD) (i:Nat) (k e:XE)
def gNs:List Nat->TGs
 | []=>EX
 | i :: r=>xC (aT i) (gNs r)
def gTp (K:PySem.W.Frag) (is:List Nat):TG:=Ee K is.length (gNs is)
noncomputable def Hc:Nat->List Nat:=List.range
def GW:List TE->TE:=fun ts=>tFs ts Str.empty
def NoE:XK:=fun _ _ _=>False
def yd (K:PySem.W.Frag) (G I:Addr->Prop) (H:Hp) (d:PyData) (v:V):Prop:=match d with
 | .tuple ds=>Dm K G H (.tuple ds) v
 | d=>∃ a,v=.ref a/\d8 K G I H d a
def bf (K:PySem.W.Frag) (G I:Addr->Prop) (H:Hp):List PM->List PyData->List V->List Addr->Prop
 | [],[],[],is=>is=[]
 | .dat :: ms,d :: ds,v :: vs,is=>Dm K G H d v/\bf K G I H ms ds vs is
 | .bor :: ms,d :: ds,v :: vs,is=>yd K G I H d v/\bf K G I H ms ds vs is
 | .ino :: ms,d :: ds,v :: vs,is=>∃ a r,v=.ref a/\is=a :: r/\G a/\Top K G H d a/\a ∉ r/\bf K G I H ms ds vs r
 | _,_,_,_=>False
def gA (K:PySem.W.Frag) (G:Addr->Prop) (H:Hp):List PyData->List Addr->Prop
 | [],[]=>True
 | d :: ds,a :: r=>Top K G H d a/\gA K G H ds r
 | _,_=>False
def CB (K:PySem.W.Frag) (G:Addr->Prop) (H H':Hp) (outs:List PyData) (is:List Addr):PR->V->Prop
 | .dat d,v=>Dm K G H' d v/\gA K G H' outs is
 | .frs d,v=>∃ a,v=.ref a/\H a=none/\Top K (fun b=>G b\/b=a) H' d a/\gA K (fun b=>G b\/b=a) H' outs is
def bZ (f:Fn) (K:PySem.W.Frag):Sp:=fun vs H Q _=>∃ (G:Addr->Prop) (ds:List PyData) (is:List Addr) (pr:PR) (outs:List PyData),f.F ds=some (pr,outs)/\bf K G (·∈is) H f.ms ds vs is/\(∀ b,G b->H b≠none) /\
 ∀ v' H',(∀ b o,H b=some o->b ∉ is->H' b=some o)->CB K G H H' outs is pr v'->Q v' H'
section
variable (K:PySem.W.Frag) (ga:Nat->V)
mutual
noncomputable def rE:XE->TE
 | .var i=>aJ i | .mov i=>aJ i | .tke i=>aJ i | .cst c=>tC c.v | .glb g=>tC (ga g)
 | .prm p as=>tCB (p.r K) (rA as) | .met m o as=>tBM K m.T (m.r K) (rE o) (rA as) | .mtr m i as=>tBM K m.T (m.r K) (aJ i) (rA as) | .call f as=>ba (bZ f K) [] NoE (rA as)
 | .tup as=>tP (rA as) | .lst as=>yp (rA as) | .dsp as=>oG (rP as) | .fst as=>GW (rF as)
 | .ifx c a b=>tIf (rT c) (rE a) (rE b) | .rZ a b=>xN (rE a) (rE b) | .orv a b=>DQ (rE a) (rE b) | .yo a=>w8 (rE a)
 | .chn p q a b c=>qO (fun x y=>p.r K [x,y]) (fun x y=>q.r K [x,y]) (rE a) (rE b) (rE c)
 | .sl2 p a b c=>fun σ H Q=>rE a σ H fun x H1=>rE b σ H1 fun y H2=>∃ i,y=.int i/\rE c σ H2 fun z H3=>∃ j,z=.int j/\(p i j).r K [x] H3 Q
 | .cmp js it c e=>gm js (rI_ it) (rT c) (rE e) | .y8 n js it e=>yZ n js (rI_ it) (gTp K (List.range n.length)) (rE e)
noncomputable def rA:XA->TA
 | .nil=>bo | .cons e r=>ah (rE e) (rA r)
noncomputable def rF:XA->List TE
 | .nil=>[] | .cons e r=>rE e :: rF r
noncomputable def rP:XP->List (TE×TE)
 | .nil=>[] | .cons k e r=>(rE k,rE e) :: rP r
noncomputable def rT:XT->TT
 | .tst e=>tB (rE e) | .tru e=>Gy K (rE e) | .and a b=>Cm (rT a) (rT b) | .or a b=>tOr (rT a) (rT b) | .not a=>x8 (rT a) | .yes=>Ao
noncomputable def rI_:XI->TI
 | .lst e=>iu K (rE e) | .tup e=>Cy K (rE e) | .str e=>Hb (rE e) | .rng1 as=>tX (rA as) | .rng2 as=>C6 (rA as) | .dct e=>GC (rE e) | .zip as=>Gp K (rA as) | .sq e=>GH K (rE e) | .itm e=>GY (rE e)
end
def rS:XS->TS
 | .skip=>kQ | .seq a b=>iU (rS a) (rS b) | .bx i e=>fG (rE K ga e) (aT i) | .oo i e=>fG (rE K ga e) (aT i) | .Ab is e=>fG (rE K ga e) (gTp K is) | .drop e=>pU (rE K ga e) | .ret e=>wO (rE K ga e) | .Cz=>CZ
 | .ifs c a b=>sG (rT K ga c) (rS a) (rS b) | .fr i it b=>xW (rI_ K ga it) (aT i) (rS b) | .frT is it b=>xW (rI_ K ga it) (gTp K is) (rS b) | .wh n c b=>Bg (rT K ga c) (rS b) | .brk=>zK | .cnt=>Dl | .nev=>z7
 | .sto m i k e=>fun D σ H=>rE K ga e σ H fun x H1=>aJ i σ H1 fun o H2=>rE K ga k σ H2 fun y H3=>m.r K o y x H3 (D.nx σ)
end
noncomputable def CI:PyData->Bool
 | .none=>false | .bool b=>b | .int i=>i != 0 | .str x=>(x.length:Int) != 0 | .list ds=>!ds.isEmpty | .tuple ds=>!ds.isEmpty | .dict ds=>!ds.isEmpty
noncomputable def FX:PyData->Bool | .str _=>true | _=>false
noncomputable def D3:PyData->Bool | .dict _=>true | _=>false
noncomputable def lU (lk:Bool):Sl->Sl
 | .own d=>if lk then .ro d else .ino d
 | .ino d=>if lk then .ro d else .ino d
 | s=>s
noncomputable def bW (env:En) (lock:Option Nat) (js:List Nat):En:=js.map fun j=>lU (decide (lock=some j)) (env[j]?.getD .un)
noncomputable def aH:En->List Nat->En->En
 | env,j :: js,.ino d :: es=>aH (fE env j d) js es
 | env,_ :: js,_ :: es=>aH env js es
 | env,_,_=>env
noncomputable def sh (step:PyData->En->Option (Option PyData×En)):List PyData->En->Option (List PyData×En)
 | [],env=>some ([],env)
 | d :: ds,env=>match step d env with
  | some (y,e1)=>match sh step ds e1 with
   | some (ys,e2)=>some (y.toList++ys,e2)
   | none=>none
  | none=>none
noncomputable def EI (env:En):PM->AV->Option PyData
 | .dat,.dat d=>some d
 | .bor,.dat (.list d)=>some (.list d)
 | .bor,.dat (.dict d)=>some (.dict d)
 | .bor,.dat (.tuple d)=>some (.tuple d)
 | .bor,.bor i=>xG env i
 | .ino,.bor i=>aK env i
 | _,_=>none
noncomputable def iz (env:En):List PM->List AV->Option (List PyData)
 | [],[]=>some []
 | m :: ms,a :: as=>match EI env m a,iz env ms as with
  | some d,some ds=>some (d :: ds)
  | _,_=>none
 | _,_=>none
noncomputable def b7:List PM->List AV->List Nat
 | .ino :: ms,.bor i :: as=>i :: b7 ms as
 | _ :: ms,_ :: as=>b7 ms as
 | _,_=>[]
noncomputable def rq:List PM->List AV->List Nat
 | .bor :: ms,.bor i :: as=>i :: rq ms as
 | _ :: ms,_ :: as=>rq ms as
 | _,_=>[]
noncomputable def cC:En->List Nat->List PyData->En
 | env,i :: is,d :: ds=>cC (fE env i d) is ds
 | env,_,_=>env
noncomputable def xt:List Nat->Bool
 | []=>true
 | x :: xs=>!xs.contains x&&xt xs
noncomputable def ckA (is bs:List Nat) (n:Nat):Bool:=xt is&&(bs.all (fun i=>!is.contains i)&&n==is.length)
noncomputable def sY (f:Fn) (avs:List AV) (env:En):Option (RV×En) :=
 match iz env f.ms avs with
 | none=>none
 | some ds=>match f.F ds with
  | none=>none
  | some (pr,outs)=>if ckA (b7 f.ms avs) (rq f.ms avs) outs.length=true then some (pr.rv,cC env (b7 f.ms avs) outs) else none
noncomputable def aQ (env:En):List AV->Option (List PyData)
 | []=>some []
 | a :: as=>match a.view env,aQ env as with
  | some d,some ds=>some (d :: ds)
  | _,_=>none
noncomputable def AV.Dd:AV->Bool | .dat _=>true | .bor _=>false
noncomputable def dU (env:En):List AV->Option (List (Bool×PyData))
 | []=>some []
 | a :: as=>match a.view env,dU env as with
  | some d,some ds=>some ((a.Dd,d) :: ds)
  | _,_=>none
noncomputable def jZ:List AV->Option (List PyData)
 | []=>some []
 | .dat d :: as=>match jZ as with | some ds=>some (d :: ds) | none=>none
 | .bor _ :: _=>none
noncomputable def keyOf:PyData->Option Key | .int i=>some (.inl i) | .str x=>some (.inr x) | _=>none
noncomputable def putD (kvs:List (PyData×PyData)) (k d:PyData):List (PyData×PyData) :=
 if (kvs.any fun kv=>PyData.eqv kv.1 k)=true then kvs.map (fun kv=>if PyData.eqv kv.1 k=true then (kv.1,d) else kv) else kvs++[(k,d)]
noncomputable def getD (kvs:List (PyData×PyData)) (k:PyData):Option PyData:=(kvs.find? fun kv=>PyData.eqv kv.1 k).map (·.2)
noncomputable def bh (env:En):Option Nat->En
 | some i=>match env[i]? with | some (.own d)=>env.set i (.ro d) | some (.ino d)=>env.set i (.ro d) | _=>env
 | none=>env
noncomputable def ay (yA:En) (lock:Option Nat) (env:En):En:=match lock with
 | some i=>match yA[i]?,env[i]? with
  | some (.own _),some (.ro d)=>env.set i (.own d)
  | some (.ino _),some (.ro d)=>env.set i (.ino d)
  | _,_=>env
 | none=>env
noncomputable def fc (t:En->Option (Bool×En)) (b:En->Option (RV×En)) (d:PyData) (ec:En):Option (Option PyData×En):=match t (.dat d :: ec) with
 | some (true,e2)=>match b e2 with
  | some (rv,e3)=>match rv.av with | .dat y=>some (some y,e3.tail) | .bor _=>none
  | none=>none
 | some (false,e2)=>some (none,e2.tail)
 | none=>none
noncomputable def jE (n:Nat) (b:En->Option (RV×En)) (d:PyData) (ec:En):Option (Option PyData×En):=match d with
 | .tuple xs=>if xs.length=n then match b (xs.map .dat++ec) with
   | some (rv,e3)=>match rv.av with | .dat y=>some (some y,e3.drop n) | .bor _=>none
   | none=>none
  else none
 | _=>none
noncomputable def roL (e:En):AV->Option (List PyData)
 | .dat (.list xs)=>some xs
 | .bor i=>match e[i]? with | some (.ro (.list xs))=>some xs | _=>none
 | _=>none
mutual
noncomputable def dE (gd:List PyData):XE->En->Option (RV×En)
 | .var i,env=>match env[i]? with | some (.dat d)=>some (.dat d,env) | some (.own _)=>some (.bor i,env) | some (.ino _)=>some (.bor i,env) | some (.ro _)=>some (.bor i,env) | _=>none
 | .mov i,env=>match env[i]? with | some (.own d)=>some (.dat d,env.set i (.dat d)) | _=>none
 | .tke i,env=>match env[i]? with | some (.own d)=>some (.frs d,env.set i .un) | _=>none
 | .cst c,env=>some (.dat c.d,env)
 | .glb g,env=>match gd[g]? with | some d=>some (.dat d,env) | none=>none
 | .prm p as,env=>match dA gd as env with
  | some (avs,e1)=>match aQ e1 avs with
   | some ds=>match p.f ds with | some pr=>some (pr.rv,e1) | none=>none
   | none=>none
  | none=>none
 | .met m o as,env=>match dE gd o env with
  | some (rv,e1)=>match rv.view e1 with
   | some d0=>if m.ty d0=true then match dA gd as e1 with
     | some (avs,e2)=>match rv.view e2,aQ e2 avs with
      | some d,some ds=>match m.f d ds with | some pr=>some (pr.rv,e2) | none=>none
      | _,_=>none
     | none=>none
    else none
   | none=>none
  | none=>none
 | .mtr m i as,env=>match aK env i with
  | some d0=>if m.ty d0=true then match dA gd as env with
    | some (avs,e1)=>match aK e1 i,dU e1 avs with
     | some d,some ds=>match m.f d ds with | some (d',x)=>some (.dat x,fE e1 i d') | none=>none
     | _,_=>none
    | none=>none
   else none
  | none=>none
 | .call f as,env=>match dA gd as env with
  | some (avs,e1)=>sY f avs e1
  | none=>none
 | .tup as,env=>match dA gd as env with
  | some (avs,e1)=>match jZ avs with | some ds=>if ds.length<=sizeLine then some (.dat (.tuple ds),e1) else none | none=>none
  | none=>none
 | .lst as,env=>match dA gd as env with
  | some (avs,e1)=>match jZ avs with | some ds=>if ds.length<=sizeLine then some (.frs (.list ds),e1) else none | none=>none
  | none=>none
 | .dsp as,env=>match dP gd as env with
  | some (kvs,e1)=>if kvs.length<=15 then some (.frs (.dict (kvs.foldl (fun acc kv=>putD acc (kD kv.1) kv.2) [])),e1) else none
  | none=>none
 | .fst as,env=>match dF gd as Str.empty env with
  | some (x,e1)=>some (.dat (.str x),e1)
  | none=>none
 | .ifx c a b,env=>match dT gd c env with
  | some (true,e1)=>dE gd a e1
  | some (false,e1)=>dE gd b e1
  | none=>none
 | .rZ a b,env=>match dE gd a env with
  | some (.dat (.bool true),e1)=>dE gd b e1
  | some (.dat (.bool false),e1)=>some (.dat (.bool false),e1)
  | _=>none
 | .orv a b,env=>match dE gd a env with
  | some (.dat (.bool true),e1)=>some (.dat (.bool true),e1)
  | some (.dat (.bool false),e1)=>dE gd b e1
  | _=>none
 | .yo a,env=>match dE gd a env with
  | some (.dat (.bool x),e1)=>some (.dat (.bool (!x)),e1)
  | _=>none
 | .chn p q a b c,env=>match dE gd a env with
  | some (ra,e1)=>match dE gd b e1 with
   | some (rb,e2)=>match ra.av,rb.av with
    | .dat x,.dat y=>match p.f [x,y] with
     | some (.dat (.bool true))=>match dE gd c e2 with
      | some (rc,e3)=>match rc.av with
       | .dat z=>match q.f [y,z] with | some pr=>some (pr.rv,e3) | none=>none
       | _=>none
      | none=>none
     | some (.dat (.bool false))=>some (.dat (.bool false),e2)
     | _=>none
    | _,_=>none
   | none=>none
  | none=>none
 | .sl2 p a b c,env=>match dE gd a env with
  | some (ra,e1)=>match dE gd b e1 with
   | some (.dat (.int i),e2)=>match dE gd c e2 with
    | some (.dat (.int j),e3)=>match ra.view e3 with
     | some d=>match (p i j).f [d] with | some pr=>some (pr.rv,e3) | none=>none
     | none=>none
    | _=>none
   | _=>none
  | none=>none
 | .cmp js it c e,env=>match dI gd it env with
  | some (ds,lock,e1)=>if js.Nodup then match sh (fc (dT gd c) (dE gd e)) ds (bW e1 lock js) with
    | some (ys,ec)=>some (.frs (.list ys),aH e1 js ec)
    | none=>none
   else none
  | none=>none
 | .y8 n js it e,env=>match dI gd it env with
  | some (ds,lock,e1)=>if js.Nodup then match sh (jE n.length (dE gd e)) ds (bW e1 lock js) with
    | some (ys,ec)=>some (.frs (.list ys),aH e1 js ec)
    | none=>none
   else none
  | none=>none
noncomputable def dA (gd:List PyData):XA->En->Option (List AV×En)
 | .nil,env=>some ([],env)
 | .cons e r,env=>match dE gd e env with
  | some (rv,e1)=>match dA gd r e1 with
   | some (avs,e2)=>some (rv.av :: avs,e2)
   | none=>none
  | none=>none
noncomputable def dF (gd:List PyData):XA->Str->En->Option (Str×En)
 | .nil,out,env=>if out.length<=sizeLine then some (out,env) else none
 | .cons e r,out,env=>match dE gd e env with
  | some (.dat (.str x),e1)=>if (out++x).length<=sizeLine then dF gd r (out++x) e1 else none
  | _=>none
noncomputable def dP (gd:List PyData):XP->En->Option (List (Key×PyData)×En)
 | .nil,env=>some ([],env)
 | .cons k e r,env=>match dE gd k env with
  | some (rk,e1)=>match dE gd e e1 with
   | some (rv,e2)=>match dP gd r e2 with
    | some (kvs,e3)=>match rk.av,rv.av with
     | .dat dk,.dat d=>match keyOf dk with | some k=>some ((k,d) :: kvs,e3) | none=>none
     | _,_=>none
    | none=>none
   | none=>none
  | none=>none
noncomputable def dT (gd:List PyData):XT->En->Option (Bool×En)
 | .tst e,env=>match dE gd e env with | some (.dat (.bool b),e1)=>some (b,e1) | _=>none
 | .tru e,env=>match dE gd e env with
  | some (rv,e1)=>match rv.view e1 with | some d=>if D3 d=true then none else some (CI d,e1) | none=>none
  | none=>none
 | .and a b,env=>match dT gd a env with | some (true,e1)=>dT gd b e1 | some (false,e1)=>some (false,e1) | none=>none
 | .or a b,env=>match dT gd a env with | some (true,e1)=>some (true,e1) | some (false,e1)=>dT gd b e1 | none=>none
 | .not a,env=>match dT gd a env with | some (b,e1)=>some (!b,e1) | none=>none
 | .yes,env=>some (true,env)
noncomputable def dI (gd:List PyData):XI->En->Option (List PyData×Option Nat×En)
 | .lst e,env=>match dE gd e env with
  | some (rv,e1)=>match rv.av with
   | .dat (.list ds)=>some (ds,none,e1)
   | .dat _=>none
   | .bor i=>match cont e1 i with | some (.list ds)=>some (ds,some i,e1) | _=>none
  | none=>none
 | .dct e,env=>match dE gd e env with
  | some (rv,e1)=>match rv.av with
   | .dat (.dict kvs)=>some (kvs.map (·.1),none,e1)
   | .dat _=>none
   | .bor i=>match cont e1 i with | some (.dict kvs)=>some (kvs.map (·.1),some i,e1) | _=>none
  | none=>none
 | .tup e,env=>match dE gd e env with
  | some (rv,e1)=>match rv.av with | .dat (.tuple ds)=>some (ds,none,e1) | _=>none
  | none=>none
 | .itm e,env=>match dE gd e env with
  | some (rv,e1)=>match rv.av with | .dat (.dict kvs)=>if (kvs.all fun p=>FX p.1)=true then some (kvs.map fun p=>.tuple [p.1,p.2],none,e1) else none | _=>none
  | none=>none
 | .sq e,env=>match dE gd e env with
  | some (rv,e1)=>match rv.av with
   | .dat (.list ds)=>some (ds,none,e1)
   | .dat (.tuple ds)=>some (ds,none,e1)
   | .dat _=>none
   | .bor i=>match cont e1 i with | some (.list ds)=>some (ds,some i,e1) | _=>none
  | none=>none
 | .str e,env=>match dE gd e env with
  | some (rv,e1)=>match rv.av with | .dat (.str x)=>some (x.cps.toList.map fun c=>.str ⟨#[c]⟩,none,e1) | _=>none
  | none=>none
 | .rng1 as,env=>match dA gd as env with
  | some (avs,e1)=>match avs with | [.dat (.int j)]=>if -(2 ^ 62)<=j/\j<=2 ^ 24 then some ((List.range j.toNat).map fun (k:Nat)=>.int ((0:Int)+(k:Int)),none,e1) else none | _=>none
  | none=>none
 | .zip as,env=>match dA gd as env with
  | some (avs,e1)=>match avs with
   | [x,y]=>match roL e1 x,roL e1 y with | some xs,some ys=>some ((xs.zip ys).map fun p=>.tuple [p.1,p.2],none,e1) | _,_=>none
   | _=>none
  | none=>none
 | .rng2 as,env=>match dA gd as env with
  | some (avs,e1)=>match avs with | [.dat (.int i),.dat (.int j)]=>if -(2 ^ 62)<=i/\i < 2 ^ 62/\-(2 ^ 62)<=j/\j < 2 ^ 62/\j - i<=2 ^ 24 then some ((List.range (j - i).toNat).map fun (k:Nat)=>.int (i+(k:Int)),none,e1) else none | _=>none
  | none=>none
end
noncomputable def lkd (env:En):Option Nat->Bool
 | some i=>match env[i]? with | some (.own _)=>true | some (.ino _)=>true | _=>false
 | none=>false
noncomputable def RV.soft (b:Bool):RV->RV | .frs d=>if b then .dat d else .frs d | r=>r
inductive Out where | nx (env:En) | rt (rv:RV) (env:En) | bk (env:En) | ct (env:En)
noncomputable def Out.map (b:Bool) (f:En->En):Out->Out | .nx e=>.nx (f e) | .rt r e=>.rt (r.soft b) (f e) | .bk e=>.bk (f e) | .ct e=>.ct (f e)
noncomputable def forL (b:PyData->En->Option Out):List PyData->En->Option Out
 | [],env=>some (.nx env)
 | d :: ds,env=>match b d env with
  | some (.nx e)=>forL b ds e
  | some (.ct e)=>forL b ds e
  | some (.bk e)=>some (.nx e)
  | some (.rt r e)=>some (.rt r e)
  | none=>none
noncomputable def whL (t:En->Option (Bool×En)) (b:En->Option Out):Nat->En->Option Out
 | 0,_=>none
 | n+1,env=>match t env with
  | some (true,e1)=>match b e1 with
   | some (.nx e)=>whL t b n e
   | some (.ct e)=>whL t b n e
   | some (.bk e)=>some (.nx e)
   | some (.rt r e)=>some (.rt r e)
   | none=>none
  | some (false,e1)=>some (.nx e1)
  | none=>none
noncomputable def free (env:En) (i:Nat):Bool:=match env[i]? with | some .un=>true | some (.dat _)=>true | some (.own _)=>true | _=>false
noncomputable def eQ:En->List Nat->List PyData->Option En
 | env,[],[]=>some env
 | env,i :: is,d :: ds=>if free env i=true then eQ (env.set i (.dat d)) is ds else none
 | _,_,_=>none
noncomputable def iN (i:Nat) (b:En->Option Out) (d:PyData) (e:En):Option Out:=if free e i=true then b (e.set i (.dat d)) else none
noncomputable def gQ (is:List Nat) (b:En->Option Out) (d:PyData) (e:En):Option Out:=match d with
 | .tuple xs=>match eQ e is xs with | some e2=>b e2 | none=>none
 | _=>none
noncomputable def dS (gd:List PyData):XS->En->Option Out
 | .skip,env=>some (.nx env)
 | .seq a b,env=>match dS gd a env with
  | some (.nx e)=>dS gd b e
  | o=>o
 | .bx i e,env=>match dE gd e env with
  | some (rv,e1)=>match rv.av with | .dat d=>if free e1 i=true then some (.nx (e1.set i (.dat d))) else none | .bor _=>none
  | none=>none
 | .oo i e,env=>match dE gd e env with
  | some (.frs d,e1)=>if free e1 i=true then some (.nx (e1.set i (.own d))) else none
  | _=>none
 | .Ab is e,env=>match dE gd e env with
  | some (rv,e1)=>match rv.av with
   | .dat (.tuple ds)=>match eQ e1 is ds with | some e2=>some (.nx e2) | none=>none
   | _=>none
  | none=>none
 | .drop e,env=>match dE gd e env with | some (_,e1)=>some (.nx e1) | none=>none
 | .ret e,env=>match dE gd e env with | some (rv,e1)=>some (.rt rv e1) | none=>none
 | .Cz,env=>some (.rt (.dat .none) env)
 | .ifs c a b,env=>match dT gd c env with
  | some (true,e1)=>dS gd a e1
  | some (false,e1)=>dS gd b e1
  | none=>none
 | .fr i it b,env=>match dI gd it env with
  | some (ds,lock,e1)=>(forL (iN i (dS gd b)) ds (bh e1 lock)).map (Out.map (lkd e1 lock) (ay e1 lock))
  | none=>none
 | .frT is it b,env=>match dI gd it env with
  | some (ds,lock,e1)=>(forL (gQ is (dS gd b)) ds (bh e1 lock)).map (Out.map (lkd e1 lock) (ay e1 lock))
  | none=>none
 | .wh n c b,env=>whL (dT gd c) (dS gd b) n env
 | .brk,env=>some (.bk env)
 | .cnt,env=>some (.ct env)
 | .nev,_=>none
 | .sto m i k e,env=>match dE gd e env with
  | some (rv,e1)=>match rv.av with
   | .dat x=>match aK e1 i with
    | some _=>match dE gd k e1 with
     | some (rk,e2)=>match rk.view e2,aK e2 i with
      | some dk,some d=>match m.f d dk x with | some d'=>some (.nx (fE e2 i d')) | none=>none
      | _,_=>none
     | none=>none
    | none=>none
   | .bor _=>none
  | none=>none
noncomputable def tw:PyData->Sl | .tuple ds=>.dat (.tuple ds) | d=>.ro d
noncomputable def ak:List PM->List PyData->Nat->En
 | .dat :: ms,d :: ds,n=>.dat d :: ak ms ds (n - 1)
 | .bor :: ms,d :: ds,n=>tw d :: ak ms ds (n - 1)
 | .ino :: ms,d :: ds,n=>.ino d :: ak ms ds (n - 1)
 | _,_,n=>List.replicate n .un
noncomputable def f7:List PM->En->Option (List PyData)
 | .ino :: ms,.ino d :: es=>match f7 ms es with | some ds=>some (d :: ds) | none=>none
 | .ino :: _,_=>none
 | _ :: ms,_ :: es=>f7 ms es
 | _,_=>some []
noncomputable def RV.pr:RV->Option PR | .dat d=>some (.dat d) | .frs d=>some (.frs d) | .bor _=>none
noncomputable def cN (gd:List PyData) (ms:List PM) (n:Nat) (b:XS):Fn where
 ms:=ms
 F:=fun ds=>if ds.length=ms.length then match dS gd b (ak ms ds n) with
   | some (.rt rv env)=>match rv.pr,f7 ms env with | some pr,some outs=>some (pr,outs) | _,_=>none
   | some (.nx env)=>match f7 ms env with | some outs=>some (.dat .none,outs) | none=>none
   | _=>none
  else none
open PySem
theorem az.rf (H:Hp):az H H:=fun _ _ h=>h
theorem az.nw {H:Hp} {a:Addr} (o:HO) (h:H a=none):az H (upd H a o):=fun b u q=>by rw [ab (ae q h)];exact q
section
variable {K:Fg} {F F' I I' F0:Addr->Prop} {H H' H₀:Hp} {env env':En} {σ σ':St} {ga:Nat->V} {gd:List PyData}
def dB (K:Fg) (F0:Addr->Prop) (H₀:Hp) (I:Addr->Prop) (env:En) (σ:St) (H:Hp):RV->V->Prop
 | .dat d,v=>Dm K (FF F0 env σ) H d v
 | .bor i,v=>σ[i]?=some (some v)
 | .frs d,v=>∃ a,v=.ref a/\Rel K (fun b=>F0 b\/b=a) H₀ I env σ H/\Top K (fun b=>FF F0 env σ b\/b=a) H d a/\(H₀ a=none\/I a)/\¬FF F0 env σ a/\(∀ (i:Nat) (d':PyData),env[i]?=some (.ino d')->σ[i]?≠some (some (.ref a))) /\
   ∀ (i:Nat) (d':PyData),env[i]?=some (.ro d')->∃ b,σ[i]?=some (some (.ref b))/\d8 K (fun b=>FF F0 env σ b\/b=a) (fun b=>IA env σ b\/b=a) H d' b
def uR (K:Fg) (F0:Addr->Prop) (env:En) (σ:St) (H:Hp):AV->V->Prop
 | .dat d,v=>Dm K (FF F0 env σ) H d v
 | .bor i,v=>σ[i]?=some (some v)
def fB (K:Fg) (F0:Addr->Prop) (env:En) (σ:St) (H:Hp):List AV->List V->Prop
 | [],vs=>vs=[]
 | a :: as,vs=>∃ v r,vs=v :: r/\uR K F0 env σ H a v/\fB K F0 env σ H as r
theorem dB.av {rv:RV} {v:V} (h:dB K F0 H₀ I env σ H rv v):uR K F0 env σ H rv.av v:=by
 cases rv with
 | dat d=>exact h
 | bor i=>exact h
 | frs d =>
  obtain ⟨a,e,R,t,_,n,_⟩:=h;subst e;exact (t.pr Pr.refl (F':=FF F0 env σ) (fun _ z=>.inl z) (fun _ z=>z)).dm n
theorem uR.keep (R:Rel K F0 H₀ I env σ H) (S:Rel K F0 H (IA env σ) env' σ H') (k:KpE env env') {a:AV} {v:V} (h:uR K F0 env σ H a v):uR K F0 env' σ H' a v:=by
 cases a with
 | dat d=>exact R.mz S k h
 | bor i=>exact h
theorem Rel.Fi (R:Rel K F0 H₀ I env σ H) {i:Nat} {d:PyData} {v:V} (h:cont env i=some d) (s:σ[i]?=some (some v)):Vw K (FF F0 env σ) H d v:=by
 unfold cont at h;cases e:env[i]? with
 | none=>rw [e] at h;cases h
 | some sl =>
  rw [e] at h;cases sl with
  | un=>cases h
  | dat _=>cases h
  | own d' =>
   cases h;obtain ⟨a,q,_,_,t⟩:=R.own i d e;rw [s] at q;cases q;exact t.r.vw
  | ino d' =>
   cases h;obtain ⟨a,q,_,_,t⟩:=R.ino i d e;rw [s] at q;cases q;exact t.r.vw
  | ro d' =>
   have h:(if isFn d'=true then none else some d')=some d:=h;split at h
   ·cases h
   ·rename_i hf;cases h;obtain ⟨a,q,t⟩:=R.ro i d e;rw [s] at q;cases q;exact (t.r (Bool.not_eq_true _▸hf)).vw
theorem Rel.cu (R:Rel K F0 H₀ I env σ H) {i:Nat} {d:PyData} (h:aK env i=some d):mu env i/\∃ a,σ[i]?=some (some (.ref a))/\FF F0 env σ a/\Top K (FF F0 env σ) H d a:=by
 unfold aK at h;cases e:env[i]? with
 | none=>rw [e] at h;cases h
 | some sl =>
  rw [e] at h;cases sl with
  | un=>cases h
  | dat _=>cases h
  | own d' =>
   cases h;obtain ⟨a,q,_,_,t⟩:=R.own i d e;exact ⟨⟨d,.inl e⟩,a,q,.inr ⟨i,d,e,q⟩,t⟩
  | ino d' =>
   cases h;obtain ⟨a,q,f,_,t⟩:=R.ino i d e;exact ⟨⟨d,.inr e⟩,a,q,.inl f,t⟩
  | ro d'=>cases h
theorem uR.vw (R:Rel K F0 H₀ I env σ H) {a:AV} {v:V} {d:PyData} (h:uR K F0 env σ H a v) (e:a.view env=some d):Vw K (FF F0 env σ) H d v:=by
 cases a with
 | dat d'=>cases e;exact Dm.vw h
 | bor i=>exact R.Fi e h
theorem fB.vw (R:Rel K F0 H₀ I env σ H):∀ {as:List AV} {vs:List V} {ds:List PyData},fB K F0 env σ H as vs->aQ env as=some ds->VwL K (FF F0 env σ) H ds vs
 | [],_,ds,h,e=>by cases e;exact h
 | a :: as,_,ds,h,e=>by
  obtain ⟨v,r,rfl,h1,h2⟩:=h;unfold aQ at e;cases e1:a.view env with
  | none=>rw [e1] at e;cases e
  | some d =>
   cases e2:aQ env as with
   | none=>rw [e1,e2] at e;cases e
   | some ds' =>
    rw [e1,e2] at e;cases e;exact ⟨v,r,rfl,h1.vw R e1,fB.vw R h2 e2⟩
theorem fB.mv (R:Rel K F0 H₀ I env σ H):∀ {as:List AV} {vs:List V} {ds:List (Bool×PyData)},fB K F0 env σ H as vs->dU env as=some ds->MvL K (FF F0 env σ) H ds vs
 | [],_,ds,h,e=>by cases e;exact h
 | a :: as,_,ds,h,e=>by
  obtain ⟨v,r,rfl,h1,h2⟩:=h;unfold dU at e;cases e1:a.view env with
  | none=>rw [e1] at e;cases e
  | some d =>
   cases e2:dU env as with
   | none=>rw [e1,e2] at e;cases e
   | some ds' =>
    rw [e1,e2] at e;cases e;have ih:=fB.mv R h2 e2;cases a with
    | dat d'=>cases e1;exact ⟨v,r,rfl,h1,ih⟩
    | bor i=>exact ⟨v,r,rfl,h1.vw R e1,ih⟩
theorem fB.CD:∀ {as:List AV} {vs:List V} {ds:List PyData},fB K F0 env σ H as vs->jZ as=some ds->DmL K (FF F0 env σ) H ds vs
 | [],_,ds,h,e=>by cases e;exact h
 | .dat d :: as,_,ds,h,e=>by
  obtain ⟨v,r,rfl,h1,h2⟩:=h;unfold jZ at e;cases e2:jZ as with
  | none=>rw [e2] at e;cases e
  | some ds' =>
   rw [e2] at e;cases e;exact ⟨v,r,rfl,h1,fB.CD h2 e2⟩
 | .bor i :: as,_,ds,h,e=>by unfold jZ at e;cases e
theorem d8.uV {d:PyData} {a c:Addr} (hc:H c=none) (h:d8 K F I H d a):d8 K F (fun b=>I b\/b=c) H d a:=by
 cases d with
 | list ds=>obtain ⟨xs,e,z,r⟩:=h;exact ⟨xs,e.fresh hc,z,r⟩
 | dict ds =>
  rcases h with ⟨ep,xs,n,e,z,r⟩ | h
  ·exact .inl ⟨ep,xs,fun q=>q.elim n fun q=>(by subst q;rw [hc] at e;cases e),e,z,r⟩
  ·exact .inr h
 | _=>exact absurd h id
theorem Rel.kC (R:Rel K F0 H₀ I env σ H) (s:az H H') {pr:PR} {v:V} (h:uU K (FF F0 env σ) H H' pr v):dB K F0 H₀ I env σ H' pr.rv v:=by
 cases pr with
 | dat d=>exact h
 | frs d =>
  obtain ⟨a,e,hn,t⟩:=h;refine ⟨a,e,R.fresh hn s ?_,t,R.oi (.inl hn),fun z=>R.dt z hn,fun i d' e' q=>?_,fun i d' e'=>?_⟩
  ·obtain ⟨o,q,_⟩:=t.wr;rw [q];exact nofun
  ·obtain ⟨o,z,_⟩:=R.iaT ⟨i,⟨d',.inr e'⟩,q⟩;rw [hn] at z;cases z
  ·obtain ⟨b,q,t'⟩:=R.ro i d' e';exact ⟨b,q,((t'.fresh hn).uV hn).pr (Pr.of_same s) (fun _ z=>z) (fun _ z=>z) fun b o z _=>s _ _ z⟩
theorem p4 (env:En) (i:Nat) (d:PyData):KpE env (fE env i d):=by
 unfold fE;cases e:env[i]? with
 | none=>exact KpE.refl _
 | some sl =>
  have hi:i < env.length:=(Hl.mp e).1;cases sl with
  | un=>exact KpE.refl _
  | dat _=>exact KpE.refl _
  | ro _=>exact KpE.refl _
  | own d' =>
   refine ⟨HK,fun j s h=>?_⟩;by_cases z:i=j
   ·subst z;rw [e] at h;cases h;exact ⟨.own d,by rw [Hs hi],.inl ⟨d,rfl⟩⟩
   ·exact ⟨s,by rw [Hk z];exact h,.refl s⟩
  | ino d' =>
   refine ⟨HK,fun j s h=>?_⟩;by_cases z:i=j
   ·subst z;rw [e] at h;cases h;exact ⟨.ino d,by rw [Hs hi],⟨d,rfl⟩⟩
   ·exact ⟨s,by rw [Hk z];exact h,.refl s⟩
def SmK (env env':En):Prop:=env'.length=env.length/\∀ i:Nat,env'[i]?=env[i]?\/(∃ d d',env[i]?=some (.own d)/\env'[i]?=some (.own d'))\/∃ d d',env[i]?=some (.ino d)/\env'[i]?=some (.ino d')
theorem SmK.refl (env:En):SmK env env:=⟨rfl,fun _=>.inl rfl⟩
theorem SmK.trans {e1 e2 e3:En} (a:SmK e1 e2) (b:SmK e2 e3):SmK e1 e3:=⟨b.1.trans a.1,fun i=>by
 rcases b.2 i with h | ⟨d,d',h,h'⟩ | ⟨d,d',h,h'⟩
 ·rw [h];exact a.2 i
 ·rcases a.2 i with q | ⟨c,c',q,q'⟩ | ⟨c,c',q,q'⟩
  ·exact .inr (.inl ⟨d,d',by rw [<- q];exact h,h'⟩)
  ·exact .inr (.inl ⟨c,d',q,h'⟩)
  ·rw [h] at q';cases q'
 ·rcases a.2 i with q | ⟨c,c',q,q'⟩ | ⟨c,c',q,q'⟩
  ·exact .inr (.inr ⟨d,d',by rw [<- q];exact h,h'⟩)
  ·rw [h] at q';cases q'
  ·exact .inr (.inr ⟨c,d',q,h'⟩)⟩
theorem SmK.kp (k:SmK env env'):KpE env env':=⟨k.1,fun i s e=>by
 rcases k.2 i with h | ⟨d,d',h,h'⟩ | ⟨d,d',h,h'⟩
 ·exact ⟨s,by rw [h];exact e,.refl s⟩
 ·rw [e] at h;cases h;exact ⟨_,h',.inl ⟨d',rfl⟩⟩
 ·rw [e] at h;cases h;exact ⟨_,h',⟨d',rfl⟩⟩⟩
theorem SmK.symm (k:SmK env env'):SmK env' env:=⟨k.1.symm,fun i=>by
 rcases k.2 i with h | ⟨d,d',h,h'⟩ | ⟨d,d',h,h'⟩
 ·exact .inl h.symm
 ·exact .inr (.inl ⟨d',d,h',h⟩)
 ·exact .inr (.inr ⟨d',d,h',h⟩)⟩
theorem SmK.ff (k:SmK env env'):FF F0 env' σ=FF F0 env σ:=by
 funext b;exact propext ⟨fun h=>k.kp.ff h,fun h=>k.symm.kp.ff h⟩
theorem SmK.ia (k:SmK env env'):IA env' σ=IA env σ:=by
 funext b;exact propext ⟨fun h=>k.kp.ia h,fun h=>k.symm.kp.ia h⟩
theorem c6 (env:En) (i:Nat) (d:PyData):SmK env (fE env i d):=by
 unfold fE;cases e:env[i]? with
 | none=>exact SmK.refl _
 | some sl =>
  have hi:i < env.length:=(Hl.mp e).1;cases sl with
  | un=>exact SmK.refl _
  | dat _=>exact SmK.refl _
  | ro _=>exact SmK.refl _
  | own d' =>
   refine ⟨HK,fun j=>?_⟩;by_cases z:i=j
   ·subst z;exact .inr (.inl ⟨d',d,e,by rw [Hs hi]⟩)
   ·exact .inl (by rw [Hk z])
  | ino d' =>
   refine ⟨HK,fun j=>?_⟩;by_cases z:i=j
   ·subst z;exact .inr (.inr ⟨d',d,e,by rw [Hs hi]⟩)
   ·exact .inl (by rw [Hk z])
theorem jr {env:En} {i:Nat} {d:PyData} (h:mu env i):aK (fE env i d) i=some d:=by
 unfold fE aK;obtain ⟨d',e | e⟩:=h
 ·have hi:i < env.length:=(Hl.mp e).1;rw [e];simp only;rw [Hs hi]
 ·have hi:i < env.length:=(Hl.mp e).1;rw [e];simp only;rw [Hs hi]
theorem jj {env:En} {i j:Nat} {d:PyData} (h:j≠i):(fE env i d)[j]?=env[j]?:=by
 unfold fE;split <;> first | rfl | rw [Hk (Ne.symm h)]
theorem mB {env:En} {i:Nat} {d:PyData} (h:aK env i=some d):env[i]?=some (.own d)\/env[i]?=some (.ino d):=by
 unfold aK at h;split at h
 ·rename_i e;cases h;exact .inl e
 ·rename_i e;cases h;exact .inr e
 ·cases h
theorem Rel.chg (R:Rel K F0 H₀ I env σ H) (k:SmK env env') (hk:∀ b o,H b=some o->¬IA env σ b->H' b=some o) (ht:∀ i d a,aK env' i=some d->σ[i]?=some (some (.ref a))->Top K (FF F0 env σ) H' d a):Rel K F0 H₀ I env' σ H':=by
 have p:=R.mx hk;have eF:=k.ff (F0:=F0) (σ:=σ);have eI:=k.ia (σ:=σ);have mc:∀ {i:Nat} {d:PyData},env'[i]?=some (.own d)\/env'[i]?=some (.ino d)->aK env' i=some d:=fun {i d} h=>by
  unfold aK;rcases h with h | h <;> rw [h]
 refine ⟨k.1.trans R.len,fun i d e=>?_,fun i d e=>?_,fun i d e=>?_,fun i d e=>?_,fun i j a h1 h2 h3 h4=>R.sep i j a (k.kp.mu h1) (k.kp.mu h2) h3 h4,fun b h=>?_,fun b o h n=>?_⟩
 ·rcases k.2 i with q | ⟨c,c',q,q'⟩ | ⟨c,c',q,q'⟩
  ·rw [e] at q;obtain ⟨v,s,r⟩:=R.dat i d q.symm;rw [eF];exact ⟨v,s,r.pr p fun _ z=>z⟩
  ·rw [e] at q';cases q'
  ·rw [e] at q';cases q'
 ·have hm:=mc (.inl e);obtain ⟨d0,e0⟩:=k.kp.own e;obtain ⟨a,s,n,w,_⟩:=R.own i d0 e0;rw [eF];exact ⟨a,s,n,w,ht i d a hm s⟩
 ·have hm:=mc (.inr e);have:∃ d0,env[i]?=some (.ino d0):=by
   rcases k.2 i with q | ⟨c,c',q,q'⟩ | ⟨c,c',q,q'⟩
   ·exact ⟨d,by rw [<- q];exact e⟩
   ·rw [e] at q';cases q'
   ·exact ⟨c,q⟩
  obtain ⟨d0,e0⟩:=this;obtain ⟨a,s,n,w,_⟩:=R.ino i d0 e0;rw [eF];exact ⟨a,s,n,w,ht i d a hm s⟩
 ·have e0:env[i]?=some (.ro d):=by
   rcases k.2 i with q | ⟨c,c',q,q'⟩ | ⟨c,c',q,q'⟩
   ·rw [<- q];exact e
   ·rw [e] at q';cases q'
   ·rw [e] at q';cases q'
  obtain ⟨a,s,t⟩:=R.ro i d e0;rw [eF,eI];exact ⟨a,s,t.pr p (fun _ z=>z) (fun _ z=>z) hk⟩
 ·by_cases z:IA env σ b
  ·obtain ⟨i,m,s⟩:=z;have m':=k.symm.kp.mu m;obtain ⟨d,m'⟩:=m';obtain ⟨o,q,_⟩:=(ht i d b (mc m') s).wr;rw [q];exact nofun
  ·cases e:H b with
   | none=>exact absurd e (R.dom b h)
   | some o=>rw [hk b o e z];exact nofun
 ·refine hk b o (R.cH b o h n) fun z=>?_;rcases R.iaI z with q | q
  ·rw [h] at q;cases q
  ·exact n q
end
open PySem
section
variable {K:Fg} {F F' I I' F0:Addr->Prop} {H H' H₀:Hp} {env env':En} {σ σ':St} {ga:Nat->V} {gd:List PyData}
theorem get_set {α:Type} {l:List α} {i j:Nat} {x y:α} (h:(l.set i x)[j]?=some y):(i=j/\x=y)\/(i≠j/\l[j]?=some y):=by
 by_cases z:i=j
 ·subst z;by_cases hi:i < l.length
  ·rw [Hs hi] at h;exact .inl ⟨rfl,HV h⟩
  ·rw [IU (by rw [HK];omega)] at h;cases h
 ·rw [Hk z] at h;exact .inr ⟨z,h⟩
theorem Rel.sub (R:Rel K F0 H₀ I env σ H) (i:Nat) (x:Option V):(∀ b,FF F0 (env.set i .un) (σ.set i x) b->FF F0 env σ b)/\(∀ b,IA (env.set i .un) (σ.set i x) b->IA env σ b):=by
 constructor
 ·rintro b (h | ⟨j,d,e,s⟩)
  ·exact .inl h
  ·rcases get_set e with ⟨_,z⟩ | ⟨n,e⟩
   ·cases z
   ·rw [Hk n] at s;exact .inr ⟨j,d,e,s⟩
 ·rintro b ⟨j,⟨d,e⟩,s⟩;have:∃ d,(env[j]?=some (.own d)\/env[j]?=some (.ino d))/\i≠j:=by
   rcases e with e | e
   ·rcases get_set e with ⟨_,z⟩ | ⟨n,e⟩
    ·cases z
    ·exact ⟨d,.inl e,n⟩
   ·rcases get_set e with ⟨_,z⟩ | ⟨n,e⟩
    ·cases z
    ·exact ⟨d,.inr e,n⟩
  obtain ⟨d,e,n⟩:=this;rw [Hk n] at s;exact ⟨j,⟨d,e⟩,s⟩
theorem Rel.forget (R:Rel K F0 H₀ I env σ H) (i:Nat) (x:Option V):Rel K F0 H₀ I (env.set i .un) (σ.set i x) H:=by
 obtain ⟨hf,hi⟩:=R.sub i x;have mm:∀ j,mu (env.set i .un) j->mu env j/\i≠j:=fun j h=>by
  obtain ⟨d,e | e⟩:=h
  ·rcases get_set e with ⟨_,z⟩ | ⟨n,e⟩
   ·cases z
   ·exact ⟨⟨d,.inl e⟩,n⟩
  ·rcases get_set e with ⟨_,z⟩ | ⟨n,e⟩
   ·cases z
   ·exact ⟨⟨d,.inr e⟩,n⟩
 refine ⟨by rw [HK,HK];exact R.len,fun j d e=>?_,fun j d e=>?_,fun j d e=>?_,fun j d e=>?_,fun j k a h1 h2 h3 h4=>?_,R.dom,R.cH⟩
 ·rcases get_set e with ⟨_,z⟩ | ⟨n,e⟩
  ·cases z
  obtain ⟨v,s,r⟩:=R.dat j d e;exact ⟨v,by rw [Hk n];exact s,r.mono hf⟩
 ·rcases get_set e with ⟨_,z⟩ | ⟨n,e⟩
  ·cases z
  obtain ⟨a,s,q,w,t⟩:=R.own j d e;exact ⟨a,by rw [Hk n];exact s,q,w,t.pr Pr.refl hf fun _ z=>z⟩
 ·rcases get_set e with ⟨_,z⟩ | ⟨n,e⟩
  ·cases z
  obtain ⟨a,s,q,w,t⟩:=R.ino j d e;exact ⟨a,by rw [Hk n];exact s,q,w,t.pr Pr.refl hf fun _ z=>z⟩
 ·rcases get_set e with ⟨_,z⟩ | ⟨n,e⟩
  ·cases z
  obtain ⟨a,s,t⟩:=R.ro j d e;exact ⟨a,by rw [Hk n];exact s,t.pr Pr.refl hf hi fun _ _ z _=>z⟩
 ·obtain ⟨m1,n1⟩:=mm j h1;obtain ⟨m2,n2⟩:=mm k h2;rw [Hk n1] at h3;rw [Hk n2] at h4;exact R.sep j k a m1 m2 h3 h4
theorem iQ {i:Nat} {s:Sl} {x:Option V} (hu:env[i]?=some .un) (hs:∀ d,s≠.own d):FF F0 (env.set i s) (σ.set i x)=FF F0 env σ:=by
 funext b;apply propext;constructor
 ·rintro (h | ⟨j,d,e,q⟩)
  ·exact .inl h
  ·rcases get_set e with ⟨_,z⟩ | ⟨n,e⟩
   ·exact absurd z (hs d)
   ·rw [Hk n] at q;exact .inr ⟨j,d,e,q⟩
 ·rintro (h | ⟨j,d,e,q⟩)
  ·exact .inl h
  ·have n:i≠j:=fun z=>by subst z;rw [hu] at e;cases e
   exact .inr ⟨j,d,by rw [Hk n];exact e,by rw [Hk n];exact q⟩
theorem pA {i:Nat} {s:Sl} {x:Option V} (hu:env[i]?=some .un) (hs:∀ d,s≠.own d/\s≠.ino d):IA (env.set i s) (σ.set i x)=IA env σ:=by
 funext b;apply propext;constructor
 ·rintro ⟨j,⟨d,e | e⟩,q⟩
  ·rcases get_set e with ⟨_,z⟩ | ⟨n,e⟩
   ·exact absurd z (hs d).1
   ·rw [Hk n] at q;exact ⟨j,⟨d,.inl e⟩,q⟩
  ·rcases get_set e with ⟨_,z⟩ | ⟨n,e⟩
   ·exact absurd z (hs d).2
   ·rw [Hk n] at q;exact ⟨j,⟨d,.inr e⟩,q⟩
 ·rintro ⟨j,⟨d,e⟩,q⟩;have n:i≠j:=fun z=>by subst z;rw [hu] at e;rcases e with e | e <;> cases e
  refine ⟨j,⟨d,?_⟩,by rw [Hk n];exact q⟩;rw [Hk n];exact e
theorem Rel.putD (R:Rel K F0 H₀ I env σ H) {i:Nat} {d:PyData} {v:V} (hu:env[i]?=some .un) (h:Dm K (FF F0 env σ) H d v):Rel K F0 H₀ I (env.set i (.dat d)) (σ.set i (some v)) H:=by
 have hi:i < env.length:=(Hl.mp hu).1;have eF:FF F0 (env.set i (.dat d)) (σ.set i (some v))=FF F0 env σ:=iQ hu (fun _=>nofun);have eI:IA (env.set i (.dat d)) (σ.set i (some v))=IA env σ:=pA hu (fun _=>⟨nofun,nofun⟩);have mm:∀ j,mu (env.set i (.dat d)) j->mu env j/\i≠j:=fun j h=>by
  obtain ⟨c,e | e⟩:=h
  ·rcases get_set e with ⟨_,z⟩ | ⟨n,e⟩
   ·cases z
   ·exact ⟨⟨c,.inl e⟩,n⟩
  ·rcases get_set e with ⟨_,z⟩ | ⟨n,e⟩
   ·cases z
   ·exact ⟨⟨c,.inr e⟩,n⟩
 refine ⟨by rw [HK,HK];exact R.len,fun j c e=>?_,fun j c e=>?_,fun j c e=>?_,fun j c e=>?_,fun j k a h1 h2 h3 h4=>?_,R.dom,R.cH⟩
 ·rw [eF];rcases get_set e with ⟨z,y⟩ | ⟨n,e⟩
  ·subst z;cases y;exact ⟨v,Hs (by rw [<- R.len];exact hi),h⟩
  obtain ⟨w,s,r⟩:=R.dat j c e;exact ⟨w,by rw [Hk n];exact s,r⟩
 ·rw [eF];rcases get_set e with ⟨_,z⟩ | ⟨n,e⟩
  ·cases z
  obtain ⟨a,s,q,w,t⟩:=R.own j c e;exact ⟨a,by rw [Hk n];exact s,q,w,t⟩
 ·rw [eF];rcases get_set e with ⟨_,z⟩ | ⟨n,e⟩
  ·cases z
  obtain ⟨a,s,q,w,t⟩:=R.ino j c e;exact ⟨a,by rw [Hk n];exact s,q,w,t⟩
 ·rw [eF,eI];rcases get_set e with ⟨_,z⟩ | ⟨n,e⟩
  ·cases z
  obtain ⟨a,s,t⟩:=R.ro j c e;exact ⟨a,by rw [Hk n];exact s,t⟩
 ·obtain ⟨m1,n1⟩:=mm j h1;obtain ⟨m2,n2⟩:=mm k h2;rw [Hk n1] at h3;rw [Hk n2] at h4;exact R.sep j k a m1 m2 h3 h4
theorem Rel.FK {i:Nat} {d:PyData} {a:Addr} (hu:env[i]?=some .un) (h:dB K F0 H₀ I env σ H (.frs d) (.ref a)):Rel K F0 H₀ I (env.set i (.own d)) (σ.set i (some (.ref a))) H:=by
 obtain ⟨a',ea,R,t,w,nF,hino,hro⟩:=h;cases ea;have hi:i < env.length:=(Hl.mp hu).1;have his:i < σ.length:=by rw [<- R.len];exact hi
 have eF:FF F0 (env.set i (.own d)) (σ.set i (some (.ref a)))=fun b=>FF F0 env σ b\/b=a:=by
  funext b;apply propext;constructor
  ·rintro (h | ⟨j,c,e,q⟩)
   ·exact .inl (.inl h)
   ·rcases get_set e with ⟨z,y⟩ | ⟨n,e⟩
    ·subst z;rw [Hs his] at q;cases q;exact .inr rfl
    ·rw [Hk n] at q;exact .inl (.inr ⟨j,c,e,q⟩)
  ·rintro ((h | ⟨j,c,e,q⟩) | rfl)
   ·exact .inl h
   ·have n:i≠j:=fun z=>by subst z;rw [hu] at e;cases e
    exact .inr ⟨j,c,by rw [Hk n];exact e,by rw [Hk n];exact q⟩
   ·exact .inr ⟨i,d,Hs hi,Hs his⟩
 have eF2:FF (fun b=>F0 b\/b=a) env σ=fun b=>FF F0 env σ b\/b=a:=ey;have mm:∀ j,mu (env.set i (.own d)) j->i=j\/(mu env j/\i≠j):=fun j h=>by
  obtain ⟨c,e | e⟩:=h
  ·rcases get_set e with ⟨z,_⟩ | ⟨n,e⟩
   ·exact .inl z
   ·exact .inr ⟨⟨c,.inl e⟩,n⟩
  ·rcases get_set e with ⟨z,_⟩ | ⟨n,e⟩
   ·exact .inl z
   ·exact .inr ⟨⟨c,.inr e⟩,n⟩
 have eI:∀ b,IA (env.set i (.own d)) (σ.set i (some (.ref a))) b->IA env σ b\/b=a:=by
  rintro b ⟨j,m,q⟩;rcases mm j m with z | ⟨m',n⟩
  ·subst z;rw [Hs his] at q;cases q;exact .inr rfl
  ·rw [Hk n] at q;exact .inl ⟨j,m',q⟩
 have na:∀ j,mu env j->σ[j]?≠some (some (.ref a)):=fun j m q=>by
  obtain ⟨c,e | e⟩:=m
  ·exact nF (.inr ⟨j,c,e,q⟩)
  ·exact hino j c e q
 refine ⟨by rw [HK,HK];exact R.len,fun j c e=>?_,fun j c e=>?_,fun j c e=>?_,fun j c e=>?_,fun j k b h1 h2 h3 h4=>?_,fun b h=>R.dom b (.inl h),R.cH⟩
 ·rw [eF];rcases get_set e with ⟨_,z⟩ | ⟨n,e⟩
  ·cases z
  obtain ⟨x,s,r⟩:=R.dat j c e;rw [eF2] at r;exact ⟨x,by rw [Hk n];exact s,r⟩
 ·rw [eF];rcases get_set e with ⟨z,y⟩ | ⟨n,e⟩
  ·subst z;cases y;exact ⟨a,Hs his,fun z=>nF (.inl z),w,t⟩
  obtain ⟨b,s,q,w',t'⟩:=R.own j c e;rw [eF2] at t';exact ⟨b,by rw [Hk n];exact s,fun z=>q (.inl z),w',t'⟩
 ·rw [eF];rcases get_set e with ⟨_,z⟩ | ⟨n,e⟩
  ·cases z
  obtain ⟨b,s,q,w',t'⟩:=R.ino j c e;rw [eF2] at t';refine ⟨b,by rw [Hk n];exact s,?_,w',t'⟩;rcases q with q | q
  ·exact q
  ·subst q;exact absurd s (hino j c e)
 ·rw [eF];rcases get_set e with ⟨_,z⟩ | ⟨n,e⟩
  ·cases z
  obtain ⟨b,s,t'⟩:=hro j c e;exact ⟨b,by rw [Hk n];exact s,t'.pr Pr.refl (fun _ z=>z) eI fun _ _ z _=>z⟩
 ·rcases mm j h1 with z1 | ⟨m1,n1⟩
  ·rcases mm k h2 with z2 | ⟨m2,n2⟩
   ·rw [<- z1,<-z2]
   ·rw [<- z1,Hs his] at h3;cases h3;rw [Hk n2] at h4;exact absurd h4 (na k m2)
  ·rw [Hk n1] at h3;rcases mm k h2 with z2 | ⟨m2,n2⟩
   ·rw [<- z2,Hs his] at h4;cases h4;exact absurd h3 (na j m1)
   ·rw [Hk n2] at h4;exact R.sep j k b m1 m2 h3 h4
theorem Rel.take (R:Rel K F0 H₀ I env σ H) {i:Nat} {d:PyData} (e:env[i]?=some (.own d)):∃ a,σ[i]?=some (some (.ref a))/\dB K F0 H₀ I (env.set i .un) σ H (.frs d) (.ref a):=by
 obtain ⟨a,s,nF0,w,t⟩:=R.own i d e;have hi:i < env.length:=(Hl.mp e).1;have mm:∀ j,mu (env.set i .un) j->mu env j/\i≠j:=fun j h=>by
  obtain ⟨c,e | e⟩:=h
  ·rcases get_set e with ⟨_,z⟩ | ⟨n,e⟩
   ·cases z
   ·exact ⟨⟨c,.inl e⟩,n⟩
  ·rcases get_set e with ⟨_,z⟩ | ⟨n,e⟩
   ·cases z
   ·exact ⟨⟨c,.inr e⟩,n⟩
 have eF:FF F0 env σ=fun b=>FF F0 (env.set i .un) σ b\/b=a:=by
  funext b;apply propext;constructor
  ·rintro (h | ⟨j,c,e',q⟩)
   ·exact .inl (.inl h)
   ·by_cases n:i=j
    ·subst n;rw [s] at q;cases q;exact .inr rfl
    ·exact .inl (.inr ⟨j,c,by rw [Hk n];exact e',q⟩)
  ·rintro ((h | ⟨j,c,e',q⟩) | rfl)
   ·exact .inl h
   ·rcases get_set e' with ⟨_,z⟩ | ⟨n,e'⟩
    ·cases z
    ·exact .inr ⟨j,c,e',q⟩
   ·exact .inr ⟨i,d,e,s⟩
 have eF2:FF (fun b=>F0 b\/b=a) (env.set i .un) σ=FF F0 env σ:=by rw [ey];exact eF.symm
 have na:∀ j,mu (env.set i .un) j->σ[j]?≠some (some (.ref a)):=fun j m q=>by
  obtain ⟨m',n⟩:=mm j m;exact n (R.sep i j a ⟨d,.inl e⟩ m' s q)
 have nF:¬FF F0 (env.set i .un) σ a:=by
  rintro (h | ⟨j,c,e',q⟩)
  ·exact nF0 h
  ·exact na j ⟨c,.inl e'⟩ q
 have ia:∀ b,IA (env.set i .un) σ b->IA env σ b:=fun b ⟨j,m,q⟩=>⟨j,(mm j m).1,q⟩;have ia2:∀ b,(IA (env.set i .un) σ b\/b=a)->IA env σ b:=fun b h=>h.elim (ia b) fun z=>z▸⟨i,⟨d,.inl e⟩,s⟩;have R':Rel K (fun b=>F0 b\/b=a) H₀ I (env.set i .un) σ H:=by
  refine ⟨by rw [HK];exact R.len,fun j c e'=>?_,fun j c e'=>?_,fun j c e'=>?_,fun j c e'=>?_,fun j k b h1 h2 h3 h4=>R.sep j k b (mm j h1).1 (mm k h2).1 h3 h4,fun b h=>?_,R.cH⟩
  ·rw [eF2];rcases get_set e' with ⟨_,z⟩ | ⟨n,e'⟩
   ·cases z
   exact R.dat j c e'
  ·rw [eF2];have m:=e';rcases get_set e' with ⟨_,z⟩ | ⟨n,e'⟩
   ·cases z
   obtain ⟨b,s',q,w',t'⟩:=R.own j c e';exact ⟨b,s',fun z=>z.elim q fun z=>na j ⟨c,.inl m⟩ (z▸s'),w',t'⟩
  ·rw [eF2];rcases get_set e' with ⟨_,z⟩ | ⟨n,e'⟩
   ·cases z
   obtain ⟨b,s',q,w',t'⟩:=R.ino j c e';exact ⟨b,s',.inl q,w',t'⟩
  ·rw [eF2];rcases get_set e' with ⟨_,z⟩ | ⟨n,e'⟩
   ·cases z
   obtain ⟨b,s',t'⟩:=R.ro j c e';exact ⟨b,s',t'.pr Pr.refl (fun _ z=>z) ia fun _ _ z _=>z⟩
  ·rcases h with h | h
   ·exact R.dom b h
   ·obtain ⟨o,q,_⟩:=t.wr;rw [h,q];exact nofun
 refine ⟨a,s,a,rfl,R',by rw [eF] at t;exact t,w,nF,fun j c e'=>na j ⟨c,.inr e'⟩,fun j c e'=>?_⟩;rcases get_set e' with ⟨_,z⟩ | ⟨n,e'⟩
 ·cases z
 obtain ⟨b,s',t'⟩:=R.ro j c e';rw [eF] at t';exact ⟨b,s',t'.pr Pr.refl (fun _ z=>z) ia2 fun _ _ z _=>z⟩
theorem dB.rel {d:PyData} {v:V} (h:dB K F0 H₀ I env σ H (.frs d) v):Rel K F0 H₀ I env σ H:=by
 obtain ⟨a,_,R,_,_,_,hi,_⟩:=h;exact R.less hi
theorem set_same {α:Type} {l:List α} {i:Nat} {x:α} (h:l[i]?=some x):l.set i x=l:=by
 have hi:i < l.length:=(Hl.mp h).1;apply List.ext_getElem?;intro j;by_cases z:i=j
 ·subst z;rw [Hs hi,h]
 ·rw [Hk z]
theorem Rel.mov (R:Rel K F0 H₀ I env σ H) {i:Nat} {d:PyData} (e:env[i]?=some (.own d)):∃ a,σ[i]?=some (some (.ref a))/\Rel K F0 H₀ I (env.set i (.dat d)) σ H/\Dm K (FF F0 (env.set i (.dat d)) σ) H d (.ref a):=by
 have hi:i < env.length:=(Hl.mp e).1;obtain ⟨a,s,h⟩:=R.take e;have R1:=h.rel;have hu:(env.set i .un)[i]?=some .un:=Hs hi;have hd:Dm K (FF F0 (env.set i .un) σ) H d (.ref a):=dB.av h;have R2:=R1.putD hu hd;rw [ID,set_same s] at R2;refine ⟨a,s,R2,?_⟩;have eF:FF F0 (env.set i (.dat d)) σ=FF F0 (env.set i .un) σ:=by
  have:=iQ (F0:=F0) (σ:=σ) (s:=.dat d) (x:=some (.ref a)) hu (fun _=>nofun);rw [ID,set_same s] at this;exact this
 rw [eF];exact hd
theorem vq {i:Nat} {s s':Sl} (e:env[i]?=some s) (v:Evo s s'):KpE env (env.set i s'):=by
 have hi:i < env.length:=(Hl.mp e).1;refine ⟨HK,fun j t h=>?_⟩;by_cases z:i=j
 ·subst z;rw [e] at h;cases h;exact ⟨s',Hs hi,v⟩
 ·exact ⟨t,by rw [Hk z];exact h,.refl t⟩
end
open PySem
theorem fW (x y:Str):(x++y).cps=x.cps++y.cps:=rfl
theorem jW {x y:Str} (h:PyData.strOk x=true) (q:PyData.strOk y=true):PyData.strOk (x++y)=true:=by
 unfold PyData.strOk at h q ⊢;rw [fW,Array.all_append,h,q];rfl
def SE (K:Fg) (ga:Nat->V) (gd:List PyData) (e:XE):Prop:=∀ (env:En) (rv:RV) (env':En),dE gd e env=some (rv,env')->∀ (F0:Addr->Prop) (H₀:Hp) (I:Addr->Prop) (σ:St) (H:Hp) (Q:VK),Rel K F0 H₀ I env σ H ->
 (∀ v H',Rel K F0 H₀ I env' σ H'->KpE env env'->dB K F0 H₀ I env' σ H' rv v->Q v H')->rE K ga e σ H Q
def SA (K:Fg) (ga:Nat->V) (gd:List PyData) (e:XA):Prop:=∀ (env:En) (rv:List AV) (env':En),dA gd e env=some (rv,env')->∀ (F0:Addr->Prop) (H₀:Hp) (I:Addr->Prop) (σ:St) (H:Hp) (Q:List V->Hp->Prop),Rel K F0 H₀ I env σ H ->
 (∀ v H',Rel K F0 H₀ I env' σ H'->KpE env env'->fB K F0 env' σ H' rv v->Q v H')->rA K ga e σ H Q
def SF (K:Fg) (ga:Nat->V) (gd:List PyData) (e:XA):Prop:=∀ (out:Str) (env:En) (x:Str) (env':En),dF gd e out env=some (x,env')->∀ (F0:Addr->Prop) (H₀:Hp) (I:Addr->Prop) (σ:St) (H:Hp) (Q:VK),Rel K F0 H₀ I env σ H ->
 PyData.strOk out=true->(∀ H',Rel K F0 H₀ I env' σ H'->KpE env env'->x.length<=sizeLine->PyData.strOk x=true->Q (.str x) H')->tFs (rF K ga e) out σ H Q
def yY (K:Fg) (F:Addr->Prop) (H:Hp):List (Key×PyData)->List (Key×V)->Prop
 | [],vs=>vs=[]
 | (k,d) :: ds,vs=>∃ v r,vs=(k,v) :: r/\Dm K F H (kD k) (kV k)/\Dm K F H d v/\yY K F H ds r
def SPs (K:Fg) (ga:Nat->V) (gd:List PyData) (e:XP):Prop:=∀ (env:En) (kvs:List (Key×PyData)) (env':En),dP gd e env=some (kvs,env')->∀ (F0:Addr->Prop) (H₀:Hp) (I:Addr->Prop) (σ:St) (H:Hp) (Q:List (V×V)->Hp->Prop),Rel K F0 H₀ I env σ H ->
 (∀ vs H',Rel K F0 H₀ I env' σ H'->KpE env env'->yY K (FF F0 env' σ) H' kvs vs->Q (vs.map fun kv=>(kV kv.1,kv.2)) H')->mU (rP K ga e) σ H Q
def ST (K:Fg) (ga:Nat->V) (gd:List PyData) (e:XT):Prop:=∀ (env:En) (b:Bool) (env':En),dT gd e env=some (b,env')->∀ (F0:Addr->Prop) (H₀:Hp) (I:Addr->Prop) (σ:St) (H:Hp) (Q:Bool->Hp->Prop),Rel K F0 H₀ I env σ H ->
 (∀ H',Rel K F0 H₀ I env' σ H'->KpE env env'->Q b H')->rT K ga e σ H Q
def ItY (K:Fg) (F:Addr->Prop) (H H' H'':Hp) (d:PyData) (x:V):Prop:=(H''=H'/\Dm K F H d x)\/∃ p u v d1 d2,d=.tuple [d1,d2]/\x=.ref p/\H' p=none/\H''=upd H' p (.tup [u,v])/\Dm K F H d1 u/\Dm K F H d2 v
theorem ItY.dm {K:Fg} {F F2:Addr->Prop} {H H' H'':Hp} {d:PyData} {x:V} (h:ItY K F H H' H'' d x) (T:∀ d v,Dm K F H d v->Dm K F2 H' d v):az H' H''/\Dm K F2 H'' d x:=by
 rcases h with ⟨rfl,h⟩ | ⟨p,u,v,d1,d2,rfl,rfl,hp,rfl,h1,h2⟩
 ·exact ⟨fun _ _ e=>e,T _ _ h⟩
 ·have sm:az H' (upd H' p (.tup [u,v])):=fun b o e=>by rw [ab (fun z=>by rw [z,hp] at e;cases e)];exact e
  refine ⟨sm,p,[u,v],rfl,SqT.of ag,Nat.le_of_ble_eq_true rfl,u,_,rfl,?_,v,_,rfl,?_,rfl⟩
  ·exact (T _ _ h1).pr (fun b o e _=>sm b o e) fun _ z=>z
  ·exact (T _ _ h2).pr (fun b o e _=>sm b o e) fun _ z=>z
def se (K:Fg) (F I:Addr->Prop) (H:Hp) (J:It) (ds:List PyData):Prop:=ds.length<=sizeLine/\∀ H',(∀ b o,H b=some o->¬I b->H' b=some o)->∀ k,(k < ds.length->J.go k H'/\∀ x H'',J.yld k H' x H''->∃ d,ds[k]?=some d/\ItY K F H H' H'' d x)/\(ds.length<=k->J.stop k H')
theorem gR {K:Fg} {F I:Addr->Prop} {H:Hp} {J:It} {ds:List PyData} {vs:List V} (hd:DmL K F H ds vs) (hl:vs.length<=sizeLine) (h:∀ H',(∀ b o,H b=some o->¬I b->H' b=some o)->∀ k,(k < vs.length->J.go k H'/\∀ x H'',J.yld k H' x H''->H''=H'/\vs[k]?=some x)/\(vs.length<=k->J.stop k H')):se K F I H J ds:=by
 have e:=hd.len;refine ⟨by omega,fun H' k j=>⟨fun hj=>?_,fun hj=>((h H' k j).2 (by omega))⟩⟩;obtain ⟨g,y⟩:=(h H' k j).1 (by omega);refine ⟨g,fun x H'' hx=>?_⟩;obtain ⟨e0,hx2⟩:=y x H'' hx;obtain ⟨d,h1,h2⟩:=hd.get' hx2;exact ⟨d,h1,.inl ⟨e0,h2⟩⟩
def SI (K:Fg) (ga:Nat->V) (gd:List PyData) (e:XI):Prop:=∀ (env:En) (ds:List PyData) (lock:Option Nat) (env':En),dI gd e env=some (ds,lock,env')->∀ (F0:Addr->Prop) (H₀:Hp) (I:Addr->Prop) (σ:St) (H:Hp) (R:It->Hp->Prop),Rel K F0 H₀ I env σ H ->
 (∀ J H',Rel K F0 H₀ I env' σ H'->KpE env env'->(∀ i,lock=some i->∃ d,cont env' i=some d)->se K (FF F0 env' σ) (fun b=>IA env' σ b/\∀ i,lock=some i->mu env' i->σ[i]?≠some (some (.ref b))) H' J ds->R J H')->rI_ K ga e σ H R
section
variable {K:Fg} {F F' I I' F0:Addr->Prop} {H H' H₀:Hp} {env env':En} {σ σ':St} {ga:Nat->V} {gd:List PyData}
theorem EC (i:Nat):SE K ga gd (.var i):=by
 intro env rv env' h F0 H₀ I σ H Q R q;simp only [dE] at h;split at h
 ·rename_i d e;cases h;obtain ⟨v,s,r⟩:=R.dat i d e;exact ⟨v,s,q v H R (KpE.refl _) r⟩
 ·rename_i d e;cases h;obtain ⟨a,s,_⟩:=R.own i d e;exact ⟨_,s,q _ H R (KpE.refl _) s⟩
 ·rename_i d e;cases h;obtain ⟨a,s,_⟩:=R.ino i d e;exact ⟨_,s,q _ H R (KpE.refl _) s⟩
 ·rename_i d e;cases h;obtain ⟨a,s,_⟩:=R.ro i d e;exact ⟨_,s,q _ H R (KpE.refl _) s⟩
 ·cases h
theorem CV (i:Nat):SE K ga gd (.mov i):=by
 intro env rv env' h F0 H₀ I σ H Q R q;simp only [dE] at h;split at h
 ·rename_i d e;cases h;obtain ⟨a,s,R',r⟩:=R.mov e;exact ⟨_,s,q _ H R' (vq e (.inr (.inl ⟨d,rfl⟩))) r⟩
 ·cases h
theorem El (i:Nat):SE K ga gd (.tke i):=by
 intro env rv env' h F0 H₀ I σ H Q R q;simp only [dE] at h;split at h
 ·rename_i d e;cases h;obtain ⟨a,s,r⟩:=R.take e;exact ⟨_,s,q _ H r.rel (vq e (.inr (.inr rfl))) r⟩
 ·cases h
theorem Dw (c:Cst):SE K ga gd (.cst c):=by
 intro env rv env' h F0 H₀ I σ H Q R q;simp only [dE] at h;cases h;exact q _ H R (KpE.refl _) (c.ok _ _ _)
theorem CU (hg:∀ g d,gd[g]?=some d->∀ F H,Dm K F H d (ga g)) (g:Nat):SE K ga gd (.glb g):=by
 intro env rv env' h F0 H₀ I σ H Q R q;simp only [dE] at h;split at h
 ·rename_i d e;cases h;exact q _ H R (KpE.refl _) (hg g d e _ _)
 ·cases h
theorem DH {p:Prm} {as:XA} (ih:SA K ga gd as):SE K ga gd (.prm p as):=by
 intro env rv env' h F0 H₀ I σ H Q R q;simp only [dE] at h;split at h
 ·rename_i avs e1 h1;split at h
  ·rename_i ds h2;split at h
   ·rename_i pr h3;cases h;refine ih _ _ _ h1 F0 H₀ I σ H _ R fun vs H1 R1 k1 a1=>?_;refine p.ok K _ H1 ds vs pr Q h3 (a1.vw R1 h2) (fun b z=>R1.dt z) fun v H2 s2 hp=>?_;exact q v H2 (R1.same s2) k1 (R1.kC s2 hp)
   ·cases h
  ·cases h
 ·cases h
theorem ER {m:Mtd} {o:XE} {as:XA} (io:SE K ga gd o) (ih:SA K ga gd as):SE K ga gd (.met m o as):=by
 intro env rv env' h F0 H₀ I σ H Q R q;simp only [dE] at h;split at h
 ·rename_i rv0 e1 h1;split at h
  ·rename_i d0 h2;split at h
   ·rename_i hty;split at h
    ·rename_i avs e2 h3;split at h
     ·rename_i d ds h4 h5;split at h
      ·rename_i pr h6;cases h;refine io _ _ _ h1 F0 H₀ I σ H _ R fun v H1 R1 k1 a1=>?_;refine ⟨m.yy K _ H1 d0 v hty (a1.av.vw R1 h2),?_⟩;refine ih _ _ _ h3 F0 _ _ σ H1 _ R1.rebase fun vs H2 S2 k2 a2=>?_;have R2:=R1.aV S2;refine m.ok K _ H2 d v ds vs pr Q h6 ((a1.av.keep R1 S2 k2).vw R2 h4) (a2.vw R2 h5) (fun b z=>R2.dt z) fun v H3 s3 hp=>?_;exact q v H3 (R2.same s3) (k1.trans k2) (R2.kC s3 hp)
      ·cases h
     ·cases h
    ·cases h
   ·cases h
  ·cases h
 ·cases h
theorem Rel.Fv (R:Rel K F0 H₀ I env σ H) {i:Nat} {d d':PyData} {a:Addr} (hm:aK env i=some d) (s:σ[i]?=some (some (.ref a))) (hk:∀ b o,b≠a->H b=some o->H' b=some o) (ht:Top K (FF F0 env σ) H' d' a):Rel K F0 H₀ I (fE env i d') σ H':=by
 obtain ⟨m,a',s',_,_⟩:=R.cu hm;rw [s] at s';cases s';have hia:IA env σ a:=⟨i,m,s⟩;refine R.chg (c6 env i d') (fun b o e n=>hk b o (fun z=>n (z▸hia)) e) fun j c b hc hs=>?_;by_cases z:j=i
 ·subst z;rw [jr m] at hc;cases hc;rw [s] at hs;cases hs;exact ht
 ·have hc':aK env j=some c:=by
   unfold aK at hc ⊢
   rwa [jj z] at hc
  obtain ⟨m2,b',s2,_,t2⟩:=R.cu hc';rw [hs] at s2;cases s2;have nb:b≠a:=fun y=>z (R.sep j i a m2 m (y▸hs) s);refine t2.pr (R.mx fun b' o e n=>hk b' o (fun z=>n (z▸hia)) e) (fun _ z=>z) fun o e=>hk b o nb e
theorem Dy {m:Mtr} {i:Nat} {as:XA} (ih:SA K ga gd as):SE K ga gd (.mtr m i as):=by
 intro env rv env' h F0 H₀ I σ H Q R q;simp only [dE] at h;split at h
 ·rename_i d0 h0;split at h
  ·rename_i hty;split at h
   ·rename_i avs e1 h1;split at h
    ·rename_i d ds h2 h3;split at h
     ·rename_i d' pr h4;cases h;obtain ⟨_,a,s,f,t⟩:=R.cu h0;refine ⟨.ref a,s,m.yy K _ H d0 a hty t,?_⟩;refine ih _ _ _ h1 F0 H₀ I σ H _ R fun vs H1 R1 k1 a1=>?_;obtain ⟨m1,a',s',f1,t1⟩:=R1.cu h2;rw [s] at s';cases s';refine m.ok K _ H1 d a ds vs d' pr Q h4 f1 t1 (a1.mv R1 h3) fun v H2 hk ht hp=>?_;refine q v H2 (R1.Fv h2 s hk ht) (k1.trans (p4 _ _ _)) ?_;show Dm K (FF F0 (fE e1 i d') σ) H2 pr v;rw [(c6 e1 i d').ff (F0:=F0) (σ:=σ)];exact hp
     ·cases h
    ·cases h
   ·cases h
  ·cases h
 ·cases h
noncomputable def adr (σ:St) (i:Nat):Addr:=match σ[i]? with | some (some (.ref a))=>a | _=>0
theorem fm {i:Nat} {a:Addr} (h:σ[i]?=some (some (.ref a))):adr σ i=a:=by unfold adr;rw [h]
theorem i7 {ms:List PM} {as:List AV} {ds:List PyData} {m:PM} {a:AV} (h:iz env (m :: ms) (a :: as)=some ds):∃ d r,ds=d :: r/\EI env m a=some d/\iz env ms as=some r:=by
 unfold iz at h;split at h
 ·rename_i d r e1 e2;cases h;exact ⟨d,r,rfl,e1,e2⟩
 ·cases h
theorem d8.bor {G I:Addr->Prop} {d:PyData} {a:Addr} (h:d8 K G I H d a):yd K G I H d (.ref a):=by cases d <;> first | exact ⟨a,rfl,h⟩ | exact absurd h id
theorem zq (R:Rel K F0 H₀ I env σ H) (all:List Nat) (hall:∀ i∈all,mu env i):∀ {ms:List PM} {as:List AV} {ds:List PyData} {vs:List V},iz env ms as=some ds->fB K F0 env σ H as vs->(b7 ms as).Nodup->(∀ i∈rq ms as,i ∉ all)->(∀ i∈b7 ms as,i∈all) ->
  bf K (FF F0 env σ) (·∈all.map (adr σ)) H ms ds vs ((b7 ms as).map (adr σ)):=by
 have iAll:∀ b,b∈all.map (adr σ)->IA env σ b:=fun b hb=>by
  obtain ⟨i,hi,e⟩:=HW.mp hb;have m:=hall i hi;obtain ⟨d,m'⟩:=m;have:∃ a,σ[i]?=some (some (.ref a)):=by
   rcases m' with z | z
   ·obtain ⟨a,s,_⟩:=R.own i d z;exact ⟨a,s⟩
   ·obtain ⟨a,s,_⟩:=R.ino i d z;exact ⟨a,s⟩
  obtain ⟨a,s⟩:=this;rw [fm s] at e;subst e;exact ⟨i,hall i hi,s⟩
 intro ms;induction ms with
 | nil =>
  intro as ds vs h q _ _ _;cases as with
  | nil=>cases h;rw [show vs=[] from q];rfl
  | cons a as=>cases h
 | cons m ms ih =>
  intro as ds vs h q nd hb hi;cases as with
  | nil=>cases h
  | cons a as =>
   obtain ⟨d,r,rfl,h1,h2⟩:=i7 h;obtain ⟨v,vr,rfl,q1,q2⟩:=q;cases m with
   | dat =>
    cases a with
    | bor i=>cases h1
    | dat d' =>
     cases h1;exact ⟨q1,ih h2 q2 (by simpa [b7] using nd) (by simpa [rq] using hb) (by simpa [b7] using hi)⟩
   | bor =>
    cases a with
    | dat d' =>
     by_cases ct:∃ ts,d'=.tuple ts
     ·obtain ⟨ts,rfl⟩:=ct;cases h1;exact ⟨q1,ih h2 q2 (by simpa [b7] using nd) (by simpa [rq] using hb) (by simpa [b7] using hi)⟩
     have l:d'=d/\((∃ ds,d=.list ds)\/∃ ds,d=.dict ds):=by
      cases d' <;> first | exact absurd ⟨_,rfl⟩ ct | (cases h1;exact ⟨rfl,.inl ⟨_,rfl⟩⟩) | (cases h1;exact ⟨rfl,.inr ⟨_,rfl⟩⟩) | cases h1
     obtain ⟨rfl,l⟩:=l;obtain ⟨b,e,t⟩:=Dm.ro (I:=(·∈all.map (adr σ))) q1 (fun b z=>R.ia (iAll b z)) l;exact ⟨by rcases l with ⟨_,rfl⟩ | ⟨_,rfl⟩ <;> exact ⟨b,e,t⟩,ih h2 q2 (by simpa [b7] using nd) (by simpa [rq] using hb) (by simpa [b7] using hi)⟩
    | bor i =>
     have h1:xG env i=some d:=h1;have hb':i ∉ all:=hb i (by simp [rq]);refine ⟨?_,ih h2 q2 (by simpa [b7] using nd) (fun j hj=>hb j (by simp [rq,hj])) (by simpa [b7] using hi)⟩;unfold xG at h1;have na:∀ a,mu env i->σ[i]?=some (some (.ref a))->a ∉ all.map (adr σ):=fun a m s z=>by
      obtain ⟨j,hj,e⟩:=HW.mp z;obtain ⟨k,mk,sk⟩:=iAll a z;obtain ⟨dj,mj⟩:=hall j hj;have:∃ c,σ[j]?=some (some (.ref c)):=by
       rcases mj with z | z
       ·obtain ⟨a,s,_⟩:=R.own j dj z;exact ⟨a,s⟩
       ·obtain ⟨a,s,_⟩:=R.ino j dj z;exact ⟨a,s⟩
      obtain ⟨c,sj⟩:=this;rw [fm sj] at e;subst e;have:=R.sep i j c m ⟨dj,mj⟩ s sj;subst this;exact hb' hj
     split at h1
     ·rename_i d' e;cases h1;obtain ⟨a,s,_,_,t⟩:=R.own i d e;rw [show σ[i]?=some (some v) from q1] at s;cases s;exact d8.bor (t.ro (na a ⟨d,.inl e⟩ q1))
     ·rename_i d' e;cases h1;obtain ⟨a,s,_,_,t⟩:=R.ino i d e;rw [show σ[i]?=some (some v) from q1] at s;cases s;exact d8.bor (t.ro (na a ⟨d,.inr e⟩ q1))
     ·rename_i d' e;cases h1;obtain ⟨a,s,t⟩:=R.ro i d e;rw [show σ[i]?=some (some v) from q1] at s;cases s;exact d8.bor (t.pr Pr.refl (fun _ z=>z) iAll fun _ _ z _=>z)
     ·cases h1
   | ino =>
    cases a with
    | dat d'=>cases h1
    | bor i =>
     have h1:aK env i=some d:=h1;obtain ⟨m,b,s,f,t⟩:=R.cu h1;rw [show σ[i]?=some (some v) from q1] at s;cases s;have nd':i ∉ b7 ms as/\(b7 ms as).Nodup:=by simpa [b7] using nd
     refine ⟨b,(b7 ms as).map (adr σ),rfl,by simp [b7,fm q1],f,t,fun z=>?_,ih h2 q2 nd'.2 (by simpa [rq] using hb) (fun j hj=>hi j (by simp [b7,hj]))⟩;obtain ⟨j,hj,e⟩:=HW.mp z;obtain ⟨dj,mj⟩:=hall j (hi j (by simp [b7,hj]));have:∃ c,σ[j]?=some (some (.ref c)):=by
      rcases mj with z | z
      ·obtain ⟨a,s,_⟩:=R.own j dj z;exact ⟨a,s⟩
      ·obtain ⟨a,s,_⟩:=R.ino j dj z;exact ⟨a,s⟩
     obtain ⟨c,sj⟩:=this;rw [fm sj] at e;subst e;have:=R.sep i j c m ⟨dj,mj⟩ q1 sj;subst this;exact nd'.1 hj
theorem pQ:∀ {ms:List PM} {as:List AV} {ds:List PyData},iz env ms as=some ds->∀ i∈b7 ms as,mu env i
 | [],[],_,_,i,h=>by simp [b7] at h
 | [],_ :: _,_,h,_,_=>by cases h
 | _ :: _,[],_,h,_,_=>by cases h
 | m :: ms,a :: as,_,h,i,hi=>by
  obtain ⟨d,r,rfl,h1,h2⟩:=i7 h;have ih:=pQ h2 i;cases m with
  | dat=>exact ih (by simpa [b7] using hi)
  | bor=>exact ih (by simpa [b7] using hi)
  | ino =>
   cases a with
   | dat d'=>cases h1
   | bor j =>
    simp only [b7,HB] at hi;rcases hi with rfl | hi
    ·rcases mB h1 with e | e
     ·exact ⟨d,.inl e⟩
     ·exact ⟨d,.inr e⟩
    ·exact ih hi
theorem kT:∀ (env:En) (is:List Nat) (ds:List PyData),SmK env (cC env is ds)
 | env,[],ds=>by unfold cC;exact SmK.refl _
 | env,i :: is,[]=>by unfold cC;exact SmK.refl _
 | env,i :: is,d :: ds=>by unfold cC;exact (c6 env i d).trans (kT _ is ds)
theorem gP:∀ (env:En) (is:List Nat) (ds:List PyData) (j:Nat),j ∉ is->(cC env is ds)[j]?=env[j]?
 | env,[],ds,j,_=>by unfold cC;rfl
 | env,i :: is,[],j,_=>by unfold cC;rfl
 | env,i :: is,d :: ds,j,h=>by
  unfold cC;have n:j≠i:=fun z=>h (by rw [z];exact Hu);rw [gP _ is ds j (fun z=>h (Hr _ z)),jj n]
theorem jz {G:Addr->Prop}:∀ {env:En} {is:List Nat} {ds:List PyData} {j:Nat} {c:PyData},is.Nodup->(∀ i∈is,mu env i)->gA K G H ds (is.map (adr σ))->j∈is->aK (cC env is ds) j=some c->Top K G H c (adr σ j)
 | env,[],ds,j,c,_,_,_,h,_=>by simp at h
 | env,i :: is,[],j,c,_,_,h,_,_=>by simp [gA] at h
 | env,i :: is,d :: ds,j,c,nd,hm,h,hj,hc=>by
  obtain ⟨n1,nd'⟩:=Ih.mp nd;have h':Top K G H d (adr σ i)/\gA K G H ds (is.map (adr σ)):=h;unfold cC at hc;rcases HB.mp hj with rfl | hj
  ·have e:=gP (fE env j d) is ds j n1;have:aK (fE env j d) j=some c:=by unfold aK at hc ⊢;rwa [e] at hc
   rw [jr (hm j Hu)] at this;cases this;exact h'.1
  ·exact jz (env:=fE env i d) nd' (fun k hk=>(c6 env i d).symm.kp.mu (hm k (Hr _ hk))) h'.2 hj hc
theorem fO:∀ {is:List Nat},xt is=true->is.Nodup
 | [],_=>List.nodup_nil
 | x :: xs,h=>by
  have h':xs.contains x=false/\xt xs=true:=by simpa [xt] using h
  exact Ih.mpr ⟨fun z=>by simp [z] at h',fO h'.2⟩
theorem vL {is bs:List Nat} {n:Nat} (h:ckA is bs n=true):is.Nodup/\(∀ i∈bs,i ∉ is)/\n=is.length:=by
 unfold ckA at h;simp only [HL,JU,Jg] at h;exact ⟨fO h.1,fun i hi z=>by have:=h.2.1 i hi;simp [z] at this,h.2.2⟩
theorem s_call {f:Fn} {as:XA} (ih:SA K ga gd as):SE K ga gd (.call f as):=by
 intro env rv env' h F0 H₀ I σ H Q R q;simp only [dE] at h;split at h
 ·rename_i avs e1 h1;unfold sY at h;split at h
  ·cases h
  ·rename_i ds h2;split at h
   ·cases h
   ·rename_i pr outs h3;split at h
    ·rename_i hc;obtain ⟨nd,hb,hl⟩:=vL hc;cases h;refine ih _ _ _ h1 F0 H₀ I σ H _ R fun vs H1 R1 k1 a1=>?_;show bZ f K (vs++[]) H1 Q NoE;rw [Iw];have hmu:=pQ h2;refine ⟨FF F0 e1 σ,ds,(b7 f.ms avs).map (adr σ),pr,outs,h3,zq R1 (b7 f.ms avs) hmu h2 a1 nd hb (fun _ z=>z),fun b z=>R1.dt z,fun v H2 hk hr=>?_⟩;have k:=kT e1 (b7 f.ms avs) outs;have eF:=k.ff (F0:=F0) (σ:=σ);have eI:=k.ia (σ:=σ);have isIA:∀ b,b∈(b7 f.ms avs).map (adr σ)->IA e1 σ b:=fun b hb=>by
      obtain ⟨i,hi,e⟩:=HW.mp hb;obtain ⟨d,m'⟩:=hmu i hi;have:∃ a,σ[i]?=some (some (.ref a)):=by
       rcases m' with z | z
       ·obtain ⟨a,s,_⟩:=R1.own i d z;exact ⟨a,s⟩
       ·obtain ⟨a,s,_⟩:=R1.ino i d z;exact ⟨a,s⟩
      obtain ⟨a,s⟩:=this;rw [fm s] at e;subst e;exact ⟨i,hmu i hi,s⟩
     have hk':∀ b o,H1 b=some o->¬IA e1 σ b->H2 b=some o:=fun b o e n=>hk b o e fun z=>n (isIA b z);have jk:∀ j d a,j ∉ b7 f.ms avs->aK (cC e1 (b7 f.ms avs) outs) j=some d->σ[j]?=some (some (.ref a))->aK e1 j=some d/\a ∉ (b7 f.ms avs).map (adr σ):=fun j d a hj hm hs=>by
      have hm':aK e1 j=some d:=by unfold aK at hm ⊢;rwa [gP _ _ _ _ hj] at hm
      refine ⟨hm',fun z=>?_⟩;obtain ⟨i,hi,e⟩:=HW.mp z;obtain ⟨i',m2,s2⟩:=isIA a z;obtain ⟨di,mi⟩:=hmu i hi;have:∃ a,σ[i]?=some (some (.ref a)):=by
       rcases mi with z | z
       ·obtain ⟨a,s,_⟩:=R1.own i di z;exact ⟨a,s⟩
       ·obtain ⟨a,s,_⟩:=R1.ino i di z;exact ⟨a,s⟩
      obtain ⟨c,sc⟩:=this;rw [fm sc] at e;subst e;have:=R1.sep j i c (R1.cu hm').1 ⟨di,mi⟩ hs sc;subst this;exact hj hi
     cases pr with
     | dat d =>
      obtain ⟨hd,ht⟩:=hr;refine q v H2 (R1.chg k hk' fun j c a hm hs=>?_) (k1.trans k.kp) (show Dm K _ H2 d v by rw [eF];exact hd);by_cases hj:j∈b7 f.ms avs
      ·have:=jz nd hmu ht hj hm
       rwa [fm hs] at this
      ·obtain ⟨hm',ha⟩:=jk j c a hj hm hs;obtain ⟨_,a',s',_,t'⟩:=R1.cu hm';rw [hs] at s';cases s';exact t'.pr (R1.mx hk') (fun _ z=>z) fun o e=>hk a o e ha
     | frs d =>
      obtain ⟨c,ev,hn,td,ht⟩:=hr;obtain ⟨o,ho,_⟩:=td.wr;have sm:az H1 (upd H1 c o):=az.nw o hn;have R1c:=R1.fresh (c:=c) hn sm (by rw [ag];exact nofun);have cIA:¬IA e1 σ c:=fun z=>by obtain ⟨o',z,_⟩:=R1.iaT z;rw [hn] at z;cases z
      have hkc:∀ b o',upd H1 c o b=some o'->¬IA e1 σ b->H2 b=some o':=fun b o' e n=>by
       by_cases z:b=c
       ·subst z;rw [ag] at e;cases e;exact ho
       ·rw [ab z] at e;exact hk' b o' e n
      have pF:Pr (fun b=>FF F0 e1 σ b\/b=c) H1 H2:=fun b o' e n=>hk' b o' e fun y=>by
       rcases n with n | n
       ·exact n (.inl (R1.ia y))
       ·obtain ⟨o2,h2,w2⟩:=R1.iaT y;rw [e] at h2;cases h2;rw [n] at w2;cases w2
      have R2c:Rel K (fun b=>F0 b\/b=c) H₀ I (cC e1 (b7 f.ms avs) outs) σ H2:=by
       refine R1c.chg k hkc fun j c' a hm hs=>?_;rw [ey];by_cases hj:j∈b7 f.ms avs
       ·have:=jz nd hmu ht hj hm
        rwa [fm hs] at this
       ·obtain ⟨hm',ha⟩:=jk j c' a hj hm hs;obtain ⟨_,a',s',_,t'⟩:=R1.cu hm';rw [hs] at s';cases s';exact (t'.fresh hn).pr pF (fun _ z=>z) fun o e=>hk a o e ha
      have nino:∀ (i:Nat) (d':PyData),(cC e1 (b7 f.ms avs) outs)[i]?=some (.ino d')->σ[i]?≠some (some (.ref c)):=fun i d' e' z=>cIA ⟨i,k.kp.mu ⟨d',.inr e'⟩,z⟩;have rv:dB K F0 H₀ I (cC e1 (b7 f.ms avs) outs) σ H2 (.frs d) v:=by
       refine ⟨c,ev,R2c,by rw [eF];exact td,R1.oi (.inl hn),fun z=>?_,nino,fun i d' e'=>?_⟩
       ·rw [eF] at z;exact R1.dt z hn
       ·have e0:e1[i]?=some (.ro d'):=by
         rcases k.2 i with y | ⟨_,_,_,y⟩ | ⟨_,_,_,y⟩
         ·rw [<- y];exact e'
         ·rw [e'] at y;cases y
         ·rw [e'] at y;cases y
        obtain ⟨b,s,t⟩:=R1.ro i d' e0;rw [eF,eI];exact ⟨b,s,((t.fresh hn).uV hn).pr pF (fun _ z=>z) (fun _ z=>z) fun b o' e n=>hk' b o' e fun z=>n (.inl z)⟩
      exact q v H2 rv.rel (k1.trans k.kp) rv
    ·cases h
 ·cases h
theorem EH {as:XA} (ih:SA K ga gd as):SE K ga gd (.tup as):=by
 intro env rv env' h F0 H₀ I σ H Q R q;simp only [dE] at h;split at h
 ·rename_i avs e1 h1;split at h
  ·rename_i ds h2;split at h
   ·rename_i hl;cases h;refine ih _ _ _ h1 F0 H₀ I σ H _ R fun vs H1 R1 k1 a1=>?_;have dl:=a1.CD h2;have hl':vs.length<=sizeLine:=by rw [dl.len];exact hl
    refine ⟨hl',fun p hp=>?_⟩;have s:=az.nw (.tup vs) hp;exact q _ _ (R1.same s) k1 ⟨p,vs,rfl,.inl (.inl ag),hl',dl.pr (Pr.of_same s) fun _ z=>z⟩
   ·cases h
  ·cases h
 ·cases h
theorem Et {as:XA} (ih:SA K ga gd as):SE K ga gd (.lst as):=by
 intro env rv env' h F0 H₀ I σ H Q R q;simp only [dE] at h;split at h
 ·rename_i avs e1 h1;split at h
  ·rename_i ds h2;split at h
   ·rename_i hl;cases h;refine ih _ _ _ h1 F0 H₀ I σ H _ R fun vs H1 R1 k1 a1=>?_;have dl:=a1.CD h2;have hl':vs.length<=sizeLine:=by rw [dl.len];exact hl
    refine ⟨hl',fun p hp=>?_⟩;have s:=az.nw (.lst vs) hp;exact q _ _ (R1.same s) k1 (R1.kC (pr:=.frs (.list ds)) s ⟨p,rfl,hp,vs,ag,hl',(dl.fresh hp).pr (Pr.of_same s) fun _ z=>z⟩)
   ·cases h
  ·cases h
 ·cases h
theorem E7 {as:XA} (ih:SF K ga gd as):SE K ga gd (.fst as):=by
 intro env rv env' h F0 H₀ I σ H Q R q;simp only [dE] at h;split at h
 ·rename_i x e1 h1;cases h;exact ih _ _ _ _ h1 F0 H₀ I σ H _ R (show PyData.strOk ⟨#[]⟩=true by simp [PyData.strOk]) fun H1 R1 k1 hl ho=>q _ H1 R1 k1 ⟨rfl,hl,ho⟩
 ·cases h
theorem Fh:SF K ga gd .nil:=by
 intro out env x env' h F0 H₀ I σ H Q R ok q;simp only [dF] at h;split at h
 ·rename_i hl;cases h;exact ⟨hl,q H R (KpE.refl _) hl ok⟩
 ·cases h
theorem A7 {e:XE} {r:XA} (ie:SE K ga gd e) (ir:SF K ga gd r):SF K ga gd (.cons e r):=by
 intro out env x env' h F0 H₀ I σ H Q R ok q;simp only [dF] at h;split at h
 ·rename_i y e1 h1;split at h
  ·rename_i hl;refine ie _ _ _ h1 F0 H₀ I σ H _ R fun v H1 R1 k1 a1=>?_;obtain ⟨rfl,_,oky⟩:=(show v=.str y/\y.length<=sizeLine/\PyData.strOk y=true from a1);refine ⟨y,rfl,hl,?_⟩;exact ir _ _ _ _ h F0 H₀ I σ H1 _ R1 (jW ok oky) fun H2 R2 k2 hx=>q H2 R2 (k1.trans k2) hx
  ·cases h
 ·cases h
theorem DL:SA K ga gd .nil:=by
 intro env rv env' h F0 H₀ I σ H Q R q;simp only [dA] at h;cases h;exact q [] H R (KpE.refl _) rfl
theorem BI {e:XE} {r:XA} (ie:SE K ga gd e) (ir:SA K ga gd r):SA K ga gd (.cons e r):=by
 intro env rv env' h F0 H₀ I σ H Q R q;simp only [dA] at h;split at h
 ·rename_i rv0 e1 h1;split at h
  ·rename_i avs e2 h2;cases h;refine ie _ _ _ h1 F0 H₀ I σ H _ R fun v H1 R1 k1 a1=>?_;refine ir _ _ _ h2 F0 _ _ σ H1 _ R1.rebase fun vs H2 S2 k2 a2=>?_;exact q (v :: vs) H2 (R1.aV S2) (k1.trans k2) ⟨v,vs,rfl,a1.av.keep R1 S2 k2,a2⟩
  ·cases h
 ·cases h
end
open PySem
section
variable {K:Fg} {F F' I I' F0:Addr->Prop} {H H' H₀:Hp} {env env':En} {σ σ':St} {ga:Nat->V} {gd:List PyData}
theorem CY {c:XT} {a b:XE} (ic:ST K ga gd c) (ia:SE K ga gd a) (ib:SE K ga gd b):SE K ga gd (.ifx c a b):=by
 intro env rv env' h F0 H₀ I σ H Q R q;simp only [dE] at h;split at h
 ·rename_i e1 h1;refine ic _ _ _ h1 F0 H₀ I σ H _ R fun H1 R1 k1=>?_;rw [Hv rfl];exact ia _ _ _ h F0 H₀ I σ H1 _ R1 fun v H2 R2 k2 r=>q v H2 R2 (k1.trans k2) r
 ·rename_i e1 h1;refine ic _ _ _ h1 F0 H₀ I σ H _ R fun H1 R1 k1=>?_;rw [Hz (by decide)];exact ib _ _ _ h F0 H₀ I σ H1 _ R1 fun v H2 R2 k2 r=>q v H2 R2 (k1.trans k2) r
 ·cases h
theorem zE {a b:XE} (ia:SE K ga gd a) (ib:SE K ga gd b):SE K ga gd (.rZ a b):=by
 intro env rv env' h F0 H₀ I σ H Q R q;simp only [dE] at h;split at h
 ·rename_i e1 h1;refine ia _ _ _ h1 F0 H₀ I σ H _ R fun v H1 R1 k1 r1=>⟨true,r1,?_⟩;rw [Hv rfl];exact ib _ _ _ h F0 H₀ I σ H1 _ R1 fun v H2 R2 k2 r=>q v H2 R2 (k1.trans k2) r
 ·rename_i e1 h1;cases h;refine ia _ _ _ h1 F0 H₀ I σ H _ R fun v H1 R1 k1 r1=>⟨false,r1,?_⟩;rw [Hz (by decide)];exact q _ H1 R1 k1 rfl
 ·cases h
theorem D0 {a b:XE} (ia:SE K ga gd a) (ib:SE K ga gd b):SE K ga gd (.orv a b):=by
 intro env rv env' h F0 H₀ I σ H Q R q;simp only [dE] at h;split at h
 ·rename_i e1 h1;cases h;refine ia _ _ _ h1 F0 H₀ I σ H _ R fun v H1 R1 k1 r1=>⟨true,r1,?_⟩;rw [Hv rfl];exact q _ H1 R1 k1 rfl
 ·rename_i e1 h1;refine ia _ _ _ h1 F0 H₀ I σ H _ R fun v H1 R1 k1 r1=>⟨false,r1,?_⟩;rw [Hz (by decide)];exact ib _ _ _ h F0 H₀ I σ H1 _ R1 fun v H2 R2 k2 r=>q v H2 R2 (k1.trans k2) r
 ·cases h
theorem zu {a:XE} (ia:SE K ga gd a):SE K ga gd (.yo a):=by
 intro env rv env' h F0 H₀ I σ H Q R q;simp only [dE] at h;split at h
 ·rename_i x e1 h1;cases h;exact ia _ _ _ h1 F0 H₀ I σ H _ R fun v H1 R1 k1 r1=>⟨x,r1,q _ H1 R1 k1 rfl⟩
 ·cases h
theorem Eg {x y:PyData} {u v:V} (hx:Vw K F H x u) (hy:Vw K F H y v):VwL K F H [x,y] [u,v]:=⟨u,[v],rfl,hx,v,[],rfl,hy,rfl⟩
theorem EU {p p':Prm} {a b c:XE} (ia:SE K ga gd a) (ib:SE K ga gd b) (ic:SE K ga gd c):SE K ga gd (.chn p p' a b c):=by
 intro env rv env' h F0 H₀ I σ H Q R q;simp only [dE] at h;split at h
 ·rename_i ra e1 h1;split at h
  ·rename_i rb e2 h2;split at h
   ·rename_i x y hx hy;refine ia _ _ _ h1 F0 H₀ I σ H _ R fun v H1 R1 k1 r1=>?_;refine ib _ _ _ h2 F0 _ _ σ H1 _ R1.rebase fun u H2 S2 k2 r2=>?_;have R2:=R1.aV S2;have a1:=r1.av.keep R1 S2 k2;have a2:=r2.av;rw [hx] at a1;rw [hy] at a2;have dx:Dm K (FF F0 e2 σ) H2 x v:=a1;have dy:Dm K (FF F0 e2 σ) H2 y u:=a2;split at h
    ·rename_i hp;split at h
     ·rename_i rc e3 h3;split at h
      ·rename_i z hz;split at h
       ·rename_i pr hq;cases h;refine p.ok K _ H2 _ _ _ _ hp (Eg dx.vw dy.vw) (fun b z=>R2.dt z) fun w H3 s3 hw=>⟨true,hw,?_⟩;rw [Hv rfl];have R3:=R2.same s3;have dy3:Dm K (FF F0 e2 σ) H3 y u:=dy.pr (Pr.of_same s3) fun _ z=>z;refine ic _ _ _ h3 F0 _ _ σ H3 _ R3.rebase fun t H4 S4 k4 r4=>?_;have R4:=R3.aV S4;have a4:=r4.av;rw [hz] at a4;have dz:Dm K (FF F0 env' σ) H4 z t:=a4;refine p'.ok K _ H4 _ _ _ _ hq (Eg (R3.mz S4 k4 dy3).vw dz.vw) (fun b z=>R4.dt z) fun w H5 s5 hw=>?_;exact q w H5 (R4.same s5) ((k1.trans k2).trans k4) (R4.kC s5 hw)
       ·cases h
      ·cases h
     ·cases h
    ·rename_i hp;cases h;refine p.ok K _ H2 _ _ _ _ hp (Eg dx.vw dy.vw) (fun b z=>R2.dt z) fun w H3 s3 hw=>⟨false,hw,?_⟩;rw [Hz (by decide)];exact q _ H3 (R2.same s3) (k1.trans k2) rfl
    ·cases h
   ·cases h
  ·cases h
 ·cases h
theorem E9 {p:Int->Int->Prm} {a b c:XE} (ia:SE K ga gd a) (ib:SE K ga gd b) (ic:SE K ga gd c):SE K ga gd (.sl2 p a b c):=by
 intro env rv env' h F0 H₀ I σ H Q R q;simp only [dE] at h;split at h
 ·rename_i ra e1 h1;split at h
  ·rename_i i e2 h2;split at h
   ·rename_i j e3 h3;split at h
    ·rename_i d hv;split at h
     ·rename_i pr hp;cases h;refine ia _ _ _ h1 F0 H₀ I σ H _ R fun v H1 R1 k1 r1=>?_;refine ib _ _ _ h2 F0 _ _ σ H1 _ R1.rebase fun u H2 S2 k2 r2=>⟨i,r2,?_⟩;have R2:=R1.aV S2;have a1:=r1.av.keep R1 S2 k2;refine ic _ _ _ h3 F0 _ _ σ H2 _ R2.rebase fun w H3 S3 k3 r3=>⟨j,r3,?_⟩;have R3:=R2.aV S3;have a2:=a1.keep R2 S3 k3;refine (p i j).ok K _ H3 [d] [v] pr Q hp ⟨v,[],rfl,a2.vw R3 hv,rfl⟩ (fun b z=>R3.dt z) fun w H4 s4 hw=>?_;exact q w H4 (R3.same s4) ((k1.trans k2).trans k3) (R3.kC s4 hw)
     ·cases h
    ·cases h
   ·cases h
  ·cases h
 ·cases h
theorem ET {e:XE} (ie:SE K ga gd e):ST K ga gd (.tst e):=by
 intro env b env' h F0 H₀ I σ H Q R q;simp only [dT] at h;split at h
 ·rename_i x e1 h1;cases h;exact ie _ _ _ h1 F0 H₀ I σ H _ R fun v H1 R1 k1 r1=>⟨_,r1,q H1 R1 k1⟩
 ·cases h
theorem iR {ds:List PyData} {vs:List V} (h:DmL K F H ds vs):vs.isEmpty=ds.isEmpty:=by
 cases ds with
 | nil=>rw [show vs=[] from h];rfl
 | cons d ds=>obtain ⟨v,r,rfl,_⟩:=h;rfl
theorem Vw.tru {d:PyData} {v:V} (h:Vw K F H d v) (nd:D3 d≠true):Ds K v H (CI d):=by
 cases d with
 | none=>rw [show v=.non from h];rfl
 | bool b=>rw [show v=.bl b from h];rfl
 | int i=>rw [show v=.int i from h];rfl
 | str x=>obtain ⟨rfl,hl,_⟩:=(show v=.str x/\x.length<=sizeLine/\PyData.strOk x=true from h);exact ⟨hl,rfl⟩
 | list ds=>obtain ⟨a,rfl,xs,e,_,r⟩:=h;exact .inl ⟨xs,e,by rw [iR r];rfl⟩
 | tuple ds=>obtain ⟨a,xs,rfl,e,_,r⟩:=h;exact .inr (.inl ⟨xs,e,by rw [iR r];rfl⟩)
 | dict ds=>exact absurd rfl nd
theorem Du {e:XE} (ie:SE K ga gd e):ST K ga gd (.tru e):=by
 intro env b env' h F0 H₀ I σ H Q R q;simp only [dT] at h;split at h
 ·rename_i x e1 h1;split at h
  ·rename_i d h2;split at h
   ·cases h
   ·rename_i nd;cases h;exact ie _ _ _ h1 F0 H₀ I σ H _ R fun v H1 R1 k1 r1=>⟨_,(r1.av.vw R1 h2).tru nd,q H1 R1 k1⟩
  ·cases h
 ·cases h
theorem C2 {a b:XT} (ia:ST K ga gd a) (ib:ST K ga gd b):ST K ga gd (.and a b):=by
 intro env x env' h F0 H₀ I σ H Q R q;simp only [dT] at h;split at h
 ·rename_i e1 h1;refine ia _ _ _ h1 F0 H₀ I σ H _ R fun H1 R1 k1=>?_;rw [Hv rfl];exact ib _ _ _ h F0 H₀ I σ H1 _ R1 fun H2 R2 k2=>q H2 R2 (k1.trans k2)
 ·rename_i e1 h1;cases h;refine ia _ _ _ h1 F0 H₀ I σ H _ R fun H1 R1 k1=>?_;rw [Hz (by decide)];exact q H1 R1 k1
 ·cases h
theorem Gd {a b:XT} (ia:ST K ga gd a) (ib:ST K ga gd b):ST K ga gd (.or a b):=by
 intro env x env' h F0 H₀ I σ H Q R q;simp only [dT] at h;split at h
 ·rename_i e1 h1;cases h;refine ia _ _ _ h1 F0 H₀ I σ H _ R fun H1 R1 k1=>?_;rw [Hv rfl];exact q H1 R1 k1
 ·rename_i e1 h1;refine ia _ _ _ h1 F0 H₀ I σ H _ R fun H1 R1 k1=>?_;rw [Hz (by decide)];exact ib _ _ _ h F0 H₀ I σ H1 _ R1 fun H2 R2 k2=>q H2 R2 (k1.trans k2)
 ·cases h
theorem Fl {a:XT} (ia:ST K ga gd a):ST K ga gd (.not a):=by
 intro env x env' h F0 H₀ I σ H Q R q;simp only [dT] at h;split at h
 ·rename_i b e1 h1;cases h;exact ia _ _ _ h1 F0 H₀ I σ H _ R fun H1 R1 k1=>q H1 R1 k1
 ·cases h
theorem D9:ST K ga gd .yes:=by
 intro env x env' h F0 H₀ I σ H Q R q;simp only [dT] at h;cases h;exact q H R (KpE.refl _)
theorem uT {a:Addr} {vs:List V} {ds:List PyData} (hd:DmL K F H ds vs) (hl:vs.length<=sizeLine) (h:∀ H',(∀ b o,H b=some o->¬I b->H' b=some o)->SqL K H' a vs):se K F I H (Itl K a) ds :=
 gR hd hl fun H' k j=>⟨fun hj=>⟨⟨vs,vs[j],h H' k,Hj hj⟩,fun x H'' y=>⟨y.1,y.2 vs (h H' k)⟩⟩,fun hj=>⟨vs,h H' k,hj⟩⟩
theorem B0 {a:Addr} {vs:List V} {ds:List PyData} (hd:DmL K F H ds vs) (hl:vs.length<=sizeLine) (h:∀ H',(∀ b o,H b=some o->¬I b->H' b=some o)->SqT K H' a vs):se K F I H (Itt K a) ds :=
 gR hd hl fun H' k j=>⟨fun hj=>⟨⟨vs,vs[j],h H' k,Hj hj⟩,fun x H'' y=>⟨y.1,y.2 vs (h H' k)⟩⟩,fun hj=>⟨vs,h H' k,hj⟩⟩
theorem xD {e:XE} (ie:SE K ga gd e):SI K ga gd (.lst e):=by
 intro env ds lock env' h F0 H₀ I σ H Q R q;simp only [dI] at h;split at h
 ·rename_i rv e1 h1;split at h
  ·rename_i ds' hv;cases h;refine ie _ _ _ h1 F0 H₀ I σ H _ R fun v H1 R1 k1 r1=>?_;have a1:=r1.av;rw [hv] at a1;obtain ⟨a,xs,rfl,l,z,r⟩:=(show Dm K (FF F0 env' σ) H1 (.list ds) v from a1);refine ⟨a,rfl,⟨xs,l.elim (fun q=>.inl q.2) .inr⟩,q _ H1 R1 k1 (fun i z=>by cases z) (uT r z fun H' k=>?_)⟩;rcases l with ⟨n,l | ⟨o,l⟩⟩ | l
   ·exact .inl (.inl (k _ _ l fun z=>n (R1.ia z.1)))
   ·exact .inl (.inr ⟨o,k _ _ l fun z=>n (R1.ia z.1)⟩)
   ·exact .inr l
  ·cases h
  ·rename_i i hv;split at h
   ·rename_i ds' hc;cases h;refine ie _ _ _ h1 F0 H₀ I σ H _ R fun v H1 R1 k1 r1=>?_;have a1:=r1.av;rw [hv] at a1;have s:σ[i]?=some (some v):=a1;unfold cont at hc;have fin:∀ a xs,v=.ref a->DmL K (FF F0 env' σ) H1 ds xs->xs.length<=sizeLine->(∀ H',(∀ b o,H1 b=some o->¬(IA env' σ b/\∀ j,some i=some j->mu env' j->σ[j]?≠some (some (.ref b)))->H' b=some o)->SqL K H' a xs)->(∃ d,cont env' i=some d) ->
      ∃ a,v=.ref a/\(∃ xs,SqL K H1 a xs)/\Q (Itl K a) H1:=fun a xs ev r z k hcd =>
     ⟨a,ev,⟨xs,k H1 fun _ _ e _=>e⟩,q _ H1 R1 k1 (fun j hj=>by cases hj;exact hcd) (uT r z k)⟩
    split at hc
    ·rename_i d e;cases hc;obtain ⟨a,s',_,_,xs,t,z,r⟩:=R1.own i _ e;rw [s] at s';cases s';exact fin a xs rfl r z (fun H' k=>.inl (.inl (k _ _ t fun y=>y.2 i rfl ⟨_,.inl e⟩ s))) ⟨_,by unfold cont;rw [e]⟩
    ·rename_i d e;cases hc;obtain ⟨a,s',_,_,xs,t,z,r⟩:=R1.ino i _ e;rw [s] at s';cases s';exact fin a xs rfl r z (fun H' k=>.inl (.inl (k _ _ t fun y=>y.2 i rfl ⟨_,.inr e⟩ s))) ⟨_,by unfold cont;rw [e]⟩
    ·rename_i d e;split at hc
     ·cases hc
     ·rename_i hf;cases hc;obtain ⟨a,s',xs,l,z,r⟩:=R1.ro i _ e;rw [s] at s';cases s';refine fin a xs rfl r z (fun H' k=>?_) ⟨_,by unfold cont;rw [e];exact Hz hf⟩;rcases l with ⟨n,l | ⟨o,l⟩⟩ | l
      ·exact .inl (.inl (k _ _ l fun z=>n z.1))
      ·exact .inl (.inr ⟨o,k _ _ l fun z=>n z.1⟩)
      ·exact .inr l
    ·cases hc
   ·cases h
 ·cases h
theorem oB:∀ {kvs:List (PyData×PyData)} {xs:List (PyData×V×V)},DmP K F H kvs xs->DmL K F H (kvs.map (·.1)) (xs.map (·.2.1))
 | [],xs,h=>by rw [show xs=[] from h];rfl
 | (k,d) :: kvs,xs,h=>by
  obtain ⟨j,v,r,rfl,_,h0,_,h2⟩:=h;exact ⟨j,_,rfl,h0,oB h2⟩
theorem uX {a:Addr} {ep:Nat} {xs:List (PyData×V×V)} {kvs:List (PyData×PyData)} (hd:DmP K F H kvs xs) (hl:xs.length<=sizeLine) (h:∀ H':Hp,(∀ b o,H b=some o->¬I b->H' b=some o)->H' a=some (.dD ep xs)):se K F I H (Itd a ep xs) (kvs.map (·.1)) :=
 gR (vs:=xs.map (·.2.1)) (oB hd) (by rw [Hf];exact hl) fun H' k j=>⟨fun hj=>⟨⟨h H' k,by rw [Hf] at hj;exact hj⟩,fun x H'' y=>⟨y.1,by rw [Hq];exact y.2⟩⟩,fun hj=>⟨h H' k,by rw [Hf] at hj;exact hj⟩⟩
theorem C8 {e:XE} (ie:SE K ga gd e):SI K ga gd (.dct e):=by
 intro env ds lock env' h F0 H₀ I σ H Q R q;simp only [dI] at h;split at h
 ·rename_i rv e1 h1;split at h
  ·rename_i kvs hv;cases h;refine ie _ _ _ h1 F0 H₀ I σ H _ R fun v H1 R1 k1 r1=>?_;have a1:=r1.av;rw [hv] at a1;obtain ⟨a,ep,xs,rfl,n,l,z,r⟩:=(show Dm K (FF F0 env' σ) H1 (.dict kvs) v from a1);exact ⟨a,ep,xs,rfl,l,q _ H1 R1 k1 (fun i z=>by cases z) (uX r z fun H' k=>k _ _ l fun z=>n (R1.ia z.1))⟩
  ·cases h
  ·rename_i i hv;split at h
   ·rename_i kvs hc;cases h;refine ie _ _ _ h1 F0 H₀ I σ H _ R fun v H1 R1 k1 r1=>?_;have a1:=r1.av;rw [hv] at a1;have s:σ[i]?=some (some v):=a1;unfold cont at hc;have fin:∀ a ep xs,v=.ref a->DmP K (FF F0 env' σ) H1 kvs xs->xs.length<=sizeLine->(∀ H':Hp,(∀ b o,H1 b=some o->¬(IA env' σ b/\∀ j,some i=some j->mu env' j->σ[j]?≠some (some (.ref b)))->H' b=some o)->H' a=some (.dD ep xs))->(∃ d,cont env' i=some d) ->
      ∃ a ep xs,v=.ref a/\H1 a=some (.dD ep xs)/\Q (Itd a ep xs) H1:=fun a ep xs ev r z k hcd =>
     ⟨a,ep,xs,ev,k H1 fun _ _ e _=>e,q _ H1 R1 k1 (fun j hj=>by cases hj;exact hcd) (uX r z k)⟩
    split at hc
    ·rename_i d e;cases hc;obtain ⟨a,s',_,_,ep,xs,t,z,r⟩:=R1.own i _ e;rw [s] at s';cases s';exact fin a ep xs rfl r z (fun H' k=>k _ _ t fun y=>y.2 i rfl ⟨_,.inl e⟩ s) ⟨_,by unfold cont;rw [e]⟩
    ·rename_i d e;cases hc;obtain ⟨a,s',_,_,ep,xs,t,z,r⟩:=R1.ino i _ e;rw [s] at s';cases s';exact fin a ep xs rfl r z (fun H' k=>k _ _ t fun y=>y.2 i rfl ⟨_,.inr e⟩ s) ⟨_,by unfold cont;rw [e]⟩
    ·rename_i d e;split at hc
     ·cases hc
     ·rename_i hf;cases hc;obtain ⟨a,s',t⟩:=R1.ro i _ e;rw [s] at s';cases s';rcases t with ⟨ep,xs,n,l,z,r⟩ | ⟨es,rfl,_⟩
      ·exact fin a ep xs rfl r z (fun H' k=>k _ _ l fun z=>n z.1) ⟨_,by unfold cont;rw [e];exact Hz hf⟩
      ·exact absurd rfl hf
    ·cases hc
   ·cases h
 ·cases h
theorem wF:∀ {kvs:List (PyData×PyData)} {xs:List (PyData×V×V)},DmP K F H kvs xs->(kvs.all fun p=>FX p.1)=true->TkX xs
 | [],xs,h,_=>by rw [show xs=[] from h];intro x hx;cases hx
 | (k,d) :: kvs,xs,h,hk=>by
  obtain ⟨j,v,r,rfl,_,h0,_,h2⟩:=h;rw [List.all_cons,HL] at hk;intro x hx;rcases HB.mp hx with rfl | hx
  ·cases k with
   | str t=>exact ⟨t,rfl,h0.1⟩
   | _=>cases hk.1
  ·exact wF h2 hk.2 x hx
theorem u7:∀ {kvs:List (PyData×PyData)} {xs:List (PyData×V×V)} {i:Nat} {x:PyData×V×V},DmP K F H kvs xs->xs[i]?=some x->∃ k d,kvs[i]?=some (k,d)/\Dm K F H k x.2.1/\Dm K F H d x.2.2
 | [],xs,i,x,h,e=>by rw [show xs=[] from h] at e;cases e
 | (k,d) :: kvs,xs,i,x,h,e=>by
  obtain ⟨j,v,r,rfl,_,h0,h1,h2⟩:=h;cases i with
  | zero=>cases e;exact ⟨k,d,rfl,h0,h1⟩
  | succ i=>exact u7 (i:=i) h2 e
theorem ph:∀ {kvs:List (PyData×PyData)} {xs:List (PyData×V×V)},DmP K F H kvs xs->kvs.length=xs.length
 | [],xs,h=>by rw [show xs=[] from h];rfl
 | (k,d) :: kvs,xs,h=>by
  obtain ⟨j,v,r,rfl,_,_,_,h2⟩:=h;rw [HA,HA,ph h2]
theorem Ac {a:Addr} {ep:Nat} {xs:List (PyData×V×V)} {kvs:List (PyData×PyData)} (hd:DmP K F H kvs xs) (tk:TkX xs) (hl:xs.length<=sizeLine) (h:∀ H':Hp,(∀ b o,H b=some o->¬I b->H' b=some o)->H' a=some (.dD ep xs)):se K F I H (Iti a ep xs) (kvs.map fun p=>.tuple [p.1,p.2]):=by
 have el:(kvs.map fun p=>PyData.tuple [p.1,p.2]).length=xs.length:=by rw [Hf,ph hd]
 refine ⟨by rw [el];exact hl,fun H' k j=>⟨fun hj=>?_,fun hj=>?_⟩⟩
 ·rw [el] at hj;refine ⟨⟨h H' k,tk,hj⟩,?_⟩;rintro x H'' ⟨p,y,hp,rfl,hy,rfl⟩;obtain ⟨c,d,e1,d1,d2⟩:=u7 hd hy;refine ⟨.tuple [c,d],?_,.inr ⟨p,y.2.1,y.2.2,c,d,rfl,rfl,hp,rfl,d1,d2⟩⟩;rw [Hq,e1];rfl
 ·rw [el] at hj;exact ⟨h H' k,tk,hj⟩
theorem DU {e:XE} (ie:SE K ga gd e):SI K ga gd (.itm e):=by
 intro env ds lock env' h F0 H₀ I σ H Q R q;simp only [dI] at h;split at h
 ·rename_i rv e1 h1;split at h
  ·rename_i kvs hv;split at h
   ·rename_i hk;cases h;refine ie _ _ _ h1 F0 H₀ I σ H _ R fun v H1 R1 k1 r1=>?_;have a1:=r1.av;rw [hv] at a1;obtain ⟨a,ep,xs,rfl,n,l,z,r⟩:=(show Dm K (FF F0 env' σ) H1 (.dict kvs) v from a1);exact ⟨a,ep,xs,rfl,l,wF r hk,q _ H1 R1 k1 (fun i z=>by cases z) (Ac r (wF r hk) z fun H' k=>k _ _ l fun z=>n (R1.ia z.1))⟩
   ·cases h
  ·cases h
 ·cases h
theorem zF {e:XE} (ie:SE K ga gd e):SI K ga gd (.tup e):=by
 intro env ds lock env' h F0 H₀ I σ H Q R q;simp only [dI] at h;split at h
 ·rename_i rv e1 h1;split at h
  ·rename_i ds' hv;cases h;refine ie _ _ _ h1 F0 H₀ I σ H _ R fun v H1 R1 k1 r1=>?_;have a1:=r1.av;rw [hv] at a1;obtain ⟨a,xs,rfl,l,z,r⟩:=(show Dm K (FF F0 env' σ) H1 (.tuple ds) v from a1);refine ⟨a,rfl,⟨xs,l⟩,q _ H1 R1 k1 (fun i z=>by cases z) (B0 r z fun H' k=>?_)⟩;exact l.pr (R1.mx fun b o e n=>k b o e fun z=>n z.1)
  ·cases h
 ·cases h
theorem Gk {e:XE} (ie:SE K ga gd e):SI K ga gd (.sq e):=by
 intro env ds lock env' h F0 H₀ I σ H Q R q;simp only [dI] at h;split at h
 ·rename_i rv e1 h1;split at h
  ·rename_i ds' hv;exact .inl (xD ie env ds lock env' (by simp only [dI,h1,hv];exact h) F0 H₀ I σ H Q R q)
  ·rename_i ds' hv;exact .inr (zF ie env ds lock env' (by simp only [dI,h1,hv];exact h) F0 H₀ I σ H Q R q)
  ·cases h
  ·rename_i i hv;exact .inl (xD ie env ds lock env' (by simp only [dI,h1,hv];exact h) F0 H₀ I σ H Q R q)
 ·cases h
theorem wY:∀ {cs:List Nat},(∀ c∈cs,c < 0x110000)->DmL K F H (cs.map fun c=>.str ⟨#[c]⟩) (cs.map fun c=>.str ⟨#[c]⟩)
 | [],_=>rfl
 | c :: cs,h=>⟨_,_,rfl,⟨rfl,by show 1<=sizeLine;decide,by have:=h c Hu;simp [PyData.strOk,this]⟩,wY fun x hx=>h x (Hr _ hx)⟩
theorem eH {x:Str} (h:PyData.strOk x=true):∀ c∈x.cps.toList,c < 0x110000:=fun c hc=>by
 unfold PyData.strOk at h;have:=Array.all_eq_true'.mp h c (by simpa using hc);simpa using this
theorem Eo {e:XE} (ie:SE K ga gd e):SI K ga gd (.str e):=by
 intro env ds lock env' h F0 H₀ I σ H Q R q;simp only [dI] at h;split at h
 ·rename_i rv e1 h1;split at h
  ·rename_i x hv;cases h;refine ie _ _ _ h1 F0 H₀ I σ H _ R fun v H1 R1 k1 r1=>?_;have a1:=r1.av;rw [hv] at a1;obtain ⟨rfl,hl,ok⟩:=(show v=.str x/\x.length<=sizeLine/\PyData.strOk x=true from a1);have ez:x.cps.toList.length=x.length:=by simp [Str.length]
   refine ⟨x,rfl,q _ H1 R1 k1 (fun i z=>by cases z) (gR (wY (eH ok)) (by rw [Hf,ez];exact hl) fun H' k j=>⟨fun hj=>?_,fun hj=>?_⟩)⟩
   ·rw [Hf,ez] at hj;refine ⟨hj,fun y H'' hy=>?_⟩;obtain ⟨e,c,hc,rfl⟩:=hy;refine ⟨e,?_⟩;rw [Hq];have:x.cps.toList[j]?=some c:=by rw [<- hc];simp
    rw [this];rfl
   ·rw [Hf,ez] at hj;exact hj
  ·cases h
 ·cases h
theorem vi {f:Nat->Int}:∀ {cs:List Nat},DmL K F H (cs.map fun c=>.int (f c)) (cs.map fun c=>.int (f c))
 | []=>rfl
 | c :: cs=>⟨_,_,rfl,rfl,vi⟩
theorem vC {lo:Int} {n:Nat} (hn:n<=sizeLine):se K F I H (Itr lo n) ((List.range n).map fun (k:Nat)=>.int (lo+(k:Int))):=by
 refine gR (vs:=(List.range n).map fun (k:Nat)=>.int (lo+(k:Int))) (vi (f:=fun k=>lo+(k:Int))) (by rw [Hf,HP];exact hn) fun H' k j=>⟨fun hj=>?_,fun hj=>?_⟩
 ·rw [Hf,HP] at hj;refine ⟨hj,fun y H'' hy=>⟨hy.1,?_⟩⟩;rw [Hq,List.getElem?_range hj,hy.2];rfl
 ·rw [Hf,HP] at hj;exact hj
theorem BP {as:XA} (ia:SA K ga gd as):SI K ga gd (.rng1 as):=by
 intro env ds lock env' h F0 H₀ I σ H Q R q;simp only [dI] at h;split at h
 ·rename_i avs e1 h1;split at h
  ·rename_i j;split at h
   ·rename_i hj;cases h;refine ia _ _ _ h1 F0 H₀ I σ H _ R fun vs H1 R1 k1 a1=>?_;obtain ⟨v,r,rfl,hv,rfl⟩:=a1;have hv:v=.int j:=hv;subst hv;refine ⟨j,rfl,hj.1,by have:=hj.2;omega,q _ H1 R1 k1 (fun i z=>by cases z) (vC ?_)⟩;have:=hj.2;show j.toNat<=2 ^ 24;omega
   ·cases h
  ·cases h
 ·cases h
theorem yJ {a b:Addr} {xs ys:List V} {ds es:List PyData} (hd:DmL K F H ds xs) (he:DmL K F H es ys) (hl:xs.length<=sizeLine) (h1:∀ H',(∀ b o,H b=some o->¬I b->H' b=some o)->SqL K H' a xs) (h2:∀ H',(∀ b o,H b=some o->¬I b->H' b=some o)->SqL K H' b ys):se K F I H (Itz K a b xs ys) ((ds.zip es).map fun p=>.tuple [p.1,p.2]):=by
 have e1:=hd.len;have e2:=he.len;have el:((ds.zip es).map fun p=>PyData.tuple [p.1,p.2]).length=min xs.length ys.length:=by rw [Hf,List.length_zip,e1,e2]
 refine ⟨by rw [el];omega,fun H' k j=>⟨fun hj=>?_,fun hj=>?_⟩⟩
 ·rw [el] at hj;refine ⟨⟨h1 H' k,h2 H' k,by omega,by omega⟩,?_⟩;rintro x H'' ⟨p,u,v,hp,rfl,hu,hv,rfl⟩;obtain ⟨d,d1,d2⟩:=hd.get' hu;obtain ⟨e,e3,e4⟩:=he.get' hv;refine ⟨.tuple [d,e],?_,.inr ⟨p,u,v,d,e,rfl,rfl,hp,rfl,d2,e4⟩⟩;rw [Hq,show (ds.zip es)[j]?=some (d,e) from List.getElem?_zip_eq_some.mpr ⟨d1,e3⟩];rfl
 ·rw [el] at hj;exact ⟨h1 H' k,h2 H' k,by omega⟩
theorem Fe {as:XA} (ia:SA K ga gd as):SI K ga gd (.zip as):=by
 intro env ds lock env' h F0 H₀ I σ H Q R q;simp only [dI] at h;split at h
 ·rename_i avs e1 h1;split at h
  ·rename_i x y;split at h
   ·rename_i xs ys hx hy;cases h;refine ia _ _ _ h1 F0 H₀ I σ H _ R fun vs H1 R1 k1 a1=>?_;obtain ⟨v,r,rfl,hv,w,r2,rfl,hw,rfl⟩:=a1;have one:∀ {x:AV} {xs:List PyData} {v:V},roL env' x=some xs->uR K F0 env' σ H1 x v->∃ a us,v=.ref a/\us.length<=sizeLine/\DmL K (FF F0 env' σ) H1 xs us/\∀ H',(∀ b o,H1 b=some o->¬(IA env' σ b/\∀ i,none=some i->mu env' i->σ[i]?≠some (some (.ref b)))->H' b=some o)->SqL K H' a us:=by
     intro x xs v hx hv;unfold roL at hx;split at hx
     ·cases hx;obtain ⟨a,us,rfl,l,z,r⟩:=(show Dm K (FF F0 env' σ) H1 (.list xs) v from hv);refine ⟨a,us,rfl,z,r,fun H' k=>?_⟩;rcases l with ⟨n,l | ⟨o,l⟩⟩ | l
      ·exact .inl (.inl (k _ _ l fun z=>n (R1.ia z.1)))
      ·exact .inl (.inr ⟨o,k _ _ l fun z=>n (R1.ia z.1)⟩)
      ·exact .inr l
     ·rename_i i;split at hx
      ·rename_i e;cases hx;have s:σ[i]?=some (some v):=hv;obtain ⟨a,s',us,l,z,r⟩:=R1.ro i _ e;rw [s] at s';cases s';refine ⟨a,us,rfl,z,r,fun H' k=>?_⟩;rcases l with ⟨n,l | ⟨o,l⟩⟩ | l
       ·exact .inl (.inl (k _ _ l fun z=>n z.1))
       ·exact .inl (.inr ⟨o,k _ _ l fun z=>n z.1⟩)
       ·exact .inr l
      ·cases hx
     ·cases hx
    obtain ⟨a,us,rfl,za,ra,sa⟩:=one hx hv;obtain ⟨b,ws,rfl,zb,rb,sb⟩:=one hy hw;exact ⟨a,b,us,ws,rfl,sa H1 fun _ _ e _=>e,sb H1 fun _ _ e _=>e,q _ H1 R1 k1 (fun i z=>by cases z) (yJ ra rb za sa sb)⟩
   ·cases h
  ·cases h
 ·cases h
theorem AG {as:XA} (ia:SA K ga gd as):SI K ga gd (.rng2 as):=by
 intro env ds lock env' h F0 H₀ I σ H Q R q;simp only [dI] at h;split at h
 ·rename_i avs e1 h1;split at h
  ·rename_i i j;split at h
   ·rename_i hj;cases h;refine ia _ _ _ h1 F0 H₀ I σ H _ R fun vs H1 R1 k1 a1=>?_;obtain ⟨v,r,rfl,hv,w,r2,rfl,hw,rfl⟩:=a1;have hv:v=.int i:=hv;have hw:w=.int j:=hw;subst hv hw;refine ⟨i,j,rfl,⟨hj.1,hj.2.1,hj.2.2.1,hj.2.2.2.1⟩,q _ H1 R1 k1 (fun i z=>by cases z) (vC ?_)⟩;have:=hj.2.2.2.2;show (j - i).toNat<=2 ^ 24;omega
   ·cases h
  ·cases h
 ·cases h
end
open PySem
section
variable {K:Fg} {F F' I I' F0:Addr->Prop} {H H' H₀:Hp} {env env':En} {σ σ':St} {ga:Nat->V} {gd:List PyData}
theorem dB.carry {d:PyData} {p:Addr} (h:dB K F0 H₀ I env σ H (.frs d) (.ref p)) (S:Rel K (fun b=>F0 b\/b=p) H (IA env σ) env' σ H') (k:KpE env env'):dB K F0 H₀ I env' σ H' (.frs d) (.ref p):=by
 obtain ⟨a,ea,R,t,w,nF,hi,hr⟩:=h;cases ea;have cIA:¬IA env σ p:=fun z=>by
  obtain ⟨i,⟨c,e | e⟩,s⟩:=z
  ·exact nF (.inr ⟨i,c,e,s⟩)
  ·exact hi i c e s
 have R':=R.aV S;have hk:∀ b o,H b=some o->¬IA env σ b->H' b=some o:=S.cH;have pF:Pr (fun b=>FF F0 env σ b\/b=p) H H':=by
  have:=R.mx hk
  rwa [ey] at this
 have hf:∀ b,(FF F0 env' σ b\/b=p)->(FF F0 env σ b\/b=p):=fun b z=>z.imp (fun z=>k.ff z) id;refine ⟨p,rfl,R',t.pr pF hf fun o e=>hk p o e cIA,w,fun z=>nF (k.ff z),fun i c e s=>cIA ⟨i,k.mu ⟨c,.inr e⟩,s⟩,fun i c e=>?_⟩;obtain ⟨s,e0,ev⟩:=k.back e;have es:s=.ro c:=by
  cases s with
  | un=>cases ev
  | dat _=>cases ev
  | own _=>rcases ev with ⟨_,v⟩ | ⟨_,v⟩ | v <;> cases v
  | ino _=>obtain ⟨_,v⟩:=ev;cases v
  | ro d'=>cases ev;rfl
 subst es;obtain ⟨b,q,t'⟩:=hr i c e0;exact ⟨b,q,t'.pr pF hf (fun b z=>z.imp (fun z=>k.ia z) id) fun b o e n=>hk b o e fun z=>n (.inl z)⟩
theorem dB.put {d d':PyData} {p:Addr} {o:HO} (h:dB K F0 H₀ I env σ H (.frs d) (.ref p)) (ht:Top K (fun b=>FF F0 env σ b\/b=p) (upd H p o) d' p):dB K F0 H₀ I env σ (upd H p o) (.frs d') (.ref p):=by
 obtain ⟨a,ea,R,t,w,nF,hi,hr⟩:=h;cases ea;have cIA:¬IA env σ p:=fun z=>by
  obtain ⟨i,⟨c,e | e⟩,s⟩:=z
  ·exact nF (.inr ⟨i,c,e,s⟩)
  ·exact hi i c e s
 have pF:Pr (fun b=>FF F0 env σ b\/b=p) H (upd H p o):=fun b u e n=>by
  by_cases z:b=p
  ·subst z;rcases n with n | n
   ·exact absurd (.inr rfl) n
   ·obtain ⟨o',h',w'⟩:=t.wr;rw [e] at h';cases h';rw [n] at w';cases w'
  ·rw [ab z];exact e
 have eF:FF (fun b=>F0 b\/b=p) env σ=fun b=>FF F0 env σ b\/b=p:=ey;have nea:∀ i b,mu env i->σ[i]?=some (some (.ref b))->b≠p:=fun i b m s z=>cIA (z▸⟨i,m,s⟩);have hro:∀ (i:Nat) (d':PyData),env[i]?=some (.ro d')->∃ b,σ[i]?=some (some (.ref b))/\d8 K (fun b=>FF F0 env σ b\/b=p) (fun b=>IA env σ b\/b=p) (upd H p o) d' b:=fun i c e=>by
  obtain ⟨b,q,t'⟩:=hr i c e;exact ⟨b,q,t'.pr pF (fun _ z=>z) (fun _ z=>z) fun b u e n=>by rw [ab (fun z=>n (.inr z))];exact e⟩
 refine ⟨p,rfl,⟨R.len,fun i c e=>?_,fun i c e=>?_,fun i c e=>?_,fun i c e=>?_,R.sep,fun b hb=>?_,fun b u e n=>?_⟩,ht,w,nF,hi,hro⟩
 ·obtain ⟨v,s,r⟩:=R.dat i c e;rw [eF] at r ⊢;exact ⟨v,s,r.pr pF fun _ z=>z⟩
 ·obtain ⟨b,s,n,w',t'⟩:=R.own i c e;rw [eF] at t' ⊢;exact ⟨b,s,n,w',t'.pr pF (fun _ z=>z) fun u e'=>by rw [ab (nea i b ⟨c,.inl e⟩ s)];exact e'⟩
 ·obtain ⟨b,s,n,w',t'⟩:=R.ino i c e;rw [eF] at t' ⊢;exact ⟨b,s,n,w',t'.pr pF (fun _ z=>z) fun u e'=>by rw [ab (nea i b ⟨c,.inr e⟩ s)];exact e'⟩
 ·obtain ⟨b,s,t'⟩:=hro i c e;rw [eF];exact ⟨b,s,t'.pr Pr.refl (fun _ z=>z) (fun _ z=>.inl z) fun _ _ z _=>z⟩
 ·by_cases z:b=p
  ·subst z;rw [ag];exact nofun
  ·rw [ab z];exact R.dom b hb
 ·have:=R.cH b u e n;by_cases z:b=p
  ·subst z;rcases w with w | w
   ·rw [e] at w;cases w
   ·exact absurd w n
  ·rw [ab z];exact this
theorem uS (a b:Key):PyData.eqv (kD a) (kD b)=decide (a=b):=by
 cases a with
 | inl i=>cases b with
  | inl j=>by_cases z:i=j <;> simp [kD,PyData.eqv,z]
  | inr y=>simp [kD,PyData.eqv]
 | inr x=>cases b with
  | inl j=>simp [kD,PyData.eqv]
  | inr y=>by_cases z:x=y <;> simp [kD,PyData.eqv,z]
theorem vj {k:PyData}:∀ {ds:List (PyData×PyData)} {xs:List (PyData×V×V)},DmP K F H ds xs->(ds.any fun kv=>PyData.eqv kv.1 k)=xs.any fun x=>PyData.eqv x.1 k
 | [],xs,h=>by rw [show xs=[] from h];rfl
 | (k',d) :: ds,xs,h=>by
  obtain ⟨j,v,r,rfl,_,_,_,h2⟩:=h;rw [Jr,Jr,vj h2]
theorem oS {k d:PyData} {v:V} (hd:Dm K F H d v):∀ {ds:List (PyData×PyData)} {xs:List (PyData×V×V)},DmP K F H ds xs->DmP K F H (ds.map fun kv=>if PyData.eqv kv.1 k=true then (kv.1,d) else kv) (xs.map fun x=>if PyData.eqv x.1 k=true then (x.1,x.2.1,v) else x)
 | [],xs,h=>by rw [show xs=[] from h];rfl
 | (k',d') :: ds,xs,h=>by
  obtain ⟨j,w,r,rfl,e,h0,h1,h2⟩:=h;rw [List.map_cons,List.map_cons];by_cases z:PyData.eqv k' k=true
  ·rw [Hv z,Hv z];exact ⟨j,v,_,rfl,e,h0,hd,oS hd h2⟩
  ·rw [Hz z,Hz z];exact ⟨j,w,_,rfl,e,h0,h1,oS hd h2⟩
theorem uD {k d:PyData} {j v:V} (hk:hk6 k=true) (hj:Dm K F H k j) (hd:Dm K F H d v):∀ {ds:List (PyData×PyData)} {xs:List (PyData×V×V)},DmP K F H ds xs->DmP K F H (ds++[(k,d)]) (xs++[(k,j,v)])
 | [],xs,h=>by rw [show xs=[] from h];exact ⟨j,v,[],rfl,hk,hj,hd,rfl⟩
 | (k',d') :: ds,xs,h=>by
  obtain ⟨i,w,r,rfl,e,h0,h1,h2⟩:=h;exact ⟨i,w,_,rfl,e,h0,h1,uD hk hj hd h2⟩
theorem qh {k d:PyData} {j v:V} {ds:List (PyData×PyData)} {xs:List (PyData×V×V)} (h:DmP K F H ds xs) (hk:hk6 k=true) (hj:Dm K F H k j) (hd:Dm K F H d v):DmP K F H (putD ds k d) (kZ xs k j v):=by
 unfold putD kZ;rw [vj h];split
 ·exact oS hd h
 ·exact uD hk hj hd h
theorem Bq {kvs:List (Key×V)} {k:Key} {v:V}:(putK kvs k v).map cvK=kZ (kvs.map cvK) (kD k) (kV k) v:=by
 unfold putK kZ;have e:((kvs.map cvK).any fun x=>PyData.eqv x.1 (kD k))=kvs.any fun kv=>decide (kv.1=k):=by
  rw [List.any_map];congr 1;funext kv;exact uS _ _
 rw [e];split
 ·rw [Ij,Ij];refine List.map_congr_left fun kv _=>?_;show cvK (if kv.1=k then (kv.1,v) else kv)=if PyData.eqv (kD kv.1) (kD k)=true then _ else _
  rw [uS];by_cases z:kv.1=k
  ·rw [Hv z,Hv (HY z)];rfl
  ·rw [Hz z,Hz (by simp [z])]
 ·rw [HX];rfl
theorem sD {kvs:List (Key×V)} {k:Key} {v:V}:(putK kvs k v).length<=kvs.length+1:=by
 unfold putK;split
 ·rw [Hf];exact JK _
 ·rw [Ho];exact Hn _
theorem zi (k:Key):hk6 (kD k)=true:=by cases k <;> rfl
theorem nh:∀ {kvs:List (Key×PyData)} {vs:List (Key×V)} {ds:List (PyData×PyData)} {xs:List (Key×V)},yY K F H kvs vs->DmP K F H ds (xs.map cvK)->DmP K F H (kvs.foldl (fun acc kv=>putD acc (kD kv.1) kv.2) ds) ((cP xs vs).map cvK)/\(cP xs vs).length<=xs.length+vs.length
 | [],vs,ds,xs,h,q=>by rw [show vs=[] from h];exact ⟨q,Hn _⟩
 | (k,d) :: kvs,vs,ds,xs,h,q=>by
  obtain ⟨v,r,rfl,h0,h1,h2⟩:=h;have:=nh h2 (xs:=putK xs k v) (by rw [Bq];exact qh q (zi k) h0 h1);refine ⟨this.1,HJ this.2 ?_⟩;have:=sD (kvs:=xs) (k:=k) (v:=v);rw [HA];omega
theorem yY.len:∀ {kvs:List (Key×PyData)} {vs:List (Key×V)},yY K F H kvs vs->vs.length=kvs.length
 | [],vs,h=>by rw [show vs=[] from h];rfl
 | (k,d) :: kvs,vs,h=>by
  obtain ⟨v,r,rfl,h0,h1,h2⟩:=h;rw [HA,HA,h2.len]
theorem Ef:SPs K ga gd .nil:=by
 intro env kvs env' h F0 H₀ I σ H Q R q;simp only [dP] at h;cases h;exact q [] H R (KpE.refl _) rfl
theorem yU {k e:XE} {r:XP} (ik:SE K ga gd k) (ie:SE K ga gd e) (ir:SPs K ga gd r):SPs K ga gd (.cons k e r):=by
 intro env kvs env' h F0 H₀ I σ H Q R q;simp only [dP] at h;split at h
 ·rename_i rk e1 h1;split at h
  ·rename_i rv e2 h2;split at h
   ·rename_i kvs' e3 h3;split at h
    ·rename_i dk d hk hd;split at h
     ·rename_i key hkey;cases h;refine ik _ _ _ h1 F0 H₀ I σ H _ R fun v H1 R1 k1 r1=>?_;refine ie _ _ _ h2 F0 _ _ σ H1 _ R1.rebase fun u H2 S2 k2 r2=>?_;have R2:=R1.aV S2;refine ir _ _ _ h3 F0 _ _ σ H2 _ R2.rebase fun vs H3 S3 k3 r3=>?_;have a1:=r1.av;rw [hk] at a1;have a2:=r2.av;rw [hd] at a2;have ev:v=kV key:=by
       cases dk with
       | int i=>cases hkey;exact (show v=.int i from a1)
       | str x=>cases hkey;exact (show v=.str x/\_ from a1).1
       | _=>cases hkey
      have dd:Dm K (FF F0 env' σ) H3 d u:=R2.mz S3 k3 a2;have dk':Dm K (FF F0 env' σ) H3 (kD key) (kV key):=by
       cases dk with
       | int i=>cases hkey;rfl
       | str x=>cases hkey;exact ⟨rfl,(show v=.str x/\_ from a1).2⟩
       | _=>cases hkey
      rw [ev];exact q ((key,u) :: vs) H3 (R2.aV S3) ((k1.trans k2).trans k3) ⟨u,vs,rfl,dk',dd,r3⟩
     ·cases h
    ·cases h
   ·cases h
  ·cases h
 ·cases h
theorem Dg {as:XP} (ih:SPs K ga gd as):SE K ga gd (.dsp as):=by
 intro env rv env' h F0 H₀ I σ H Q R q;simp only [dE] at h;split at h
 ·rename_i kvs e1 h1;split at h
  ·rename_i hl;cases h;intro p hp;have s:=az.nw (.dD 0 []) hp;have r0:dB K F0 H₀ I env σ (upd H p (.dD 0 [])) (.frs (.dict [])) (.ref p):=R.kC (pr:=.frs (.dict [])) s ⟨p,rfl,hp,0,[],ag,by decide,rfl⟩;have R0:=r0;obtain ⟨a,ea,R0,_,_,nF,hi,_⟩:=R0;cases ea;have cIA:¬IA env σ p:=fun z=>by
    obtain ⟨i,⟨c,e | e⟩,s⟩:=z
    ·exact nF (.inr ⟨i,c,e,s⟩)
    ·exact hi i c e s
   refine ih _ _ _ h1 _ _ _ σ _ _ R0.rebase fun vs H2 S2 k2 ps=>?_;have r2:=r0.carry S2 k2;rw [ey] at ps;have hm:=nh ps (xs:=[]) (show DmP K (fun b=>FF F0 env' σ b\/b=p) H2 [] [] from rfl);have hlen:(cP [] vs).length<=15:=by
    have:=hm.2;rw [ps.len] at this;simp only [List.length_nil] at this;omega
   refine ⟨S2.cH p _ ag cIA,vs,rfl,by rw [ps.len];exact hl,fun ep=>?_⟩;have r3:dB K F0 H₀ I env' σ (upd H2 p (.dD ep ((cP [] vs).map cvK))) (.frs (.dict (kvs.foldl (fun acc kv=>putD acc (kD kv.1) kv.2) []))) (.ref p):=by
    refine r2.put ⟨ep,(cP [] vs).map cvK,ag,by rw [Hf];exact HJ hlen (by decide),hm.1.pr ?_ fun _ z=>z⟩;intro b u e n;by_cases z:b=p
    ·subst z;rcases n with n | n
     ·exact absurd (.inr rfl) n
     ·have:=S2.cH b _ ag cIA;rw [e] at this;cases this;cases n
    ·rw [ab z];exact e
   exact q _ _ r3.rel k2 r3
  ·cases h
 ·cases h
end
open PySem
section
variable {K:Fg} {F F' I I' F0:Addr->Prop} {H H' H₀:Hp} {env env':En} {σ σ':St} {ga:Nat->V} {gd:List PyData}
theorem kb {α:Type}:∀ {l:List α} {i j:Nat} {x:α},l.Nodup->l[i]?=some x->l[j]?=some x->i=j
 | [],_,_,_,_,h,_=>by simp at h
 | y :: l,0,0,_,_,_,_=>rfl
 | y :: l,0,j+1,x,nd,h1,h2=>by
  simp at h1 h2;subst h1;exact absurd (HG h2) (Ih.mp nd).1
 | y :: l,i+1,0,x,nd,h1,h2=>by
  simp at h1 h2;subst h2;exact absurd (HG h1) (Ih.mp nd).1
 | y :: l,i+1,j+1,x,nd,h1,h2=>by
  simp at h1 h2;rw [kb (Ih.mp nd).2 h1 h2]
def noOwn (env:En):Prop:=∀ (i:Nat) (d:PyData),env[i]?≠some (.own d)
theorem cg (h:noOwn env):FF F0 env σ=F0:=by
 funext b;apply propext;constructor
 ·rintro (q | ⟨i,d,e,_⟩)
  ·exact q
  ·exact absurd e (h i d)
 ·exact .inl
theorem noOwn.kp (h:noOwn env) (k:KpE env env'):noOwn env':=fun i d e=>by
 obtain ⟨d',e'⟩:=k.own e;exact h i d' e'
def nZ:Sl->Prop | .dat _=>True | .un=>True | _=>False
theorem fQ {pre:En} {ps:St} (hp:∀ s∈pre,nZ s) (hl:pre.length=ps.length):FF F0 (pre++env) (ps++σ)=FF F0 env σ:=by
 funext b;apply propext;constructor
 ·rintro (q | ⟨i,d,e,s⟩)
  ·exact .inl q
  ·by_cases hi:i < pre.length
   ·rw [HN hi] at e;have:=hp _ (HG e);exact absurd this id
   ·rw [HE (by omega)] at e;rw [HE (by omega),<-hl] at s;exact .inr ⟨_,d,e,s⟩
 ·rintro (q | ⟨i,d,e,s⟩)
  ·exact .inl q
  ·refine .inr ⟨pre.length+i,d,?_,?_⟩
   ·rw [HE (by omega)];simpa using e
   ·rw [HE (by omega),hl];simpa using s
theorem ja {pre:En} (hp:∀ s∈pre,nZ s) {i:Nat} (h:mu (pre++env) i):pre.length<=i/\mu env (i - pre.length):=by
 obtain ⟨d,h⟩:=h;by_cases hi:i < pre.length
 ·rw [HN hi] at h;rcases h with h | h <;> exact absurd (hp _ (HG h)) id
 ·rw [HE (by omega)] at h;exact ⟨by omega,d,h⟩
theorem ng {pre:En} {ps:St} (hp:∀ s∈pre,nZ s) (hl:pre.length=ps.length):IA (pre++env) (ps++σ)=IA env σ:=by
 funext b;apply propext;constructor
 ·rintro ⟨i,m,s⟩;obtain ⟨hi,m'⟩:=ja hp m;rw [HE (by omega),<-hl] at s;exact ⟨_,m',s⟩
 ·rintro ⟨i,⟨d,m⟩,s⟩;refine ⟨pre.length+i,⟨d,?_⟩,?_⟩
  ·rw [HE (by omega)];simpa using m
  ·rw [HE (by omega),hl];simpa using s
theorem Rel.front (R:Rel K F0 H₀ I env σ H) {ds:List PyData} {vs:List V} (h:DmL K (FF F0 env σ) H ds vs):Rel K F0 H₀ I (ds.map .dat++env) (vs.map some++σ) H:=by
 have hp:∀ s∈(ds.map Sl.dat),nZ s:=fun s hs=>by obtain ⟨d,_,rfl⟩:=HW.mp hs;trivial
 have hl:(ds.map Sl.dat).length=(vs.map some).length:=by rw [Hf,Hf,h.len]
 have hl2:(ds.map Sl.dat).length=ds.length:=Hf _;have eF:=fQ (F0:=F0) (env:=env) (σ:=σ) hp hl;have eI:=ng (env:=env) (σ:=σ) hp hl;have back:∀ {i:Nat} {s:Sl},(ds.map Sl.dat++env)[i]?=some s->(∀ d,s≠.dat d)->(ds.map Sl.dat).length<=i/\env[i - (ds.map Sl.dat).length]?=some s:=fun {i s} e n=>by
  by_cases hi:i < (ds.map Sl.dat).length
  ·rw [HN hi] at e;obtain ⟨d,_,z⟩:=HW.mp (HG e);exact absurd z.symm (n d)
  ·rw [HE (by omega)] at e;exact ⟨by omega,e⟩
 have fs:∀ {i:Nat} {x:Option V},(ds.map Sl.dat).length<=i->σ[i - (ds.map Sl.dat).length]?=some x->(vs.map some++σ)[i]?=some x:=fun {i x} hi e=>by
  rw [HE (by omega),<-hl];exact e
 refine ⟨by rw [Ho,Ho,hl,R.len],fun i d e=>?_,fun i d e=>?_,fun i d e=>?_,fun i d e=>?_,fun i j a h1 h2 h3 h4=>?_,R.dom,R.cH⟩
 ·rw [eF];by_cases hi:i < (ds.map Sl.dat).length
  ·rw [HN hi,Hq] at e;cases e2:ds[i]? with
   | none=>rw [e2] at e;cases e
   | some d' =>
    rw [e2] at e;cases e;obtain ⟨v,q,r⟩:=h.get e2;refine ⟨v,?_,r⟩;rw [HN (by omega),Hq,q];rfl
  ·rw [HE (by omega)] at e;obtain ⟨v,s,r⟩:=R.dat _ d e;exact ⟨v,fs (by omega) s,r⟩
 ·rw [eF];obtain ⟨hi,e⟩:=back e (fun _=>nofun);obtain ⟨a,s,q⟩:=R.own _ d e;exact ⟨a,fs hi s,q⟩
 ·rw [eF];obtain ⟨hi,e⟩:=back e (fun _=>nofun);obtain ⟨a,s,q⟩:=R.ino _ d e;exact ⟨a,fs hi s,q⟩
 ·rw [eF,eI];obtain ⟨hi,e⟩:=back e (fun _=>nofun);obtain ⟨a,s,q⟩:=R.ro _ d e;exact ⟨a,fs hi s,q⟩
 ·obtain ⟨i1,m1⟩:=ja hp h1;obtain ⟨i2,m2⟩:=ja hp h2;rw [HE (by omega),<-hl] at h3 h4;have:=R.sep _ _ a m1 m2 h3 h4;omega
theorem Rel.behind {pre:En} {ps:St} (R:Rel K F0 H₀ I (pre++env) (ps++σ) H) (hp:∀ s∈pre,nZ s) (hl:pre.length=ps.length):Rel K F0 H₀ I env σ H:=by
 have eF:=fQ (F0:=F0) (env:=env) (σ:=σ) hp hl;have eI:=ng (env:=env) (σ:=σ) hp hl;have up:∀ {i:Nat} {s:Sl},env[i]?=some s->(pre++env)[pre.length+i]?=some s:=fun {i s} e=>by
  rw [HE (by omega)];simpa using e
 have dn:∀ {i:Nat} {x:Option V},(ps++σ)[pre.length+i]?=some x->σ[i]?=some x:=fun {i x} e=>by
  rw [HE (by omega),hl] at e;simpa using e
 have us:∀ {i:Nat} {x:Option V},σ[i]?=some x->(ps++σ)[pre.length+i]?=some x:=fun {i x} e=>by
  rw [HE (by omega),hl];simpa using e
 refine ⟨by have:=R.len;rw [Ho,Ho,hl] at this;omega,fun i d e=>?_,fun i d e=>?_,fun i d e=>?_,fun i d e=>?_,fun i j a h1 h2 h3 h4=>?_,R.dom,R.cH⟩
 ·obtain ⟨v,s,r⟩:=R.dat _ d (up e);rw [eF] at r;exact ⟨v,dn s,r⟩
 ·obtain ⟨v,s,r⟩:=R.own _ d (up e);rw [eF] at r;exact ⟨v,dn s,r⟩
 ·obtain ⟨v,s,r⟩:=R.ino _ d (up e);rw [eF] at r;exact ⟨v,dn s,r⟩
 ·obtain ⟨v,s,r⟩:=R.ro _ d (up e);rw [eF,eI] at r;exact ⟨v,dn s,r⟩
 ·obtain ⟨d1,m1⟩:=h1;obtain ⟨d2,m2⟩:=h2;have:=R.sep (pre.length+i) (pre.length+j) a ⟨d1,m1.imp up up⟩ ⟨d2,m2.imp up up⟩ (us h3) (us h4);omega
theorem KpE.front {ds:List PyData} {e':En} (k:KpE (ds.map .dat++env) e'):∃ env',e'=ds.map .dat++env'/\KpE env env':=by
 have hlen:=k.1;rw [Ho,Hf] at hlen;refine ⟨e'.drop ds.length,?_,?_,fun i s e=>?_⟩
 ·apply List.ext_getElem?;intro i;by_cases hi:i < ds.length
  ·have hm:(ds.map Sl.dat++env)[i]?=some (.dat ds[i]):=by
    rw [HN (by rw [Hf];exact hi),Hq,Hj hi];rfl
   obtain ⟨s',h',ev⟩:=k.2 i _ hm;have ev:s'=.dat ds[i]:=ev;rw [h',ev,HN (by rw [Hf];exact hi),Hq,Hj hi];rfl
  ·rw [HE (by rw [Hf];omega),List.getElem?_drop,Hf];congr 1;omega
 ·rw [Jq];omega
 ·obtain ⟨s',h',ev⟩:=k.2 (ds.length+i) s (by rw [HE (by rw [Hf];omega),Hf];simpa using e);exact ⟨s',by rw [List.getElem?_drop];exact h',ev⟩
theorem eR {lock:Option Nat} {js:List Nat} {k:Nat} {s:Sl} (h:(bW env lock js)[k]?=some s):∃ j,js[k]?=some j/\s=lU (decide (lock=some j)) (env[j]?.getD .un):=by
 unfold bW at h;rw [Hq] at h;cases e:js[k]? with
 | none=>rw [e] at h;cases h
 | some j=>rw [e] at h;cases h;exact ⟨j,rfl,rfl⟩
theorem m4 {js:List Nat} {k j:Nat} (h:js[k]?=some j):(aZ js σ)[k]?=some ((σ[j]?).getD none):=by
 unfold aZ;rw [Hq,h];rfl
theorem bS {lock:Option Nat} {js:List Nat}:noOwn (bW env lock js):=fun k d e=>by
 obtain ⟨j,_,e'⟩:=eR e;cases h:env[j]?.getD .un with
 | un=>rw [h] at e';cases e'
 | dat _=>rw [h] at e';cases e'
 | own c=>rw [h] at e';unfold lU at e';simp only at e';split at e' <;> cases e'
 | ino c=>rw [h] at e';unfold lU at e';simp only at e';split at e' <;> cases e'
 | ro _=>rw [h] at e';cases e'
theorem getD_some {j:Nat} {s:Sl} (h:env[j]?.getD .un=s) (n:s≠.un):env[j]?=some s:=by
 cases e:env[j]? with
 | none=>rw [e] at h;exact absurd h.symm n
 | some t=>rw [e] at h;cases h;rfl
theorem l8 {lock:Option Nat} {js:List Nat} {k:Nat} {d:PyData} (h:(bW env lock js)[k]?=some (.ino d)):∃ j,js[k]?=some j/\lock≠some j/\(env[j]?=some (.own d)\/env[j]?=some (.ino d)):=by
 obtain ⟨j,hj,e'⟩:=eR h;refine ⟨j,hj,?_⟩;cases h:env[j]?.getD .un with
 | un=>rw [h] at e';cases e'
 | dat _=>rw [h] at e';cases e'
 | own c =>
  rw [h] at e';unfold lU at e';simp only at e';split at e'
  ·cases e'
  ·rename_i n;cases e';exact ⟨by simpa using n,.inl (getD_some h nofun)⟩
 | ino c =>
  rw [h] at e';unfold lU at e';simp only at e';split at e'
  ·cases e'
  ·rename_i n;cases e';exact ⟨by simpa using n,.inr (getD_some h nofun)⟩
 | ro _=>rw [h] at e';cases e'
theorem cW {lock:Option Nat} {js:List Nat} {k:Nat} (h:mu (bW env lock js) k):∃ j,js[k]?=some j/\lock≠some j/\mu env j:=by
 obtain ⟨d,h | h⟩:=h
 ·exact absurd h (bS k d)
 ·obtain ⟨j,h1,h2,h3⟩:=l8 h;exact ⟨j,h1,h2,d,h3⟩
theorem a8 {js:List Nat} {k j:Nat} {a:Addr} (h:js[k]?=some j) (e:(aZ js σ)[k]?=some (some (.ref a))):σ[j]?=some (some (.ref a)):=by
 rw [m4 h] at e;cases q:σ[j]? with
 | none=>rw [q] at e;cases e
 | some x=>rw [q] at e;cases e;rfl
theorem bX {js:List Nat} {k j:Nat} {v:V} (h:js[k]?=some j) (e:σ[j]?=some (some v)):(aZ js σ)[k]?=some (some v):=by rw [m4 h,e];rfl
theorem Rel.aZ (R:Rel K F0 H₀ I env σ H) {lock:Option Nat} {js:List Nat} (nd:js.Nodup):Rel K (FF F0 env σ) H (IA (bW env lock js) (L2.aZ js σ)) (bW env lock js) (L2.aZ js σ) H:=by
 have eF:FF (FF F0 env σ) (bW env lock js) (L2.aZ js σ)=FF F0 env σ:=cg bS;have sub:∀ b,IA (bW env lock js) (L2.aZ js σ) b->IA env σ b:=fun b ⟨k,m,s⟩=>by
  obtain ⟨j,hj,_,mj⟩:=cW m;exact ⟨j,mj,a8 hj s⟩
 refine ⟨by unfold bW L2.aZ;rw [Hf,Hf],fun k d e=>?_,fun k d e=>absurd e (bS k d),fun k d e=>?_,fun k d e=>?_,fun k l a h1 h2 h3 h4=>?_,fun b h=>R.dt h,fun _ _ h _=>h⟩
 ·rw [eF];obtain ⟨j,hj,e'⟩:=eR e;have ej:env[j]?=some (.dat d):=by
   cases h:env[j]?.getD .un with
   | un=>rw [h] at e';cases e'
   | dat c=>rw [h] at e';cases e';exact getD_some h nofun
   | own c=>rw [h] at e';unfold lU at e';simp only at e';split at e' <;> cases e'
   | ino c=>rw [h] at e';unfold lU at e';simp only at e';split at e' <;> cases e'
   | ro _=>rw [h] at e';cases e'
  obtain ⟨v,s,r⟩:=R.dat j d ej;exact ⟨v,bX hj s,r⟩
 ·rw [eF];obtain ⟨j,hj,_,ej⟩:=l8 e;have:∃ a,σ[j]?=some (some (.ref a))/\FF F0 env σ a/\Top K (FF F0 env σ) H d a:=by
   rcases ej with ej | ej
   ·obtain ⟨a,s,_,_,t⟩:=R.own j d ej;exact ⟨a,s,.inr ⟨j,d,ej,s⟩,t⟩
   ·obtain ⟨a,s,f,_,t⟩:=R.ino j d ej;exact ⟨a,s,.inl f,t⟩
  obtain ⟨a,s,f,t⟩:=this;exact ⟨a,bX hj s,f,⟨k,⟨d,.inr e⟩,bX hj s⟩,t⟩
 ·rw [eF];obtain ⟨j,hj,e'⟩:=eR e;have lk:∀ a,lock=some j->mu env j->σ[j]?=some (some (.ref a))->¬IA (bW env lock js) (L2.aZ js σ) a:=fun a hl m s ⟨k',m',s'⟩=>by
   obtain ⟨j',hj',hn,mj'⟩:=cW m';have:=R.sep j' j a mj' m (a8 hj' s') s;subst this;exact hn hl
  cases h:env[j]?.getD .un with
  | un=>rw [h] at e';cases e'
  | dat c=>rw [h] at e';cases e'
  | own c =>
   rw [h] at e';unfold lU at e';simp only at e';split at e'
   ·rename_i n;cases e';have ej:=getD_some h nofun;obtain ⟨a,s,_,_,t⟩:=R.own j d ej;exact ⟨a,bX hj s,t.ro (lk a (by simpa using n) ⟨d,.inl ej⟩ s)⟩
   ·cases e'
  | ino c =>
   rw [h] at e';unfold lU at e';simp only at e';split at e'
   ·rename_i n;cases e';have ej:=getD_some h nofun;obtain ⟨a,s,_,_,t⟩:=R.ino j d ej;exact ⟨a,bX hj s,t.ro (lk a (by simpa using n) ⟨d,.inr ej⟩ s)⟩
   ·cases e'
  | ro c =>
   rw [h] at e';cases e';obtain ⟨a,s,t⟩:=R.ro j d (getD_some h nofun);exact ⟨a,bX hj s,t.pr Pr.refl (fun _ z=>z) sub fun _ _ z _=>z⟩
 ·obtain ⟨j1,e1,_,m1⟩:=cW h1;obtain ⟨j2,e2,_,m2⟩:=cW h2;have:=R.sep j1 j2 a m1 m2 (a8 e1 h3) (a8 e2 h4);subst this;exact kb nd e1 e2
theorem aM:∀ (env:En) (js:List Nat) (es:En),SmK env (aH env js es)
 | env,[],es=>by unfold aH;exact SmK.refl _
 | env,j :: js,[]=>by unfold aH;exact SmK.refl _
 | env,j :: js,s :: es=>by
  cases s with
  | ino d=>unfold aH;exact (c6 env j d).trans (aM _ js es)
  | un=>unfold aH;exact aM _ js es
  | dat _=>unfold aH;exact aM _ js es
  | own _=>unfold aH;exact aM _ js es
  | ro _=>unfold aH;exact aM _ js es
theorem aP:∀ (env:En) (js:List Nat) (es:En) (i:Nat),i ∉ js->(aH env js es)[i]?=env[i]?
 | env,[],es,i,_=>by unfold aH;rfl
 | env,j :: js,[],i,_=>by unfold aH;rfl
 | env,j :: js,s :: es,i,h=>by
  have n:i≠j:=fun z=>h (by rw [z];exact Hu);have n':i ∉ js:=fun z=>h (Hr _ z);cases s with
  | ino d=>unfold aH;rw [aP _ js es i n',jj n]
  | un=>unfold aH;exact aP _ js es i n'
  | dat _=>unfold aH;exact aP _ js es i n'
  | own _=>unfold aH;exact aP _ js es i n'
  | ro _=>unfold aH;exact aP _ js es i n'
theorem dg:∀ (env:En) (js:List Nat) (es:En) (k i:Nat) (s:Sl),js.Nodup->js[k]?=some i->es[k]?=some s->(∀ d,s=.ino d->mu env i->aK (aH env js es) i=some d)/\((∀ d,s≠.ino d)->(aH env js es)[i]?=env[i]?)
 | env,[],es,k,i,s,_,h,_=>by simp at h
 | env,j :: js,[],k,i,s,_,_,h=>by simp at h
 | env,j :: js,t :: es,0,i,s,nd,h,h'=>by
  obtain ⟨n1,nd'⟩:=Ih.mp nd;simp at h h';subst h h';constructor
  ·rintro d rfl m;unfold aH;have:=aP (fE env j d) js es j n1;unfold aK;rw [this];exact jr m
  ·intro hn;cases t with
   | ino d=>exact absurd rfl (hn d)
   | un=>unfold aH;exact aP _ js es j n1
   | dat _=>unfold aH;exact aP _ js es j n1
   | own _=>unfold aH;exact aP _ js es j n1
   | ro _=>unfold aH;exact aP _ js es j n1
 | env,j :: js,t :: es,k+1,i,s,nd,h,h'=>by
  obtain ⟨n1,nd'⟩:=Ih.mp nd;simp at h h';have hi:i∈js:=HG h;have ne:i≠j:=fun z=>n1 (z▸hi);cases t with
  | ino d =>
   unfold aH;have ih:=dg (fE env j d) js es k i s nd' h h';refine ⟨fun d' e m=>ih.1 d' e ((c6 env j d).symm.kp.mu m),fun hn=>?_⟩;rw [ih.2 hn,jj ne]
  | un=>unfold aH;exact dg env js es k i s nd' h h'
  | dat _=>unfold aH;exact dg env js es k i s nd' h h'
  | own _=>unfold aH;exact dg env js es k i s nd' h h'
  | ro _=>unfold aH;exact dg env js es k i s nd' h h'
theorem KpE.Dc (k:KpE env env') {i:Nat} {d:PyData} (e:env[i]?=some (.ino d)):∃ d',env'[i]?=some (.ino d'):=by
 obtain ⟨s',h,ev⟩:=k.2 i _ e;obtain ⟨d',rfl⟩:=ev;exact ⟨d',h⟩
theorem Rel.back (R:Rel K F0 H₀ I env σ H) {lock:Option Nat} {js:List Nat} {ec:En} (nd:js.Nodup) (S:Rel K (FF F0 env σ) H (IA (bW env lock js) (L2.aZ js σ)) ec (L2.aZ js σ) H') (k:KpE (bW env lock js) ec):Rel K F0 H₀ I (aH env js ec) σ H':=by
 have sub:∀ b,IA (bW env lock js) (L2.aZ js σ) b->IA env σ b:=fun b ⟨k,m,s⟩=>by
  obtain ⟨j,hj,_,mj⟩:=cW m;exact ⟨j,mj,a8 hj s⟩
 have hk:∀ b o,H b=some o->¬IA env σ b->H' b=some o:=fun b o e n=>S.cH b o e fun z=>n (sub b z);have eFc:FF (FF F0 env σ) ec (L2.aZ js σ)=FF F0 env σ:=cg (bS.kp k);refine R.chg (aM env js ec) hk fun i d a hm hs=>?_;have sm:=aM env js ec;have mi:mu env i:=sm.kp.mu ((mB hm).elim (fun e=>⟨d,.inl e⟩) fun e=>⟨d,.inr e⟩);have jk:(aH env js ec)[i]?=env[i]?->¬IA (bW env lock js) (L2.aZ js σ) a->Top K (FF F0 env σ) H' d a:=fun e n=>by
  have hm':aK env i=some d:=by unfold aK at hm ⊢;rwa [e] at hm
  obtain ⟨_,a',s',_,t⟩:=R.cu hm';rw [hs] at s';cases s';exact t.pr (R.mx hk) (fun _ z=>z) fun o e=>S.cH a o e n
 by_cases hi:i∈js
 ·obtain ⟨p,hp⟩:=IG.mp hi;have hlen:ec.length=js.length:=by rw [k.1];unfold bW;rw [Hf]
  have hpl:p < js.length:=(Hl.mp hp).1;have he:ec[p]?=some (ec[p]'(by omega)):=Hj _;obtain ⟨b1,b2⟩:=dg env js ec p i _ nd hp he;by_cases hl:lock=some i
  ·-- locked
   refine jk (b2 fun d' z=>?_) ?_
   ·rw [z] at he;obtain ⟨s,e0,ev⟩:=k.back he;obtain ⟨j,hj,e'⟩:=eR e0;rw [hp] at hj;cases hj;obtain ⟨c,hc | hc⟩:=mi
    ·rw [hc] at e';simp only [Option.getD_some,lU,hl,decide_true,JJ] at e';subst e';cases ev
    ·rw [hc] at e';simp only [Option.getD_some,lU,hl,decide_true,JJ] at e';subst e';cases ev
   ·rintro ⟨q,mq,sq⟩;obtain ⟨j',hj',hn,mj'⟩:=cW mq;have:=R.sep j' i a mj' mi (a8 hj' sq) hs;subst this;exact hn hl
  ·have:∃ c,(bW env lock js)[p]?=some (.ino c):=by
    unfold bW;rw [Hq,hp];obtain ⟨c,hc | hc⟩:=mi
    ·exact ⟨c,by rw [Option.map_some,hc];simp [lU,hl]⟩
    ·exact ⟨c,by rw [Option.map_some,hc];simp [lU,hl]⟩
   obtain ⟨c,hc⟩:=this;obtain ⟨d',hd'⟩:=k.Dc hc;rw [he] at hd';have ed:=b1 d' (HV hd') mi;rw [hm] at ed;cases ed;obtain ⟨a',s',_,_,t⟩:=S.ino p d (by rw [he];exact hd');have:=a8 hp s';rw [hs] at this;cases this
   rwa [eFc] at t
 ·refine jk (aP env js ec i hi) ?_;rintro ⟨q,mq,sq⟩;obtain ⟨j',hj',hn,mj'⟩:=cW mq;have:=R.sep j' i a mj' mi (a8 hj' sq) hs;subst this;exact hi (HG hj')
end
open PySem
section
variable {K:Fg} {F F' I I' F0:Addr->Prop} {H H' H₀ H1:Hp} {env env' e1:En} {σ σ':St} {ga:Nat->V} {gd:List PyData}
def Dz (K:Fg) (F:Addr->Prop) (H:Hp) (acc:List V):Option PyData->List V->Prop
 | none,acc'=>acc'=acc
 | some d,acc'=>∃ v,acc'=acc++[v]/\Dm K F H d v
theorem qr {step:PyData->En->Option (Option PyData×En)} {ds ys:List PyData} {ec:En} {lock:Option Nat} {js:List Nat} {J:It} {Q:VK} {τ:Type} {TI:τ->Prop} {t0:τ} {body:τ->List V->V->Hp->(τ->List V->Hp->Prop)->Prop} (ht0:TI t0)
  (R1:Rel K F0 H₀ I e1 σ H1) (nd:js.Nodup) (hit:se K (FF F0 e1 σ) (fun b=>IA e1 σ b/\∀ i,lock=some i->mu e1 i->σ[i]?≠some (some (.ref b))) H1 J ds) (h2:sh step ds (bW e1 lock js)=some (ys,ec))
  (turn:∀ t acc d envc y envc' x H',TI t->step d envc=some (y,envc')->Rel K (FF F0 e1 σ) H1 (IA (bW e1 lock js) (aZ js σ)) envc (aZ js σ) H'->noOwn envc->Dm K (FF F0 e1 σ) H' d x->∀ N:τ->List V->Hp->Prop,
   (∀ t' acc' H2,TI t'->Rel K (FF F0 e1 σ) H1 (IA (bW e1 lock js) (aZ js σ)) envc' (aZ js σ) H2->KpE envc envc'->Pr (FF F0 e1 σ) H' H2->Dz K (FF F0 e1 σ) H2 acc y acc'->N t' acc' H2)->body t acc x H' N)
  (fin:∀ acc H',Rel K F0 H₀ I (aH e1 js ec) σ H'->DmL K (FF F0 e1 σ) H' ys acc->acc.length<=sizeLine->∀ p,H' p=none->Q (.ref p) (upd H' p (.lst acc))) :
  ∃ W:Nat->Nat->τ->List V->Hp->Prop,(∃ m,W 0 m t0 [] H1)/\∀ i m t acc H,W i m t acc H ->
   (J.stop i H/\acc.length<=sizeLine/\∀ p,H p=none->Q (.ref p) (upd H p (.lst acc)))\/(J.go i H/\acc.length < sizeLine/\∀ x H',J.yld i H x H'->body t acc x H' fun t' acc' H2=>∃ m',m' < m/\W (i+1) m' t' acc' H2):=by
 obtain ⟨hvl,hturn⟩:=hit;have sub:∀ b,IA (bW e1 lock js) (aZ js σ) b->IA e1 σ b/\∀ i,lock=some i->mu e1 i->σ[i]?≠some (some (.ref b)):=fun b ⟨k,m,s⟩=>by
  obtain ⟨j,hj,hn,mj⟩:=cW m;refine ⟨⟨j,mj,a8 hj s⟩,fun i hl mi si=>?_⟩;have:=R1.sep j i b mj mi (a8 hj s) si;subst this;exact hn hl
 have Rc0:=R1.aZ (lock:=lock) nd
 refine ⟨fun i m t acc H'=>TI t/\m=ds.length - i/\i<=ds.length/\acc.length<=i/\∃ envc done rest,sh step (ds.drop i) envc=some (rest,ec)/\ys=done++rest/\Rel K (FF F0 e1 σ) H1 (IA (bW e1 lock js) (aZ js σ)) envc (aZ js σ) H'/\KpE (bW e1 lock js) envc/\DmL K (FF F0 e1 σ) H' done acc,
  ⟨ds.length,ht0,rfl,Ip _,Hn _,bW e1 lock js,[],ys,h2,rfl,Rc0,KpE.refl _,rfl⟩,?_⟩
 rintro i m t acc H' ⟨hti,rfl,hi,hal,envc,done,rest,hc,hy,Rc,kc,hacc⟩;have hkept:∀ b o,H1 b=some o->¬(IA e1 σ b/\∀ i,lock=some i->mu e1 i->σ[i]?≠some (some (.ref b)))->H' b=some o:=fun b o e n=>Rc.cH b o e fun z=>n (sub b z);by_cases hlt:i < ds.length
 ·right;obtain ⟨go,yld⟩:=(hturn H' hkept i).1 (by omega);refine ⟨go,by omega,fun x H'' hx=>?_⟩;obtain ⟨d,hd,hy9⟩:=yld x H'' hx;obtain ⟨sm,hdx'⟩:=hy9.dm (F2:=FF F0 e1 σ) fun d v h=>h.pr (R1.mx fun b o e n=>hkept b o e fun z=>n z.1) fun _ z=>z;have Rc:=Rc.same sm;have hacc:=hacc.pr (fun b o e _=>sm b o e) fun _ z=>z;have ed:ds.drop i=d :: ds.drop (i+1):=by
   rw [JB hlt];obtain ⟨_,q⟩:=Hl.mp hd;rw [q]
  rw [ed] at hc;unfold sh at hc;split at hc
  ·rename_i y envc' hs;split at hc
   ·rename_i ys' e2 hr;cases hc;refine turn t acc d envc y envc' x H'' hti hs Rc (bS.kp kc) hdx' _ fun t' acc' H2 ht' R2 k2 p2 ha=>⟨_,by omega,ht',rfl,by omega,?_,envc',done++y.toList,ys',hr,by rw [hy,List.append_assoc],R2,kc.trans k2,?_⟩
    ·cases y with
     | none=>rw [show acc'=acc from ha];omega
     | some dy=>obtain ⟨v,rfl,_⟩:=ha;rw [Ho];simp;omega
    ·have hacc':=hacc.pr p2 fun _ z=>z;cases y with
     | none=>rw [show acc'=acc from ha];simpa using hacc'
     | some dy=>obtain ⟨v,rfl,hv⟩:=ha;exact hacc'.snoc hv
   ·cases hc
  ·cases hc
 ·left;have e:i=ds.length:=by omega
  subst e;have hz:acc.length<=sizeLine:=by omega
  rw [List.drop_length] at hc;unfold sh at hc;cases hc;rw [Iw] at hy;subst hy;exact ⟨(hturn H' hkept _).2 (by omega),hz,fin acc H' (R1.back nd Rc kc) hacc hz⟩
theorem Dq {js:List Nat} {it:XI} {c:XT} {e:XE} (ii:SI K ga gd it) (ic:ST K ga gd c) (ie:SE K ga gd e):SE K ga gd (.cmp js it c e):=by
 intro env rv env' h F0 H₀ I σ H Q R q;simp only [dE] at h;split at h
 ·rename_i ds lock e1 h1;split at h
  ·rename_i nd;split at h
   ·rename_i ys ec h2;cases h;refine ii _ _ _ _ h1 F0 H₀ I σ H _ R fun J H1 R1 k1 _ hit=>?_;refine Exists.elim (qr (Q:=Q) (τ:=Unit) (TI:=fun _=>True) (t0:=()) (body:=fun _ acc x H' N=>rT K ga c (some x :: aZ js σ) H' fun b H2=>if b=true then rE K ga e (some x :: aZ js σ) H2 fun y H3=>N () (acc++[y]) H3 else N () acc H2) trivial R1 nd hit h2 ?_ ?_) fun W hw=>?_
    rotate_right 1
    ·obtain ⟨w0,hW⟩:=hw;exact ⟨fun i m acc H=>W i m () acc H,w0,fun i m acc H w=>hW i m () acc H w⟩
    ·intro _ acc d envc y envc' x H' _ hs Rc no hd N hN;have eF:FF (FF F0 e1 σ) envc (aZ js σ)=FF F0 e1 σ:=cg no;have Rx:Rel K (FF F0 e1 σ) H1 (IA (bW e1 lock js) (aZ js σ)) (.dat d :: envc) (some x :: aZ js σ) H':=Rc.front (ds:=[d]) (vs:=[x]) ⟨x,[],rfl,by rw [eF];exact hd,rfl⟩;have frontF:∀ {e2:En},KpE envc e2->FF (FF F0 e1 σ) (.dat d :: e2) (some x :: aZ js σ)=FF F0 e1 σ:=fun {e2} k=>by
      have:=fQ (F0:=FF F0 e1 σ) (env:=e2) (σ:=aZ js σ) (pre:=[.dat d]) (ps:=[some x]) (fun s hs=>by rw [Hw.mp hs];trivial) rfl;exact this.trans (cg (no.kp k))
     unfold fc at hs;split at hs
     ·rename_i e2 hT;split at hs
      ·rename_i rv e3 hE;split at hs
       ·rename_i dy hv;cases hs;refine ic _ _ _ hT _ _ _ _ H' _ Rx.rebase fun H2 S2 k2=>?_;rw [Hv rfl];have R2:=Rx.aV S2;refine ie _ _ _ hE _ _ _ _ H2 _ R2.rebase fun v H3 S3 k3 r3=>?_;have R3:=R2.aV S3;obtain ⟨ex,e3',kx⟩:=(k2.trans k3).front (ds:=[d]);have k23:=k2.trans k3;subst e3';have ht:(([d].map Sl.dat)++ex).tail=ex:=rfl;obtain ⟨e2x,e2',k2x⟩:=k2.front (ds:=[d]);have p12:Pr (FF F0 e1 σ) H' H2:=by have:=Rx.mx S2.cH;rwa [frontF (KpE.refl _)] at this
        have p23:Pr (FF F0 e1 σ) H2 H3:=by
         have:=R2.mx S3.cH;rw [e2'] at this
         rwa [show FF (FF F0 e1 σ) ([d].map Sl.dat++e2x) (some x :: aZ js σ)=FF F0 e1 σ from frontF k2x] at this
        have a3:=r3.av;rw [hv] at a3;have dv:Dm K (FF F0 e1 σ) H3 dy v:=by
         have:Dm K (FF (FF F0 e1 σ) ([d].map Sl.dat++ex) (some x :: aZ js σ)) H3 dy v:=a3
         rwa [show FF (FF F0 e1 σ) ([d].map Sl.dat++ex) (some x :: aZ js σ)=FF F0 e1 σ from frontF kx] at this
        exact hN () _ H3 trivial (R3.behind (pre:=[.dat d]) (ps:=[some x]) (fun s hs=>by rw [Hw.mp hs];trivial) rfl) kx (p12.trans p23 fun _ z=>z) ⟨v,rfl,dv⟩
       ·cases hs
      ·cases hs
     ·rename_i e2 hT;cases hs;refine ic _ _ _ hT _ _ _ _ H' _ Rx.rebase fun H2 S2 k2=>?_;rw [Hz (by decide)];have R2:=Rx.aV S2;obtain ⟨ex,e2',kx⟩:=k2.front (ds:=[d]);subst e2';have p12:Pr (FF F0 e1 σ) H' H2:=by have:=Rx.mx S2.cH;rwa [frontF (KpE.refl _)] at this
      exact hN () _ H2 trivial (R2.behind (pre:=[.dat d]) (ps:=[some x]) (fun s hs=>by rw [Hw.mp hs];trivial) rfl) kx p12 rfl
     ·cases hs
    ·intro acc H' R' hd hz p hp;have eF:=(aM e1 js ec).ff (F0:=F0) (σ:=σ);have s:=az.nw (.lst acc) hp;exact q _ _ (R'.same s) (k1.trans (aM e1 js ec).kp) (R'.kC (pr:=.frs (.list ys)) s ⟨p,rfl,hp,acc,ag,hz,by rw [eF];exact (hd.fresh hp).pr (Pr.of_same s) fun _ z=>z⟩)
   ·cases h
  ·cases h
 ·cases h
noncomputable def BY:St->Nat->List V->St
 | σ,_,[]=>σ
 | σ,k,v :: vs=>BY (σ.set k (some v)) (k+1) vs
theorem kz:∀ {vs:List V} {k:Nat} {σ:St} {H:Hp} {Q:St->Hp->Prop},Q (BY σ k vs) H->gNs (List.range' k vs.length) vs σ H Q
 | [],_,_,_,_,h=>⟨rfl,h⟩
 | v :: vs,k,σ,H,Q,h=>⟨v,vs,rfl,kz (vs:=vs) (k:=k+1) h⟩
theorem m8:∀ {vs:List V} {pre hd tl:St},hd.length=vs.length->BY (pre++(hd++tl)) pre.length vs=pre++(vs.map some++tl)
 | [],pre,hd,tl,h=>by
  have:hd=[]:=List.eq_nil_of_length_eq_zero h;subst this;rfl
 | v :: vs,pre,[],tl,h=>by cases h
 | v :: vs,pre,x :: hd,tl,h=>by
  have hl:hd.length=vs.length:=by simpa using h
  have e:(pre++(x :: hd++tl)).set pre.length (some v)=(pre++[some v])++(hd++tl):=by
   rw [List.set_append_right _ _ (Hn _)];simp
  unfold BY;rw [e];have:=m8 (vs:=vs) (pre:=pre++[some v]) (hd:=hd) (tl:=tl) hl;rw [Ho] at this;rw [show pre.length+1=pre.length+[some v].length from rfl,this];simp
theorem qR (n:List Str):(qT n).length=n.length:=by unfold qT;rw [Hf]
theorem zP {n:List Str} {js:List Nat} {it:XI} {e:XE} (ii:SI K ga gd it) (ie:SE K ga gd e):SE K ga gd (.y8 n js it e):=by
 intro env rv env' h F0 H₀ I σ H Q R q;simp only [dE] at h;split at h
 ·rename_i ds lock e1 h1;split at h
  ·rename_i nd;split at h
   ·rename_i ys ec h2;cases h;refine ii _ _ _ _ h1 F0 H₀ I σ H _ R fun J H1 R1 k1 _ hit=>?_;refine Exists.elim (qr (Q:=Q) (τ:=St) (TI:=fun t=>∃ hd:St,hd.length=n.length/\t=hd++aZ js σ) (t0:=qT n++aZ js σ) (body:=fun t acc x H' N=>gTp K (List.range n.length) x t H' fun σ2 H2=>rE K ga e σ2 H2 fun y H3=>N σ2 (acc++[y]) H3) ⟨qT n,qR n,rfl⟩ R1 nd hit h2 ?_ ?_) fun W hw=>?_
    rotate_right 1
    ·obtain ⟨w0,hW⟩:=hw;exact ⟨W,w0,hW⟩
    ·rintro t acc d envc y envc' x H' ⟨hd,hl,rfl⟩ hs Rc no hdx N hN;have eF:FF (FF F0 e1 σ) envc (aZ js σ)=FF F0 e1 σ:=cg no;unfold jE at hs;split at hs
     ·rename_i xs;split at hs
      ·rename_i hxl;split at hs
       ·rename_i rv e3 hE;split at hs
        ·rename_i dy hv;cases hs;obtain ⟨a,vs,rfl,hq,hz,hdl⟩:=hdx;have hvl:vs.length=n.length:=by rw [hdl.len,hxl]
         refine ⟨a,vs,rfl,hq,by rw [HP];exact hvl,?_⟩;rw [List.range_eq_range',<-hvl];refine kz ?_;have es:BY (hd++aZ js σ) 0 vs=vs.map some++aZ js σ:=m8 (pre:=[]) (by rw [hl,hvl]);rw [es];have Rx:Rel K (FF F0 e1 σ) H1 (IA (bW e1 lock js) (aZ js σ)) (xs.map .dat++envc) (vs.map some++aZ js σ) H':=Rc.front (by rw [eF];exact hdl);have hpre:∀ s∈(xs.map Sl.dat),nZ s:=fun s hs=>by obtain ⟨d,_,rfl⟩:=HW.mp hs;trivial
         have hpl:(xs.map Sl.dat).length=(vs.map some).length:=by rw [Hf,Hf,hdl.len]
         have frontF:∀ {e2:En},KpE envc e2->FF (FF F0 e1 σ) (xs.map .dat++e2) (vs.map some++aZ js σ)=FF F0 e1 σ:=fun {e2} k=>(fQ hpre hpl).trans (cg (no.kp k));refine ie _ _ _ hE _ _ _ _ H' _ Rx.rebase fun v H3 S3 k3 r3=>?_;have R3:=Rx.aV S3;obtain ⟨ex,e3',kx⟩:=k3.front;subst e3';have p:Pr (FF F0 e1 σ) H' H3:=by have:=Rx.mx S3.cH;rwa [frontF (KpE.refl _)] at this
         have a3:=r3.av;rw [hv] at a3;have dv:Dm K (FF F0 e1 σ) H3 dy v:=by
          have:Dm K (FF (FF F0 e1 σ) (xs.map .dat++ex) (vs.map some++aZ js σ)) H3 dy v:=a3
          rwa [frontF kx] at this
         have ed:(xs.map Sl.dat++ex).drop n.length=ex:=by rw [<- hxl,<-Hf (f:=Sl.dat),List.drop_left]
         rw [ed] at hN;exact hN _ _ H3 ⟨vs.map some,by rw [Hf];exact hvl,rfl⟩ (R3.behind hpre hpl) kx p ⟨v,rfl,dv⟩
        ·cases hs
       ·cases hs
      ·cases hs
     ·cases hs
    ·intro acc H' R' hd hz p hp;have eF:=(aM e1 js ec).ff (F0:=F0) (σ:=σ);have s:=az.nw (.lst acc) hp;exact q _ _ (R'.same s) (k1.trans (aM e1 js ec).kp) (R'.kC (pr:=.frs (.list ys)) s ⟨p,rfl,hp,acc,ag,hz,by rw [eF];exact (hd.fresh hp).pr (Pr.of_same s) fun _ z=>z⟩)
   ·cases h
  ·cases h
 ·cases h
mutual
theorem sE (hg:∀ g d,gd[g]?=some d->∀ F H,Dm K F H d (ga g)):∀ e:XE,SE K ga gd e
 | .var i=>EC i | .mov i=>CV i | .tke i=>El i | .cst c=>Dw c | .glb g=>CU hg g
 | .prm p as=>DH (sA hg as) | .met m o as=>ER (sE hg o) (sA hg as) | .mtr m i as=>Dy (sA hg as) | .call f as=>s_call (sA hg as)
 | .tup as=>EH (sA hg as) | .lst as=>Et (sA hg as) | .dsp as=>Dg (sPs hg as) | .fst as=>E7 (sF hg as)
 | .ifx c a b=>CY (sT hg c) (sE hg a) (sE hg b) | .rZ a b=>zE (sE hg a) (sE hg b) | .orv a b=>D0 (sE hg a) (sE hg b) | .yo a=>zu (sE hg a)
 | .chn p q a b c=>EU (sE hg a) (sE hg b) (sE hg c) | .sl2 p a b c=>E9 (sE hg a) (sE hg b) (sE hg c)
 | .cmp js it c e=>Dq (sI hg it) (sT hg c) (sE hg e) | .y8 n js it e=>zP (sI hg it) (sE hg e)
theorem sA (hg:∀ g d,gd[g]?=some d->∀ F H,Dm K F H d (ga g)):∀ e:XA,SA K ga gd e
 | .nil=>DL | .cons e r=>BI (sE hg e) (sA hg r)
theorem sF (hg:∀ g d,gd[g]?=some d->∀ F H,Dm K F H d (ga g)):∀ e:XA,SF K ga gd e
 | .nil=>Fh | .cons e r=>A7 (sE hg e) (sF hg r)
theorem sPs (hg:∀ g d,gd[g]?=some d->∀ F H,Dm K F H d (ga g)):∀ e:XP,SPs K ga gd e
 | .nil=>Ef | .cons k e r=>yU (sE hg k) (sE hg e) (sPs hg r)
theorem sT (hg:∀ g d,gd[g]?=some d->∀ F H,Dm K F H d (ga g)):∀ e:XT,ST K ga gd e
 | .tst e=>ET (sE hg e) | .tru e=>Du (sE hg e) | .and a b=>C2 (sT hg a) (sT hg b) | .or a b=>Gd (sT hg a) (sT hg b) | .not a=>Fl (sT hg a) | .yes=>D9
theorem sI (hg:∀ g d,gd[g]?=some d->∀ F H,Dm K F H d (ga g)):∀ e:XI,SI K ga gd e
 | .lst e=>xD (sE hg e) | .tup e=>zF (sE hg e) | .str e=>Eo (sE hg e) | .rng1 as=>BP (sA hg as) | .rng2 as=>AG (sA hg as) | .dct e=>C8 (sE hg e) | .sq e=>Gk (sE hg e) | .itm e=>DU (sE hg e) | .zip as=>Fe (sA hg as)
end
end
open PySem
section
variable {K:Fg} {F F' I I' F0:Addr->Prop} {H H' H₀ H1:Hp} {env env' e1:En} {σ σ':St} {ga:Nat->V} {gd:List PyData}
theorem LsF.aO {a:Addr} {xs:List V} (h:LsF K F H a xs):LsF K (fun b=>F b\/H b=none) H a xs:=by
 rcases h with ⟨n,h⟩ | h
 ·refine .inl ⟨fun z=>z.elim n fun e=>?_,h⟩;rcases h with h | ⟨o,h⟩ <;> (rw [e] at h;cases h)
 ·exact .inr h
mutual
theorem Dm.aO:∀ {d:PyData} {v:V},Dm K F H d v->Dm K (fun b=>F b\/H b=none) H d v
 | .none,v,h=>h
 | .bool b,v,h=>h
 | .int i,v,h=>h
 | .str x,v,h=>h
 | .list ds,v,h=>by
  obtain ⟨a,xs,e,l,z,r⟩:=h;exact ⟨a,xs,e,l.aO,z,DmL.aO r⟩
 | .tuple ds,v,h=>by
  obtain ⟨a,xs,e,l,z,r⟩:=h;exact ⟨a,xs,e,l,z,DmL.aO r⟩
 | .dict kvs,v,h=>by
  obtain ⟨a,ep,xs,e,n,l,z,r⟩:=h;exact ⟨a,ep,xs,e,fun q=>q.elim n fun q=>(by rw [q] at l;cases l),l,z,DmP.aO r⟩
theorem DmL.aO:∀ {ds:List PyData} {vs:List V},DmL K F H ds vs->DmL K (fun b=>F b\/H b=none) H ds vs
 | [],vs,h=>h
 | d :: ds,vs,h=>by
  obtain ⟨v,r,e,h1,h2⟩:=h;exact ⟨v,r,e,Dm.aO h1,DmL.aO h2⟩
theorem DmP.aO:∀ {ds:List (PyData×PyData)} {vs:List (PyData×V×V)},DmP K F H ds vs->DmP K (fun b=>F b\/H b=none) H ds vs
 | [],vs,h=>h
 | (k,d) :: ds,vs,h=>by
  obtain ⟨j,v,r,e,e2,h0,h1,h2⟩:=h;exact ⟨j,v,r,e,e2,Dm.aO h0,Dm.aO h1,DmP.aO h2⟩
end
theorem Top.aO {d:PyData} {a:Addr} (h:Top K F H d a):Top K (fun b=>F b\/H b=none) H d a:=by
 cases d with
 | list ds=>obtain ⟨xs,e,z,r⟩:=h;exact ⟨xs,e,z,r.aO⟩
 | dict ds=>obtain ⟨ep,xs,e,z,r⟩:=h;exact ⟨ep,xs,e,z,r.aO⟩
 | _=>exact absurd h id
theorem d8.aO {d:PyData} {a:Addr} (h:d8 K F I H d a):d8 K (fun b=>F b\/H b=none) (fun b=>I b\/H b=none) H d a:=by
 cases d with
 | list ds=>obtain ⟨xs,e,z,r⟩:=h;exact ⟨xs,e.aO,z,r.aO⟩
 | dict ds =>
  rcases h with ⟨ep,xs,n,e,z,r⟩ | ⟨es,q,c,oc,wv,h1,h2⟩
  ·exact .inl ⟨ep,xs,fun q=>q.elim n fun q=>(by rw [q] at e;cases e),e,z,r.aO⟩
  ·exact .inr ⟨es,q,c,oc,wv,h1,h2.aO⟩
 | _=>exact absurd h id
theorem Pr.FU (p:Pr F H H') (h:∀ b,F b->F' b):Pr F' H H':=fun b o e n=>p b o e (n.imp (fun z q=>z (h _ q)) id)
def Evs:Sl->Sl->Prop
 | .ino _,s=>∃ d,s=.ino d
 | .ro d,s=>s=.ro d
 | _,s=>(∀ d,s≠.ino d)/\∀ d,s≠.ro d
def Bt:Sl->Prop | .ino _=>True | .ro _=>True | _=>False
def KpS (env:En) (σ:St) (env':En) (σ':St):Prop:=env'.length=env.length/\∀ (i:Nat) (s:Sl),env[i]?=some s->∃ s',env'[i]?=some s'/\Evs s s'/\(Bt s->σ'[i]?=σ[i]?)
theorem Evs.refl:∀ s,Evs s s
 | .un=>⟨fun _=>nofun,fun _=>nofun⟩
 | .dat _=>⟨fun _=>nofun,fun _=>nofun⟩
 | .own d=>⟨fun _=>nofun,fun _=>nofun⟩
 | .ino d=>⟨d,rfl⟩
 | .ro _=>rfl
def soft (s:Sl):Prop:=(∀ d,s≠.ino d)/\∀ d,s≠.ro d
theorem Evs.soft {s s':Sl} (h:Evs s s') (q:L2.soft s):L2.soft s':=by
 cases s with
 | ino d=>exact absurd rfl (q.1 d)
 | ro d=>exact absurd rfl (q.2 d)
 | _=>exact h
theorem Evs.of {s s':Sl} (q:L2.soft s) (q':L2.soft s'):Evs s s':=by
 cases s with
 | ino d=>exact absurd rfl (q.1 d)
 | ro d=>exact absurd rfl (q.2 d)
 | _=>exact q'
theorem Evs.trans {a b c:Sl} (h:Evs a b) (q:Evs b c):Evs a c:=by
 cases a with
 | ino d=>obtain ⟨d',rfl⟩:=h;exact q
 | ro d=>rw [show b=.ro d from h] at q;exact q
 | un=>exact Evs.of ⟨fun _=>nofun,fun _=>nofun⟩ (q.soft h)
 | dat _=>exact Evs.of ⟨fun _=>nofun,fun _=>nofun⟩ (q.soft h)
 | own _=>exact Evs.of ⟨fun _=>nofun,fun _=>nofun⟩ (q.soft h)
theorem Evs.Bt {a b:Sl} (h:Evs a b) (q:L2.Bt a):L2.Bt b:=by
 cases a with
 | ino d=>obtain ⟨d',rfl⟩:=h;trivial
 | ro d=>rw [show b=.ro d from h];trivial
 | _=>exact absurd q id
theorem KpS.refl (env:En) (σ:St):KpS env σ env σ:=⟨rfl,fun i s e=>⟨s,e,.refl s,fun _=>rfl⟩⟩
theorem KpS.trans {a b c:En} {x y z:St} (h:KpS a x b y) (q:KpS b y c z):KpS a x c z:=⟨q.1.trans h.1,fun i s e=>by
 obtain ⟨s1,e1,v1,w1⟩:=h.2 i s e;obtain ⟨s2,e2,v2,w2⟩:=q.2 i s1 e1
 exact ⟨s2,e2,v1.trans v2,fun t=>(w2 (v1.Bt t)).trans (w1 t)⟩⟩
theorem KpE.s (k:KpE env env'):KpS env σ env' σ:=⟨k.1,fun i s e=>by
 obtain ⟨s',e',v⟩:=k.2 i s e;refine ⟨s',e',?_,fun _=>rfl⟩;cases s with
 | un=>rw [show s'=.un from v];exact .refl _
 | dat d=>rw [show s'=.dat d from v];exact .refl _
 | own d=>rcases v with ⟨d',rfl⟩ | ⟨d',rfl⟩ | rfl <;> exact ⟨fun _=>nofun,fun _=>nofun⟩
 | ino d=>exact v
 | ro d=>exact v⟩
theorem gr {i:Nat} (h:free env i=true):∃ s,env[i]?=some s/\L2.soft s:=by
 unfold free at h;split at h
 ·rename_i e;exact ⟨_,e,fun _=>nofun,fun _=>nofun⟩
 ·rename_i e;exact ⟨_,e,fun _=>nofun,fun _=>nofun⟩
 ·rename_i e;exact ⟨_,e,fun _=>nofun,fun _=>nofun⟩
 ·cases h
theorem rN {i:Nat} {s s':Sl} {x:Option V} (e:env[i]?=some s) (q:L2.soft s) (q':L2.soft s'):KpS env σ (env.set i s') (σ.set i x):=by
 have hi:i < env.length:=(Hl.mp e).1;refine ⟨HK,fun j t h=>?_⟩;by_cases z:i=j
 ·subst z;rw [e] at h;cases h;refine ⟨s',Hs hi,.of q q',fun t=>?_⟩;cases s with
  | ino d=>exact absurd rfl (q.1 d)
  | ro d=>exact absurd rfl (q.2 d)
  | _=>exact absurd t id
 ·exact ⟨t,by rw [Hk z];exact h,.refl t,fun _=>by rw [Hk z]⟩
def kH (K:Fg) (F0:Addr->Prop) (H₀:Hp) (I:Addr->Prop) (env:En) (σ:St) (D:Ends):Out->Prop
 | .nx e=>∀ σ' H',Rel K F0 H₀ I e σ' H'->KpS env σ e σ'->D.nx σ' H'
 | .bk e=>∀ σ' H',Rel K F0 H₀ I e σ' H'->KpS env σ e σ'->D.bk σ' H'
 | .ct e=>∀ σ' H',Rel K F0 H₀ I e σ' H'->KpS env σ e σ'->D.ct σ' H'
 | .rt rv e=>∀ v σ' H',Rel K F0 H₀ I e σ' H'->KpS env σ e σ'->dB K F0 H₀ I e σ' H' rv v->D.rt v H'
def SS (K:Fg) (ga:Nat->V) (gd:List PyData) (s:XS):Prop:=∀ (env:En) (out:Out),dS gd s env=some out->∀ (F0:Addr->Prop) (H₀:Hp) (I:Addr->Prop) (σ:St) (H:Hp) (D:Ends),Rel K F0 H₀ I env σ H->kH K F0 H₀ I env σ D out->rS K ga s D σ H
theorem kH.from {D:Ends} {out:Out} (k:KpS env σ env' σ') (h:kH K F0 H₀ I env σ D out):kH K F0 H₀ I env' σ' D out:=by
 cases out with
 | nx e=>exact fun s h1 r q=>h s h1 r (k.trans q)
 | bk e=>exact fun s h1 r q=>h s h1 r (k.trans q)
 | ct e=>exact fun s h1 r q=>h s h1 r (k.trans q)
 | rt rv e=>exact fun v s h1 r q w=>h v s h1 r (k.trans q) w
theorem yT {a b:XS} (ia:SS K ga gd a) (ib:SS K ga gd b):SS K ga gd (.seq a b):=by
 intro env out h F0 H₀ I σ H D R q;simp only [dS] at h;split at h
 ·rename_i e h1;refine ia _ _ h1 F0 H₀ I σ H _ R fun σ' H' R' k'=>?_;exact ib _ _ h F0 H₀ I σ' H' D R' (q.from k')
 ·rename_i hn;refine ia _ _ h F0 H₀ I σ H _ R ?_;cases out with
  | nx e=>exact absurd h (hn e)
  | bk e=>exact q
  | ct e=>exact q
  | rt rv e=>exact q
theorem Rel.Dj (R:Rel K F0 H₀ I env σ H) {i:Nat} {d:PyData} {v:V} (hf:free env i=true) (h:Dm K (FF F0 env σ) H d v):Rel K F0 H₀ I (env.set i (.dat d)) (σ.set i (some v)) H/\KpS env σ (env.set i (.dat d)) (σ.set i (some v)):=by
 obtain ⟨s,e,q⟩:=gr hf;have hi:i < env.length:=(Hl.mp e).1;have R1:=R.forget i (some v);have:=R1.putD (i:=i) (d:=d) (v:=v) (Hs hi) (h.mono (R.sub i _).1);rw [ID,ID] at this;exact ⟨this,rN e q ⟨fun _=>nofun,fun _=>nofun⟩⟩
theorem xy {i:Nat} {e:XE} (ie:SE K ga gd e):SS K ga gd (.bx i e):=by
 intro env out h F0 H₀ I σ H D R q;simp only [dS] at h;split at h
 ·rename_i rv e1 h1;split at h
  ·rename_i d hv;split at h
   ·rename_i hf;cases h;refine ie _ _ _ h1 F0 H₀ I σ H _ R fun v H1 R1 k1 r1=>?_;have a1:=r1.av;rw [hv] at a1;obtain ⟨R2,k2⟩:=R1.Dj hf (show Dm K _ H1 d v from a1);exact q _ H1 R2 (k1.s.trans k2)
   ·cases h
  ·cases h
 ·cases h
theorem dB.forget {d:PyData} {v:V} (h:dB K F0 H₀ I env σ H (.frs d) v) (i:Nat) (x:Option V) (hs:∀ s,env[i]?=some s->L2.soft s):dB K F0 H₀ I (env.set i .un) (σ.set i x) H (.frs d) v:=by
 obtain ⟨a,ea,R,t,w,nF,hi,hr⟩:=h;have R0:=R.less hi;obtain ⟨hf,hia⟩:=R0.sub i x;have hf':∀ b,(FF F0 (env.set i .un) (σ.set i x) b\/b=a)->(FF F0 env σ b\/b=a):=fun b z=>z.imp (hf b) id;refine ⟨a,ea,R.forget i x,t.pr Pr.refl hf' fun _ z=>z,w,fun z=>nF (hf _ z),fun j c e s=>?_,fun j c e=>?_⟩
 ·rcases get_set e with ⟨_,z⟩ | ⟨n,e⟩
  ·cases z
  ·rw [Hk n] at s;exact hi j c e s
 ·rcases get_set e with ⟨_,z⟩ | ⟨n,e⟩
  ·cases z
  ·obtain ⟨b,s,r⟩:=hr j c e;exact ⟨b,by rw [Hk n];exact s,r.pr Pr.refl hf' (fun b z=>z.imp (hia b) id) fun _ _ z _=>z⟩
theorem vS {i:Nat} {e:XE} (ie:SE K ga gd e):SS K ga gd (.oo i e):=by
 intro env out h F0 H₀ I σ H D R q;simp only [dS] at h;split at h
 ·rename_i d e1 h1;split at h
  ·rename_i hf;cases h;refine ie _ _ _ h1 F0 H₀ I σ H _ R fun v H1 R1 k1 r1=>?_;obtain ⟨s,e,qs⟩:=gr hf;have hi:i < e1.length:=(Hl.mp e).1;have ev:∃ a,v=.ref a:=let ⟨a,e,_⟩:=r1;⟨a,e⟩
   obtain ⟨a,rfl⟩:=ev;have r2:=r1.forget i (some (.ref a)) (fun s' h=>by rw [e] at h;cases h;exact qs);have R2:=Rel.FK (i:=i) (Hs hi) r2;rw [ID,ID] at R2;exact q _ H1 R2 (k1.s.trans (rN e qs ⟨fun _=>nofun,fun _=>nofun⟩))
  ·cases h
 ·cases h
theorem lJ:∀ {is:List Nat} {ds:List PyData} {vs:List V} {env env':En} {σ:St} {Q:St->Hp->Prop},eQ env is ds=some env'->Rel K F0 H₀ I env σ H->DmL K (FF F0 env σ) H ds vs->(∀ σ',Rel K F0 H₀ I env' σ' H->KpS env σ env' σ'->Q σ' H)->gNs is vs σ H Q
 | [],[],vs,env,env',σ,Q,h,R,hd,q=>by
  cases h;exact ⟨hd,q σ R (KpS.refl _ _)⟩
 | [],d :: ds,vs,env,env',σ,Q,h,R,hd,q=>by cases h
 | i :: is,[],vs,env,env',σ,Q,h,R,hd,q=>by cases h
 | i :: is,d :: ds,vs,env,env',σ,Q,h,R,hd,q=>by
  unfold eQ at h;split at h
  ·rename_i hf;obtain ⟨v,r,rfl,h1,h2⟩:=hd;obtain ⟨R1,k1⟩:=R.Dj hf h1;obtain ⟨s,e,qs⟩:=gr hf;refine ⟨v,r,rfl,?_⟩;refine lJ h R1 (h2.mono fun b z=>?_) fun σ' R' k'=>q σ' R' (k1.trans k');rcases z with z | ⟨j,c,e',s'⟩
   ·exact .inl z
   ·rcases get_set e' with ⟨_,y⟩ | ⟨n,e'⟩
    ·cases y
    ·rw [Hk n] at s';exact .inr ⟨j,c,e',s'⟩
  ·cases h
theorem xw {is:List Nat} {e:XE} (ie:SE K ga gd e):SS K ga gd (.Ab is e):=by
 intro env out h F0 H₀ I σ H D R q;simp only [dS] at h;split at h
 ·rename_i rv e1 h1;split at h
  ·rename_i ds hv;split at h
   ·rename_i e2 hset;cases h;refine ie _ _ _ h1 F0 H₀ I σ H _ R fun v H1 R1 k1 r1=>?_;have a1:=r1.av;rw [hv] at a1;obtain ⟨a,xs,rfl,l,z,r⟩:=(show Dm K (FF F0 e1 σ) H1 (.tuple ds) v from a1);have hlen:∀ {is:List Nat} {ds:List PyData} {e e':En},eQ e is ds=some e'->is.length=ds.length:=by
     intro is;induction is with
     | nil=>intro ds e e' h;cases ds with
      | nil=>rfl
      | cons _ _=>cases h
     | cons i is ih=>intro ds e e' h;cases ds with
      | nil=>cases h
      | cons d ds =>
       unfold eQ at h;split at h
       ·rw [HA,HA,ih h]
       ·cases h
    exact ⟨a,xs,rfl,l,by rw [r.len,hlen hset],lJ hset R1 r fun σ' R' k'=>q σ' H1 R' (k1.s.trans k')⟩
   ·cases h
  ·cases h
 ·cases h
theorem xS {e:XE} (ie:SE K ga gd e):SS K ga gd (.drop e):=by
 intro env out h F0 H₀ I σ H D R q;simp only [dS] at h;split at h
 ·rename_i rv e1 h1;cases h;exact ie _ _ _ h1 F0 H₀ I σ H _ R fun v H1 R1 k1 r1=>q σ H1 R1 k1.s
 ·cases h
theorem zQ {e:XE} (ie:SE K ga gd e):SS K ga gd (.ret e):=by
 intro env out h F0 H₀ I σ H D R q;simp only [dS] at h;split at h
 ·rename_i rv e1 h1;cases h;exact ie _ _ _ h1 F0 H₀ I σ H _ R fun v H1 R1 k1 r1=>q v σ H1 R1 k1.s r1
 ·cases h
theorem Bd {c:XT} {a b:XS} (ic:ST K ga gd c) (ia:SS K ga gd a) (ib:SS K ga gd b):SS K ga gd (.ifs c a b):=by
 intro env out h F0 H₀ I σ H D R q;simp only [dS] at h;split at h
 ·rename_i e1 h1;refine ic _ _ _ h1 F0 H₀ I σ H _ R fun H1 R1 k1=>?_;rw [Hv rfl];exact ia _ _ h F0 H₀ I σ H1 D R1 (q.from k1.s)
 ·rename_i e1 h1;refine ic _ _ _ h1 F0 H₀ I σ H _ R fun H1 R1 k1=>?_;rw [Hz (by decide)];exact ib _ _ h F0 H₀ I σ H1 D R1 (q.from k1.s)
 ·cases h
theorem AY {m:tD} {i:Nat} {k e:XE} (ik:SE K ga gd k) (ie:SE K ga gd e):SS K ga gd (.sto m i k e):=by
 intro env out h F0 H₀ I σ H D R q;simp only [dS] at h;split at h
 ·rename_i rv e1 h1;split at h
  ·rename_i x hv;split at h
   ·rename_i d0 hm0;split at h
    ·rename_i rk e2 h2;split at h
     ·rename_i dk d hvk hm;split at h
      ·rename_i d' hf;cases h;refine ie _ _ _ h1 F0 H₀ I σ H _ R fun v H1 R1 k1 r1=>?_;obtain ⟨_,a,s,_⟩:=R1.cu hm0;refine ⟨.ref a,s,?_⟩;refine ik _ _ _ h2 F0 _ _ σ H1 _ R1.rebase fun u H2 S2 k2 r2=>?_;have R2:=R1.aV S2;have a1:=r1.av;rw [hv] at a1;have dx:=R1.mz S2 k2 (show Dm K _ H1 x v from a1);obtain ⟨m2,a',s',f2,t2⟩:=R2.cu hm;rw [s] at s';cases s';refine m.ok K _ H2 d a dk x u v d' _ hf f2 t2 (r2.av.vw R2 hvk) dx fun H3 hk ht=>?_;exact q σ H3 (R2.Fv hm s hk ht) ((k1.trans k2).trans (p4 _ _ _)).s
      ·cases h
     ·cases h
    ·cases h
   ·cases h
  ·cases h
 ·cases h
theorem EW {n:Nat} {c:XT} {b:XS} (ic:ST K ga gd c) (ib:SS K ga gd b):SS K ga gd (.wh n c b):=by
 intro env out h F0 H₀ I σ H D R q;simp only [dS] at h;refine ⟨fun m σ' H'=>∃ env',whL (dT gd c) (dS gd b) m env'=some out/\Rel K F0 H₀ I env' σ' H'/\KpS env σ env' σ',⟨n,env,h,R,KpS.refl _ _⟩,?_⟩;rintro m σ' H' ⟨env',hw,R',k'⟩;cases m with
 | zero=>cases hw
 | succ m =>
  unfold whL at hw;split at hw
  ·rename_i e1 h1;refine ic _ _ _ h1 F0 H₀ I σ' H' _ R' fun H2 R2 k2=>?_;rw [Hv rfl];refine ⟨fun σ3 H3=>∃ env3,whL (dT gd c) (dS gd b) m env3=some out/\Rel K F0 H₀ I env3 σ3 H3/\KpS env σ env3 σ3,fun σ3 H3 z=>⟨m,IZ _,z⟩,?_⟩;split at hw
   ·rename_i e hb;exact ib _ _ hb F0 H₀ I σ' H2 _ R2 fun σ3 H3 R3 k3=>⟨e,hw,R3,(k'.trans k2.s).trans k3⟩
   ·rename_i e hb;exact ib _ _ hb F0 H₀ I σ' H2 _ R2 fun σ3 H3 R3 k3=>⟨e,hw,R3,(k'.trans k2.s).trans k3⟩
   ·rename_i e hb;cases hw;exact ib _ _ hb F0 H₀ I σ' H2 _ R2 fun σ3 H3 R3 k3=>q σ3 H3 R3 ((k'.trans k2.s).trans k3)
   ·rename_i r e hb;cases hw;exact ib _ _ hb F0 H₀ I σ' H2 _ R2 fun v σ3 H3 R3 k3 r3=>q v σ3 H3 R3 ((k'.trans k2.s).trans k3) r3
   ·cases hw
  ·rename_i e1 h1;cases hw;refine ic _ _ _ h1 F0 H₀ I σ' H' _ R' fun H2 R2 k2=>?_;rw [Hz (by decide)];exact q σ' H2 R2 (k'.trans k2.s)
  ·cases hw
end
open PySem
section
variable {K:Fg} {F F' I I' F0:Addr->Prop} {H H' H₀ H1:Hp} {env env' e1:En} {σ σ':St} {ga:Nat->V} {gd:List PyData}
theorem Rel.EG (R:Rel K F0 H₀ I env σ H) (h:∀ b,I b->I' b):Rel K F0 H₀ I' env σ H :=
 ⟨R.len,R.dat,fun i d e=>let ⟨a,s,n,w,t⟩:=R.own i d e;⟨a,s,n,w.imp id (h _),t⟩,fun i d e=>let ⟨a,s,n,w,t⟩:=R.ino i d e;⟨a,s,n,h _ w,t⟩,R.ro,R.sep,R.dom,fun b o e n=>R.cH b o e fun z=>n (h _ z)⟩
theorem Rel.eqF {F1:Addr->Prop} (R:Rel K F0 H₀ I env σ H) (h:∀ b,F0 b↔F1 b):Rel K F1 H₀ I env σ H:=by
 have:F0=F1:=funext fun b=>propext (h b);exact this▸R
theorem Rel.Ek (R:Rel K F0 H₀ I env σ H) {i:Nat} {d:PyData} {a:Addr} (hu:env[i]?=some .un) (s:σ[i]?=some (some (.ref a))) (h:d8 K (FF F0 env σ) (IA env σ) H d a):Rel K F0 H₀ I (env.set i (.ro d)) σ H:=by
 have hi:i < env.length:=(Hl.mp hu).1;have eF:FF F0 (env.set i (.ro d)) σ=FF F0 env σ:=by
  have:=iQ (F0:=F0) (σ:=σ) (s:=.ro d) (x:=some (.ref a)) hu (fun _=>nofun)
  rwa [set_same s] at this
 have eI:IA (env.set i (.ro d)) σ=IA env σ:=by
  have:=pA (σ:=σ) (s:=.ro d) (x:=some (.ref a)) hu (fun _=>⟨nofun,nofun⟩)
  rwa [set_same s] at this
 have mm:∀ j,mu (env.set i (.ro d)) j->mu env j:=fun j h=>by
  obtain ⟨c,e | e⟩:=h
  ·rcases get_set e with ⟨_,z⟩ | ⟨n,e⟩
   ·cases z
   ·exact ⟨c,.inl e⟩
  ·rcases get_set e with ⟨_,z⟩ | ⟨n,e⟩
   ·cases z
   ·exact ⟨c,.inr e⟩
 refine ⟨by rw [HK];exact R.len,fun j c e=>?_,fun j c e=>?_,fun j c e=>?_,fun j c e=>?_,fun j k b h1 h2 h3 h4=>R.sep j k b (mm j h1) (mm k h2) h3 h4,R.dom,R.cH⟩
 ·rw [eF];rcases get_set e with ⟨_,z⟩ | ⟨n,e⟩
  ·cases z
  exact R.dat j c e
 ·rw [eF];rcases get_set e with ⟨_,z⟩ | ⟨n,e⟩
  ·cases z
  exact R.own j c e
 ·rw [eF];rcases get_set e with ⟨_,z⟩ | ⟨n,e⟩
  ·cases z
  exact R.ino j c e
 ·rw [eF,eI];rcases get_set e with ⟨z,y⟩ | ⟨n,e⟩
  ·subst z;cases y;exact ⟨a,s,h⟩
  exact R.ro j c e
theorem Rel.Gi (R:Rel K F0 H₀ I env σ H) {i:Nat} {d:PyData} {a:Addr} (hu:env[i]?=some .un) (s:σ[i]?=some (some (.ref a))) (h:Top K (FF F0 env σ) H d a) (hF:F0 a) (hI:I a) (na:∀ j,mu env j->σ[j]?≠some (some (.ref a)))
  (hro:∀ (j:Nat) (c:PyData),env[j]?=some (.ro c)->∃ b,σ[j]?=some (some (.ref b))/\d8 K (FF F0 env σ) (fun b=>IA env σ b\/b=a) H c b):Rel K F0 H₀ I (env.set i (.ino d)) σ H:=by
 have hi:i < env.length:=(Hl.mp hu).1;have eF:FF F0 (env.set i (.ino d)) σ=FF F0 env σ:=by
  have:=iQ (F0:=F0) (σ:=σ) (s:=.ino d) (x:=some (.ref a)) hu (fun _=>nofun)
  rwa [set_same s] at this
 have mm:∀ j,mu (env.set i (.ino d)) j->i=j\/(mu env j/\i≠j):=fun j h=>by
  obtain ⟨c,e | e⟩:=h
  ·rcases get_set e with ⟨z,_⟩ | ⟨n,e⟩
   ·exact .inl z
   ·exact .inr ⟨⟨c,.inl e⟩,n⟩
  ·rcases get_set e with ⟨z,_⟩ | ⟨n,e⟩
   ·exact .inl z
   ·exact .inr ⟨⟨c,.inr e⟩,n⟩
 have eI:∀ b,IA (env.set i (.ino d)) σ b->IA env σ b\/b=a:=by
  rintro b ⟨j,m,q⟩;rcases mm j m with z | ⟨m',n⟩
  ·subst z;rw [s] at q;cases q;exact .inr rfl
  ·exact .inl ⟨j,m',q⟩
 refine ⟨by rw [HK];exact R.len,fun j c e=>?_,fun j c e=>?_,fun j c e=>?_,fun j c e=>?_,fun j k b h1 h2 h3 h4=>?_,R.dom,R.cH⟩
 ·rw [eF];rcases get_set e with ⟨_,z⟩ | ⟨n,e⟩
  ·cases z
  exact R.dat j c e
 ·rw [eF];rcases get_set e with ⟨_,z⟩ | ⟨n,e⟩
  ·cases z
  exact R.own j c e
 ·rw [eF];rcases get_set e with ⟨z,y⟩ | ⟨n,e⟩
  ·subst z;cases y;exact ⟨a,s,hF,hI,h⟩
  exact R.ino j c e
 ·rw [eF];rcases get_set e with ⟨_,z⟩ | ⟨n,e⟩
  ·cases z
  obtain ⟨b,q,r⟩:=hro j c e;exact ⟨b,q,r.pr Pr.refl (fun _ z=>z) eI fun _ _ z _=>z⟩
 ·rcases mm j h1 with z1 | ⟨m1,n1⟩
  ·rcases mm k h2 with z2 | ⟨m2,n2⟩
   ·rw [<- z1,<-z2]
   ·rw [<- z1,s] at h3;cases h3;exact absurd h4 (na k m2)
  ·rcases mm k h2 with z2 | ⟨m2,n2⟩
   ·rw [<- z2,s] at h4;cases h4;exact absurd h3 (na j m1)
   ·exact R.sep j k b m1 m2 h3 h4
structure Lk (K:Fg) (F0:Addr->Prop) (H₀:Hp) (I:Addr->Prop) (e1:En) (σ:St) (H1:Hp) (lock:Option Nat) (F1:Addr->Prop):Prop where
 rel:Rel K F1 H₀ I (bh e1 lock) σ H1
 ff:FF F1 (bh e1 lock) σ=FF F0 e1 σ
 ia:∀ b,IA (bh e1 lock) σ b->IA e1 σ b/\∀ i,lock=some i->mu e1 i->σ[i]?≠some (some (.ref b))
 un:∀ env' σ' H',Rel K F1 H1 (IA (bh e1 lock) σ) env' σ' H'->KpS (bh e1 lock) σ env' σ'->Rel K F0 H₀ I (ay e1 lock env') σ' H'/\KpS e1 σ (ay e1 lock env') σ'/\FF F0 (ay e1 lock env') σ'=FF F1 env' σ'
theorem Lk.oX (R:Rel K F0 H₀ I e1 σ H1) {lock:Option Nat} (h1:bh e1 lock=e1) (h2:∀ env',ay e1 lock env'=env') (h3:∀ i,lock=some i->¬mu e1 i):Lk K F0 H₀ I e1 σ H1 lock F0 :=
 ⟨by rw [h1];exact R,by rw [h1],fun b hb=>by rw [h1] at hb;exact ⟨hb,fun i hi m=>absurd m (h3 i hi)⟩,fun env' σ' H' S k=>by rw [h1] at S k;rw [h2];exact ⟨R.aV S,k,rfl⟩⟩
theorem Lk.AS (R:Rel K F0 H₀ I e1 σ H1) {i:Nat} {d:PyData} {a:Addr} (e:e1[i]?=some (.own d)\/e1[i]?=some (.ino d)) (s:σ[i]?=some (some (.ref a))):Lk K F0 H₀ I e1 σ H1 (some i) (fun b=>F0 b\/b=a):=by
 have hi:i < e1.length:=by rcases e with e | e <;> exact (Hl.mp e).1
 have mi:mu e1 i:=⟨d,e⟩;have el:bh e1 (some i)=e1.set i (.ro d):=by simp only [bh];rcases e with e | e <;> rw [e]
 have hm:aK e1 i=some d:=by unfold aK;rcases e with e | e <;> rw [e]
 obtain ⟨_,a',s',fa,ta⟩:=R.cu hm;rw [s] at s';cases s';have hu:(e1.set i .un)[i]?=some .un:=Hs hi;have mmu:∀ j,mu (e1.set i .un) j->mu e1 j/\i≠j:=fun j h=>by
  obtain ⟨c,e | e⟩:=h
  ·rcases get_set e with ⟨_,z⟩ | ⟨n,e⟩
   ·cases z
   ·exact ⟨⟨c,.inl e⟩,n⟩
  ·rcases get_set e with ⟨_,z⟩ | ⟨n,e⟩
   ·cases z
   ·exact ⟨⟨c,.inr e⟩,n⟩
 have nIA:¬IA (e1.set i .un) σ a:=fun ⟨j,m,q⟩=>(mmu j m).2 (R.sep i j a mi (mmu j m).1 s q);have eFu:FF (fun b=>F0 b\/b=a) (e1.set i .un) σ=FF F0 e1 σ:=by
  funext b;apply propext;constructor
  ·rintro ((h | h) | ⟨j,c,e',q⟩)
   ·exact .inl h
   ·exact h▸fa
   ·rcases get_set e' with ⟨_,z⟩ | ⟨n,e'⟩
    ·cases z
    ·exact .inr ⟨j,c,e',q⟩
  ·rintro (h | ⟨j,c,e',q⟩)
   ·exact .inl (.inl h)
   ·by_cases n:i=j
    ·subst n;rw [s] at q;cases q;exact .inl (.inr rfl)
    ·exact .inr ⟨j,c,by rw [Hk n];exact e',q⟩
 have Ru:Rel K (fun b=>F0 b\/b=a) H₀ I (e1.set i .un) σ H1:=by
  rcases e with e | e
  ·obtain ⟨a2,s2,r⟩:=R.take e;rw [s] at s2;cases s2;obtain ⟨a3,ea,R',_⟩:=r;cases ea;exact R'
  ·have:=R.forget i (some (.ref a));rw [set_same s] at this;obtain ⟨a2,s2,f2,_⟩:=R.ino i d e;rw [s] at s2;cases s2;exact this.eqF fun b=>⟨.inl,fun z=>z.elim id fun z=>z▸f2⟩
 have Rl:Rel K (fun b=>F0 b\/b=a) H₀ I (e1.set i (.ro d)) σ H1:=by
  have:=Ru.Ek (d:=d) hu s (by rw [eFu];exact ta.ro nIA)
  rwa [ID] at this
 have eFl:FF (fun b=>F0 b\/b=a) (e1.set i (.ro d)) σ=FF F0 e1 σ:=by
  rw [<- eFu];have:=iQ (F0:=fun b=>F0 b\/b=a) (σ:=σ) (s:=.ro d) (x:=some (.ref a)) hu (fun _=>nofun)
  rwa [set_same s,ID] at this
 have eIl:IA (e1.set i (.ro d)) σ=IA (e1.set i .un) σ:=by
  have:=pA (σ:=σ) (s:=.ro d) (x:=some (.ref a)) hu (fun _=>⟨nofun,nofun⟩)
  rwa [set_same s,ID] at this
 have iaSub:∀ b,IA (e1.set i (.ro d)) σ b->IA e1 σ b:=fun b hb=>by rw [eIl] at hb;obtain ⟨j,m,q⟩:=hb;exact ⟨j,(mmu j m).1,q⟩
 refine ⟨by rw [el];exact Rl,by rw [el];exact eFl,fun b hb=>?_,fun env' σ' H' S k=>?_⟩
 ·rw [el,eIl] at hb;obtain ⟨j,m,q⟩:=hb;refine ⟨⟨j,(mmu j m).1,q⟩,fun i' hi' mi' si'=>?_⟩;cases hi';exact (mmu j m).2 (R.sep i j b mi (mmu j m).1 si' q)
 ·rw [el] at S k;have hro:(e1.set i (.ro d))[i]?=some (.ro d):=Hs hi;obtain ⟨si,he,hv,hs⟩:=k.2 i _ hro;have hv:si=.ro d:=hv;subst hv;have hs:=(hs trivial).trans s;have hi':i < env'.length:=(Hl.mp he).1;have na1:¬IA (e1.set i (.ro d)) σ a:=by rw [eIl];exact nIA
  have keepA:∀ o,H1 a=some o->H' a=some o:=fun o z=>S.cH a o z na1;have fSub:∀ b,FF (fun b=>F0 b\/b=a) env' σ' b->(FF F0 e1 σ b\/H1 b=none):=fun b z=>by
   rcases z with (z | z) | ⟨j,c,e',q⟩
   ·exact .inl (.inl z)
   ·exact .inl (z▸fa)
   ·obtain ⟨b',q',_,w,_⟩:=S.own j c e';rw [q] at q';cases q';rcases w with w | w
    ·exact .inr w
    ·exact .inl (R.ia (iaSub b w))
  have pF:Pr (fun b=>FF F0 e1 σ b\/H1 b=none) H1 H':=(R.mx fun b o z n=>S.cH b o z fun y=>n (iaSub b y)).FU fun b z=>.inl z;have tA:Top K (FF (fun b=>F0 b\/b=a) env' σ') H' d a:=ta.aO.pr pF fSub keepA;have iaEnd:∀ b,IA env' σ' b->(IA e1 σ b\/H1 b=none):=fun b z=>by
   rcases S.iaI z with w | w
   ·exact .inr w
   ·exact .inl (iaSub b w)
  have roOld:∀ (j:Nat) (c:PyData),env'[j]?=some (.ro c)->i≠j->∃ b,σ'[j]?=some (some (.ref b))/\d8 K (FF (fun b=>F0 b\/b=a) env' σ') (fun b=>IA env' σ' b\/b=a) H' c b:=fun j c e' n=>by
   have hj:j < e1.length:=by
    have:=(Hl.mp e').1;rw [k.1,HK] at this;exact this
   have e0:(e1.set i (.ro d))[j]?=some e1[j]:=by rw [Hk n];exact Hj hj
   obtain ⟨s',h',v',w'⟩:=k.2 j _ e0;rw [e'] at h';cases h';have es:e1[j]=.ro c:=by
    cases hh:e1[j] with
    | ino _=>rw [hh] at v';obtain ⟨_,z⟩:=v';cases z
    | ro c'=>rw [hh] at v';have:Sl.ro c=.ro c':=v';rw [this]
    | un=>rw [hh] at v';exact absurd rfl (v'.2 c)
    | dat _=>rw [hh] at v';exact absurd rfl (v'.2 c)
    | own _=>rw [hh] at v';exact absurd rfl (v'.2 c)
   have er:e1[j]?=some (.ro c):=by rw [Hj hj,es]
   obtain ⟨b,q,r⟩:=R.ro j c er;rw [es] at w';refine ⟨b,(w' trivial).trans q,r.aO.pr pF fSub (fun b z=>?_) fun b o z n=>S.cH b o z fun y=>n (.inl (iaSub b y))⟩;rcases z with z | z
   ·exact iaEnd b z
   ·exact .inl (z▸⟨i,mi,s⟩)
  have inoNe:∀ (j:Nat) (c:PyData),env'[j]?=some (.ino c)->σ'[j]?≠some (some (.ref a)):=fun j c e' q=>by
   have n:i≠j:=fun z=>by subst z;rw [he] at e';cases e'
   have hj:j < e1.length:=by
    have:=(Hl.mp e').1;rw [k.1,HK] at this;exact this
   have e0:(e1.set i (.ro d))[j]?=some e1[j]:=by rw [Hk n];exact Hj hj
   obtain ⟨s',h',v',w'⟩:=k.2 j _ e0;rw [e'] at h';cases h';have es:∃ c',e1[j]=.ino c':=by
    cases hh:e1[j] with
    | ino c'=>exact ⟨c',rfl⟩
    | ro c'=>rw [hh] at v';cases v'
    | un=>rw [hh] at v';exact absurd rfl (v'.1 c)
    | dat _=>rw [hh] at v';exact absurd rfl (v'.1 c)
    | own _=>rw [hh] at v';exact absurd rfl (v'.1 c)
   obtain ⟨c',es⟩:=es;have er:e1[j]?=some (.ino c'):=by rw [Hj hj,es]
   rw [es] at w';rw [w' trivial] at q;exact n (R.sep i j a mi ⟨c',.inr er⟩ s q)
  have Sf:Rel K (fun b=>F0 b\/b=a) H1 (IA e1 σ) (env'.set i .un) σ' H':=by
   have:=S.forget i (some (.ref a));rw [set_same hs] at this;exact this.EG iaSub
  have hu':(env'.set i .un)[i]?=some .un:=Hs hi';have eFe:FF (fun b=>F0 b\/b=a) (env'.set i .un) σ'=FF (fun b=>F0 b\/b=a) env' σ':=by
   funext b;apply propext;constructor
   ·rintro (h | ⟨j,c,e',q⟩)
    ·exact .inl h
    ·rcases get_set e' with ⟨_,z⟩ | ⟨n,e'⟩
     ·cases z
     ·exact .inr ⟨j,c,e',q⟩
   ·rintro (h | ⟨j,c,e',q⟩)
    ·exact .inl h
    ·have n:i≠j:=fun z=>by subst z;rw [he] at e';cases e'
     exact .inr ⟨j,c,by rw [Hk n];exact e',q⟩
  have iaE:∀ b,IA (env'.set i .un) σ' b->IA env' σ' b:=by
   rintro b ⟨j,⟨c,m⟩,q⟩;refine ⟨j,⟨c,?_⟩,q⟩;rcases m with m | m
   ·rcases get_set m with ⟨_,z⟩ | ⟨n,m⟩
    ·cases z
    ·exact .inl m
   ·rcases get_set m with ⟨_,z⟩ | ⟨n,m⟩
    ·cases z
    ·exact .inr m
  have kEnd:∀ t:Sl,Evs (e1[i]) t->KpS e1 σ (env'.set i t) σ':=fun t ht=>by
   refine ⟨by rw [HK,k.1,HK],fun j s0 e0=>?_⟩;by_cases z:i=j
   ·subst z;rw [Hj hi] at e0;cases e0;exact ⟨t,Hs hi',ht,fun _=>hs.trans s.symm⟩
   ·obtain ⟨s',h',v',w'⟩:=k.2 j s0 (by rw [Hk z];exact e0);exact ⟨s',by rw [Hk z];exact h',v',w'⟩
  rcases e with e | e
  ·have eu:ay e1 (some i) env'=env'.set i (.own d):=by simp only [ay];rw [e,he]
   obtain ⟨a2,s2,nF,_⟩:=R.own i d e;rw [s] at s2;cases s2;have nFF:¬FF F0 (env'.set i .un) σ' a:=by
    rintro (h | ⟨j,c,e',q⟩)
    ·exact nF h
    ·obtain ⟨b',q',n',_⟩:=Sf.own j c e';rw [q] at q';cases q';exact n' (.inr rfl)
   have rv:dB K F0 H1 (IA e1 σ) (env'.set i .un) σ' H' (.frs d) (.ref a):=by
    refine ⟨a,rfl,Sf,?_,.inr ⟨i,mi,s⟩,nFF,fun j c e' q=>?_,fun j c e'=>?_⟩
    ·rw [<- ey,eFe];exact tA
    ·rcases get_set e' with ⟨_,z⟩ | ⟨n,e'⟩
     ·cases z
     ·exact inoNe j c e' q
    ·rcases get_set e' with ⟨_,z⟩ | ⟨n,e'⟩
     ·cases z
     ·obtain ⟨b,q,r⟩:=roOld j c e' n;refine ⟨b,q,?_⟩;rw [<- ey,eFe];exact r.pr Pr.refl (fun _ z=>z) (fun b z=>z.imp (iaE b) id) fun _ _ z _=>z
   have Rn:=Rel.FK hu' rv;rw [ID,set_same hs] at Rn;rw [eu];refine ⟨R.aV Rn,kEnd _ ?_,?_⟩
   ·have:e1[i]=.own d:=by have:=Hj hi;rw [e] at this;exact (HV this).symm
    rw [this];exact ⟨fun _=>nofun,fun _=>nofun⟩
   ·rw [<- eFe,ey];funext b;apply propext;constructor
    ·rintro (h | ⟨j,c,e',q⟩)
     ·exact .inl (.inl h)
     ·rcases get_set e' with ⟨z,_⟩ | ⟨n,e'⟩
      ·subst z;rw [hs] at q;cases q;exact .inr rfl
      ·exact .inl (.inr ⟨j,c,by rw [Hk n];exact e',q⟩)
    ·rintro ((h | ⟨j,c,e',q⟩) | rfl)
     ·exact .inl h
     ·rcases get_set e' with ⟨_,z⟩ | ⟨n,e'⟩
      ·cases z
      ·exact .inr ⟨j,c,by rw [Hk n];exact e',q⟩
     ·exact .inr ⟨i,d,Hs hi',hs⟩
  ·have eu:ay e1 (some i) env'=env'.set i (.ino d):=by simp only [ay];rw [e,he]
   obtain ⟨a2,s2,f2,i2,_⟩:=R.ino i d e;rw [s] at s2;cases s2;have Sf2:Rel K F0 H1 (IA e1 σ) (env'.set i .un) σ' H':=Sf.eqF fun b=>⟨fun z=>z.elim id fun z=>z▸f2,.inl⟩;have eF0:FF F0 (env'.set i .un) σ'=FF (fun b=>F0 b\/b=a) env' σ':=by
    rw [<- eFe];have:(fun b=>F0 b\/b=a)=F0:=funext fun b=>propext ⟨fun z=>z.elim id fun z=>z▸f2,.inl⟩;rw [this]
   have Rn:=Sf2.Gi (d:=d) hu' hs (by rw [eF0];exact tA) f2 ⟨i,mi,s⟩ (fun j m q=>?_) (fun j c e'=>?_)
   ·rw [ID] at Rn;rw [eu];refine ⟨R.aV Rn,kEnd _ ?_,?_⟩
    ·have:e1[i]=.ino d:=by have:=Hj hi;rw [e] at this;exact (HV this).symm
     rw [this];exact ⟨d,rfl⟩
    ·rw [<- eF0];have:=iQ (F0:=F0) (σ:=σ') (s:=.ino d) (x:=some (.ref a)) hu' (fun _=>nofun)
     rwa [set_same hs,ID] at this
   ·obtain ⟨c,m | m⟩:=m
    ·obtain ⟨b',q',n',_⟩:=Sf.own j c m;rw [q] at q';cases q';exact n' (.inr rfl)
    ·rcases get_set m with ⟨_,z⟩ | ⟨n,m⟩
     ·cases z
     ·exact inoNe j c m q
   ·rcases get_set e' with ⟨_,z⟩ | ⟨n,e'⟩
    ·cases z
    ·obtain ⟨b,q,r⟩:=roOld j c e' n;refine ⟨b,q,?_⟩;rw [eF0];exact r.pr Pr.refl (fun _ z=>z) (fun b z=>z.imp (iaE b) id) fun _ _ z _=>z
theorem Lk.of (R:Rel K F0 H₀ I e1 σ H1) (lock:Option Nat):∃ F1,Lk K F0 H₀ I e1 σ H1 lock F1/\(lkd e1 lock=false->F1=F0/\bh e1 lock=e1/\∀ env',ay e1 lock env'=env'):=by
 cases lock with
 | none=>exact ⟨F0,Lk.oX R rfl (fun _=>rfl) (fun i z=>by cases z),fun _=>⟨rfl,rfl,fun _=>rfl⟩⟩
 | some i =>
  cases e:e1[i]? with
  | none =>
   have h1:bh e1 (some i)=e1:=by simp only [bh];rw [e]
   have h2:∀ env',ay e1 (some i) env'=env':=fun env'=>by simp only [ay];rw [e]
   exact ⟨F0,Lk.oX R h1 h2 (fun j z m=>by cases z;obtain ⟨d,m | m⟩:=m <;> (rw [e] at m;cases m)),fun _=>⟨rfl,h1,h2⟩⟩
  | some s =>
   cases s with
   | own d =>
    obtain ⟨a,q,_⟩:=R.own i d e;exact ⟨_,Lk.AS R (.inl e) q,fun z=>by simp only [lkd] at z;rw [e] at z;cases z⟩
   | ino d =>
    obtain ⟨a,q,_⟩:=R.ino i d e;exact ⟨_,Lk.AS R (.inr e) q,fun z=>by simp only [lkd] at z;rw [e] at z;cases z⟩
   | un =>
    have h1:bh e1 (some i)=e1:=by simp only [bh];rw [e]
    have h2:∀ env',ay e1 (some i) env'=env':=fun env'=>by simp only [ay];rw [e]
    exact ⟨F0,Lk.oX R h1 h2 (fun j z m=>by cases z;obtain ⟨d,m | m⟩:=m <;> (rw [e] at m;cases m)),fun _=>⟨rfl,h1,h2⟩⟩
   | dat d =>
    have h1:bh e1 (some i)=e1:=by simp only [bh];rw [e]
    have h2:∀ env',ay e1 (some i) env'=env':=fun env'=>by simp only [ay];rw [e]
    exact ⟨F0,Lk.oX R h1 h2 (fun j z m=>by cases z;obtain ⟨d,m | m⟩:=m <;> (rw [e] at m;cases m)),fun _=>⟨rfl,h1,h2⟩⟩
   | ro d =>
    have h1:bh e1 (some i)=e1:=by simp only [bh];rw [e]
    have h2:∀ env',ay e1 (some i) env'=env':=fun env'=>by simp only [ay];rw [e]
    exact ⟨F0,Lk.oX R h1 h2 (fun j z m=>by cases z;obtain ⟨d,m | m⟩:=m <;> (rw [e] at m;cases m)),fun _=>⟨rfl,h1,h2⟩⟩
theorem qx {b:PyData->En->Option Out} {ds:List PyData} {out:Out} {J:It} {F1 I1:Addr->Prop} {el:En} {g:TG} {tb:TS} {D:Ends} (R:Rel K F1 H1 I1 el σ H1) (hI:I1=IA el σ) (hit:se K (FF F1 el σ) I1 H1 J ds) (h:forL b ds el=some out)
  (turn:∀ d o env' σ' H' x,b d env'=some o->Rel K F1 H1 I1 env' σ' H'->KpS el σ env' σ'->Dm K (FF F1 env' σ') H' d x->∀ D':Ends,kH K F1 H1 I1 env' σ' D' o->g x σ' H' fun σ2 H2=>tb D' σ2 H2)
  (q:kH K F1 H1 I1 el σ D out) :
  ∃ W:Nat->Nat->St->Hp->Prop,(∃ m,W 0 m σ H1)/\∀ i m σ H,W i m σ H ->
   (J.stop i H/\D.nx σ H)\/(J.go i H/\∃ N:St->Hp->Prop,(∀ σ' H',N σ' H'->∃ m',m' < m/\W (i+1) m' σ' H')/\∀ x H',J.yld i H x H'->g x σ H' fun σ2 H2=>tb { D with nx:=N,ct:=N,bk:=D.nx } σ2 H2):=by
 subst hI;obtain ⟨hvl,hturn⟩:=hit;refine ⟨fun i m σ' H'=>m=ds.length - i/\i<=ds.length/\∃ env',forL b (ds.drop i) env'=some out/\Rel K F1 H1 (IA el σ) env' σ' H'/\KpS el σ env' σ',⟨ds.length,rfl,Ip _,el,h,R,KpS.refl _ _⟩,?_⟩;rintro i m σ' H' ⟨rfl,hi,env',hf,R',k'⟩;have hkept:∀ b o,H1 b=some o->¬IA el σ b->H' b=some o:=R'.cH;by_cases hlt:i < ds.length
 ·right;obtain ⟨go,yld⟩:=(hturn H' hkept i).1 (by omega);refine ⟨go,fun σ3 H3=>(ds.length - (i+1))=ds.length - (i+1)/\i+1<=ds.length/\∃ env',forL b (ds.drop (i+1)) env'=some out/\Rel K F1 H1 (IA el σ) env' σ3 H3/\KpS el σ env' σ3,fun σ3 H3 z=>⟨ds.length - (i+1),by omega,z⟩,fun x H'' hx=>?_⟩;obtain ⟨d,hd,hy9⟩:=yld x H'' hx;have fSub:∀ b,FF F1 env' σ' b->(FF F1 el σ b\/H1 b=none):=fun b z=>by
   rcases z with z | ⟨j,c,e',s'⟩
   ·exact .inl (.inl z)
   ·obtain ⟨b',q',_,w,_⟩:=R'.own j c e';rw [s'] at q';cases q';exact w.elim .inr fun w=>.inl (R.ia w)
  obtain ⟨sm,hdx'⟩:=hy9.dm (F2:=FF F1 env' σ') fun d v h=>h.aO.pr ((R.mx hkept).FU fun b z=>.inl z) fSub;have R':=R'.same sm;have ed:ds.drop i=d :: ds.drop (i+1):=by
   rw [JB hlt];obtain ⟨_,z⟩:=Hl.mp hd;rw [z]
  rw [ed] at hf;unfold forL at hf;split at hf
  ·rename_i e hb;exact turn d _ env' σ' H'' x hb R' k' hdx' _ fun σ3 H3 R3 k3=>⟨rfl,by omega,e,hf,R3,k'.trans k3⟩
  ·rename_i e hb;exact turn d _ env' σ' H'' x hb R' k' hdx' _ fun σ3 H3 R3 k3=>⟨rfl,by omega,e,hf,R3,k'.trans k3⟩
  ·rename_i e hb;cases hf;exact turn d _ env' σ' H'' x hb R' k' hdx' _ fun σ3 H3 R3 k3=>q σ3 H3 R3 (k'.trans k3)
  ·rename_i r e hb;cases hf;exact turn d _ env' σ' H'' x hb R' k' hdx' _ fun v σ3 H3 R3 k3 r3=>q v σ3 H3 R3 (k'.trans k3) r3
  ·cases hf
 ·left;have e:i=ds.length:=by omega
  subst e;rw [List.drop_length] at hf;unfold forL at hf;cases hf;exact ⟨(hturn H' hkept _).2 (by omega),q σ' H' R' k'⟩
theorem dB.unl {rv:RV} {v:V} {F1:Addr->Prop} {e2:En} (h:dB K F1 H₀ I env σ H rv v) (hn:∀ d,rv≠.frs d) (eF:FF F0 e2 σ=FF F1 env σ) {H₁:Hp} {I₁:Addr->Prop}:dB K F0 H₁ I₁ e2 σ H rv v:=by
 cases rv with
 | dat d=>show Dm K _ H d v;rw [eF];exact h
 | bor i=>exact h
 | frs d=>exact absurd rfl (hn d)
theorem dB.CT {rv:RV} {v:V} (h:dB K F0 H₀ I env σ H rv v):dB K F0 H₀ I env σ H (rv.soft true) v:=by
 cases rv with
 | dat d=>exact h
 | bor i=>exact h
 | frs d=>exact h.av
theorem dB.aV {rv:RV} {v:V} (R:Rel K F0 H₀ I env σ H) (h:dB K F0 H (IA env σ) env' σ' H' rv v):dB K F0 H₀ I env' σ' H' rv v:=by
 cases rv with
 | dat d=>exact h
 | bor i=>exact h
 | frs d =>
  obtain ⟨a,ea,S,t,w,nF,hi,hr⟩:=h;have S0:=R.aV (S.less hi);refine ⟨a,ea,⟨S.len,S.dat,fun i c e=>?_,fun i c e=>?_,S.ro,S.sep,S.dom,S0.cH⟩,t,R.oi w,nF,hi,hr⟩
  ·obtain ⟨b,s,n,w',t'⟩:=S.own i c e;exact ⟨b,s,n,R.oi w',t'⟩
  ·obtain ⟨b,s,n,w',t'⟩:=S.ino i c e;obtain ⟨b2,s2,_,i2,_⟩:=S0.ino i c e;rw [s] at s2;cases s2;exact ⟨b,s,n,i2,t'⟩
theorem Lk.out {lock:Option Nat} {F1:Addr->Prop} {D:Ends} {out:Out} (R1:Rel K F0 H₀ I e1 σ H1) (L:Lk K F0 H₀ I e1 σ H1 lock F1) (hno:lkd e1 lock=false->F1=F0/\bh e1 lock=e1/\∀ env',ay e1 lock env'=env')
  (q:kH K F0 H₀ I e1 σ D (out.map (lkd e1 lock) (ay e1 lock))):kH K F1 H1 (IA (bh e1 lock) σ) (bh e1 lock) σ D out:=by
 cases out with
 | nx e=>exact fun σ' H' R' k'=>let ⟨A,B,_⟩:=L.un e σ' H' R' k';q σ' H' A B
 | bk e=>exact fun σ' H' R' k'=>let ⟨A,B,_⟩:=L.un e σ' H' R' k';q σ' H' A B
 | ct e=>exact fun σ' H' R' k'=>let ⟨A,B,_⟩:=L.un e σ' H' R' k';q σ' H' A B
 | rt rv e =>
  intro v σ' H' R' k' r;obtain ⟨A,B,C⟩:=L.un e σ' H' R' k';refine q v σ' H' A B ?_;cases hl:lkd e1 lock with
  | true=>exact r.CT.unl (fun d z=>by cases rv <;> cases z) C
  | false =>
   obtain ⟨rfl,h1,h2⟩:=hno hl;rw [h1] at r;rw [h2];have:rv.soft false=rv:=by cases rv <;> rfl
   rw [this];exact r.aV R1
theorem E8 {i:Nat} {it:XI} {b:XS} (ii:SI K ga gd it) (ib:SS K ga gd b):SS K ga gd (.fr i it b):=by
 intro env out h F0 H₀ I σ H D R q;simp only [dS] at h;split at h
 ·rename_i ds lock e1 h1;cases ho:forL (iN i (dS gd b)) ds (bh e1 lock) with
  | none=>rw [ho] at h;cases h
  | some o =>
   rw [ho] at h;cases h;refine ii _ _ _ _ h1 F0 H₀ I σ H _ R fun J H1 R1 k1 _ hit=>?_;obtain ⟨F1,L,hno⟩:=Lk.of R1 lock;have Rb:=L.rel.rebase;refine qx Rb rfl ?_ ho ?_ (L.out R1 hno (q.from k1.s))
   ·rw [L.ff];obtain ⟨a2,a3⟩:=hit;exact ⟨a2,fun H' hk=>a3 H' fun b o e n=>hk b o e fun z=>n (L.ia b z)⟩
   ·intro d o env' σ' H' x hb R' k' hd D' hD;unfold iN at hb;split at hb
    ·rename_i hf;obtain ⟨R2,k2⟩:=R'.Dj hf hd;exact ib _ _ hb _ _ _ _ H' D' R2 (hD.from k2)
    ·cases hb
 ·cases h
theorem zz {is:List Nat} {it:XI} {b:XS} (ii:SI K ga gd it) (ib:SS K ga gd b):SS K ga gd (.frT is it b):=by
 intro env out h F0 H₀ I σ H D R q;simp only [dS] at h;split at h
 ·rename_i ds lock e1 h1
  ·obtain ⟨o,ho,e0⟩:=HC.mp h;subst e0;refine ii _ _ _ _ h1 F0 H₀ I σ H _ R fun J H1 R1 k1 _ hit=>?_;obtain ⟨F1,L,hno⟩:=Lk.of R1 lock;have Rb:=L.rel.rebase;refine qx Rb rfl ?_ ho ?_ (L.out R1 hno (q.from k1.s))
   ·rw [L.ff];obtain ⟨a2,a3⟩:=hit;exact ⟨a2,fun H' hk=>a3 H' fun b o e n=>hk b o e fun z=>n (L.ia b z)⟩
   ·intro d o env' σ' H' x hb R' k' hd D' hD;unfold gQ at hb;split at hb
    ·rename_i xs;split at hb
     ·rename_i e2 hset;obtain ⟨a,vs,rfl,l,z,r⟩:=hd;have hlen:∀ {is:List Nat} {ds:List PyData} {e e':En},eQ e is ds=some e'->is.length=ds.length:=by
       intro is;induction is with
       | nil=>intro ds e e' h;cases ds with
        | nil=>rfl
        | cons _ _=>cases h
       | cons i is ih=>intro ds e e' h;cases ds with
        | nil=>cases h
        | cons d ds =>
         unfold eQ at h;split at h
         ·rw [HA,HA,ih h]
         ·cases h
      exact ⟨a,vs,rfl,l,by rw [r.len,hlen hset],lJ hset R' r fun σ2 R2 k2=>ib _ _ hb _ _ _ _ H' D' R2 (hD.from k2)⟩
     ·cases hb
    ·cases hb
 ·cases h
theorem sS (hg:∀ g d,gd[g]?=some d->∀ F H,Dm K F H d (ga g)):∀ s:XS,SS K ga gd s
 | .skip=>fun env out h F0 H₀ I σ H D R q=>by cases h;exact q σ H R (KpS.refl _ _)
 | .seq a b=>yT (sS hg a) (sS hg b)
 | .bx i e=>xy (sE hg e) | .oo i e=>vS (sE hg e) | .Ab is e=>xw (sE hg e) | .drop e=>xS (sE hg e) | .ret e=>zQ (sE hg e)
 | .Cz=>fun env out h F0 H₀ I σ H D R q=>by cases h;exact q .non σ H R (KpS.refl _ _) rfl
 | .ifs c a b=>Bd (sT hg c) (sS hg a) (sS hg b)
 | .fr i it b=>E8 (sI hg it) (sS hg b) | .frT is it b=>zz (sI hg it) (sS hg b) | .wh n c b=>EW (sT hg c) (sS hg b)
 | .brk=>fun env out h F0 H₀ I σ H D R q=>by cases h;exact q σ H R (KpS.refl _ _)
 | .cnt=>fun env out h F0 H₀ I σ H D R q=>by cases h;exact q σ H R (KpS.refl _ _)
 | .nev=>fun env out h F0 H₀ I σ H D R q=>by cases h
 | .sto m i k e=>AY (sE hg k) (sE hg e)
end
open PySem
section
variable {K:Fg} {F F' G I I' F0:Addr->Prop} {H H' H₀ H1:Hp} {env env' e1:En} {σ σ':St} {ga:Nat->V} {gd:List PyData}
theorem bQ:∀ {ms:List PM} {ds:List PyData} {n:Nat},ds.length=ms.length->ms.length<=n->(ak ms ds n).length=n
 | [],[],n,_,_=>by simp [ak]
 | [],_ :: _,n,h,_=>by cases h
 | _ :: _,[],n,h,_=>by cases h
 | m :: ms,d :: ds,n,h,hn=>by
  have ih:=bQ (ms:=ms) (ds:=ds) (n:=n - 1) (by simpa using h) (by simp at hn;omega);simp at hn;cases m <;> (simp only [ak,HA,ih];omega)
theorem bf.len:∀ {ms:List PM} {ds:List PyData} {vs:List V} {is:List Addr},bf K G I H ms ds vs is->ds.length=ms.length/\vs.length=ms.length
 | [],[],[],_,_=>⟨rfl,rfl⟩
 | [],[],_ :: _,_,h=>by exact absurd h id
 | [],_ :: _,_,_,h=>by exact absurd h id
 | m :: ms,[],_,_,h=>by cases m <;> exact absurd h id
 | m :: ms,d :: ds,[],_,h=>by cases m <;> exact absurd h id
 | .dat :: ms,d :: ds,v :: vs,is,h=>by obtain ⟨a,b⟩:=bf.len h.2;exact ⟨by simp [a],by simp [b]⟩
 | .bor :: ms,d :: ds,v :: vs,is,h=>by obtain ⟨a,b⟩:=bf.len h.2;exact ⟨by simp [a],by simp [b]⟩
 | .ino :: ms,d :: ds,v :: vs,is,h=>by obtain ⟨_,_,_,_,_,_,_,h⟩:=h;obtain ⟨a,b⟩:=bf.len h;exact ⟨by simp [a],by simp [b]⟩
def At (K:Fg) (G I:Addr->Prop) (H:Hp) (is:List Addr) (s:Sl) (x:Option V):Prop:=match s with
 | .un=>True
 | .dat d=>∃ v,x=some v/\Dm K G H d v
 | .ino d=>∃ a,x=some (.ref a)/\a∈is/\G a/\Top K G H d a
 | .ro d=>∃ a,x=some (.ref a)/\d8 K G I H d a
 | .own _=>False
theorem At.more {is is':List Addr} {s:Sl} {x:Option V} (h:At K G I H is s x) (q:∀ a∈is,a∈is'):At K G I H is' s x:=by
 cases s with
 | ino d=>obtain ⟨a,e,m,r⟩:=h;exact ⟨a,e,q a m,r⟩
 | _=>exact h
theorem bB:∀ {ms:List PM} {ds:List PyData} {vs:List V} {is:List Addr} {n:Nat} {tl:St},bf K G I H ms ds vs is->∀ {i:Nat} {s:Sl},(ak ms ds n)[i]?=some s->∀ {x:Option V},(vs.map some++tl)[i]?=some x->At K G I H is s x
 | [],[],[],is,n,tl,h,i,s,e,x,_=>by
  simp only [ak,List.getElem?_replicate] at e;split at e
  ·cases e;trivial
  ·cases e
 | [],[],_ :: _,_,_,_,h,_,_,_,_,_=>by exact absurd h id
 | [],_ :: _,_,_,_,_,h,_,_,_,_,_=>by exact absurd h id
 | m :: ms,[],_,_,_,_,h,_,_,_,_,_=>by cases m <;> exact absurd h id
 | m :: ms,d :: ds,[],_,_,_,h,_,_,_,_,_=>by cases m <;> exact absurd h id
 | .dat :: ms,d :: ds,v :: vs,is,n,tl,h,0,s,e,x,ex=>by
  simp [ak] at e ex;subst e ex;exact ⟨v,rfl,h.1⟩
 | .dat :: ms,d :: ds,v :: vs,is,n,tl,h,i+1,s,e,x,ex=>by
  simp [ak] at e;exact bB h.2 e (by simpa using ex)
 | .bor :: ms,d :: ds,v :: vs,is,n,tl,h,0,s,e,x,ex=>by
  simp [ak] at e ex;subst e ex;have h1:yd K G I H d v:=h.1;cases d <;> first | exact h1 | exact ⟨v,rfl,h1⟩ | (obtain ⟨a,rfl,r⟩:=h1;exact ⟨a,rfl,r⟩)
 | .bor :: ms,d :: ds,v :: vs,is,n,tl,h,i+1,s,e,x,ex=>by
  simp [ak] at e;exact bB h.2 e (by simpa using ex)
 | .ino :: ms,d :: ds,v :: vs,is,n,tl,h,0,s,e,x,ex=>by
  simp [ak] at e ex;subst e ex;obtain ⟨a,r,rfl,rfl,g,t,_,_⟩:=h;exact ⟨a,rfl,Hu,g,t⟩
 | .ino :: ms,d :: ds,v :: vs,is,n,tl,h,i+1,s,e,x,ex=>by
  simp [ak] at e;obtain ⟨a,r,rfl,rfl,g,t,_,h⟩:=h;exact (bB h e (by simpa using ex)).more fun b hb=>Hr _ hb
theorem i4:∀ {ms:List PM} {ds:List PyData} {vs:List V} {is:List Addr} {n:Nat} {tl:St},bf K G I H ms ds vs is->∀ {i j:Nat} {c c':PyData} {a:Addr},(ak ms ds n)[i]?=some (.ino c)->(ak ms ds n)[j]?=some (.ino c') ->
  (vs.map some++tl)[i]?=some (some (.ref a))->(vs.map some++tl)[j]?=some (some (.ref a))->i=j
 | [],[],[],is,n,tl,h,i,j,c,c',a,e,_,_,_=>by
  simp only [ak,List.getElem?_replicate] at e;split at e <;> cases e
 | [],[],_ :: _,_,_,_,h,_,_,_,_,_,_,_,_,_=>by exact absurd h id
 | [],_ :: _,_,_,_,_,h,_,_,_,_,_,_,_,_,_=>by exact absurd h id
 | m :: ms,[],_,_,_,_,h,_,_,_,_,_,_,_,_,_=>by cases m <;> exact absurd h id
 | m :: ms,d :: ds,[],_,_,_,h,_,_,_,_,_,_,_,_,_=>by cases m <;> exact absurd h id
 | m :: ms,d :: ds,v :: vs,is,n,tl,h,0,0,c,c',a,e,e',s,s'=>rfl
 | m :: ms,d :: ds,v :: vs,is,n,tl,h,i+1,j+1,c,c',a,e,e',s,s'=>by
  have hr:∃ r,bf K G I H ms ds vs r:=by
   cases m with
   | dat=>exact ⟨is,h.2⟩
   | bor=>exact ⟨is,h.2⟩
   | ino=>obtain ⟨_,r,_,_,_,_,_,h⟩:=h;exact ⟨r,h⟩
  obtain ⟨r,hr⟩:=hr;have:i=j:=i4 (n:=n - 1) (tl:=tl) hr (by cases m <;> simpa [ak] using e) (by cases m <;> simpa [ak] using e') (by simpa using s) (by simpa using s');rw [this]
 | m :: ms,d :: ds,v :: vs,is,n,tl,h,0,j+1,c,c',a,e,e',s,s'=>by
  cases m with
  | dat=>simp [ak] at e
  | bor=>cases d <;> simp [ak,tw] at e
  | ino =>
   obtain ⟨b,r,rfl,rfl,g,t,nr,h⟩:=h;simp [ak] at e' s;subst s;obtain ⟨a',ea,m',_⟩:=bB (tl:=tl) h e' (by simpa using s');cases ea;exact absurd m' nr
 | m :: ms,d :: ds,v :: vs,is,n,tl,h,i+1,0,c,c',a,e,e',s,s'=>by
  cases m with
  | dat=>simp [ak] at e'
  | bor=>cases d <;> simp [ak,tw] at e'
  | ino =>
   obtain ⟨b,r,rfl,rfl,g,t,nr,h⟩:=h;simp [ak] at e s';subst s';obtain ⟨a',ea,m',_⟩:=bB (tl:=tl) h e (by simpa using s);cases ea;exact absurd m' nr
theorem fb {G':Addr->Prop}:∀ {ms:List PM} {ds:List PyData} {vs:List V} {is:List Addr} {n:Nat} {tl:St} {env':En} {σ':St} {outs:List PyData},bf K G I H ms ds vs is->ms.length<=env'.length ->
  (∀ (i:Nat) (c:PyData),(ak ms ds n)[i]?=some (.ino c)->∃ c',env'[i]?=some (.ino c')/\σ'[i]?=(vs.map some++tl)[i]?)->(∀ (i:Nat) (c:PyData) (a:Addr),env'[i]?=some (.ino c)->σ'[i]?=some (some (.ref a))->Top K G' H' c a) ->
  f7 ms env'=some outs->gA K G' H' outs is
 | [],[],[],is,n,tl,env',σ',outs,h,_,_,_,e=>by
  rw [show is=[] from h];cases env' <;> (simp only [f7] at e;cases e;trivial)
 | [],[],_ :: _,_,_,_,_,_,_,h,_,_,_,_=>by exact absurd h id
 | [],_ :: _,_,_,_,_,_,_,_,h,_,_,_,_=>by exact absurd h id
 | m :: ms,[],_,_,_,_,_,_,_,h,_,_,_,_=>by cases m <;> exact absurd h id
 | m :: ms,d :: ds,[],_,_,_,_,_,_,h,_,_,_,_=>by cases m <;> exact absurd h id
 | m :: ms,d :: ds,v :: vs,is,n,tl,[],σ',outs,h,hl,h1,h2,e=>by simp at hl
 | m :: ms,d :: ds,v :: vs,is,n,tl,s :: es,σ',outs,h,hl,h1,h2,e=>by
  have hl':ms.length<=es.length:=by simpa using hl
  have t1:∀ (i:Nat) (c:PyData),(ak ms ds (n - 1))[i]?=some (.ino c)->∃ c',es[i]?=some (.ino c')/\σ'.tail[i]?=(vs.map some++tl)[i]?:=fun i c z=>by
   obtain ⟨c',e',q⟩:=h1 (i+1) c (by cases m <;> simpa [ak] using z);exact ⟨c',by simpa using e',by simpa using q⟩
  have t2:∀ (i:Nat) (c:PyData) (a:Addr),es[i]?=some (.ino c)->σ'.tail[i]?=some (some (.ref a))->Top K G' H' c a:=fun i c a z q=>h2 (i+1) c a (by simpa using z) (by simpa using q);cases m with
  | dat=>exact fb h.2 hl' t1 t2 (by simpa [f7] using e)
  | bor=>exact fb h.2 hl' t1 t2 (by simpa [f7] using e)
  | ino =>
   obtain ⟨b,r,rfl,rfl,g,t,nr,h⟩:=h;obtain ⟨c',e',q⟩:=h1 0 d (by simp [ak]);simp at e' q;subst e';simp only [f7] at e;split at e
   ·rename_i os ho;cases e;exact ⟨h2 0 c' b (by simp) (by simpa using q),fb h hl' t1 t2 ho⟩
   ·cases e
theorem lL (hg:∀ g d,gd[g]?=some d->∀ F H,Dm K F H d (ga g)) {ms:List PM} {N:List Str} {b:XS} {vs:List V} {H:Hp} {Q:VK} {E:XK} (h:bZ (cN gd ms N.length b) K vs H Q E) (hn:ms.length<=N.length) :
  rS K ga b { nx:=fun _ H'=>Q .non H',rt:=Q } (start N vs) H:=by
 obtain ⟨G,ds,is,pr,outs,hF,ha,hd,post⟩:=h;have ha:bf K G (·∈is) H ms ds vs is:=ha;obtain ⟨hl1,hl2⟩:=ha.len;have hstart:start N vs=vs.map some++List.replicate (N.length - vs.length) none:=rfl;have no:noOwn (ak ms ds N.length):=fun i d e=>by
  have hi:i < (ak ms ds N.length).length:=(Hl.mp e).1;rw [bQ hl1 hn] at hi;have hx:(vs.map some++List.replicate (N.length - vs.length) none)[i]?=some ((vs.map some++List.replicate (N.length - vs.length) none)[i]'(by rw [Ho,Hf,J3];omega)):=Hj _;exact (bB ha e hx:False)
 have at':∀ {i:Nat} {s:Sl},(ak ms ds N.length)[i]?=some s->∃ x,(start N vs)[i]?=some x/\At K G (·∈is) H is s x:=fun {i s} e=>by
  have hi:i < (ak ms ds N.length).length:=(Hl.mp e).1;rw [bQ hl1 hn] at hi;have hx:(start N vs)[i]?=some ((start N vs)[i]'(by rw [hstart,Ho,Hf,J3];omega)):=Hj _;exact ⟨_,hx,bB ha e hx⟩
 have eF:FF G (ak ms ds N.length) (start N vs)=G:=cg no;have muI:∀ i,mu (ak ms ds N.length) i->∃ c,(ak ms ds N.length)[i]?=some (.ino c):=fun i ⟨c,m⟩=>m.elim (fun z=>absurd z (no i c)) fun z=>⟨c,z⟩;have R:Rel K G H (·∈is) (ak ms ds N.length) (start N vs) H:=by
  refine ⟨by rw [bQ hl1 hn,hstart,Ho,Hf,J3];omega,fun i d e=>?_,fun i d e=>absurd e (no i d),fun i d e=>?_,fun i d e=>?_,fun i j a h1 h2 h3 h4=>?_,hd,fun _ _ h _=>h⟩
  ·rw [eF];obtain ⟨x,hx,v,rfl,r⟩:=at' e;exact ⟨v,hx,r⟩
  ·rw [eF];obtain ⟨x,hx,a,rfl,m,g,t⟩:=at' e;exact ⟨a,hx,g,m,t⟩
  ·rw [eF];obtain ⟨x,hx,a,rfl,r⟩:=at' e;refine ⟨a,hx,r.pr Pr.refl (fun _ z=>z) (fun b hb=>?_) fun _ _ z _=>z⟩;obtain ⟨j,m,s⟩:=hb;obtain ⟨c,m⟩:=muI j m;obtain ⟨x,hx,a,rfl,m,g,t⟩:=at' m;rw [s] at hx;cases hx;exact m
  ·obtain ⟨c,m1⟩:=muI i h1;obtain ⟨c',m2⟩:=muI j h2;exact i4 ha m1 m2 h3 h4
 simp only [cN] at hF;rw [Hv hl1] at hF
 ·have inoK:∀ {env':En} {σ':St},KpS (ak ms ds N.length) (start N vs) env' σ'->∀ (i:Nat) (c:PyData),(ak ms ds N.length)[i]?=some (.ino c)->∃ c',env'[i]?=some (.ino c')/\σ'[i]?=(vs.map some++List.replicate (N.length - vs.length) none)[i]?:=fun {env' σ'} k i c e=>by
   obtain ⟨s',e',v,w⟩:=k.2 i _ e;obtain ⟨c',rfl⟩:=v;exact ⟨c',e',w trivial⟩
  have hlE:∀ {env':En} {σ':St},KpS (ak ms ds N.length) (start N vs) env' σ'->ms.length<=env'.length:=fun {env' σ'} k=>by rw [k.1,bQ hl1 hn];exact hn
  split at hF
  ·rename_i rv env' hS;split at hF
   ·rename_i pr' outs' hpr houts;cases hF;refine sS hg b _ _ hS G H (·∈is) _ H _ R fun v σ' H' R' k' r'=>?_;have mono:∀ b,G b->FF G env' σ' b:=fun b z=>.inl z;cases rv with
    | bor i=>cases hpr
    | dat d =>
     cases hpr
     exact post v H' (fun b o e n=>R'.cH b o e n) ⟨Dm.mono mono r',fb ha (hlE k') (inoK k') (fun i c a e s=>by
      obtain ⟨a',s',_,_,t⟩:=R'.ino i c e;rw [s] at s';cases s'
      exact t.pr Pr.refl mono fun _ z=>z) houts⟩
    | frs d =>
     cases hpr;obtain ⟨a,rfl,Ra,t,w,nF,hino,_⟩:=r';have mono':∀ b,(G b\/b=a)->FF (fun b=>G b\/b=a) env' σ' b:=fun b z=>.inl z
     refine post _ H' (fun b o e n=>R'.cH b o e n) ⟨a,rfl,?_,t.pr Pr.refl (fun b z=>z.imp (mono b) id) (fun _ z=>z),fb ha (hlE k') (inoK k') (fun i c a' e s=>by
      obtain ⟨a2,s',_,_,t'⟩:=Ra.ino i c e;rw [s] at s';cases s'
      exact t'.pr Pr.refl mono' fun _ z=>z) houts⟩
     rcases w with w | w
     ·exact w
     ·-- it would be one that was handed in to be changed
      exfalso;have key:∀ {ms:List PM} {ds:List PyData} {vs:List V} {is:List Addr} {I:Addr->Prop} {n:Nat} {tl:St},bf K G I H ms ds vs is->a∈is->∃ (i:Nat) (c:PyData),(ak ms ds n)[i]?=some (.ino c)/\(vs.map some++tl)[i]?=some (some (.ref a)):=by
       intro ms;induction ms with
       | nil =>
        intro ds vs is I n tl h m;cases ds with
        | cons _ _=>exact absurd h id
        | nil=>cases vs with
         | cons _ _=>exact absurd h id
         | nil=>rw [show is=[] from h] at m;cases m
       | cons p ms ih =>
        intro ds vs is I n tl h m;cases ds with
        | nil=>cases p <;> exact absurd h id
        | cons d ds =>
         cases vs with
         | nil=>cases p <;> exact absurd h id
         | cons v vs =>
          cases p with
          | dat=>obtain ⟨i,c,e,s⟩:=ih (n:=n - 1) (tl:=tl) h.2 m;exact ⟨i+1,c,by simpa [ak] using e,by simpa using s⟩
          | bor=>obtain ⟨i,c,e,s⟩:=ih (n:=n - 1) (tl:=tl) h.2 m;exact ⟨i+1,c,by simpa [ak] using e,by simpa using s⟩
          | ino =>
           obtain ⟨b,r,rfl,rfl,g,t,nr,h⟩:=h;rcases HB.mp m with rfl | m
           ·exact ⟨0,d,by simp [ak],by simp⟩
           ·obtain ⟨i,c,e,s⟩:=ih (n:=n - 1) (tl:=tl) h m;exact ⟨i+1,c,by simpa [ak] using e,by simpa using s⟩
      obtain ⟨i,c,e,s⟩:=key (n:=N.length) (tl:=List.replicate (N.length - vs.length) none) ha w;obtain ⟨c',e',s'⟩:=inoK k' i c e;exact hino i c' e' (s'.trans s)
   ·cases hF
  ·rename_i env' hS;split at hF
   ·rename_i outs' houts;cases hF;refine sS hg b _ _ hS G H (·∈is) _ H _ R fun σ' H' R' k'=>?_;have mono:∀ b,G b->FF G env' σ' b:=fun b z=>.inl z
    exact post .non H' (fun b o e n=>R'.cH b o e n) ⟨rfl,fb ha (hlE k') (inoK k') (fun i c a e s=>by
      obtain ⟨a',s',_,_,t⟩:=R'.ino i c e;rw [s] at s';cases s'
      exact t.pr Pr.refl mono fun _ z=>z) houts⟩
   ·cases hF
  ·cases hF
theorem m6 {f:Fn} {vs:List V} {H:Hp} {Q:VK} {E:XK} (h:bZ f K vs H Q E):vs.length=f.ms.length:=by
 obtain ⟨G,ds,is,pr,outs,_,ha,_⟩:=h;exact ha.len.2
end
open PySem
noncomputable def ndL:PyData->Bool | .list _=>false | .dict _=>false | _=>true
noncomputable def ms4:List PM->Bool | [.dat,.dat,.dat,.bor]=>true | _=>false
theorem xn {K:Fg} {F:Addr->Prop} {H:Hp} {d:PyData} {v:V} (h:Vw K F H d v) (n:ndL d=true):Dm K F H d v:=by
 cases d <;> first | exact h | cases n
noncomputable def AZ (fn:Fn):Prm where
 r:=fun K vs H Q=>∃ v1 v2 v3 wv,vs=[v1,v2,v3,wv]/\∀ f c oc H4,H f=none->H c=none->(∀ b o,H b=some o->H4 b=some o)->dC aq H4 f c oc wv->bZ fn K [v1,v2,v3,.ref f] H4 (fun v H'=>Q v (off H' c)) NoE
 f:=fun ds=>match ds with
  | [d1,d2,d3,.list gs]=>if ms4 fn.ms=true/\ndL d1=true/\ndL d2=true/\ndL d3=true then match fn.F [d1,d2,d3,.dict [(.list gs,.none)]] with | some (.dat (.bool x),[])=>some (.dat (.bool x)) | _=>none else none
  | _=>none
 ok:=fun K F H ds vs pr Q hf hv hd q=>by
  split at hf
  ·rename_i d1 d2 d3 gs;split at hf
   ·rename_i hc;obtain ⟨hm,n1,n2,n3⟩:=hc;split at hf
    ·rename_i x hF;cases hf;obtain ⟨v1,r1,rfl,h1,v2,r2,rfl,h2,v3,r3,rfl,h3,wv,r4,rfl,h4,e⟩:=hv;have e:r4=[]:=e;subst e;obtain ⟨a,rfl,xs,sq,z,dl⟩:=h4;have hms:fn.ms=[.dat,.dat,.dat,.bor]:=by
      unfold ms4 at hm;split at hm
      ·assumption
      ·cases hm
     refine ⟨v1,v2,v3,.ref a,rfl,fun f c oc H4 hf hc ext hL=>?_⟩;have pr:Pr F H H4:=fun b o e _=>ext b o e;have hg:∀ b,(F b/\b≠a)->F b:=fun b z=>z.1;refine ⟨fun b=>F b/\b≠a,[d1,d2,d3,.dict [(.list gs,.none)]],[],.dat (.bool x),[],hF,?_,?_,fun v' H' hk hr=>?_⟩
     ·rw [hms];refine ⟨(xn h1 n1).pr pr hg,(xn h2 n2).pr pr hg,(xn h3 n3).pr pr hg,⟨f,rfl,.inr ⟨gs,rfl,c,oc,.ref a,hL,a,xs,rfl,?_,z,dl.pr pr hg⟩⟩,rfl⟩;rcases sq with (sq | ⟨o,sq⟩) | sq
      ·exact .inl ⟨fun z=>z.2 rfl,.inl (ext _ _ sq)⟩
      ·exact .inl ⟨fun z=>z.2 rfl,.inr ⟨o,ext _ _ sq⟩⟩
      ·exact .inr sq
     ·intro b hb;cases e:H b with
      | none=>exact absurd e (hd b hb.1)
      | some o=>rw [ext b o e];exact fun z=>nomatch z
     ·refine q v' (off H' c) (fun b o e=>?_) hr.1;rw [off_ne fun z=>by rw [z,hc] at e;cases e];exact hk b o (ext b o e) (by simp)
    ·cases hf
   ·cases hf
  ·cases hf
open PySem PySem.Spec PySem.Calls PyProof.Rows
section
variable {K:Fg} {F:Addr->Prop} {H:Hp} {c:Addr} {oc:Obj}
theorem uO (hc:H c=some (.frz oc (.own c))) {a:Addr} {u:HO} (h:Rd H a u) (n:u≠.own c) (n2:∀ o v,u≠.frz o v):Rd (off H c) a u:=by
 rcases h with h | ⟨o,h⟩
 ·refine .inl ?_;rw [off_ne fun z=>by rw [z,hc] at h;cases h;exact n2 _ _ rfl];exact h
 ·refine .inr ⟨o,?_⟩;rw [off_ne fun z=>by rw [z,hc] at h;cases h;exact n rfl];exact h
mutual
theorem Dm.oA (hc:H c=some (.frz oc (.own c))):∀ {d:PyData} {v:V},Dm K F H d v->Dm K F (off H c) d v
 | .none,v,h=>h
 | .bool b,v,h=>h
 | .int i,v,h=>h
 | .str x,v,h=>h
 | .list ds,v,h=>by
  obtain ⟨a,xs,e,l,z,r⟩:=h;exact ⟨a,xs,e,l.imp (fun q=>⟨q.1,uO hc q.2 (fun z=>by cases z) fun _ _ z=>by cases z⟩) id,z,DmL.oA hc r⟩
 | .tuple ds,v,h=>by
  obtain ⟨a,xs,e,l,z,r⟩:=h;exact ⟨a,xs,e,l.imp (fun q=>uO hc q (fun z=>by cases z) fun _ _ z=>by cases z) id,z,DmL.oA hc r⟩
 | .dict kvs,v,h=>by
  obtain ⟨a,ep,xs,e,n,l,z,r⟩:=h;exact ⟨a,ep,xs,e,n,by rw [off_ne fun q=>by rw [q,hc] at l;cases l];exact l,z,DmP.oA hc r⟩
theorem DmL.oA (hc:H c=some (.frz oc (.own c))):∀ {ds:List PyData} {vs:List V},DmL K F H ds vs->DmL K F (off H c) ds vs
 | [],vs,h=>h
 | d :: ds,vs,h=>by
  obtain ⟨v,r,e,h1,h2⟩:=h;exact ⟨v,r,e,Dm.oA hc h1,DmL.oA hc h2⟩
theorem DmP.oA (hc:H c=some (.frz oc (.own c))):∀ {ds:List (PyData×PyData)} {vs:List (PyData×V×V)},DmP K F H ds vs->DmP K F (off H c) ds vs
 | [],vs,h=>h
 | (k,d) :: ds,vs,h=>by
  obtain ⟨j,v,r,e,e2,h0,h1,h2⟩:=h;exact ⟨j,v,r,e,e2,Dm.oA hc h0,Dm.oA hc h1,DmP.oA hc h2⟩
end
end
open PySem PySem.Spec PySem.Calls PyProof.Rows
def kcB (p:Prm) (K:Fg):TE:=tCB (p.r K) (ah (aJ 0) (ah (aJ 2) bo))
theorem AE {p:Prm} {K:Fg} {G:Addr->Prop} {f:Addr} {v1 v2:V} {H:Hp} {Q:VK} {gs:List PyData} {d1 d2:PyData} {x:Bool} (hp:p.f [d1,.list gs]=some (.dat (.bool x))) (hb:FnR K G H gs f) (h1:Dm K G H d1 v1) (hd:∀ b,G b->H b≠none)
  (q:∀ v' H',(∀ b o,H b=some o->H' b=some o)->v'=.bl x->Q v' H') :
  ∃ c oc wv,dC aq H f c oc wv/\kcB p K ([v1,v2].map some++[some wv]) (off H c) fun v H'=>Q v (upd H' c (.frz oc (.own c))):=by
 obtain ⟨c,oc,wv,hL,hw⟩:=hb;have hL':=hL;obtain ⟨c',pm,ctv,od,u2,cs,tq,uv,_,_,_,_,hc,_⟩:=hL';refine ⟨c,oc,wv,hL,v1,rfl,wv,rfl,?_⟩;refine p.ok K (fun b=>G b/\b≠c) (off H c) [d1,.list gs] [v1,wv] (.dat (.bool x)) _ hp ⟨v1,_,rfl,((Dm.oA hc h1).pr Pr.refl fun b z=>z.1).vw,wv,_,rfl,((Dm.oA hc hw).pr Pr.refl fun b z=>z.1).vw,rfl⟩ (fun b hb=>by rw [off_ne hb.2];exact hd b hb.1) fun v' H' hs hv=>?_;refine q v' _ (fun b o e=>?_) hv;by_cases hb:b=c
 ·subst hb;rw [ag];rw [hc] at e;exact e
 ·rw [ab hb];exact hs b o (by rw [off_ne hb];exact e)
open PySem PySem.Spec PySem.Calls PyProof.Rows
noncomputable def unK:PyData->PyData->Option (List PyData) | .list gs,.none=>some gs | _,_=>none
noncomputable def D8:PyData->Option (List PyData) | .dict [(k,d)]=>unK k d | _=>none
theorem xa {d:PyData} {gs:List PyData} (h:D8 d=some gs):d=.dict [(.list gs,.none)]:=by
 unfold D8 at h;split at h
 ·rename_i k d;unfold unK at h;split at h
  ·cases h;rfl
  ·cases h
 ·cases h
noncomputable def kcV (p:Prm) (d0 d1:PyData):Option PR:=(D8 d0).bind fun gs=>(p.f [d1,.list gs]).bind fun r=>match r with | .dat (.bool x)=>some (.dat (.bool x)) | _=>none
noncomputable def vT (p:Prm):Fn where
 ms:=[.bor,.dat,.dat]
 F:=fun ds=>match ds with
  | [d0,d1,d2]=>(kcV p d0 d1).map fun r=>(r,[])
  | _=>none
theorem wN {p:Prm} {d0 d1:PyData} {r:PR} (h:kcV p d0 d1=some r):∃ gs x,d0=.dict [(.list gs,.none)]/\p.f [d1,.list gs]=some (.dat (.bool x))/\r=.dat (.bool x):=by
 obtain ⟨gs,h1,h⟩:=Option.bind_eq_some_iff.mp h;obtain ⟨r',h2,h⟩:=Option.bind_eq_some_iff.mp h;split at h
 ·cases h;exact ⟨gs,_,xa h1,h2,rfl⟩
 ·cases h
theorem wW {p:Prm} {ds outs:List PyData} {pr:PR} (h:(vT p).F ds=some (pr,outs)):∃ d1 d2 gs x,ds=[.dict [(.list gs,.none)],d1,d2]/\p.f [d1,.list gs]=some (.dat (.bool x))/\pr=.dat (.bool x)/\outs=[]:=by
 unfold vT at h;dsimp only at h;split at h
 ·obtain ⟨r,hr,e⟩:=HC.mp h;obtain ⟨gs,x,e1,hp,e2⟩:=wN hr;cases e;exact ⟨_,_,gs,x,by rw [e1],hp,e2,rfl⟩
 ·cases h
theorem D1 {p:Prm} {K:Fg} {v:V} {vs:List V} {H:Hp} {Q:VK} (h:bZ (vT p) K (v :: vs) H Q NoE) :
  ∃ f c oc wv,v=.ref f/\dC aq H f c oc wv/\vs.length=2/\kcB p K (vs.map some++[some wv]) (off H c) fun v H'=>Q v (upd H' c (.frz oc (.own c))):=by
 obtain ⟨G,ds,is,pr,outs,hF,ha,hd,q⟩:=h;obtain ⟨d1,d2,gs,x,rfl,hp,rfl,rfl⟩:=wW hF;have ha:bf K G (fun x=>x∈is) H [.bor,.dat,.dat] [PyData.dict [(PyData.list gs,PyData.none)],d1,d2] (v :: vs) is:=ha;rcases vs with _ | ⟨v1,_ | ⟨v2,_ | ⟨v3,vs⟩⟩⟩
 ·exact (ha.2:False).elim
 ·exact (ha.2.2:False).elim
 ·obtain ⟨⟨f,rfl,hb⟩,h1,h2,hi⟩:=ha;have hi:is=[]:=hi;subst hi;rcases hb with ⟨ep,xs,_,_,_,hk⟩ | ⟨es,e,hb⟩
  ·obtain ⟨j,w,r,_,hk,_⟩:=hk;exact absurd (show false=true from hk) nofun
  ·cases e;obtain ⟨c,oc,wv,g1,g2⟩:=AE (v2:=v2) (d2:=d2) (Q:=Q) hp hb h1 hd fun v' H' hk hv=>q v' H' (fun b o e _=>hk b o e) ⟨hv,trivial⟩;exact ⟨f,c,oc,wv,rfl,g1,rfl,g2⟩
 ·exact (ha.2.2.2:False).elim
open PySem PySem.Spec PySem.Calls PyProof.Rows
theorem nu {M:Model} {A:Around} {E:Value->Shared->Prop} {s:Shared} {env:Env} {pos:Pos} {first:List Value} {Q:Value->Shared->Prop} {f:Value} {P:Heap->Prop} {e:Expr} {rest:List Expr}
  (hk:∀ h,P h->∃ k,(k=Keeper.frame\/k=Keeper.machine\/k=Keeper.boundFrame)/\PySem.W.Looks M h (keeperOf f) k) (h:wpAny M A (spliced (backTo pos (starEach (e :: rest) env))) (fun vs s₁=>P s₁.heap/\wpAny M A (call f (first++vs)) Q E s₁) E s)
  (he:starEach (e :: rest) env=(false,eval e env) :: starEach rest env) (hplain:(backTo pos (starEach rest env)).any (·.1)=false) :
  wpAny M A (callWith pos f first (backTo pos (starEach (e :: rest) env)) []) Q E s:=by
 rw [he] at h ⊢;exact PySem.W.callWith_of (by show ((false||(backTo pos (starEach rest env)).any (·.1))||false)=false;rw [hplain];rfl) hk (evalArgs_plain h)
theorem Fj {X:Cx} {CX:CXT} {k i:Nat} {x:Str} {p pos:Pos} {e:Expr} {es:List Expr} {t:TA} {pb:Prm} (S:fN aq.ps aq.g aq.scope) (h2:aq.ps.length=2) (hr:bN (k+1) X.A) (hx:Passes CX X NoE)
  (hb:∀ (c c':Addr) (pm ctv:Value) (us:List Value),us.length=aq.ps.length->bindArgs (PySem.W.kla_fn aq.name aq.qual aq.params aq.body aq.scope [(aq.g,c)] pm (.ref c') ctv) ⟨us,[]⟩=pure (aq.ps.zip us))
  (cB:∀ (f c c':Addr) (s:Shared) (H:Hp),PE (cxL CX X.prog X.w X.K X.mg X.base (aq.ps++[aq.g]) aq.qual aq.scope f (.ref c') [(aq.g,c)] X.A X.stack s (off H c) H NoE) aq.body (kcB pb X.K))
  (hv:PE X (.Name x p) (aJ i)) (ha:PA X (e :: es) t) (he:starEach (e :: es) X.env=(false,eval e X.env) :: starEach es X.env:=by rfl) (hpl:(backTo pos (starEach es X.env)).any (·.1)=false:=by rfl) :
  PE X (.Call (.Name x p) (e :: es) [] pos) (ba (bZ (vT pb) X.K) [] NoE (ah (aJ i) t)):=by
 intro pins s σ H Q I h;obtain ⟨v,hs,h⟩:=h;refine Jf (thn (hv pins s σ H (fun v' H'=>v'=v/\H'=H) I ⟨_,hs,rfl,rfl⟩) fun u s0 hq=>?_);obtain ⟨v',H',I0,rv,rfl,rfl⟩:=hq;refine nu (P:=fun h=>∃ a,u=.ref a/\PySem.W.FnAt a h) (fun h ⟨a,e,q⟩=>by subst e;exact PySem.W.keeps_F h q) (thn (ha pos pins s0 σ _ _ I0 h) fun us s1 hq=>?_) he hpl;obtain ⟨vs,H1,I1,r,q⟩:=hq;dsimp only at q;rw [Iw] at q;obtain ⟨f,c,oc,wv,rfl,hL,hlen,q⟩:=D1 q;obtain rfl:u=Value.ref f:=rv;refine ⟨⟨f,rfl,hL.fn I1.hok⟩,?_⟩;obtain ⟨c',pm,ctv,od,u2,cs,tq,uv,g1,g2,g3,g4,g5,g6,g7⟩:=hL;refine wpAny_call (Jj (wV (CX:=CX) (E:=NoE) (Q:=Q) S hr I1.yA (by rw [hlen,h2]) r g1 g2 g3 g4 g5 g6 g7 (hb _ _ _ _ _ (by show us.length=_;rw [<- r.length,hlen,h2])) (cB f c c' s1 H1) q) fun r s' hq=>?_);cases r with
 | error e=>exact hx pins σ H1 s1 e s' I1 hq
 | ok fl =>
  cases fl with
  | ret u=>exact I1.after hq
  | next=>exact False.elim hq
  | brk=>exact False.elim hq
  | cont=>exact False.elim hq
open PySem PySem.Spec PySem.Calls PyProof.Rows
structure eK (ps:List Str) (scope:Scope):Prop where
 kind:scope.kind=.function
 co:scope.isCoroutine=false
 gen:scope.isGenerator=false
 cell:∀ x∈scope.names,x.2≠.cell
 free:∀ x∈scope.names,x.2≠.free
 par:∀ y∈ps,scope.names.lookup y=some .local
 lk:∀ (us:List Value) (i:Nat) (y:Str) (u:Value),us.length=ps.length->ps[i]?=some y->us[i]?=some u->(ps.zip us).reverse.lookup y=some u
theorem tJ {CX:CXT} {P:Program} {w:World} {K:Fg} {mg:Str->Option Value} {base:Heap} {k:Nat} {ps:List Str} {qual name:Str} {params:Arguments} {body:Expr} {scope:Scope} {f c':Addr} {pm ctv:Value} {A:Around} {outer:List Env} {s:Shared} {H:Hp} {Q:VK} {E:XK} {us:List Value} {vs:List V} {od:Obj} {u2:HO} {cs:Array Value} {tq:Tok} {t:TE}
  (S:eK ps scope) (hr:bN (k+1) A) (e0:p8 P w K mg base A outer s H) (hl:vs.length=ps.length) (r:Vals vs us)
  (hf:H f=some (.frz { cls:=.type "function", data:=.func (PySem.W.kla_fn name qual params body scope [] pm (.ref c') ctv) } (.own f))) (h2:H c'=some (.frz od u2)) (h3:od.data=.fields cs) (h4:cs[1]?=some (.str qual tq))
  (hb:bindArgs (PySem.W.kla_fn name qual params body scope [] pm (.ref c') ctv) ⟨us,[]⟩=pure (ps.zip us))
  (cB:PE (cxL CX P w K mg base ps qual scope f (.ref c') [] A outer s H H E) body t)
  (ht:t (vs.map some) H Q) :
  codeAny (model P w) A (.call (.ref f) ⟨us,[]⟩) (CR CX outer P w H s Q E) s:=by
 have gf:=(e0.hok f _ hf).1;have gd:=(e0.hok c' _ h2).1;have lim:s.heap.NoLimit:=e0.mod.nolimit.keeps fun b o e=>(e0.bs b o e).1;refine PySem.W.kla_callFunE hr.depth gf rfl S.co S.gen rfl ⟨c',od,cs,tq,rfl,gd,h3,h4⟩ ?_;rw [hb];refine Hg (wpAny_newFunctionEnv S.cell (fun y hy=>S.par _ (JZ hy).1) (fun h₁ hns hsb=>⟨lim.fresh _ hsb,?_⟩) S.kind);have hk:∀ b o,s.heap.get? b=some o->h₁.get? b=some o:=fun b o e=>hsb.extBut b o (HH (Ht e)) (Hm _ e);have cl1:∀ {x:Str} {b:Addr} {C:Prop},([]:List (Str×Addr)).lookup x=some b->C:=fun e=>by cases e
 have I:Inv (cxL CX P w K mg base ps qual scope f (.ref c') [] A outer s H H E) [] (vs.map some) H { s with heap:=h₁,toks:=s.toks+(ps.zip us).length }:=by
  refine ⟨⟨e0.mod,S.kind,rfl,rfl,Hn _,fun y z b h1 h2=>cl1 h1,fun y hy=>?_,fun y b q _=>(by cases q),fun _=>hr.hd,Around.frames_deeper e0.frames,.inr ⟨rfl,rfl⟩,fun b z=>absurd (show b∈([]:List Addr) from z) (by simp),e0.bs,e0.bsz,fun b _ _ z=>absurd (show b∈([]:List Addr) from z) (by simp),fun b z=>absurd (show b∈([]:List Addr) from z) (by simp),e0.jL,e0.frf,e0.tabs⟩,
   rfl,e0.bare,Un.kept hk,⟨_,hns,fun i y v h1 h2 h3=>?_⟩,fun y b e=>cl1 e,e0.hok.fresh (Hn _),fun y b e=>cl1 e,fun p hp=>absurd (show p∈([]:List (Addr×Obj)) from hp) (by simp),e0.hok.kept hk,(Hf ..).trans hl⟩
  ·have hy:scope.names.lookup y=some .cell\/scope.names.lookup y=some .free:=hy;rcases hy with hy | hy
   ·exact absurd rfl (S.cell _ (Io hy))
   ·exact absurd rfl (S.free _ (Io hy))
  ·rw [Hq] at h2;obtain ⟨a,ha,e⟩:=HC.mp h2;cases e;obtain ⟨u,hu,rv⟩:=r.get ha;exact ⟨u,rv,.inl ⟨S.par y (HG h1),S.lk us i y u (by rw [<- r.length,hl]) h1 hu⟩⟩
 refine PySem.W.kla_codeExpr (HR (cB [] _ _ _ _ I ht) (fun u s' hq=>?_) fun _ _ y=>y);obtain ⟨v,H',J,rv,q⟩:=hq;exact ⟨v,H',J.os,J.bare,J.base,J.hok,rv,q⟩
open PySem PySem.Spec PyProof.Rows
noncomputable def Prm.two (r:Fg->R2) (f:PyData->PyData->Option PR) (ok:∀ (K:Fg) (F:Addr->Prop) (H:Hp) (x y:PyData) (u v:V) (pr:PR) (Q:VK),f x y=some pr->Vw K F H x u->Vw K F H y v->(∀ b,F b->H b≠none)->(∀ w H',az H H'->uU K F H H' pr w->Q w H')->r K u v H Q):Prm where
 r:=fun K vs H Q=>match vs with | [u,v]=>r K u v H Q | _=>False
 f:=fun ds=>match ds with | [x,y]=>f x y | _=>none
 ok:=fun K F H ds vs pr Q hf hv hd q=>by
  match ds,hf with
  | [x,y],hf =>
   obtain ⟨u,r1,rfl,h1,v,r2,rfl,h2,rfl⟩:=hv;exact ok K F H x y u v pr Q hf h1 h2 hd q
noncomputable def Prm.one (r:Fg->V->Hp->VK->Prop) (f:PyData->Option PR) (ok:∀ (K:Fg) (F:Addr->Prop) (H:Hp) (x:PyData) (u:V) (pr:PR) (Q:VK),f x=some pr->Vw K F H x u->(∀ b,F b->H b≠none)->(∀ w H',az H H'->uU K F H H' pr w->Q w H')->r K u H Q):Prm where
 r:=fun K vs H Q=>match vs with | [u]=>r K u H Q | _=>False
 f:=fun ds=>match ds with | [x]=>f x | _=>none
 ok:=fun K F H ds vs pr Q hf hv hd q=>by
  match ds,hf with
  | [x],hf =>
   obtain ⟨u,r1,rfl,h1,rfl⟩:=hv;exact ok K F H x u pr Q hf h1 hd q
section
variable {K:Fg} {F F':Addr->Prop} {H:Hp}
theorem vInt {i:Int} {v:V} (h:Vw K F H (.int i) v):v=.int i:=h
theorem vBl {b:Bool} {v:V} (h:Vw K F H (.bool b) v):v=.bl b:=h
theorem DJ {v:V} (h:Vw K F H .none v):v=.non:=h
theorem vStr {x:Str} {v:V} (h:Vw K F H (.str x) v):v=.str x/\x.length<=sizeLine/\PyData.strOk x=true:=h
theorem kY {ds:List PyData} {v:V} (h:Vw K F H (.list ds) v):∃ a xs,v=.ref a/\SqL K H a xs/\xs.length<=sizeLine/\DmL K F H ds xs:=let ⟨a,e,xs,r⟩:=h;⟨a,xs,e,r⟩
theorem oq {ds:List PyData} {v:V} (h:Vw K F H (.tuple ds) v):∃ a xs,v=.ref a/\SqT K H a xs/\xs.length<=sizeLine/\DmL K F H ds xs:=h
theorem yq {p:Addr} {xs:List V} {ds:List PyData} (hp:H p=none) (hz:xs.length<=sizeLine) (h:DmL K F H ds xs):uU K F H (upd H p (.lst xs)) (.frs (.list ds)) (.ref p) :=
 ⟨p,rfl,hp,xs,ag,hz,(h.fresh hp).pr (Pr.of_same (az.nw _ hp)) fun _ z=>z⟩
theorem DE {p:Addr} {xs:List V} {ds:List PyData} (hp:H p=none) (hz:xs.length<=sizeLine) (h:DmL K F H ds xs):uU K F H (upd H p (.tup xs)) (.dat (.tuple ds)) (.ref p) :=
 ⟨p,xs,rfl,.inl (.inl ag),hz,h.pr (Pr.of_same (az.nw _ hp)) fun _ z=>z⟩
end
noncomputable def Fs:PyData->PyData->Option PR
 | .int i,.int j=>some (.dat (.int (i+j)))
 | .str x,.str y=>if x.length+y.length<=sizeLine then some (.dat (.str (x++y))) else none
 | .list xs,.list ys=>if xs.length+ys.length<=sizeLine then some (.frs (.list (xs++ys))) else none
 | .tuple (x :: xs),.tuple ys=>if (x :: xs).length+ys.length<=sizeLine then some (.dat (.tuple ((x :: xs)++ys))) else none
 | _,_=>none
def DP (K:Fg):R2:=rOr (rI0 fun i j=>.int (i+j)) (rOr zJ (rOr (z5 K) (Ap K)))
theorem lG (x y:Str):(x++y).length=x.length+y.length:=by
 show (x.cps++y.cps).size=_;rw [Array.size_append];rfl
noncomputable def il:Prm:=Prm.two DP Fs fun K F H x y u v pr Q hf hx hy hd q=>by
 unfold Fs at hf;split at hf
 ·cases hf;rw [vInt hx,vInt hy];exact .inl ⟨_,_,rfl,rfl,q _ H (az.rf H) rfl⟩
 ·split at hf
  ·rename_i x y hl;cases hf;obtain ⟨rfl,l1,o1⟩:=vStr hx;obtain ⟨rfl,l2,o2⟩:=vStr hy;exact .inr (.inl ⟨_,_,rfl,rfl,hl,q _ H (az.rf H) ⟨rfl,by rw [lG];exact hl,jW o1 o2⟩⟩)
  ·cases hf
 ·split at hf
  ·rename_i xs ys hl;cases hf;obtain ⟨a,us,rfl,s1,z1,d1⟩:=kY hx;obtain ⟨b,ws,rfl,s2,z2,d2⟩:=kY hy;have hl':us.length+ws.length<=sizeLine:=by rw [d1.len,d2.len];exact hl
   exact .inr (.inr (.inl ⟨a,b,us,ws,rfl,rfl,s1,s2,hl',fun p hp=>q _ _ (az.nw _ hp) (yq hp (by rw [Ho];exact hl') (d1.app d2))⟩))
  ·cases hf
 ·split at hf
  ·rename_i x xs ys hl;cases hf;obtain ⟨a,us,rfl,s1,z1,d1⟩:=oq hx;obtain ⟨b,ws,rfl,s2,z2,d2⟩:=oq hy;have hl':us.length+ws.length<=sizeLine:=by rw [d1.len,d2.len];exact hl
   have hne:us≠[]:=fun z=>by rw [z] at d1;obtain ⟨v,r,e,_⟩:=d1;cases e
   refine .inr (.inr (.inr ⟨a,b,us,ws,rfl,rfl,s1,s2,hne,hl',fun z=>?_,fun z p hp=>q _ _ (az.nw _ hp) (DE hp (by rw [Ho];exact hl') (d1.app d2))⟩));subst z;have hys:ys=[]:=by
    cases ys with
    | nil=>rfl
    | cons y ys=>obtain ⟨v,r,e,_⟩:=d2;cases e
   subst hys;exact q _ H (az.rf H) ⟨a,us,rfl,s1,z1,by rw [Iw];exact d1⟩
  ·cases hf
 ·cases hf
theorem aS {X:Cx}:OpR X (binaryOp .Add) (fun x y=>il.r X.K [x,y]):=orR zm (orR xA (orR vV xi))
noncomputable def sd (c:Int->Int->Bool) (g:Int->Int->PyData):PyData->PyData->Option PR
 | .int i,.int j=>if c i j=true then some (.dat (g i j)) else none
 | _,_=>none
noncomputable def Prm.ints (C:Int->Int->Prop) (c:Int->Int->Bool) (hc:∀ i j,c i j=true->C i j) (g:Int->Int->Int):Prm:=Prm.two (fun _=>rI C fun i j=>.int (g i j)) (sd c fun i j=>.int (g i j)) fun K F H x y u v pr Q hf hx hy hd q=>by
 unfold sd at hf;split at hf
 ·split at hf
  ·rename_i h;cases hf;rw [vInt hx,vInt hy];exact ⟨_,_,rfl,rfl,hc _ _ h,q _ H (az.rf H) rfl⟩
  ·cases hf
 ·cases hf
noncomputable def Prm.BF (g:Int->Int->Bool):Prm:=Prm.two (fun _=>rI0 fun i j=>.bl (g i j)) (sd (fun _ _=>true) fun i j=>.bool (g i j)) fun K F H x y u v pr Q hf hx hy hd q=>by
 unfold sd at hf;split at hf
 ·rw [Hv rfl] at hf;cases hf;rw [vInt hx,vInt hy];exact ⟨_,_,rfl,rfl,q _ H (az.rf H) rfl⟩
 ·cases hf
noncomputable def pS:Prm:=Prm.two (fun _=>rI0 fun i j=>.int (i - j)) (sd (fun _ _=>true) fun i j=>.int (i - j)) fun K F H x y u v pr Q hf hx hy hd q=>by
 unfold sd at hf;split at hf
 ·rw [Hv rfl] at hf;cases hf;rw [vInt hx,vInt hy];exact ⟨_,_,rfl,rfl,q _ H (az.rf H) rfl⟩
 ·cases hf
theorem cS {X:Cx}:OpR X (binaryOp .Sub) (fun x y=>pS.r X.K [x,y]):=BA
noncomputable def mulC (i j:Int):Bool:=(decide (-(2 ^ 64) < i)&&decide (i < 2 ^ 64))||(decide (-(2 ^ 64) < j)&&decide (j < 2 ^ 64))
noncomputable def sf:Prm:=Prm.ints AJ mulC (fun i j h=>by simpa [mulC,AJ,J1,HL,IV] using h) (fun i j=>i*j)
theorem cj {X:Cx}:OpR X (binaryOp .Mult) (fun x y=>sf.r X.K [x,y]):=yV
noncomputable def r9:Prm:=Prm.ints (fun _ j=>0 < j) (fun _ j=>decide (0 < j)) (fun i j h=>by simpa using h) (fun i j=>i % j)
theorem cn {X:Cx}:OpR X (binaryOp .Mod) (fun x y=>r9.r X.K [x,y]):=BM
noncomputable def tM:Prm:=Prm.ints (fun _ j=>0 < j/\j.natAbs.log2 < 9000) (fun _ j=>decide (0 < j)&&decide (j < 2 ^ 200)) (fun i j h=>by
 simp only [HL,IV] at h;refine ⟨h.1,?_⟩;have hz:j.natAbs≠0:=by omega
 have:j.natAbs < 2 ^ 200:=by omega
 exact HF ((Nat.log2_lt hz).mpr this) (by decide)) (fun i j=>i / j)
theorem jf {X:Cx}:OpR X (binaryOp .FloorDiv) (fun x y=>tM.r X.K [x,y]):=ub
noncomputable def r8:Prm:=Prm.ints Fu (fun i j=>decide (0<=j)&&decide (j<=1000000)&&decide (i.natAbs < 2 ^ 64)) (fun i j h=>by simp only [HL,IV] at h;exact ⟨h.1.1,h.1.2,h.2⟩) (fun i j=>i ^ j.toNat)
theorem dO {X:Cx}:OpR X (binaryOp .Pow) (fun x y=>r8.r X.K [x,y]):=zN
noncomputable def D5:Prm:=Prm.one (fun _=>rU fun i=>.int (-i)) (fun x=>match x with | .int i=>some (.dat (.int (-i))) | _=>none) fun K F H x u pr Q hf hx hd q=>by
 split at hf
 ·cases hf;rw [vInt hx];exact ⟨_,rfl,q _ H (az.rf H) rfl⟩
 ·cases hf
noncomputable def Cq (g:Int->Int->Bool) (h:Str->Str->Bool):PyData->PyData->Option PR
 | .int i,.int j=>some (.dat (.bool (g i j)))
 | .str x,.str y=>some (.dat (.bool (h x y)))
 | _,_=>none
noncomputable def ltS (x y:Str):Bool:=decide (x.cps.toList < y.cps.toList)
noncomputable def leS (x y:Str):Bool:=!decide (y.cps.toList < x.cps.toList)
noncomputable def ltP:Prm:=Prm.two (fun _=>rOr (rI0 fun i j=>.bl (decide (i < j))) FW) (Cq (fun i j=>decide (i < j)) ltS) fun K F H x y u v pr Q hf hx hy hd q=>by
 unfold Cq at hf;split at hf
 ·cases hf;rw [vInt hx,vInt hy];exact .inl ⟨_,_,rfl,rfl,q _ H (az.rf H) rfl⟩
 ·cases hf;rw [(vStr hx).1,(vStr hy).1];exact .inr ⟨_,_,rfl,rfl,q _ H (az.rf H) rfl⟩
 ·cases hf
theorem yP {X:Cx}:OpR X (compareOp .Lt) (fun x y=>ltP.r X.K [x,y]):=orR CC AR
noncomputable def leP:Prm:=Prm.two (fun _=>rOr (rI0 fun i j=>.bl (decide (i<=j))) Ft) (Cq (fun i j=>decide (i<=j)) leS) fun K F H x y u v pr Q hf hx hy hd q=>by
 unfold Cq at hf;split at hf
 ·cases hf;rw [vInt hx,vInt hy];exact .inl ⟨_,_,rfl,rfl,q _ H (az.rf H) rfl⟩
 ·cases hf;rw [(vStr hx).1,(vStr hy).1];exact .inr ⟨_,_,rfl,rfl,q _ H (az.rf H) rfl⟩
 ·cases hf
theorem cA {X:Cx}:OpR X (compareOp .LtE) (fun x y=>leP.r X.K [x,y]):=orR E6 yR
noncomputable def gtP:Prm:=Prm.BF fun i j=>decide (i > j)
theorem vD {X:Cx}:OpR X (compareOp .Gt) (fun x y=>gtP.r X.K [x,y]):=E4
noncomputable def geP:Prm:=Prm.BF fun i j=>decide (i>=j)
theorem qJ {X:Cx}:OpR X (compareOp .GtE) (fun x y=>geP.r X.K [x,y]):=EO
mutual
noncomputable def noD:PyData->Bool
 | .dict _=>false
 | .list xs=>dq xs
 | .tuple xs=>dq xs
 | _=>true
noncomputable def dq:List PyData->Bool
 | []=>true
 | x :: xs=>noD x&&dq xs
end
section
variable {K:Fg} {F:Addr->Prop} {H:Hp}
mutual
theorem Dm.lay:∀ {d:PyData} {v:V},Dm K F H d v->noD d=true->d.canLay0=true
 | .none,v,h,_=>by simp [PyData.canLay0]
 | .bool b,v,h,_=>by simp [PyData.canLay0]
 | .int i,v,h,_=>by simp [PyData.canLay0]
 | .str x,v,h,_=>by simpa [PyData.canLay0] using h.2.2
 | .list ds,v,h,n=>by obtain ⟨a,xs,e,l,z,r⟩:=h;simpa [PyData.canLay0] using DmL.lay r (by simpa [noD] using n)
 | .tuple ds,v,h,n=>by obtain ⟨a,xs,e,l,z,r⟩:=h;simpa [PyData.canLay0] using DmL.lay r (by simpa [noD] using n)
 | .dict kvs,v,h,n=>by simp [noD] at n
theorem DmL.lay:∀ {ds:List PyData} {vs:List V},DmL K F H ds vs->dq ds=true->PyData.canLayAll0 ds=true
 | [],vs,h,_=>by simp [PyData.canLayAll0]
 | d :: ds,vs,h,n=>by
  obtain ⟨v,r,e,h1,h2⟩:=h;have n':noD d=true/\dq ds=true:=by simpa [dq] using n
  simp [PyData.canLayAll0,Dm.lay h1 n'.1,DmL.lay h2 n'.2]
end
theorem Vw.lay {d:PyData} {v:V} (h:Vw K F H d v) (n:noD d=true):d.canLay0=true:=by
 cases d with
 | list ds=>obtain ⟨a,xs,e,l,z,r⟩:=kY h;simpa [PyData.canLay0] using DmL.lay r (by simpa [noD] using n)
 | dict ds=>simp [noD] at n
 | _=>exact Dm.lay (K:=K) (F:=F) (H:=H) h n
variable {X:Cx} {pins:List (Addr×Obj)} {σ:St} {s:Shared}
mutual
theorem Dm.reads (I:Inv X pins σ H s):∀ {d:PyData} {v:V} {u:Value},Dm X.K F H d v->noD d=true->RelV v u->∃ as,Reads s.heap u d as
 | .none,v,u,hd,_,r=>by
  have e:v=.non:=hd;subst e;cases (show u=Value.none from r);exact ⟨_,.none⟩
 | .bool b,v,u,hd,_,r=>by
  have e:v=.bl b:=hd;subst e;cases (show u=Value.bool b from r);exact ⟨_,.bool b⟩
 | .int i,v,u,hd,_,r=>by
  have e:v=.int i:=hd;subst e;obtain ⟨t,e⟩:=(show ∃ t,u=Value.int i t from r);subst e;exact ⟨_,.int i t⟩
 | .str y,v,u,hd,_,r=>by
  have e:v=.str y:=hd.1;subst e;obtain ⟨t,e⟩:=(show ∃ t,u=Value.str y t from r);subst e;exact ⟨_,.str y t⟩
 | .list ds,v,u,hd,n,r=>by
  obtain ⟨a,xs,e,l,z,rs⟩:=hd;subst e;cases (show u=Value.ref a from r);obtain ⟨its,rv,⟨o,k,h1,h2,h3,h4⟩,_⟩:=I.list (l.elim (fun q=>.inl q.2) .inr);obtain ⟨as,ra⟩:=DmL.reads I rs (by simpa [noD] using n) rv;exact ⟨_,.list h1 h2 h4 (by simpa using ra)⟩
 | .tuple ds,v,u,hd,n,r=>by
  obtain ⟨a,xs,e,l,z,rs⟩:=hd;subst e;cases (show u=Value.ref a from r);obtain ⟨its,rv,⟨o,h1,h2,k,h4⟩,_⟩:=I.tuple l;obtain ⟨as,ra⟩:=DmL.reads I rs (by simpa [noD] using n) rv;exact ⟨_,.tuple h1 h2 h4 (by simpa using ra)⟩
 | .dict kvs,v,u,hd,n,r=>by simp [noD] at n
theorem DmL.reads (I:Inv X pins σ H s):∀ {ds:List PyData} {vs:List V} {us:List Value},DmL X.K F H ds vs->dq ds=true->Vals vs us->∃ as,ReadsAll s.heap us ds as
 | [],vs,us,hd,_,r=>by
  have e:vs=[]:=hd;subst e;cases r;exact ⟨_,.nil⟩
 | d :: ds,vs,us,hd,n,r=>by
  obtain ⟨v,rr,e,h1,h2⟩:=hd;have n':noD d=true/\dq ds=true:=by simpa [dq] using n
  subst e;cases r with
  | cons r1 r2 =>
   obtain ⟨as,q1⟩:=Dm.reads I h1 n'.1 r1;obtain ⟨bs,q2⟩:=DmL.reads I h2 n'.2 r2;exact ⟨_,.cons q1 q2⟩
end
theorem Vw.reads (I:Inv X pins σ H s) {d:PyData} {v:V} {u:Value} (h:Vw X.K F H d v) (n:noD d=true) (r:RelV v u):∃ as,Reads s.heap u d as:=by
 cases d with
 | list ds =>
  obtain ⟨a,xs,rfl,l,z,rs⟩:=kY h;cases (show u=Value.ref a from r);obtain ⟨its,rv,⟨o,k,h1,h2,h3,h4⟩,_⟩:=I.list l;obtain ⟨as,ra⟩:=DmL.reads I rs (by simpa [noD] using n) rv;exact ⟨_,.list h1 h2 h4 (by simpa using ra)⟩
 | dict ds=>simp [noD] at n
 | _=>exact Dm.reads (F:=F) I h n r
end
noncomputable def jK (d:PyData):Bool:=noD d&&decide (d.depth<=64)
def GZ (neg:Bool) (K:Fg):R2:=fun x y H Q=>∃ F d e,Vw K F H d x/\Vw K F H e y/\jK d=true/\jK e=true/\Q (.bl (if neg then !PyData.eqv d e else PyData.eqv d e)) H
noncomputable def eqD (neg:Bool) (d e:PyData):Option PR:=if jK d=true/\jK e=true then some (.dat (.bool (if neg then !PyData.eqv d e else PyData.eqv d e))) else none
noncomputable def Ce (neg:Bool):Prm:=Prm.two (GZ neg) (eqD neg) fun K F H x y u v pr Q hf hx hy hd q=>by
 unfold eqD at hf;split at hf
 ·rename_i h;cases hf;exact ⟨F,x,y,hx,hy,h.1,h.2,q _ H (az.rf H) rfl⟩
 ·cases hf
noncomputable abbrev eqP:Prm:=Ce false
noncomputable abbrev neP:Prm:=Ce true
theorem eG {K:Fg} {F:Addr->Prop} {H:Hp} {d:PyData} {v:V} (h:Vw K F H d v) (o:jK d=true):SeqAt.shaped d=true:=by
 have o':noD d=true/\d.depth<=64:=by simpa [jK] using o
 simp [SeqAt.shaped,h.lay o'.1,o'.2]
theorem ar {X:Cx} (hu:X.A.units+64 < cLine):OpR X (compareOp .Eq) (fun x y=>eqP.r X.K [x,y]):=by
 intro pins s σ H x y v u Q I rx ry h;obtain ⟨F,d,e,h1,h2,o1,o2,hq⟩:=h;obtain ⟨as,r1⟩:=h1.reads I (by have:=o1;simp [jK] at this;exact this.1) rx;obtain ⟨bs,r2⟩:=h2.reads I (by have:=o2;simp [jK] at this;exact this.1) ry;exact SeqAt.compareEq_shaped r1 r2 (eG h1 o1) (eG h2 o2) hu ⟨.bl _,H,I,rfl,hq⟩
theorem o7 {X:Cx} (hu:X.A.units+64 < cLine):OpR X (compareOp .NotEq) (fun x y=>neP.r X.K [x,y]):=by
 intro pins s σ H x y v u Q I rx ry h;obtain ⟨F,d,e,h1,h2,o1,o2,hq⟩:=h;obtain ⟨as,r1⟩:=h1.reads I (by have:=o1;simp [jK] at this;exact this.1) rx;obtain ⟨bs,r2⟩:=h2.reads I (by have:=o2;simp [jK] at this;exact this.1) ry;exact SeqAt.compareNe_shaped r1 r2 (eG h1 o1) (eG h2 o2) hu ⟨.bl _,H,I,rfl,hq⟩
noncomputable def qI:PyData->Bool | .none=>true | _=>false
theorem uA {K:Fg} {F:Addr->Prop} {H:Hp} {d:PyData} {v:V} (h:Vw K F H d v):decide (v=.non)=qI d:=by
 cases d with
 | none=>rw [DJ h];rfl
 | bool b=>rw [vBl h];rfl
 | int i=>rw [vInt h];rfl
 | str x=>rw [(vStr h).1];rfl
 | list ds=>obtain ⟨a,xs,rfl,_⟩:=kY h;rfl
 | tuple ds=>obtain ⟨a,xs,rfl,_⟩:=oq h;rfl
 | dict ds=>obtain ⟨a,rfl,_⟩:=h;rfl
noncomputable def isP:Prm:=Prm.two (fun _=>FL) (fun x y=>match y with | .none=>some (.dat (.bool (qI x))) | _=>none) fun K F H x y u v pr Q hf hx hy hd q=>by
 split at hf
 ·cases hf;exact ⟨DJ hy,q _ H (az.rf H) (by rw [uA hx];rfl)⟩
 ·cases hf
theorem my {X:Cx}:OpR X (compareOp .Is) (fun x y=>isP.r X.K [x,y]):=wZ
noncomputable def ixD:PyData->PyData->Option PR
 | .list xs,.int i=>(atI xs i).map .dat
 | .tuple xs,.int i=>(atI xs i).map .dat
 | .str x,.int i=>(atI x.cps.toList i).map fun c=>.dat (.str ⟨#[c]⟩)
 | _,_=>none
theorem ve {K:Fg} {F:Addr->Prop} {H:Hp} {ds:List PyData} {xs:List V} {i:Int} {d:PyData} (h:DmL K F H ds xs) (e:atI ds i=some d):∃ v,atI xs i=some v/\Dm K F H d v:=by
 unfold atI at e ⊢;rw [h.len];cases q:ixN ds.length i with
 | none=>rw [q] at e;cases e
 | some j =>
  rw [q] at e;have e:ds[j]?=some d:=e;exact h.get e
theorem yh {α:Type} {xs:List α} {i:Int} {x:α} (e:atI xs i=some x):x∈xs:=by
 unfold atI at e;cases q:ixN xs.length i with
 | none=>rw [q] at e;cases e
 | some j=>rw [q] at e;exact HG (show xs[j]?=some x from e)
noncomputable def ixP:Prm:=Prm.two rIx ixD fun K F H x y u v pr Q hf hx hy hd q=>by
 unfold ixD at hf;split at hf
 ·obtain ⟨d,e,rfl⟩:=HC.mp hf;obtain ⟨a,us,rfl,s1,z1,d1⟩:=kY hx;rw [vInt hy];obtain ⟨v,ev,dv⟩:=ve d1 e;exact .inl ⟨a,us,_,v,rfl,rfl,s1,ev,q _ H (az.rf H) dv⟩
 ·obtain ⟨d,e,rfl⟩:=HC.mp hf;obtain ⟨a,us,rfl,s1,z1,d1⟩:=oq hx;rw [vInt hy];obtain ⟨v,ev,dv⟩:=ve d1 e;exact .inr (.inl ⟨a,us,_,v,rfl,rfl,s1,ev,q _ H (az.rf H) dv⟩)
 ·rename_i x i;obtain ⟨c,e,rfl⟩:=HC.mp hf;obtain ⟨rfl,l1,o1⟩:=vStr hx;rw [vInt hy];have hc:=eH o1 c (yh e);exact .inr (.inr ⟨_,_,c,rfl,rfl,l1,e,q _ H (az.rf H) ⟨rfl,by show 1<=sizeLine;decide,by simp [PyData.strOk,hc]⟩⟩)
 ·cases hf
theorem aX {X:Cx}:IxR X (fun x y=>ixP.r X.K [x,y]):=yS
noncomputable def cutD {α:Type} (xs:List α) (lo hi:Option Int):List α:=(xs.drop (HT.sIx xs.length 0 lo)).take (HT.sIx xs.length xs.length hi - HT.sIx xs.length 0 lo)
noncomputable def slD (lo hi:Option Int):PyData->Option PR
 | .list xs=>some (.frs (.list (cutD xs lo hi)))
 | .tuple xs=>if HT.sIx xs.length 0 lo=0/\HT.sIx xs.length xs.length hi=xs.length then none else some (.dat (.tuple (cutD xs lo hi)))
 | .str x=>some (.dat (.str (oT x lo hi)))
 | _=>none
def DK (K:Fg) (lo hi:Option Int):V->Hp->VK->Prop:=fun x H Q=>BV E1 (BV (Ey K) (Fd K)) x lo hi H Q
section
variable {K:Fg} {F:Addr->Prop} {H:Hp}
theorem DmL.drop:∀ {ds:List PyData} {xs:List V} (n:Nat),DmL K F H ds xs->DmL K F H (ds.drop n) (xs.drop n)
 | ds,xs,0,h=>h
 | [],xs,n+1,h=>by rw [show xs=[] from h];rfl
 | d :: ds,xs,n+1,h=>by obtain ⟨v,r,rfl,_,h2⟩:=h;exact DmL.drop n h2
theorem DmL.take:∀ {ds:List PyData} {xs:List V} (n:Nat),DmL K F H ds xs->DmL K F H (ds.take n) (xs.take n)
 | ds,xs,0,h=>by rw [List.take_zero,List.take_zero];rfl
 | [],xs,n+1,h=>by rw [show xs=[] from h];rfl
 | d :: ds,xs,n+1,h=>by obtain ⟨v,r,rfl,h1,h2⟩:=h;exact ⟨v,_,rfl,h1,DmL.take n h2⟩
theorem DmL.cut {ds:List PyData} {xs:List V} (lo hi:Option Int) (h:DmL K F H ds xs):DmL K F H (cutD ds lo hi) (sx xs lo hi):=by
 unfold cutD sx;rw [h.len];exact (h.drop _).take _
theorem mD (xs:List V) (lo hi:Option Int):(sx xs lo hi).length<=xs.length:=by
 unfold sx;rw [IE,Jq];omega
theorem pe {x:Str} (lo hi:Option Int) (h:PyData.strOk x=true):PyData.strOk (oT x lo hi)=true:=by
 have hm:=eH h;unfold PyData.strOk oT;rw [Array.all_eq_true'];intro c hc;have:c∈(x.cps.toList.drop (HT.sIx x.length 0 lo)).take (HT.sIx x.length x.length hi - HT.sIx x.length 0 lo):=by simpa using hc
 have:=hm c (List.mem_of_mem_drop (List.mem_of_mem_take this));simpa using this
theorem Av {lo hi:Option Int} {x:PyData} {u:V} {pr:PR} {Q:VK} (hf:slD lo hi x=some pr) (hx:Vw K F H x u) (q:∀ w H',az H H'->uU K F H H' pr w->Q w H'):DK K lo hi u H Q:=by
 unfold slD at hf;split at hf
 ·cases hf;obtain ⟨a,us,rfl,s1,z1,d1⟩:=kY hx;exact .inr (.inl ⟨a,us,rfl,s1,fun p hp=>q _ _ (az.nw _ hp) (yq hp (HJ (mD _ _ _) z1) (d1.cut lo hi))⟩)
 ·split at hf
  ·cases hf
  rename_i hn;cases hf;obtain ⟨a,us,rfl,s1,z1,d1⟩:=oq hx;exact .inr (.inr ⟨a,us,rfl,s1,by rw [d1.len];exact hn,fun p hp=>q _ _ (az.nw _ hp) (DE hp (HJ (mD _ _ _) z1) (d1.cut lo hi))⟩)
 ·cases hf;obtain ⟨rfl,l1,o1⟩:=vStr hx;exact .inl ⟨_,rfl,l1,q _ H (az.rf H) ⟨rfl,HJ (g8 _ _ _) l1,pe lo hi o1⟩⟩
 ·cases hf
end
noncomputable def Gn:Prm:=Prm.two (fun K x y H Q=>∃ i,y=.int i/\DK K (some i) none x H Q) (fun x y=>match y with | .int i=>slD (some i) none x | _=>none) fun K F H x y u v pr Q hf hx hy hd q=>by
 split at hf
 ·exact ⟨_,vInt hy,Av hf hx q⟩
 ·cases hf
noncomputable def C1:Prm:=Prm.two (fun K x y H Q=>∃ i,y=.int i/\DK K none (some i) x H Q) (fun x y=>match y with | .int i=>slD none (some i) x | _=>none) fun K F H x y u v pr Q hf hx hy hd q=>by
 split at hf
 ·exact ⟨_,vInt hy,Av hf hx q⟩
 ·cases hf
noncomputable def FC:PyData->Option PR
 | .str x=>some (.dat (.int x.length))
 | .list xs=>some (.dat (.int xs.length))
 | .tuple xs=>some (.dat (.int xs.length))
 | _=>none
noncomputable def lR:Prm:=Prm.one (fun K x=>B4 K [x]) FC fun K F H x u pr Q hf hx hd q=>by
 unfold FC at hf;split at hf
 ·cases hf;obtain ⟨rfl,l1,o1⟩:=vStr hx;exact BR l1 (q _ H (az.rf H) rfl)
 ·cases hf;obtain ⟨a,us,rfl,s1,z1,d1⟩:=kY hx;exact yE s1 (q _ H (az.rf H) (by rw [d1.len];rfl))
 ·cases hf;obtain ⟨a,us,rfl,s1,z1,d1⟩:=oq hx;exact yI s1 (q _ H (az.rf H) (by rw [d1.len];rfl))
 ·cases hf
theorem hZ {X:Cx} {f:Value} {r:List V->Hp->VK->Prop} {r':V->Hp->VK->Prop} (h:aE X f r) (e:∀ x H Q,r' x H Q->r [x] H Q):aE X f (fun vs H Q=>match vs with | [u]=>r' u H Q | _=>False):=by
 intro pins s σ H xs us Q I rv q
 match xs,q with
 | [x],q=>exact h pins s σ H [x] us Q I rv (e x H Q q)
theorem a6 {X:Cx}:aE X (.builtin "len") (lR.r X.K):=hZ rG fun _ _ _ h=>h
noncomputable def Ck:Prm:=Prm.one (fun _ x=>D7 [x]) (fun x=>match x with | .int i=>some (.dat (.int (if i < 0 then -i else i))) | _=>none) fun K F H x u pr Q hf hx hd q=>by
 split at hf
 ·cases hf;rw [vInt hx];exact Dv (q _ H (az.rf H) rfl)
 ·cases hf
theorem lj {X:Cx}:aE X (.builtin "abs") (Ck.r X.K):=hZ qE fun _ _ _ h=>h
noncomputable def E2:Prm:=Prm.one (fun _ x=>By [x]) (fun x=>match x with | .int i=>some (.dat (.int i)) | .bool k=>some (.dat (.int (if k then 1 else 0))) | _=>none) fun K F H x u pr Q hf hx hd q=>by
 split at hf
 ·cases hf;rw [vInt hx];exact .inl ⟨_,rfl,q _ H (az.rf H) rfl⟩
 ·cases hf;rw [vBl hx];exact .inr ⟨_,rfl,q _ H (az.rf H) rfl⟩
 ·cases hf
theorem yg {X:Cx}:aE X (.type "int") (E2.r X.K):=hZ oK fun _ _ _ h=>h
noncomputable def CH:Prm:=Prm.two (fun _ x y=>AB [x,y]) (sd (fun _ _=>true) fun i j=>.int (if j < i then j else i)) fun K F H x y u v pr Q hf hx hy hd q=>by
 unfold sd at hf;split at hf
 ·rw [Hv rfl] at hf;cases hf;rw [vInt hx,vInt hy];exact ⟨_,_,rfl,q _ H (az.rf H) rfl⟩
 ·cases hf
theorem vE {X:Cx} {f:Value} {r:List V->Hp->VK->Prop} {r':R2} (h:aE X f r) (e:∀ x y H Q,r' x y H Q->r [x,y] H Q):aE X f (fun vs H Q=>match vs with | [u,v]=>r' u v H Q | _=>False):=by
 intro pins s σ H xs us Q I rv q
 match xs,q with
 | [x,y],q=>exact h pins s σ H [x,y] us Q I rv (e x y H Q q)
theorem xQ {X:Cx} (hc:X.calm=true):aE X (.builtin "min") (CH.r X.K):=vE (nH hc) fun _ _ _ _ h=>h
noncomputable def yu (T:String) (x:PyData):Option PR:=match T with
 | "str" => some (.dat (.bool (isS x)))
 | "int" => some (.dat (.bool (isI x)))
 | "bool" => some (.dat (.bool (isB x)))
 | "tuple" => some (.dat (.bool (isT x)))
 | "list" => some (.dat (.bool (isL x)))
 | _=>none
def DS (T:String) (K:Fg):V->Hp->VK->Prop:=fun x H Q=>∃ F d b,Vw K F H d x/\yu T d=some (.dat (.bool b))/\Q (.bl b) H
theorem EA {T:String} {d:PyData} {pr:PR} (h:yu T d=some pr):∃ b,pr=.dat (.bool b):=by
 unfold yu at h;split at h <;> first | (cases h;exact ⟨_,rfl⟩) | cases h
noncomputable def om (T:String):Prm:=Prm.one (DS T) (yu T) fun K F H x u pr Q hf hx hd q=>by
 obtain ⟨b,rfl⟩:=EA hf;exact ⟨F,x,b,hx,hf,q _ H (az.rf H) rfl⟩
theorem xo {K:Fg} {T:String} {d:PyData} {b:Bool} (h:yu T d=some (.dat (.bool b))):PySem.W.kitOne K (.type (tyN d)) (.type T)=some b:=by
 unfold yu at h;split at h
 ·cases h;exact DY d
 ·cases h;exact D6 d
 ·cases h;exact DC d
 ·cases h;exact DM d
 ·cases h;exact CP d
 ·cases h
def GD (K:Fg):List V->Hp->VK->Prop:=fun vs H Q=>match vs with | [x,.ty T]=>(om T).r K [x] H Q | _=>False
theorem vQ {X:Cx}:aE X (.builtin "isinstance") (GD X.K):=by
 intro pins s σ H xs us Q I r h
 match xs,h with
 | [x,.ty T'],h =>
  obtain ⟨F,d,b,hv,hb,q⟩:=h;obtain ⟨u,w',rfl,r1,r2⟩:=vals2 r;cases (show w'=Value.type T' from r2);have e:=xo (K:=X.K) hb;have fin:∀ tk,EP X pins σ Q (.bool b) { s with toks:=tk }:=fun tk=>⟨.bl b,H,I.tok _,rfl,q⟩;cases d with
  | none=>rw [DJ hv] at r1;cases (show u=Value.none from r1);exact Je PySem.W.kitx_none I.kIn True.intro e (fun z=>nomatch z) fin
  | bool y=>rw [vBl hv] at r1;cases (show u=Value.bool y from r1);exact Je PySem.W.kitx_bool I.kIn True.intro e (fun z=>nomatch z) fin
  | int i=>rw [vInt hv] at r1;obtain ⟨t,q⟩:=(show ∃ t,u=Value.int i t from r1);cases q;exact Je PySem.W.kitx_int I.kIn True.intro e (fun z=>nomatch z) fin
  | str y=>rw [(vStr hv).1] at r1;obtain ⟨t,q⟩:=(show ∃ t,u=Value.str y t from r1);cases q;exact Je PySem.W.kitx_str I.kIn True.intro e (fun z=>nomatch z) fin
  | list ds =>
   obtain ⟨a,xs,rfl,l,z,rs⟩:=kY hv;cases (show u=Value.ref a from r1);obtain ⟨its,rv,⟨o,k,h1,h2,h3,h4⟩,_⟩:=I.list l;exact Je PySem.W.kitx_list I.kIn ⟨o,h1,h2⟩ e (fun z=>nomatch z) fin
  | tuple ds =>
   obtain ⟨a,xs,rfl,l,z,rs⟩:=oq hv;cases (show u=Value.ref a from r1);obtain ⟨its,rv,⟨o,h1,h2,k,h4⟩,_⟩:=I.tuple l;exact Je PySem.W.kitx_tuple I.kIn ⟨o,h1,h2⟩ e (fun z=>nomatch z) fin
  | dict ds =>
   obtain ⟨a,rfl,ep,xs,ea,_⟩:=hv;cases (show u=Value.ref a from r1);obtain ⟨_,_,_,o,es,h1,h2,_⟩:=(show bj X.prog X.w H s.heap a (.dD ep xs) from I.hok a _ ea);exact Je PySem.W.kitx_dict I.kIn ⟨o,h1,h2.1⟩ e (fun z=>nomatch z) fin
noncomputable def chars (x:Str):List PyData:=x.cps.toList.map fun c=>.str ⟨#[c]⟩
noncomputable def eJ (x:Str):List V:=x.cps.toList.map fun c=>.str ⟨#[c]⟩
def Al (K:Fg):V->Hp->VK->Prop:=fun x H Q=>zA K [x] H Q\/∃ z,x=.str z/\z.length<=sizeLine/\∀ p,H p=none->Q (.ref p) (upd H p (.lst (eJ z)))
noncomputable def yQ:PyData->Option PR
 | .list xs=>some (.frs (.list xs))
 | .tuple xs=>some (.frs (.list xs))
 | .str x=>some (.frs (.list (chars x)))
 | _=>none
noncomputable def xX:Prm:=Prm.one Al yQ fun K F H x u pr Q hf hx hd q=>by
 unfold yQ at hf;split at hf
 ·cases hf;obtain ⟨a,us,rfl,s1,z1,d1⟩:=kY hx;exact .inl ⟨a,us,rfl,.inl s1,fun p hp=>q _ _ (az.nw _ hp) (yq hp z1 d1)⟩
 ·cases hf;obtain ⟨a,us,rfl,s1,z1,d1⟩:=oq hx;exact .inl ⟨a,us,rfl,.inr s1,fun p hp=>q _ _ (az.nw _ hp) (yq hp z1 d1)⟩
 ·cases hf;obtain ⟨rfl,l1,o1⟩:=vStr hx;refine .inr ⟨_,rfl,l1,fun p hp=>q _ _ (az.nw _ hp) (yq hp ?_ (wY (eH o1)))⟩;rw [show (eJ _).length=_ from Hf _];simpa [Str.length] using l1
 ·cases hf
theorem mw:∀ {xs:List V} {us:List Value},xs.length=us.length->(∀ (i:Nat) (x:V) (u:Value),xs[i]?=some x->us[i]?=some u->RelV x u)->Vals xs us
 | [],[],_,_=>.nil
 | [],_ :: _,h,_=>by cases h
 | _ :: _,[],h,_=>by cases h
 | x :: xs,u :: us,h,q=>.cons (q 0 x u rfl rfl) (mw (by simpa using h) fun i y w h1 h2=>q (i+1) y w (by simpa using h1) (by simpa using h2))
theorem nV {z:Str} {acc:Array Value} (h:ItemsOf (SignAt z) acc z.cps.size):Vals (eJ z) acc.toList:=by
 refine mw ?_ fun i x u h1 h2=>?_
 ·rw [show (eJ z).length=_ from Hf _];simp [h.1]
 ·obtain ⟨c,t,hc,rfl⟩:=h.2 i u (by simpa using h2);unfold eJ at h1;rw [Hq] at h1;have:z.cps.toList[i]?=some c:=by rw [<- hc];simp
  rw [this] at h1;cases h1;exact ⟨t,rfl⟩
theorem kK {X:Cx} (hc:X.calm=true):aE X (.type "list") (fun xs H Q=>∃ z,xs=[.str z]/\z.length<=sizeLine/\∀ p,H p=none->Q (.ref p) (upd H p (.lst (eJ z)))):=by
 intro pins s σ H xs us Q I r h;obtain ⟨z,rfl,hl,q⟩:=h;obtain ⟨u,rfl,r1⟩:=vals1 r;obtain ⟨t,rfl⟩:=r1;have hz:(eJ z).length<=sizeLine:=by rw [show (eJ z).length=_ from Hf _];simpa [Str.length] using hl
 refine call_list_str (I.ok.hd hc) z t (fun h' tk acc' c' hk hS hacc=>?_) hl;refine ⟨.ref s.heap.objs.size,_,I.laid (t':=tk) hk (Hn _) (show bj X.prog X.w _ h' _ (.lst (eJ z)) from ⟨hz,acc'.toList,c',?_,by rw [Array.toArray_toList];exact hS⟩),rfl,q _ (I.hok.fresh (Hn _))⟩;exact nV hacc
theorem sO {X:Cx} {f:Value} {r r':List V->Hp->VK->Prop} (h:aE X f r) (h':aE X f r'):aE X f (fun xs H Q=>r xs H Q\/r' xs H Q):=by
 intro pins s σ H xs us Q I rv q;rcases q with q | q
 ·exact h pins s σ H xs us Q I rv q
 ·exact h' pins s σ H xs us Q I rv q
theorem mr {X:Cx} (hc:X.calm=true):aE X (.type "list") (xX.r X.K):=hZ (sO oa (kK hc)) fun x H Q h=>h.imp id fun ⟨z,e,r⟩=>⟨z,by rw [e],r⟩
noncomputable def vm:PyData->Option PR
 | .list xs=>some (.dat (.tuple xs))
 | .tuple xs=>some (.dat (.tuple xs))
 | _=>none
noncomputable def mT:Prm:=Prm.one (fun K x=>vz K [x]) vm fun K F H x u pr Q hf hx hd q=>by
 unfold vm at hf;split at hf
 ·cases hf;obtain ⟨a,us,rfl,s1,z1,d1⟩:=kY hx;exact ⟨a,us,rfl,.inl ⟨s1,fun p hp=>q _ _ (az.nw _ hp) (DE hp z1 d1)⟩⟩
 ·cases hf;obtain ⟨a,us,rfl,s1,z1,d1⟩:=oq hx;exact ⟨a,us,rfl,.inr ⟨s1,q _ H (az.rf H) ⟨a,us,rfl,s1,z1,d1⟩⟩⟩
 ·cases hf
theorem fT {X:Cx}:aE X (.type "tuple") (mT.r X.K):=hZ lD fun _ _ _ h=>h
theorem bu (s:String):PyData.strOk (Str.ofString s)=true:=by
 rw [Str.ofString_eq_toList];unfold PyData.strOk;rw [Array.all_eq_true'];intro c hc;have:c∈s.toList.map Char.toNat:=by simpa using hc
 obtain ⟨ch,_,rfl⟩:=HW.mp this;have:=ch.valid;simp only [IV];rcases this with h | ⟨_,h⟩
 ·show ch.val.toNat < _;have:ch.val.toNat < 0xD800:=h;omega
 ·exact h
noncomputable def fR:List PyData->Option (List Bool)
 | []=>some []
 | .bool b :: r=>match fR r with | some bs=>some (b :: bs) | none=>none
 | _ :: _=>none
theorem qk {K:Fg} {F:Addr->Prop} {H:Hp}:∀ {ds:List PyData} {xs:List V} {bs:List Bool},fR ds=some bs->DmL K F H ds xs->xs=bs.map V.bl
 | [],xs,bs,h,q=>by cases h;exact q
 | .bool b :: r,xs,bs,h,q=>by
  unfold fR at h;split at h
  ·rename_i bs' h';cases h;obtain ⟨v,vr,rfl,h1,h2⟩:=q;rw [qk h' h2,show v=.bl b from h1];rfl
  ·cases h
 | .none :: r,xs,bs,h,q=>by cases h
 | .int _ :: r,xs,bs,h,q=>by cases h
 | .str _ :: r,xs,bs,h,q=>by cases h
 | .list _ :: r,xs,bs,h,q=>by cases h
 | .tuple _ :: r,xs,bs,h,q=>by cases h
 | .dict _ :: r,xs,bs,h,q=>by cases h
noncomputable def Cf:Prm:=Prm.one (fun K x=>Fz K [x]) (fun x=>match x with | .list ds=>(fR ds).map fun bs=>.dat (.bool (bs.all id)) | _=>none) fun K F H x u pr Q hf hx hd q=>by
 split at hf
 ·obtain ⟨bs,e,rfl⟩:=HC.mp hf;obtain ⟨a,us,rfl,s1,z1,d1⟩:=kY hx;rw [qk e d1] at s1;exact ⟨a,bs,rfl,s1,q _ H (az.rf H) rfl⟩
 ·cases hf
theorem vX {X:Cx} (hc:X.calm=true):aE X (.builtin "all") (Cf.r X.K):=hZ (qG hc) fun _ _ _ h=>h
theorem qv {K:Fg} {F:Addr->Prop} {H:Hp} {k:PyData}:∀ {ds:List (PyData×PyData)} {xs:List (PyData×V×V)},DmP K F H ds xs->(∀ d,getD ds k=some d->∃ v,qP xs k=some v/\Dm K F H d v)/\(getD ds k=none->qP xs k=none)
 | [],xs,h=>by
  rw [show xs=[] from h];exact ⟨fun d e=>(nomatch e),fun _=>rfl⟩
 | (k',d') :: ds,xs,h=>by
  obtain ⟨j,v,r,rfl,e,_,h1,h2⟩:=h;have ih:=qv (k:=k) h2;unfold getD qP at ih ⊢;rw [List.find?_cons,List.find?_cons];cases PyData.eqv k' k with
  | true=>exact ⟨fun d e=>(by cases e;exact ⟨v,rfl,h1⟩),fun e=>(nomatch e)⟩
  | false=>exact ih
mutual
theorem iH:∀ (d:PyData),hkB d=true->noD d=true
 | .int _,_=>rfl
 | .str _,_=>rfl
 | .tuple ds,h=>by rw [noD];exact pM ds h
 | .none,h=>by cases h
 | .bool _,h=>by cases h
 | .list _,h=>by cases h
 | .dict _,h=>by cases h
theorem pM:∀ (ds:List PyData),su ds=true->dq ds=true
 | [],_=>rfl
 | d :: ds,h=>by
  simp only [su,HL] at h;rw [dq,iH d h.1,pM ds h.2];rfl
end
theorem fS {d:PyData}:hk6 d=true↔hkB d=true/\d.depth<=6:=by simp [hk6]
theorem sP {K:Fg} {F:Addr->Prop} {H:Hp} {d:PyData} {v:V} (h:Vw K F H d v) (hk:hk6 d=true):kyB d=true:=by
 rw [fS] at hk;exact aB.mpr ⟨hk.1,h.lay (iH d hk.1),hk.2⟩
theorem uk {X:Cx} {pins:List (Addr×Obj)} {σ:St} {s:Shared} {F:Addr->Prop} {H:Hp} (I:Inv X pins σ H s):∀ {ds:List (PyData×PyData)} {xs:List (PyData×V×V)},DmP X.K F H ds xs->iy s.heap xs
 | [],xs,h=>by rw [show xs=[] from h];intro x hx;cases hx
 | (k,d) :: ds,xs,h=>by
  obtain ⟨j,v,r,rfl,hk,h0,_,h2⟩:=h;intro x hx;rcases HB.mp hx with rfl | hx
  ·exact ⟨sP h0.vw hk,fun u ru=>h0.reads I (iH _ (fS.mp hk).1) ru⟩
  ·exact uk I h2 x hx
def DA (K:Fg) (H:Hp) (x y:V) (k:PyData) (a:Addr) (ep:Nat) (xs:List (PyData×V×V)):Prop:=∃ (F:Addr->Prop) (kvs:List (PyData×PyData)),x=.ref a/\H a=some (.dD ep xs)/\DmP K F H kvs xs/\Vw K F H k y/\hk6 k=true
noncomputable def B8:PyData->PyData->Option PR
 | .dict kvs,k=>if hk6 k=true then (getD kvs k).map .dat else none
 | _,_=>none
def BJ (K:Fg):R2:=fun x y H Q=>∃ k a ep xs v,DA K H x y k a ep xs/\qP xs k=some v/\Q v H
noncomputable def jD:Prm:=Prm.two BJ B8 fun K F H x y u v pr Q hf hx hy hd q=>by
 unfold B8 at hf;split at hf
 ·split at hf
  ·rename_i kvs _ hk;obtain ⟨d,e,rfl⟩:=HC.mp hf;obtain ⟨a,rfl,ep,xs,ea,_,r⟩:=hx;obtain ⟨w,ew,dw⟩:=(qv r).1 d e;exact ⟨_,a,ep,xs,w,⟨F,_,rfl,ea,r,hy,hk⟩,ew,q _ H (az.rf H) dw⟩
  ·cases hf
 ·cases hf
def EK (neg:Bool) (K:Fg):R2:=fun y x H Q=>∃ k a ep xs,DA K H x y k a ep xs/\Q (.bl (if neg then !(qP xs k).isSome else (qP xs k).isSome)) H
noncomputable def Hd (neg:Bool):Prm:=Prm.two (EK neg) (fun k d=>match d with
  | .dict kvs=>if hk6 k=true then some (.dat (.bool (if neg then !(getD kvs k).isSome else (getD kvs k).isSome))) else none
  | _=>none) fun K F H y x v u pr Q hf hy hx hd q=>by
 split at hf
 ·rename_i kvs;split at hf
  ·rename_i hk;cases hf;obtain ⟨a,rfl,ep,xs,ea,_,r⟩:=hx;have g:=qv (k:=y) r;refine ⟨_,a,ep,xs,⟨F,kvs,rfl,ea,r,hy,hk⟩,q _ H (az.rf H) ?_⟩;have e:(qP xs y).isSome=(getD kvs y).isSome:=by
    cases z:getD kvs y with
    | none=>rw [g.2 z];rfl
    | some d=>obtain ⟨w,ew,_⟩:=g.1 d z;rw [ew];rfl
   rw [e];cases neg <;> rfl
  ·cases hf
 ·cases hf
section
variable {X:Cx} {a b o i e value:Expr} {pos pos':Pos} {ta tb td ty tv:TE}
theorem j4 (hu:X.A.units+64 < cLine) (ho:JE X a ta) (hi:JE X b tb) (hs:FD b):JE X (.Subscript a b pos) (tOp (fun x y=>jD.r X.K [x,y]) ta tb):=⟨by
 intro pins s σ H Q I h;refine we PySem.F.slot_dict_getitem.lookup hs (thn (ho.h pins s σ H _ I h) fun u s1 ⟨x,H1,I1,rx,q1⟩=>thn (hi.h pins s1 σ H1 _ I1 q1) fun iv s2 ⟨y,H2,I2,ry,k,p,ep,xs,v,⟨F,kvs,ex,ea,r,hk,hk6'⟩,gv,q2⟩=>?_);subst ex;obtain rfl:u=Value.ref p:=rx;obtain ⟨as,rk⟩:=hk.reads I2 (iH _ (fS.mp hk6').1) ry
 exact ⟨(i9 I2 ea).1,BO (by omega) I2 ea (uk I2 r) rk (sP hk hk6') gv fun t w' rw'=>⟨v,H2,I2.tok t,rw',q2⟩⟩⟩
theorem zG {keys:List (Option Expr)} {values:List Expr} {trs:List (TE×TE)} (h:JP X pos keys values trs) (hall:keys.all (·.isSome)=true) (hl:keys.length=values.length) (h0:keys≠[]) (h15:keys.length<=15):JE X (.Dict keys values pos) (oG trs):=⟨uf h.h hall hl h0 h15⟩
end
theorem mO {K:Fg} {F:Addr->Prop} {H:Hp}:∀ {ds:List (PyData×PyData)} {xs:List (PyData×V×V)},DmP K F H ds xs->xs.length=ds.length
 | [],xs,h=>by rw [show xs=[] from h];rfl
 | (k,d) :: ds,xs,h=>by obtain ⟨j,v,r,rfl,_,_,_,h2⟩:=h;rw [HA,HA,mO h2]
theorem E5 {K:Fg} {F:Addr->Prop} {H:Hp} {d:PyData} {v:V} (h:Vw K F H d v) (hk:hk6 d=true):Dm K F H d v:=by
 cases d with
 | list ds=>cases hk
 | dict ds=>cases hk
 | _=>exact h
noncomputable def tZ:tD where
 r:=fun K o y x H Q=>∃ k a ep xs,DA K H o y k a ep xs/\xs.length < sizeLine/\∀ ep',Q (upd H a (.dD ep' (kZ xs k y x)))
 f:=fun d k x=>match d with
  | .dict kvs=>if hk6 k=true/\kvs.length < sizeLine then some (.dict (putD kvs k x)) else none
  | _=>none
 ok:=fun K F H d a k x vk vx d' Q hf ha ht hk hx q=>by
  split at hf
  ·split at hf
   ·rename_i kvs h;cases hf;obtain ⟨ep,xs,ea,z,r⟩:=ht;have hlen:xs.length < sizeLine:=by rw [mO r];exact h.2
    refine ⟨k,a,ep,xs,⟨F,kvs,rfl,ea,r,hk,h.1⟩,hlen,fun ep'=>q _ (fun b o n e=>by rw [ab n];exact e) ?_⟩;have p:Pr F H (upd H a (.dD ep' (kZ xs k vk vx))):=fun b o e n=>by
     by_cases y:b=a
     ·subst y;rcases n with n | n
      ·exact absurd ha n
      ·rw [ea] at e;cases e;cases n
     ·rw [ab y];exact e
    exact ⟨_,_,ag,by have:=md (xs:=xs) (k:=k) (j:=vk) (v:=vx);omega,(qh r h.1 (E5 hk h.1) hx).pr p fun _ z=>z⟩
   ·cases hf
  ·cases hf
def Dx (K:Fg) (td ty tv:TE):TS:=fun D σ H=>tv σ H fun v H1=>td σ H1 fun x H2=>ty σ H2 fun y H3=>tZ.r K x y v H3 (D.nx σ)
theorem xx {X:Cx} {o i value:Expr} {pos pos':Pos} {td ty tv:TE} (hu:X.A.units+64 < cLine) (ho:JE X o td) (hi:JE X i ty) (hv:JE X value tv) (hs:swapsWith value (some (.Subscript o i pos')) pos.line X.env=pure false) :
  JS X (.Assign [.Subscript o i pos'] value pos) (Dx X.K td ty tv):=⟨by
 intro pins s σ H D I h;refine wpAny_Assign_Subscript (thn (hv.h pins s σ H _ I h) fun r s1 ⟨v,H1,I1,rv,q1⟩=>thn (ho.h pins s1 σ H1 _ I1 q1) fun u s2 ⟨x,H2,I2,rx,q2⟩=>thn (hi.h pins s2 σ H2 _ I2 q2) fun iv s3 ⟨y,H3,I3,ry,k,p,ep,xs,⟨F,kvs,ex,ea,r,hk,hk6'⟩,hl,q3⟩=>?_) hs;subst ex;obtain rfl:u=Value.ref p:=rx;obtain ⟨as,rk⟩:=hk.reads I3 (iH _ (fS.mp hk6').1) ry
 exact CW (by omega) I3 ea (uk I3 r) rk (sP hk hk6') ry rv hl fun ep' s4 I4=>⟨σ,_,I4,q3 ep'⟩⟩
theorem uE {F:Addr->Prop} {H:Hp} {a:Addr} {o o':HO} (ha:F a) (e:H a=some o') (w:Wr o'=true):Pr F H (upd H a o):=fun b u q n=>by
 by_cases y:b=a
 ·subst y;rcases n with n | n
  ·exact absurd ha n
  ·rw [e] at q;cases q;rw [n] at w;cases w
 ·rw [ab y];exact q
theorem DmL.set {K:Fg} {F:Addr->Prop} {H:Hp}:∀ {ds:List PyData} {xs:List V} {d:PyData} {v:V} (j:Nat),DmL K F H ds xs->Dm K F H d v->DmL K F H (ds.set j d) (xs.set j v)
 | [],xs,d,v,j,h,q=>by rw [show xs=[] from h];rfl
 | e :: ds,xs,d,v,0,h,q=>by obtain ⟨w,r,rfl,_,h2⟩:=h;exact ⟨v,r,rfl,q,h2⟩
 | e :: ds,xs,d,v,j+1,h,q=>by obtain ⟨w,r,rfl,h1,h2⟩:=h;exact ⟨w,_,rfl,h1,DmL.set j h2 q⟩
noncomputable def Cc:tD where
 r:=fun _ o i x H Q=>Ad o i x H Q
 f:=fun d k x=>match d,k with
  | .list xs,.int i=>(ixN xs.length i).map fun j=>.list (xs.set j x)
  | _,_=>none
 ok:=fun K F H d a k x vk vx d' Q hf ha ht hk hx q=>by
  split at hf
  ·obtain ⟨j,e,rfl⟩:=HC.mp hf;obtain ⟨xs,ea,z,r⟩:=ht;rw [vInt hk];refine ⟨a,xs,_,j,rfl,rfl,ea,by rw [r.len];exact e,q _ (fun b o n e=>by rw [ab n];exact e) ⟨_,ag,by rw [HK];exact z,(r.set j hx).pr (uE ha ea rfl) fun _ z=>z⟩⟩
  ·cases hf
theorem yO {K:Fg} {F:Addr->Prop} {H:Hp} {d:PyData} {a:Addr} (h:isL d=true) (t:Top K F H d a):tyV K "list" (.ref a) H:=by
 cases d with
 | list ds=>obtain ⟨xs,e,_⟩:=t;exact .inl ⟨rfl,xs,.inl (.inl e)⟩
 | _=>cases h
noncomputable def sV:Mtr where
 T := "list"
 r:=fun _=>pI
 ty:=isL
 f:=fun d as=>match d,as with
  | .list xs,[(true,x)]=>if xs.length < sizeLine then some (.list (xs++[x]),.none) else none
  | _,_=>none
 yy:=fun K F H d a h t=>yO h t
 ok:=fun K F H d a as vs d' x Q hf ha ht hv q=>by
  split at hf
  ·split at hf
   ·rename_i hl;cases hf;obtain ⟨v,r,rfl,hv,rfl⟩:=hv;obtain ⟨xs,ea,z,rx⟩:=ht;refine ⟨a,xs,v,rfl,rfl,ea,by rw [rx.len];exact hl,q _ _ (fun b o n e=>by rw [ab n];exact e) ⟨_,ag,by rw [Ho,rx.len];simp;omega,(rx.snoc hv).pr (uE ha ea rfl) fun _ z=>z⟩ rfl⟩
   ·cases hf
  ·cases hf
noncomputable def strsOf:List PyData->Option (List Str)
 | []=>some []
 | .str x :: r=>match strsOf r with | some xs=>some (x :: xs) | none=>none
 | _ :: _=>none
theorem mh {K:Fg} {F:Addr->Prop} {H:Hp}:∀ {ds:List PyData} {xs:List V} {ss:List Str},strsOf ds=some ss->DmL K F H ds xs->xs=ss.map V.str/\∀ s∈ss,PyData.strOk s=true
 | [],xs,bs,h,q=>by cases h;exact ⟨q,fun s z=>by cases z⟩
 | .str b :: r,xs,bs,h,q=>by
  unfold strsOf at h;split at h
  ·rename_i bs' h';cases h;obtain ⟨v,vr,rfl,h1,h2⟩:=q;obtain ⟨i1,i2⟩:=mh h' h2;refine ⟨by rw [i1,show v=.str b from h1.1];rfl,fun s z=>?_⟩;rcases HB.mp z with rfl | z
   ·exact h1.2.2
   ·exact i2 s z
  ·cases h
 | .none :: r,xs,bs,h,q=>by cases h
 | .int _ :: r,xs,bs,h,q=>by cases h
 | .bool _ :: r,xs,bs,h,q=>by cases h
 | .list _ :: r,xs,bs,h,q=>by cases h
 | .tuple _ :: r,xs,bs,h,q=>by cases h
 | .dict _ :: r,xs,bs,h,q=>by cases h
theorem jN (g:Array Nat):∀ (ps:List Str) (acc:Array Nat),(ps.foldl (fun acc p=>acc++g++p.cps) acc).size=acc.size+(ps.map fun p=>p.length).sum+ps.length*g.size
 | [],acc=>by simp
 | p :: ps,acc=>by
  rw [J0,jN g ps];simp only [List.map_cons,List.sum_cons,HA,Array.size_append,Nat.succ_mul];show acc.size+g.size+p.cps.size+_+_=acc.size+(p.cps.size+_)+_;omega
theorem me (z:Str) (ss:List Str):(Txt.join z ss).length<=(ss.map (·.length)).sum+ss.length*z.length:=by
 cases ss with
 | nil =>
  have:(Txt.join z []).length=0:=rfl;rw [this];exact Ip _
 | cons x r =>
  show ((r.foldl (fun acc p=>acc++z.cps++p.cps) x.cps)).size<=_;rw [jN];simp only [List.map_cons,List.sum_cons,HA,Nat.succ_mul];show x.cps.size+_+r.length*z.cps.size<=x.cps.size+_+(r.length*z.cps.size+z.cps.size);omega
theorem m3 {g:Array Nat} (hg:g.all (· < 0x110000)=true):∀ (ps:List Str) (acc:Array Nat),(∀ p∈ps,PyData.strOk p=true)->acc.all (· < 0x110000)=true->(ps.foldl (fun acc p=>acc++g++p.cps) acc).all (· < 0x110000)=true
 | [],acc,_,h=>h
 | p :: ps,acc,hp,h=>by
  rw [J0];refine m3 hg ps _ (fun q hq=>hp q (Hr _ hq)) ?_;rw [Array.all_append,Array.all_append,h,hg,show p.cps.all (· < 0x110000)=true from hp p Hu];rfl
theorem hV {z:Str} {ss:List Str} (hz:PyData.strOk z=true) (hs:∀ s∈ss,PyData.strOk s=true):PyData.strOk (Txt.join z ss)=true:=by
 cases ss with
 | nil=>exact bu ""
 | cons x r=>exact m3 hz r _ (fun q hq=>hs q (Hr _ hq)) (hs x Hu)
noncomputable def fu (z:Str) (ss:List Str):Bool:=decide ((ss.map (·.length)).sum+ss.length*z.length<=16777216)
noncomputable def z8:PyData->List PyData->Option PR
 | .str z,[.list ds]=>match strsOf ds with | some ss=>if fu z ss=true then some (.dat (.str (Txt.join z ss))) else none | none=>none
 | .str z,[.tuple ds]=>match strsOf ds with | some ss=>if fu z ss=true then some (.dat (.str (Txt.join z ss))) else none | none=>none
 | _,_=>none
theorem ty_str {K:Fg} {F:Addr->Prop} {H:Hp} {d:PyData} {v:V} (h:isS d=true) (t:Vw K F H d v):tyV K "str" v H:=by
 cases d with
 | str x=>rw [(vStr t).1];rfl
 | _=>cases h
noncomputable def joinM:Mtd where
 T := "str"
 r:=uN
 ty:=isS
 f:=z8
 yy:=fun K F H d v h t=>ty_str h t
 ok:=fun K F H d v ds vs pr Q hf hx hv hd q=>by
  unfold z8 at hf;split at hf
  ·rename_i z ds;split at hf
   ·rename_i ss hss;split at hf
    ·rename_i hok;cases hf;obtain ⟨rfl,l1,o1⟩:=vStr hx;obtain ⟨w,r,rfl,hw,rfl⟩:=hv;obtain ⟨a,us,rfl,s1,z1,d1⟩:=kY hw;obtain ⟨e,os⟩:=mh hss d1;rw [e] at s1;have hok':(ss.map (·.length)).sum+ss.length*z.length<=16777216:=by simpa [fu] using hok
     exact ⟨z,a,ss,rfl,rfl,.inl s1,hok',q _ H (az.rf H) ⟨rfl,HJ (me z ss) hok',hV o1 os⟩⟩
    ·cases hf
   ·cases hf
  ·rename_i z ds;split at hf
   ·rename_i ss hss;split at hf
    ·rename_i hok;cases hf;obtain ⟨rfl,l1,o1⟩:=vStr hx;obtain ⟨w,r,rfl,hw,rfl⟩:=hv;obtain ⟨a,us,rfl,s1,z1,d1⟩:=oq hw;obtain ⟨e,os⟩:=mh hss d1;rw [e] at s1;have hok':(ss.map (·.length)).sum+ss.length*z.length<=16777216:=by simpa [fu] using hok
     exact ⟨z,a,ss,rfl,rfl,.inr s1,hok',q _ H (az.rf H) ⟨rfl,HJ (me z ss) hok',hV o1 os⟩⟩
    ·cases hf
   ·cases hf
  ·cases hf
noncomputable def Fn.no (ms:List PM):Fn:=⟨ms,fun _=>none⟩
theorem vf {K:Fg} {F:Addr->Prop} {H:Hp}:∀ {ns:List Int},DmL K F H (ns.map .int) (ns.map .int)
 | []=>rfl
 | n :: ns=>⟨_,_,rfl,rfl,vf⟩
theorem Bp {f:Fn} {K:Fg} {H:Hp} {a:Addr} {ns:List Int} (hm:f.ms=[.dat]) (hl:ns.length<=63) (hS:SqL K H a (ns.map V.int)) (hF:f.F [.list (ns.map .int)]=some (.dat (.bool true),[])):bZ f K [.ref a] H (fun v _=>v=.bl true) fun _ _ _=>False:=by
 refine ⟨fun _=>False,[.list (ns.map .int)],[],.dat (.bool true),[],hF,?_,fun _ h=>absurd h id,fun v' H' _ r=>r.1⟩;rw [hm];refine ⟨⟨a,ns.map .int,rfl,?_,?_,vf⟩,rfl⟩
 ·rcases hS with hS | hS
  ·exact .inl ⟨id,hS⟩
  ·exact .inr hS
 ·rw [Hf];exact HJ hl (by decide)
open PySem PySem.Spec PyProof.Rows
noncomputable def kB (d:PyData):Bool:=noD d&&decide (d.depth<=32)
noncomputable def fy (ds:List PyData) (x:PyData):Bool:=ds.any fun d=>PyData.eqv d x
noncomputable def ngB (neg b:Bool):Bool:=if neg then !b else b
def GX (neg:Bool) (K:Fg):R2:=rOr (fun x y H Q=>∃ i j,x=.str i/\y=.str j/\Q (.bl (ngB neg (!(Builtin.Str.occurrences j i 0 j.length 1).isEmpty))) H)
 fun x y H Q=>∃ (p:Addr) (xs:List V) (F:Addr->Prop) (d:PyData) (ds:List PyData),y=.ref p/\(SqL K H p xs\/SqT K H p xs)/\Vw K F H d x/\DmL K F H ds xs/\kB d=true/\dq ds=true/\Q (.bl (ngB neg (fy ds d))) H
noncomputable def inD (neg:Bool):PyData->PyData->Option PR
 | .str i,.str j=>some (.dat (.bool (ngB neg (!(Builtin.Str.occurrences j i 0 j.length 1).isEmpty))))
 | x,.list ds=>if kB x=true/\dq ds=true then some (.dat (.bool (ngB neg (fy ds x)))) else none
 | x,.tuple ds=>if kB x=true/\dq ds=true then some (.dat (.bool (ngB neg (fy ds x)))) else none
 | _,_=>none
noncomputable def F5 (neg:Bool):Prm:=Prm.two (GX neg) (inD neg) fun K F H x y u v pr Q hf hx hy hd q=>by
 unfold inD at hf;split at hf
 ·cases hf;exact .inl ⟨_,_,(vStr hx).1,(vStr hy).1,q _ H (az.rf H) rfl⟩
 ·split at hf
  ·rename_i h;cases hf;obtain ⟨a,us,rfl,s1,z1,d1⟩:=kY hy;exact .inr ⟨a,us,F,_,_,rfl,.inl s1,hx,d1,h.1,h.2,q _ H (az.rf H) rfl⟩
  ·cases hf
 ·split at hf
  ·rename_i h;cases hf;obtain ⟨a,us,rfl,s1,z1,d1⟩:=oq hy;exact .inr ⟨a,us,F,_,_,rfl,.inr s1,hx,d1,h.1,h.2,q _ H (az.rf H) rfl⟩
  ·cases hf
 ·cases hf
noncomputable abbrev inP:Prm:=F5 false
noncomputable abbrev lY:Prm:=F5 true
open Classical in
noncomputable def eqR (h:Heap) (x:PyData) (u:Value):Bool:=if q:∃ d as,Reads h u d as then PyData.eqv (Classical.choose q) x else false
theorem vo {h:Heap} {x d:PyData} {u:Value} {as:List Addr} (r:Reads h u d as):eqR h x u=PyData.eqv d x:=by
 have q:∃ d as,Reads h u d as:=⟨d,as,r⟩;unfold eqR;rw [dif_pos q];obtain ⟨bs,r2⟩:=Classical.choose_spec q;rw [(PySem.Reads.unique r _ _ r2).1]
section
variable {X:Cx} {pins:List (Addr×Obj)} {σ:St} {s:Shared} {H:Hp} {F:Addr->Prop}
theorem gX (I:Inv X pins σ H s) (x:PyData):∀ {ds:List PyData} {xs:List V} {us:List Value},DmL X.K F H ds xs->dq ds=true->Vals xs us->us.any (eqR s.heap x)=fy ds x
 | [],xs,us,h,_,r=>by rw [show xs=[] from h] at r;cases r;rfl
 | d :: ds,xs,us,h,n,r=>by
  obtain ⟨v,t,rfl,h1,h2⟩:=h;have n':noD d=true/\dq ds=true:=by simpa [dq] using n
  cases r with
  | cons r1 r2 =>
   obtain ⟨as,ra⟩:=h1.reads I n'.1 r1;rw [Jr,vo ra,gX I x h2 n'.2 r2];rfl
theorem ig (I:Inv X pins σ H s) {A:Around} {x:PyData} {b:Value} {bs:List Addr} (rb:Reads s.heap b x bs) (hb:x.canLay0=true) (hu:A.units+x.depth < cLine):∀ {ds:List PyData} {xs:List V} {us:List Value},DmL X.K F H ds xs->dq ds=true->Vals xs us->∀ u∈us,SeqAt.EqAt A s u b (eqR s.heap x u)
 | [],xs,us,h,_,r=>by rw [show xs=[] from h] at r;cases r;intro u hu;cases hu
 | d :: ds,xs,us,h,n,r=>by
  obtain ⟨v,t,rfl,h1,h2⟩:=h;have n':noD d=true/\dq ds=true:=by simpa [dq] using n
  cases r with
  | cons r1 r2 =>
   intro u hm;rcases HB.mp hm with rfl | hm
   ·obtain ⟨as,ra⟩:=h1.reads I n'.1 r1;rw [vo ra];exact SeqAt.eqAt_reads d x A s _ b as bs ra rb (h1.lay n'.1) hb (by omega)
   ·exact ig I rb hb hu h2 n'.2 r2 u hm
end
theorem jP {X:Cx} (hu:X.A.units+64 < cLine):OpR X (compareOp .In) (fun x y=>inP.r X.K [x,y]):=by
 refine orR BG ?_;intro pins s σ H x y v u Q I rx ry h;obtain ⟨p,xs,F,d,ds,rfl,hq,hd,hs,o1,o2,q⟩:=h;have o1':noD d=true/\d.depth<=32:=by simpa [kB] using o1
 cases ry;obtain ⟨bs,rb⟩:=hd.reads I o1'.1 rx;rcases hq with hq | hq
 ·obtain ⟨its,r,pl,hz⟩:=I.list hq;refine SeqAt.in_listAt (eqR s.heap d) pl.isList (fun w hw=>ig I rb (hd.lay o1'.1) (by have:X.A.in1.units=X.A.units+1:=rfl;omega) hs o2 r w (by simpa using hw)) ⟨.bl _,H,I,rfl,?_⟩;rw [show its.toArray.any (eqR s.heap d)=its.any (eqR s.heap d) by simp,gX I d hs o2 r];exact q
 ·obtain ⟨its,r,pl,hz⟩:=I.tuple hq;refine SeqAt.in_tupleAt (eqR s.heap d) pl (fun w hw=>ig I rb (hd.lay o1'.1) (by have:X.A.in1.units=X.A.units+1:=rfl;omega) hs o2 r w (by simpa using hw)) ⟨.bl _,H,I,rfl,?_⟩;rw [show its.toArray.any (eqR s.heap d)=its.any (eqR s.heap d) by simp,gX I d hs o2 r];exact q
theorem j9 {X:Cx} (hu:X.A.units+64 < cLine):OpR X (compareOp .NotIn) (fun x y=>lY.r X.K [x,y]):=by
 refine orR rM ?_;intro pins s σ H x y v u Q I rx ry h;obtain ⟨p,xs,F,d,ds,rfl,hq,hd,hs,o1,o2,q⟩:=h;have o1':noD d=true/\d.depth<=32:=by simpa [kB] using o1
 cases ry;obtain ⟨bs,rb⟩:=hd.reads I o1'.1 rx;rcases hq with hq | hq
 ·obtain ⟨its,r,pl,hz⟩:=I.list hq;refine SeqAt.notIn_listAt (eqR s.heap d) pl.isList (fun w hw=>ig I rb (hd.lay o1'.1) (by have:X.A.in1.units=X.A.units+1:=rfl;omega) hs o2 r w (by simpa using hw)) ⟨.bl _,H,I,rfl,?_⟩;rw [show its.toArray.any (eqR s.heap d)=its.any (eqR s.heap d) by simp,gX I d hs o2 r];exact q
 ·obtain ⟨its,r,pl,hz⟩:=I.tuple hq;refine SeqAt.notIn_tupleAt (eqR s.heap d) pl (fun w hw=>ig I rb (hd.lay o1'.1) (by have:X.A.in1.units=X.A.units+1:=rfl;omega) hs o2 r w (by simpa using hw)) ⟨.bl _,H,I,rfl,?_⟩;rw [show its.toArray.any (eqR s.heap d)=its.any (eqR s.heap d) by simp,gX I d hs o2 r];exact q
theorem bq.no {P:Program} {w:World} {K:Fg} {mg:Str->Option Value} {base:Heap} {k:Nat} {f:Addr} {fd:FuncData} {ps:List Str} {sp:Sp} {x qual:Str} {st:Stmt} {N:List Str} (F:Fun K x qual st f fd) (S:ao N ps (aa st)) (h:∀ vs H Q E,¬sp vs H Q E):bq P w K mg base CX0 (k+1) f fd ps sp :=
 F.okJ S (fun vs H Q E z=>(h vs H Q E z).elim) (fun cdv A outer s H vs Q E hr z=>(h vs H Q E z).elim)
open PySem
structure Kn where
 nx:En->Prop
 rt:RV->En->Prop
 bk:En->Prop
 ct:En->Prop
def Kn.at (E:Kn):Out->Prop | .nx e=>E.nx e | .rt r e=>E.rt r e | .bk e=>E.bk e | .ct e=>E.ct e
def WS (gd:List PyData) (s:XS) (env:En) (E:Kn):Prop:=∃ o,dS gd s env=some o/\E.at o
def WE (gd:List PyData) (e:XE) (env:En) (Q:RV->En->Prop):Prop:=∃ r e',dE gd e env=some (r,e')/\Q r e'
def WA (gd:List PyData) (e:XA) (env:En) (Q:List AV->En->Prop):Prop:=∃ r e',dA gd e env=some (r,e')/\Q r e'
def WT (gd:List PyData) (e:XT) (env:En) (Q:Bool->En->Prop):Prop:=∃ r e',dT gd e env=some (r,e')/\Q r e'
def WI (gd:List PyData) (e:XI) (env:En) (Q:List PyData->Option Nat->En->Prop):Prop:=∃ ds lk e',dI gd e env=some (ds,lk,e')/\Q ds lk e'
def WF (f:Fn) (ds:List PyData) (Q:PR->List PyData->Prop):Prop:=∃ pr outs,f.F ds=some (pr,outs)/\Q pr outs
def WPr (p:Prm) (avs:List AV) (e:En) (Q:RV->En->Prop):Prop:=∃ ds pr,aQ e avs=some ds/\p.f ds=some pr/\Q pr.rv e
def zx (i:Nat) (r:RV) (e:En) (N:En->Prop):Prop:=∃ d,r.av=.dat d/\free e i=true/\N (e.set i (.dat d))
def pZ (i:Nat) (r:RV) (e:En) (N:En->Prop):Prop:=∃ d,r=.frs d/\free e i=true/\N (e.set i (.own d))
def CO (b:PyData->En->Option Out) (ds:List PyData) (lk:Option Nat) (e1:En) (E:Kn):Prop:=∃ o,forL b ds (bh e1 lk)=some o/\E.at (o.map (lkd e1 lk) (ay e1 lk))
def nU (f:Fn) (avs:List AV) (e:En) (Q:RV->En->Prop):Prop:=∃ rv e',sY f avs e=some (rv,e')/\Q rv e'
def Cs (ms:List PM) (QF:PR->List PyData->Prop) (r:RV) (e:En):Prop:=∃ pr outs,r.pr=some pr/\f7 ms e=some outs/\QF pr outs
def sX (ms:List PM) (QF:PR->List PyData->Prop) (e:En):Prop:=∃ outs,f7 ms e=some outs/\QF (.dat .none) outs
def An (m:tD) (i:Nat) (v:PyData) (rk:RV) (e2:En) (N:En->Prop):Prop:=∃ dk d d',rk.view e2=some dk/\aK e2 i=some d/\m.f d dk v=some d'/\N (fE e2 i d')
def Cp (gd:List PyData) (m:tD) (i:Nat) (a:XE) (r:RV) (e:En) (N:En->Prop):Prop:=∃ v,r.av=.dat v/\(aK e i).isSome=true/\WE gd a e fun rk e2=>An m i v rk e2 N
def BW (m:Mtd) (r:RV) (avs:List AV) (e2:En) (Q:RV->En->Prop):Prop:=∃ d ds pr,r.view e2=some d/\aQ e2 avs=some ds/\m.f d ds=some pr/\Q pr.rv e2
def Cr (gd:List PyData) (m:Mtd) (as:XA) (r:RV) (e:En) (Q:RV->En->Prop):Prop:=∃ d0,r.view e=some d0/\m.ty d0=true/\WA gd as e fun avs e2=>BW m r avs e2 Q
def WMr (m:Mtr) (i:Nat) (avs:List AV) (e2:En) (Q:RV->En->Prop):Prop:=∃ d ds d' x,aK e2 i=some d/\dU e2 avs=some ds/\m.f d ds=some (d',x)/\Q (.dat x) (fE e2 i d')
def WTp (mk:List PyData->RV) (avs:List AV) (e:En) (Q:RV->En->Prop):Prop:=∃ ds,jZ avs=some ds/\ds.length<=sizeLine/\Q (mk ds) e
def Cu (is:List Nat) (r:RV) (e:En) (N:En->Prop):Prop:=∃ ds e2,r.av=.dat (.tuple ds)/\eQ e is ds=some e2/\N e2
section
variable {gd:List PyData} {env e1:En} {E:Kn} {Q:RV->En->Prop} {QA:List AV->En->Prop} {QT:Bool->En->Prop} {QI:List PyData->Option Nat->En->Prop} {i:Nat} {d:PyData} {a b c:XE} {as:XA} {s t:XS} {p:Prm} {f:Fn} {x y:XT}
theorem d4 {ms:List PM} {n:Nat} {ds:List PyData} {QF:PR->List PyData->Prop} (hl:ds.length=ms.length) (h:WS gd s (ak ms ds n) ⟨sX ms QF,Cs ms QF,fun _=>False,fun _=>False⟩):WF (cN gd ms n s) ds QF:=by
 obtain ⟨o,ho,q⟩:=h;unfold WF cN;simp only;rw [Hv hl,ho];cases o with
 | nx e=>obtain ⟨outs,h1,h2⟩:=q;simp only [h1];exact ⟨_,_,rfl,h2⟩
 | rt r e=>obtain ⟨pr,outs,h1,h2,h3⟩:=q;simp only [h1,h2];exact ⟨_,_,rfl,h3⟩
 | bk e=>exact absurd q id
 | ct e=>exact absurd q id
theorem Bu (h:WS gd s env { E with nx:=fun e=>WS gd t e E }):WS gd (.seq s t) env E:=by
 obtain ⟨o,ho,q⟩:=h;unfold WS;simp only [dS,ho];cases o with
 | nx e=>exact q
 | rt r e=>exact ⟨_,rfl,q⟩
 | bk e=>exact ⟨_,rfl,q⟩
 | ct e=>exact ⟨_,rfl,q⟩
theorem dG (h:∀ N:En->Prop,N=(fun e=>WS gd t e E)->WS gd s env { E with nx:=N }):WS gd (.seq s t) env E:=Bu (h _ rfl)
theorem oh {e:En} {x y:AV} {i:Int} {xs:List PyData} (h1:aQ e [x,y]=some [.list xs,.int i]) (h:atI xs i=some d) (q:Q (.dat d) e):WPr ixP [x,y] e Q:=⟨_,.dat d,h1,by show (atI xs i).map PR.dat=_;rw [h];rfl,q⟩
theorem ud {e:En} {x y:AV} {i:Int} {z:Str} {c:Nat} (h1:aQ e [x,y]=some [.str z,.int i]) (h:atI z.cps.toList i=some c) (q:Q (.dat (.str ⟨#[c]⟩)) e):WPr ixP [x,y] e Q:=⟨_,.dat (.str ⟨#[c]⟩),h1,by show (atI z.cps.toList i).map _=_;rw [h];rfl,q⟩
theorem y9 (h:E.nx env):WS gd .skip env E:=⟨_,rfl,h⟩
theorem Ej (h:E.bk env):WS gd .brk env E:=⟨_,rfl,h⟩
theorem CG (h:E.ct env):WS gd .cnt env E:=⟨_,rfl,h⟩
theorem B7 (h:E.rt (.dat .none) env):WS gd .Cz env E:=⟨_,rfl,h⟩
theorem yK (h:WE gd a env fun r e=>zx i r e E.nx):WS gd (.bx i a) env E:=by
 obtain ⟨r,e',h1,d,h2,h3,h4⟩:=h;unfold WS;simp only [dS,h1,h2];rw [Hv h3];exact ⟨_,rfl,h4⟩
theorem A9 (h:WE gd a env fun r e=>pZ i r e E.nx):WS gd (.oo i a) env E:=by
 obtain ⟨r,e',h1,d,rfl,h3,h4⟩:=h;unfold WS;simp only [dS,h1];rw [Hv h3];exact ⟨_,rfl,h4⟩
theorem Cb {is:List Nat} (h:WE gd a env fun r e=>Cu is r e E.nx):WS gd (.Ab is a) env E:=by
 obtain ⟨r,e',h1,ds,e2,h2,h3,h4⟩:=h;unfold WS;simp only [dS,h1,h2,h3];exact ⟨_,rfl,h4⟩
theorem AI (h:WE gd a env fun _ e=>E.nx e):WS gd (.drop a) env E:=by
 obtain ⟨r,e',h1,h2⟩:=h;unfold WS;simp only [dS,h1];exact ⟨_,rfl,h2⟩
theorem Dh (h:WE gd a env E.rt):WS gd (.ret a) env E:=by
 obtain ⟨r,e',h1,h2⟩:=h;unfold WS;simp only [dS,h1];exact ⟨_,rfl,h2⟩
theorem DW (h:WT gd x env fun b e=>if b=true then WS gd s e E else WS gd t e E):WS gd (.ifs x s t) env E:=by
 obtain ⟨b,e',h1,h2⟩:=h;unfold WS;simp only [dS,h1];cases b with
 | true=>exact h2
 | false=>exact h2
theorem GP {it:XI} (h:WI gd it env fun ds lk e=>CO (iN i (dS gd s)) ds lk e E):WS gd (.fr i it s) env E:=by
 obtain ⟨ds,lk,e',h1,o,h2,h3⟩:=h;unfold WS;simp only [dS,h1,h2];exact ⟨_,rfl,h3⟩
theorem CF {is:List Nat} {it:XI} (h:WI gd it env fun ds lk e=>CO (gQ is (dS gd s)) ds lk e E):WS gd (.frT is it s) env E:=by
 obtain ⟨ds,lk,e',h1,o,h2,h3⟩:=h;unfold WS;simp only [dS,h1,h2];exact ⟨_,rfl,h3⟩
theorem Dt {m:tD} (h:WE gd b env fun r e=>Cp gd m i a r e E.nx):WS gd (.sto m i a b) env E:=by
 obtain ⟨r,e',h1,v,h2,h3,rk,e2,h4,dk,d,d',h5,h6,h7,h8⟩:=h;obtain ⟨d0,hd0⟩:=Option.isSome_iff_exists.mp h3;unfold WS;simp only [dS,h1,h2,hd0,h4,h5,h6,h7];exact ⟨_,rfl,h8⟩
theorem w_var (h:env[i]?=some (.dat d)) (q:Q (.dat d) env):WE gd (.var i) env Q:=⟨_,_,by simp only [dE,h],q⟩
theorem BN (h:env[i]?=some (.own d)) (q:Q (.bor i) env):WE gd (.var i) env Q:=⟨_,_,by simp only [dE,h],q⟩
theorem A3 (h:env[i]?=some (.ino d)) (q:Q (.bor i) env):WE gd (.var i) env Q:=⟨_,_,by simp only [dE,h],q⟩
theorem A6 (h:env[i]?=some (.ro d)) (q:Q (.bor i) env):WE gd (.var i) env Q:=⟨_,_,by simp only [dE,h],q⟩
theorem C0 (h:env[i]?=some (.own d)) (q:Q (.dat d) (env.set i (.dat d))):WE gd (.mov i) env Q:=⟨_,_,by simp only [dE,h],q⟩
theorem CJ (h:env[i]?=some (.own d)) (q:Q (.frs d) (env.set i .un)):WE gd (.tke i) env Q:=⟨_,_,by simp only [dE,h],q⟩
theorem Ew {c:Cst} (q:Q (.dat c.d) env):WE gd (.cst c) env Q:=⟨_,_,rfl,q⟩
theorem Ea {g:Nat} (h:gd[g]?=some d) (q:Q (.dat d) env):WE gd (.glb g) env Q:=⟨_,_,by simp only [dE,h],q⟩
theorem Df (h:WA gd as env fun avs e=>WPr p avs e Q):WE gd (.prm p as) env Q:=by
 obtain ⟨avs,e',h1,ds,pr,h2,h3,h4⟩:=h;exact ⟨_,_,by simp only [dE,h1,h2,h3],h4⟩
theorem B3 (h:WA gd as env fun avs e=>nU f avs e Q):WE gd (.call f as) env Q:=by
 obtain ⟨avs,e',h1,rv,e2,h2,h3⟩:=h;exact ⟨_,_,by simp only [dE,h1];exact h2,h3⟩
theorem af {avs:List AV} {ds:List PyData} {is:List Nat} (h1:iz e1 f.ms avs=some ds) (h2:b7 f.ms avs=is) (h:WF f ds fun pr outs=>ckA is (rq f.ms avs) outs.length=true/\Q pr.rv (cC e1 is outs)):nU f avs e1 Q:=by
 obtain ⟨pr,outs,h3,h4,h5⟩:=h;subst h2;unfold nU sY;simp only [h1,h3];rw [Hv h4];exact ⟨_,_,rfl,h5⟩
theorem DN {m:Mtd} {o:XE} (h:WE gd o env fun r e=>Cr gd m as r e Q):WE gd (.met m o as) env Q:=by
 obtain ⟨r,e',h1,d0,h2,h3,avs,e2,h4,d,ds,pr,h5,h6,h7,h8⟩:=h;exact ⟨_,_,by simp only [dE,h1,h2];rw [Hv h3];simp only [h4,h5,h6,h7],h8⟩
theorem Dr {m:Mtr} (h0:aK env i=some d) (h1:m.ty d=true) (h:WA gd as env fun avs e2=>WMr m i avs e2 Q):WE gd (.mtr m i as) env Q:=by
 obtain ⟨avs,e2,h4,d,ds,d',x,h5,h6,h7,h8⟩:=h;exact ⟨_,_,by simp only [dE,h0];rw [Hv h1];simp only [h4,h5,h6,h7],h8⟩
theorem BS (h:WA gd as env fun avs e=>WTp (fun ds=>.dat (.tuple ds)) avs e Q):WE gd (.tup as) env Q:=by
 obtain ⟨avs,e2,h4,ds,h5,h6,h7⟩:=h;exact ⟨_,_,by simp only [dE,h4,h5];rw [Hv h6],h7⟩
theorem zL (h:WA gd as env fun avs e=>WTp (fun ds=>.frs (.list ds)) avs e Q):WE gd (.lst as) env Q:=by
 obtain ⟨avs,e2,h4,ds,h5,h6,h7⟩:=h;exact ⟨_,_,by simp only [dE,h4,h5];rw [Hv h6],h7⟩
theorem DR (h:WT gd x env fun k e=>if k=true then WE gd a e Q else WE gd b e Q):WE gd (.ifx x a b) env Q:=by
 obtain ⟨k,e',h1,h2⟩:=h;unfold WE;simp only [dE,h1];cases k with
 | true=>exact h2
 | false=>exact h2
theorem Bl (h:WE gd a env fun r e=>∃ k,r=.dat (.bool k)/\if k=true then WE gd b e Q else Q (.dat (.bool false)) e):WE gd (.rZ a b) env Q:=by
 obtain ⟨r,e',h1,k,rfl,h2⟩:=h;unfold WE;cases k with
 | true=>simp only [dE,h1];exact h2
 | false=>simp only [dE,h1];exact ⟨_,_,rfl,h2⟩
theorem C3 (h:WE gd a env fun r e=>∃ k,r=.dat (.bool k)/\if k=true then Q (.dat (.bool true)) e else WE gd b e Q):WE gd (.orv a b) env Q:=by
 obtain ⟨r,e',h1,k,rfl,h2⟩:=h;unfold WE;cases k with
 | true=>simp only [dE,h1];exact ⟨_,_,rfl,h2⟩
 | false=>simp only [dE,h1];exact h2
theorem Aj (h:WE gd a env fun r e=>∃ k,r=.dat (.bool k)/\Q (.dat (.bool (!k))) e):WE gd (.yo a) env Q:=by
 obtain ⟨r,e',h1,k,rfl,h2⟩:=h;exact ⟨_,_,by simp only [dE,h1],h2⟩
theorem DG {p':Prm} (h:WE gd a env fun r e=>WE gd b e fun r2 e2=>∃ x y k,r.av=.dat x/\r2.av=.dat y/\p.f [x,y]=some (.dat (.bool k))/\if k=true then WE gd c e2 fun r3 e3=>∃ z pr,r3.av=.dat z/\p'.f [y,z]=some pr/\Q pr.rv e3 else Q (.dat (.bool false)) e2):WE gd (.chn p p' a b c) env Q:=by
 obtain ⟨r,e',h1,r2,e2,h2,x,y,k,h3,h4,h5,h6⟩:=h;unfold WE;cases k with
 | true =>
  rw [Hv rfl] at h6;obtain ⟨r3,e3,h7,z,pr,h8,h9,h10⟩:=h6;simp only [dE,h1,h2,h3,h4,h5,h7,h8,h9];exact ⟨_,_,rfl,h10⟩
 | false =>
  rw [Hz (by decide)] at h6;simp only [dE,h1,h2,h3,h4,h5];exact ⟨_,_,rfl,h6⟩
theorem CN {g:Int->Int->Prm} (h:WE gd a env fun r e=>WE gd b e fun r2 e2=>∃ i,r2=.dat (.int i)/\WE gd c e2 fun r3 e3=>∃ j,r3=.dat (.int j)/\∃ d pr,r.view e3=some d/\(g i j).f [d]=some pr/\Q pr.rv e3):WE gd (.sl2 g a b c) env Q:=by
 obtain ⟨r,e',h1,r2,e2,h2,i,rfl,r3,e3,h3,j,rfl,d,pr,h4,h5,h6⟩:=h;exact ⟨_,_,by simp only [dE,h1,h2,h3,h4,h5],h6⟩
def yt (st:PyData->En->Option (Option PyData×En)) (js:List Nat) (ds:List PyData) (lk:Option Nat) (e1:En) (Q:RV->En->Prop):Prop :=
 ∃ ys ec,sh st ds (bW e1 lk js)=some (ys,ec)/\Q (.frs (.list ys)) (aH e1 js ec)
theorem EJ {js:List Nat} {it:XI} (hn:xt js=true) (h:WI gd it env fun ds lk e1=>yt (fc (dT gd x) (dE gd a)) js ds lk e1 Q):WE gd (.cmp js it x a) env Q:=by
 obtain ⟨ds,lk,e1,h1,ys,ec,h2,h3⟩:=h;refine ⟨_,_,?_,h3⟩;simp only [dE,h1];rw [Hv (fO hn),h2]
theorem zc {n:List Str} {js:List Nat} {it:XI} (hn:xt js=true) (h:WI gd it env fun ds lk e1=>yt (jE n.length (dE gd a)) js ds lk e1 Q):WE gd (.y8 n js it a) env Q:=by
 obtain ⟨ds,lk,e1,h1,ys,ec,h2,h3⟩:=h;refine ⟨_,_,?_,h3⟩;simp only [dE,h1];rw [Hv (fO hn),h2]
def p5 (st:PyData->En->Option (Option PyData×En)) (d:PyData) (ec:En) (Q:Option PyData->En->Prop):Prop:=∃ y e,st d ec=some (y,e)/\Q y e
theorem bY {QS:Option PyData->En->Prop} {ec:En} (h:WT gd x (.dat d :: ec) fun k e2=>if k=true then WE gd a e2 fun r e3=>∃ y,r.av=.dat y/\QS (some y) e3.tail else QS none e2.tail):p5 (fc (dT gd x) (dE gd a)) d ec QS:=by
 obtain ⟨k,e2,h1,h2⟩:=h;unfold p5 fc;rw [h1];cases k with
 | true =>
  rw [Hv rfl] at h2;obtain ⟨r,e3,h3,y,h4,h5⟩:=h2;simp only [h3,h4];exact ⟨_,_,rfl,h5⟩
 | false =>
  rw [Hz (by decide)] at h2;exact ⟨_,_,rfl,h2⟩
theorem eZ {st:PyData->En->Option (Option PyData×En)} {js:List Nat} {ds:List PyData} {lk:Option Nat} (Inv:Nat->List PyData->En->Prop) (h0:Inv 0 [] (bW e1 lk js))
  (hs:∀ i d ys ec,ds[i]?=some d->Inv i ys ec->p5 st d ec fun y e=>Inv (i+1) (ys++y.toList) e)
  (hq:∀ ys ec,Inv ds.length ys ec->Q (.frs (.list ys)) (aH e1 js ec)):yt st js ds lk e1 Q:=by
 have key:∀ (rest:List PyData) (i:Nat) (ys:List PyData) (ec:En),ds.drop i=rest->i<=ds.length->Inv i ys ec->∃ zs ec',sh st rest ec=some (zs,ec')/\Inv ds.length (ys++zs) ec':=by
  intro rest;induction rest with
  | nil =>
   intro i ys ec hd hi hI;have:ds.length<=i:=Ju.mp hd;have:i=ds.length:=by omega
   subst this;exact ⟨[],ec,rfl,by rw [Iw];exact hI⟩
  | cons d rest ih =>
   intro i ys ec hd hi hI;have hlt:i < ds.length:=by
    apply JD;intro h;rw [Ju.mpr (by omega)] at hd;cases hd
   rw [JB hlt] at hd;injection hd with hd1 hd2;obtain ⟨y,e,h1,h2⟩:=hs i d ys ec (by rw [Hj hlt,hd1]) hI;obtain ⟨zs,ec',h3,h4⟩:=ih (i+1) _ e hd2 hlt h2;refine ⟨y.toList++zs,ec',?_,by rw [<- List.append_assoc];exact h4⟩;unfold sh;simp only [h1,h3]
 obtain ⟨zs,ec,h1,h2⟩:=key ds 0 [] _ rfl (Ip _) h0;exact ⟨zs,ec,h1,hq zs ec h2⟩
def WB (b:PyData->En->Option Out) (d:PyData) (e:En) (E:Kn):Prop:=∃ o,b d e=some o/\E.at o
theorem B5 {e:En} (hf:free e i=true) (h:WS gd s (e.set i (.dat d)) E):WB (iN i (dS gd s)) d e E:=by
 obtain ⟨o,h1,h2⟩:=h;exact ⟨o,by unfold iN;rw [Hv hf];exact h1,h2⟩
theorem Bw {e e2:En} {is:List Nat} {xs:List PyData} (hf:eQ e is xs=some e2) (h:WS gd s e2 E):WB (gQ is (dS gd s)) (.tuple xs) e E:=by
 obtain ⟨o,h1,h2⟩:=h;exact ⟨o,by unfold gQ;simp only [hf];exact h1,h2⟩
theorem aW {b:PyData->En->Option Out} {ds:List PyData} {lk:Option Nat} (Inv:Nat->En->Prop) (h0:Inv 0 (bh e1 lk))
  (hs:∀ i d e,ds[i]?=some d->Inv i e->WB b d e ⟨Inv (i+1),fun r e=>E.rt (r.soft (lkd e1 lk)) (ay e1 lk e),fun e=>E.nx (ay e1 lk e),Inv (i+1)⟩)
  (hq:∀ e,Inv ds.length e->E.nx (ay e1 lk e)):CO b ds lk e1 E:=by
 have key:∀ (rest:List PyData) (i:Nat) (e:En),ds.drop i=rest->i<=ds.length->Inv i e->∃ o,forL b rest e=some o/\E.at (o.map (lkd e1 lk) (ay e1 lk)):=by
  intro rest;induction rest with
  | nil =>
   intro i e hd hi hI;have:ds.length<=i:=Ju.mp hd;have:i=ds.length:=by omega
   subst this;exact ⟨_,rfl,hq e hI⟩
  | cons d rest ih =>
   intro i e hd hi hI;have hlt:i < ds.length:=by
    apply JD;intro h;rw [Ju.mpr (by omega)] at hd;cases hd
   rw [JB hlt] at hd;injection hd with hd1 hd2;obtain ⟨o,h1,h2⟩:=hs i d e (by rw [Hj hlt,hd1]) hI;unfold forL;simp only [h1];cases o with
   | nx e'=>exact ih (i+1) e' hd2 hlt h2
   | ct e'=>exact ih (i+1) e' hd2 hlt h2
   | bk e'=>exact ⟨_,rfl,h2⟩
   | rt r e'=>exact ⟨_,rfl,h2⟩
 exact key ds 0 _ rfl (Ip _) h0
theorem CM (q:QA [] env):WA gd .nil env QA:=⟨_,_,rfl,q⟩
theorem AF (h:WE gd a env fun r e=>WA gd as e fun avs e2=>QA (r.av :: avs) e2):WA gd (.cons a as) env QA:=by
 obtain ⟨r,e',h1,avs,e2,h2,h3⟩:=h;exact ⟨_,_,by simp only [dA,h1,h2],h3⟩
theorem ES (h:WE gd a env fun r e=>∃ k,r=.dat (.bool k)/\QT k e):WT gd (.tst a) env QT:=by
 obtain ⟨r,e',h1,k,rfl,h2⟩:=h;exact ⟨_,_,by simp only [dT,h1],h2⟩
theorem DZ (h:WE gd a env fun r e=>∃ d,r.view e=some d/\D3 d=false/\QT (CI d) e):WT gd (.tru a) env QT:=by
 obtain ⟨r,e',h1,d,h2,h4,h3⟩:=h;exact ⟨_,e',by simp only [dT,h1,h2,h4];rfl,h3⟩
theorem w_and (h:WT gd x env fun k e=>if k=true then WT gd y e QT else QT false e):WT gd (.and x y) env QT:=by
 obtain ⟨k,e',h1,h2⟩:=h;unfold WT;cases k with
 | true=>simp only [dT,h1];exact h2
 | false=>simp only [dT,h1];exact ⟨_,_,rfl,h2⟩
theorem w_or (h:WT gd x env fun k e=>if k=true then QT true e else WT gd y e QT):WT gd (.or x y) env QT:=by
 obtain ⟨k,e',h1,h2⟩:=h;unfold WT;cases k with
 | true=>simp only [dT,h1];exact ⟨_,_,rfl,h2⟩
 | false=>simp only [dT,h1];exact h2
theorem w_not (h:WT gd x env fun k e=>QT (!k) e):WT gd (.not x) env QT:=by
 obtain ⟨k,e',h1,h2⟩:=h;exact ⟨_,_,by simp only [dT,h1],h2⟩
theorem DO (h:QT true env):WT gd .yes env QT:=⟨_,_,rfl,h⟩
def yz (r:RV) (e:En) (QI:List PyData->Option Nat->En->Prop):Prop:=(∃ ds,r.av=.dat (.list ds)/\QI ds none e)\/∃ i ds,r.av=.bor i/\cont e i=some (.list ds)/\QI ds (some i) e
theorem GF (h:WE gd a env fun r e=>yz r e QI):WI gd (.lst a) env QI:=by
 obtain ⟨r,e',h1,⟨ds,h2,h3⟩ | ⟨i,ds,h2,h3,h4⟩⟩:=h
 ·exact ⟨_,_,_,by simp only [dI,h1,h2],h3⟩
 ·exact ⟨_,_,_,by simp only [dI,h1,h2,h3],h4⟩
theorem fh {r:RV} {e:En} {ds:List PyData} (h:r.av=.dat (.list ds)) (q:QI ds none e):yz r e QI:=.inl ⟨ds,h,q⟩
theorem Di {r:RV} {e:En} {ds:List PyData} (h:r.av=.bor i) (hc:cont e i=some (.list ds)) (q:QI ds (some i) e):yz r e QI:=.inr ⟨i,ds,h,hc,q⟩
theorem Gx (h:WE gd a env fun r e=>∃ ds,r.av=.dat (.tuple ds)/\QI ds none e):WI gd (.tup a) env QI:=by
 obtain ⟨r,e',h1,ds,h2,h3⟩:=h;exact ⟨_,_,_,by simp only [dI,h1,h2],h3⟩
def WSq (r:RV) (e:En) (QI:List PyData->Option Nat->En->Prop):Prop:=yz r e QI\/∃ ds,r.av=.dat (.tuple ds)/\QI ds none e
theorem F8 (h:WE gd a env fun r e=>WSq r e QI):WI gd (.sq a) env QI:=by
 obtain ⟨r,e',h1,(⟨ds,h2,h3⟩ | ⟨i,ds,h2,h3,h4⟩) | ⟨ds,h2,h3⟩⟩:=h
 ·exact ⟨_,_,_,by simp only [dI,h1,h2],h3⟩
 ·exact ⟨_,_,_,by simp only [dI,h1,h2,h3],h4⟩
 ·exact ⟨_,_,_,by simp only [dI,h1,h2],h3⟩
theorem Ha (h:WE gd a env fun r e=>∃ z,r.av=.dat (.str z)/\QI (z.cps.toList.map fun c=>.str ⟨#[c]⟩) none e):WI gd (.str a) env QI:=by
 obtain ⟨r,e',h1,ds,h2,h3⟩:=h;exact ⟨_,_,_,by simp only [dI,h1,h2],h3⟩
theorem GS (h:WA gd as env fun avs e=>∃ j:Int,avs=[.dat (.int j)]/\(-(2 ^ 62)<=j/\j<=2 ^ 24)/\QI ((List.range j.toNat).map fun (k:Nat)=>.int ((0:Int)+(k:Int))) none e):WI gd (.rng1 as) env QI:=by
 obtain ⟨r,e',h1,j,rfl,h2,h3⟩:=h;exact ⟨_,_,_,by simp only [dI,h1];rw [Hv h2],h3⟩
end
open PySem PySem.Spec PyProof.Rows
noncomputable def fz (ww:World):Bool:=ww.params.followText "set-order"
structure Ci (ww:World) (tb:SetTable) (n:Nat):Prop where
 fit:tb.fits n=true
 led:tb.led=!fz ww
 pln:n≠0->tb.plain=false
theorem jI (tb:SetTable) (n:Nat):(tb.orStandIn n).led=tb.led:=by
 unfold SetTable.orStandIn;split <;> rfl
theorem v9 (tb:SetTable) (es:Array (Int×Value)) (hs:Int) (x:Value):(layNew tb es hs x).2.1.led=tb.led:=by
 unfold layNew;cases q:tb.freeSlot hs with
 | none=>rfl
 | some p =>
  obtain ⟨sl,wd⟩:=p;exact jI _ _
theorem rm (tb:SetTable) (es:Array (Int×Value)) (k:Nat):(relayAll tb es k).2.1.led=tb.led/\(tb.plain=false->(relayAll tb es k).2.1.plain=false):=by
 unfold relayAll;cases q:tb.relaid (es.map (·.1)) k with
 | none=>exact ⟨rfl,fun _=>rfl⟩
 | some p =>
  obtain ⟨t2,ord⟩:=p;dsimp only;split
  ·unfold SetTable.relaid SetTable.laid at q;cases ho:SetTable.layClean (SetTable.sizeAbove k - 1) (es.map (·.1)) with
   | none=>rw [ho] at q;cases q
   | some ow =>
    rw [ho] at q;simp only [Option.bind_eq_bind,Option.bind_some,Option.pure_def,Option.some.injEq,Prod.mk.injEq] at q;obtain ⟨rfl,_⟩:=q;exact ⟨rfl,fun z=>z⟩
  ·exact ⟨rfl,fun _=>rfl⟩
def cE (pr:Program) (ww:World) (h:Heap) (a:Addr) (ss:List Str):Prop :=
 ∃ ob es ep tb,h.get? a=some ob/\ob.ExactSet/\ob.data=.set es ep tb/\ElemsOf (strKind pr ww) es.toList/\(∃ zs,StrsAre (es.toList.map (·.2)) zs/\zs.Perm ss)/\es.size < scanBound/\Ci ww tb es.size
noncomputable def jJ (ss:List Str) (x:Str):List Str:=if x∈ss then ss else ss++[x]
theorem mH {x:Str}:∀ {es:List (Int×Value)} {zs:List Str},StrsAre (es.map (·.2)) zs->((∃ e∈es,Value.isStrOf x e.2=true)↔x∈zs)
 | [],[],_=>by simp
 | e :: es,_,h=>by
  obtain ⟨hs,v⟩:=e;rw [List.map_cons] at h;cases h with
  | cons y tk h =>
   have ih:=mH (x:=x) h;have hd:Value.isStrOf x (.str y tk)=true↔x=y:=by
    constructor
    ·intro q;obtain ⟨_,q⟩:=Value.isStrOf_shape q;injection q with q _;exact q.symm
    ·rintro rfl;simp [Value.isStrOf]
   simp only [HB,exists_eq_or_imp];rw [ih];exact or_congr hd Iff.rfl
theorem bO:∀ {us vs:List Value},us.Perm vs->∀ {zs:List Str},StrsAre vs zs->∃ ws,StrsAre us ws/\ws.Perm zs
 | _,_,.nil,zs,h=>by cases h;exact ⟨[],.nil,.nil⟩
 | _,_,.cons v p,zs,h=>by
  cases h with
  | cons y tk h =>
   obtain ⟨ws,a,b⟩:=bO p h;exact ⟨y :: ws,.cons y tk a,.cons y b⟩
 | _,_,.swap v u l,zs,h=>by
  cases h with
  | cons y tk h =>
   cases h with
   | cons z tk' h=>exact ⟨_,.cons z tk' (.cons y tk h),.swap _ _ _⟩
 | _,_,.trans p q,zs,h=>by
  obtain ⟨ws,a,b⟩:=bO q h;obtain ⟨vs,c,d⟩:=bO p a;exact ⟨vs,c,d.trans b⟩
theorem strs_snoc {x:Str} {tk:Tok}:∀ {us:List Value} {zs:List Str},StrsAre us zs->StrsAre (us++[.str x tk]) (zs++[x])
 | _,_,.nil=>.cons x tk .nil
 | _,_,.cons y t h=>.cons y t (strs_snoc h)
theorem bE:∀ {us:List Value} {zs:List Str},StrsAre us zs->us.length=zs.length
 | _,_,.nil=>rfl
 | _,_,.cons y t h=>by rw [HA,HA,bE h]
section
variable {pr:Program} {ww:World} {AA:Around} {EE:Value->Shared->Prop} {st:Shared}
theorem cE.size {h:Heap} {a:Addr} {ss:List Str} (z:cE pr ww h a ss):∃ ob es ep tb,h.get? a=some ob/\ob.data=.set es ep tb/\es.size=ss.length:=by
 obtain ⟨ob,es,ep,tb,h1,_,h2,_,⟨zs,h3,h4⟩,_⟩:=z;refine ⟨ob,es,ep,tb,h1,h2,?_⟩;have:=bE h3;rw [Hf,HM] at this;rw [this,h4.length_eq]
theorem pG {a:Addr} {ob:Obj} {es es':Array (Int×Value)} {ep:Nat} {tb tb':SetTable} {ss:List Str} {h:Heap} (ho:h.get? a=some ob) (hx:ob.ExactSet) (hd:ob.data=.set es ep tb)
  (he:ElemsOf (strKind pr ww) es'.toList) (hz:∃ zs,StrsAre (es'.toList.map (·.2)) zs/\zs.Perm ss) (hb:es'.size < scanBound) (ht:Ci ww tb' es'.size) :
  (h.update a (Obj.putSet es' tb')).get? a=some { ob with data:=.set es' (ep+1) tb' }/\cE pr ww (h.update a (Obj.putSet es' tb')) a ss:=by
 have hg:(h.update a (Obj.putSet es' tb')).get? a=some { ob with data:=.set es' (ep+1) tb' }:=by
  have q:=Iq (Obj.putSet es' tb') ho (by rw [putSet_of es' tb' hd];rfl);rw [putSet_of es' tb' hd] at q;exact q
 exact ⟨hg,_,es',ep+1,tb',hg,hx,rfl,he,hz,hb,ht⟩
theorem vH {gg:Bool->Sem Unit} (hg:∀ (b:Bool) (s1:Shared) (Q':Unit->Shared->Prop),Q' () s1->wpAny (model pr ww) AA (gg b) Q' EE s1)
  {a:Addr} {ob:Obj} {es e1:Array (Int×Value)} {ep:Nat} {tb t2:SetTable} {ss:List Str} {wd:Bool} {RR:Option Bool->Shared->Prop} (ho:st.heap.get? a=some ob) (hx:ob.ExactSet) (hd:ob.data=.set es ep tb)
  (he:ElemsOf (strKind pr ww) e1.toList) (hz:∃ zs,StrsAre (e1.toList.map (·.2)) zs/\zs.Perm ss) (hb:e1.size < scanBound) (ht:Ci ww t2 e1.size) (hp:t2.plain=false)
  (h:∀ h',Heap.SameBut a st.heap h'->cE pr ww h' a ss->RR (some true) { st with heap:=h' }) :
  wpAny (model pr ww) AA (do
    storeSet a e1 t2
    if (!wd&&t2.tooFull)=true then do
      gg (relayAll t2 e1 (SetTable.grown e1.size)).2.2
      storeSet a (relayAll t2 e1 (SetTable.grown e1.size)).1 (relayAll t2 e1 (SetTable.grown e1.size)).2.1
      pure (some true)
     else pure (some true)) RR EE st:=by
 refine He (wpAny_storeSet_of ho hd ?_ (fits_of_scanBound hb));obtain ⟨ho1,hS1⟩:=pG (pr:=pr) (ww:=ww) ho hx hd he hz hb ht;have sb:=Jc st.heap a (Obj.putSet e1 t2);split
 ·have pm:=relayAll_perm t2 e1 (SetTable.grown e1.size);have ft:=relayAll_fits t2 e1 (SetTable.grown e1.size);have ld:=rm t2 e1 (SetTable.grown e1.size);generalize relayAll t2 e1 (SetTable.grown e1.size)=Y at pm ft ld ⊢;obtain ⟨e2,t3,gv⟩:=Y;dsimp only at pm ft ld ⊢;have sz:e2.size=e1.size:=by rw [<- HM,pm.length_eq,HM]
  have hb2:e2.size < scanBound:=by rw [sz];exact hb
  have hz2:∃ zs,StrsAre (e2.toList.map (·.2)) zs/\zs.Perm ss:=by
   obtain ⟨zs,z1,z2⟩:=hz;obtain ⟨ws,w1,w2⟩:=bO (pm.map (·.2)) z1;exact ⟨ws,w1,w2.trans z2⟩
  refine He (hg _ _ _ ?_);refine He (wpAny_storeSet_of ho1 rfl ?_ (fits_of_scanBound hb2));obtain ⟨_,hS2⟩:=pG (pr:=pr) (ww:=ww) (tb':=t3) ho1 hx rfl (he.perm pm) hz2 hb2 ⟨ft,ld.1.trans ht.led,fun _=>ld.2 hp⟩;exact Hg (h _ (sb.trans (Jc _ a _)) hS2)
 ·exact Hg (h _ sb hS1)
theorem DX {a:Addr} {ss:List Str} {x:Str} {tk:Tok} {Q:Bool->Shared->Prop} (hS:cE pr ww st.heap a ss) (room:ss.length+1 < scanBound)
  (h:∀ b h',Heap.SameBut a st.heap h'->cE pr ww h' a (jJ ss x)->Q b { st with heap:=h' }) :
  wpAny (model pr ww) AA (setAddHashed a (.str x tk) (hashStr ww x)) Q EE st:=by
 obtain ⟨ob,es,ep,tb,ho,hx,hd,he,⟨zs,hz1,hz2⟩,hb,ht⟩:=hS;have key:(strKind pr ww).is x (.str x tk)=true:=by show Value.isStrOf x (.str x tk)=true;simp [Value.isStrOf]
 have sc:(Value.str x tk).scannable=true:=rfl;have sz:es.size=ss.length:=by
  have:=bE hz1;rw [Hf,HM] at this;rw [this,hz2.length_eq]
 unfold setAddHashed setAddHashedIn;refine HU (He (Ji ho hd ht.fit ?_));dsimp only;rw [byScan_of sc hb he];simp only [↓reduceIte];unfold setAddByScan;refine He ?_;refine He (IJ ?_);refine He (wpAny_setScan_of (knd:=strKind pr ww) (k:=x) key ho hd ht.fit he ?_);have mem:(∃ e∈es.toList,Value.isStrOf x e.2=true)↔x∈ss:=(mH hz1).trans hz2.mem_iff;cases hr:List.findIdx? (fun e:Int×Value=>(strKind pr ww).is x e.2) es.toList with
 | some j =>
  dsimp only;obtain ⟨hj,hpj,_⟩:=List.findIdx?_eq_some_iff_getElem.mp hr;have hin:x∈ss:=mem.mp ⟨es.toList[j],List.getElem_mem hj,hpj⟩;refine Hg (Hg ?_);have q:=h false st.heap (Heap.SameBut.refl a st.heap) ⟨ob,es,ep,tb,ho,hx,hd,he,⟨zs,hz1,by unfold jJ;rw [Hv hin];exact hz2⟩,hb,ht⟩;cases st;exact q
 | none =>
  dsimp only;have hin:x ∉ ss:=fun hh=>by
   obtain ⟨e,hm,hp⟩:=mem.mpr hh;have:=List.findIdx?_eq_none_iff.mp hr e hm;rw [show (strKind pr ww).is x e.2=true from hp] at this;cases this
  have gw:∀ (b:Bool) (s1:Shared) (Q':Unit->Shared->Prop),Q' () s1->wpAny (model pr ww) AA (match b with | true=>rule "set.scan.the-table-gave-way" | false=>pure ()) Q' EE s1 :=
   fun b s1 Q' hq=>by cases b <;> first | exact Hg hq | exact IJ hq
  have pm:=layNew_perm tb es (hashStr ww x) (.str x tk);have ft:=layNew_fits tb es (hashStr ww x) (.str x tk);have ld:=v9 tb es (hashStr ww x) (.str x tk);have hkk:(strKind pr ww).hash x=hashStr ww x:=rfl;generalize layNew tb es (hashStr ww x) (.str x tk)=Y at pm ft ld ⊢;obtain ⟨e1,t1,wd,gv⟩:=Y;dsimp only at pm ft ld ⊢;rw [JL] at pm;have he1:ElemsOf (strKind pr ww) e1.toList:=(he.push key sc).perm pm;have sz1:e1.size=ss.length+1:=by rw [<- HM,pm.length_eq,Ho,HM,sz];rfl
  have hz':∃ zs,StrsAre (e1.toList.map (·.2)) zs/\zs.Perm (jJ ss x):=by
   have p2:=pm.map (·.2);rw [HX] at p2;obtain ⟨ws,w1,w2⟩:=bO p2 (strs_snoc (x:=x) (tk:=tk) hz1);refine ⟨ws,w1,w2.trans ?_⟩;unfold jJ;rw [Hz hin];exact hz2.append_right _
  have hb1:e1.size < scanBound:=by rw [sz1];exact room
  refine He (gw _ _ _ ?_);split
  ·refine He ?_;rw [hashByValue_scannable 8 sc];refine Hg ?_;refine vH (gg:=fun b=>match b with | true=>rule "set.scan.the-table-gave-way" | false=>pure ()) gw ho hx hd he1 hz' hb1 (t2:={ t1 with plain:=false }) ⟨SetTable.fits_plain_off ft,ld.trans ht.led,fun _=>rfl⟩ rfl ?_;intro h' sb hS';dsimp only;exact Hg (h _ h' sb hS')
  ·rename_i npl;have npl:t1.plain=false:=by simpa using npl
   refine He (Hg ?_);simp only [↓reduceIte];refine vH (gg:=fun b=>match b with | true=>rule "set.scan.the-table-gave-way" | false=>pure ()) gw ho hx hd he1 hz' hb1 (t2:=t1) ⟨ft,ld.trans ht.led,fun _=>npl⟩ npl ?_;intro h' sb hS';dsimp only;exact Hg (h _ h' sb hS')
end
open PySem PySem.Spec PyProof.Rows
noncomputable def uc (val:Nat->Str) (i:Nat):List Str:=((List.range i).map val).foldl jJ []
theorem kA (val:Nat->Str) (i:Nat):uc val (i+1)=jJ (uc val i) (val i):=by
 unfold uc;rw [List.range_succ,HX,List.foldl_append];rfl
theorem l6 (val:Nat->Str):∀ i,(uc val i).length<=i
 | 0=>Hn _
 | i+1=>by
  have ih:=l6 val i;rw [kA];unfold jJ;split
  ·omega
  ·rw [Ho];show _+1<=_;omega
section
variable {pr:Program} {ww:World} {AA:Around} {RR:Result->Shared->Prop} {IT:Addr} {fp wr:List Addr} {GG:Array GenState->Array GenState->Prop} {n:Nat} {PP:Nat->Value->Prop} {SS:Nat->Shared->Prop}
theorem cE.at {h h':Heap} {a:Addr} {ss:List Str} (z:cE pr ww h a ss) (k:∀ o,h.get? a=some o->h'.get? a=some o):cE pr ww h' a ss:=by
 obtain ⟨ob,es,ep,tb,ho,r⟩:=z;exact ⟨ob,es,ep,tb,k _ ho,r⟩
theorem Ep (W:WalksS pr ww AA.in1 IT fp wr GG n PP SS) (a:Addr) (ha:a ∉ fp) (val:Nat->Str) (hv:∀ i v,PP i v->∃ t,v=.str (val i) t) (hb:n+1 < scanBound) :
  ∀ (k i:Nat) (s:Shared),n - i=k->i<=n->SS i s->cE pr ww s.heap a (uc val i) ->
   (∀ s',Moved (a :: wr) GG s s'->cE pr ww s'.heap a (uc val n)->RR (.ok (.ret .none)) s') ->
   codeAny (model pr ww) AA (.builtin "set.update.loop" ⟨[.ref a,.ref IT],[]⟩) RR s:=by
 have haw:a ∉ wr:=fun z=>ha (W.sub _ z);have hsb:∀ b∈wr,b∈a :: wr:=fun b z=>Hr _ z;intro k;induction k with
 | zero =>
  intro i s hk hi hst hS hR;obtain rfl:i=n:=by omega
  refine IQ F.entry_set_update_loop ?_;rw [II F.plain_set_update_loop _];show wpAny _ AA.in1 (pyNext (.ref IT)>>=_) _ _ s;refine He (W.done s _ _ hst fun s' hm=>?_);exact Hg (hR s' (hm.mono hsb) (hS.at fun o q=>hm.heap a _ haw q))
 | succ k ih =>
  intro i s hk hi hst hS hR;have hlt:i < n:=by omega
  refine IQ F.entry_set_update_loop ?_;rw [II F.plain_set_update_loop _];show wpAny _ AA.in1 (pyNext (.ref IT)>>=_) _ _ s;refine He (W.item i s _ _ hlt hst fun v s' hP hst' hm=>?_);obtain ⟨t,rfl⟩:=hv i v hP;have hS':cE pr ww s'.heap a (uc val i):=hS.at fun o q=>hm.heap a _ haw q;show wpAny _ AA.in1 (holding [Value.str (val i) t] (setAdd a (.str (val i) t))>>=_) _ _ s';refine He (HU ?_);unfold setAdd;refine HU ?_;refine He ((strKind pr ww).pyHash (k:=val i) (by show Value.isStrOf (val i) (.str (val i) t)=true;simp [Value.isStrOf]) ?_);refine DX (st:={ s' with toks:=s'.toks+1 }) hS' (by have:=l6 val i;omega) fun bb h' hsm hS2=>?_;rw [<- kA] at hS2;refine Hg ⟨JN F.plain_set_update_loop _,ih (i+1) _ (by omega) hlt (W.frame _ s' _ _ hst' (JK _) fun b hb o e=>?_) hS2 fun s'' hm'' hS''=>?_⟩
  ·rw [hsm.2 b (fun z:b=a=>ha (by rw [<- z];exact hb))];exact e
  ·refine hR s'' (Moved.trans W.gtrans ((hm.mono hsb).then_heap (JK _) fun b o hb e=>?_) hm'') hS'';rw [hsm.2 b (fun z:b=a=>hb (by rw [z];exact Hu))];exact e
end
theorem qS:∀ {us:List Value} {zs:List Str},StrsAre us zs->∀ (i:Nat) (v:Value),us[i]?=some v->∃ t,v=.str (zs.getD i Str.empty) t
 | _,_,.nil,i,v,h=>by simp at h
 | _,_,.cons y t h,0,v,q=>by
  simp only [List.getElem?_cons_zero,Option.some.injEq] at q;exact ⟨t,q.symm⟩
 | _,_,.cons y t h,i+1,v,q=>by
  simp only [List.getElem?_cons_succ] at q;exact qS h i v q
theorem map_getD (ss:List Str):(List.range ss.length).map (fun i=>ss.getD i Str.empty)=ss:=by
 apply List.ext_getElem
 ·simp
 ·intro i h1 h2;simp [h2]
section
variable {pr:Program} {ww:World} {AA:Around} {EE:Value->Shared->Prop} {st:Shared}
noncomputable abbrev fA (ww:World):Obj:={ cls:=.type "set", dict:=none,data:=.set #[] 0 (.fresh 0 0 (!fz ww)) }
theorem C9 (v:Value) {Q:Value->Shared->Prop} (h:Q (.ref st.heap.objs.size) { st with heap:=st.heap.push (fA ww) }) :
  codeAny (model pr ww) AA (.call (.builtin "set.__new__") ⟨[.type "set", v],[]⟩) (wants Q EE) st:=by
 refine codeAny_of_tree ?_;show wpAny _ AA.in1 (do checkBuiltinCall "set.__new__" ⟨[.type "set", v],[]⟩;again (.builtin "set.__new__" ⟨[.type "set", v],[]⟩)) _ _ st;refine He (wpAny_of_eq (F.newCall_set_1 v) (Hg ⟨JN F.plain_set_new _,IQ F.entry_set_new ?_⟩));rw [II F.plain_set_new _];unfold Builtin.«set.__new__» Builtin.Frozenset.newClass
 have hsub:=sub_set_self;obtain ⟨h0,g0,d0,t0,o0⟩:=st;dsimp only at h ⊢
 wp_walk
 refine wpAny_askSetting (Hg ?_);dsimp only;simp only [newObj];refine He (wpAny_alloc (Hg ?_));exact Hg h
theorem yj {h:Heap} {a:Addr} (hg:h.get? a=some (fA ww)):cE pr ww h a [] :=
 ⟨_,#[],0,_,hg,⟨rfl,rfl,rfl⟩,rfl,fun e he=>by simp at he,⟨[],.nil,.nil⟩,by decide,⟨rfl,rfl,fun z=>absurd rfl z⟩⟩
theorem oZ {l:Addr} {its:Array Value} {ss:List Str} {Q:Value->Shared->Prop} (hh:AA.handled=none) (hl:st.heap.IsList l its) (hi:StrsAre its.toList ss) (hb:its.size+1 < scanBound)
  (h:∀ (h':Heap) (tk:Nat),cE pr ww h' st.heap.objs.size (ss.foldl jJ [])->(∀ b o,b < st.heap.objs.size->st.heap.get? b=some o->h'.get? b=some o)->Q (.ref st.heap.objs.size) { st with heap:=h',toks:=tk }) :
  wpAny (model pr ww) AA (call (.type "set") [.ref l]) Q EE st:=by
 obtain ⟨cc,tl,hmro⟩:=F.called_set.mro;have hmade:=F.called_set.made;have hsub:=F.called_set.sub;refine wpAny_call (codeAny_of_tree ?_);show wpAny _ _ (callAny (.type "set") _) _ _ _;refine Hg ⟨Code.quiet_builtin _ (by decide +kernel),IQ F.entry_type_call ?_⟩;rw [Around.under_plain (weight_type_call_type "set" [.ref l] []) rfl];have h1:=F.called_set.notType;have h2:=F.called_set.canCreate;have hct:=F.typeCall_set_1 (.ref l)
 repeat (any_goals (first | assumption | wp_step))
 refine Jj (C9 (.ref l) (EE:=EE) (Q:=fun obj s1=>obj=.ref st.heap.objs.size/\s1={ st with heap:=st.heap.push (fA ww) }) ⟨rfl,rfl⟩) fun r s1 hr=>?_;cases r with
 | error e=>exact hr
 | ok fl =>
  cases fl with
  | ret obj =>
   obtain ⟨rfl,rfl⟩:=hr;have hS:(st.heap.push (fA ww)).get? st.heap.objs.size=some (fA ww):=Hy _ rfl;have hT:Shared.TypeIs { st with heap:=st.heap.push (fA ww) } (.ref st.heap.objs.size) "set" := ⟨_,hS,rfl⟩;have hli:=F.called_set.init.lookup;have hbi:=F.called_set.init.bind (.ref st.heap.objs.size)
   repeat (any_goals (first | assumption | wp_step))
   refine Jj (codeAny_call_builtin (R:=wants (fun r s2=>r=.none/\∃ h' tk,s2={ st with heap:=h',toks:=tk }/\cE pr ww h' st.heap.objs.size (ss.foldl jJ []) /\
     (∀ b o,b < st.heap.objs.size->st.heap.get? b=some o->h'.get? b=some o)) EE) F.called_set.init.plain F.entry_set_init (check_set_init_1 hT ?_)) fun r2 s2 hr2=>?_
   ·obtain ⟨ol,hol,hcl,nl,hdl⟩:=hl;obtain ⟨c1,c2,c3,c4⟩:=ol;simp only at hcl hdl;subst hcl;subst hdl;have hol2:(st.heap.push (fA ww)).get? l=some { cls:=.type "list", dict:=c2,data:=.seq its nl,slots:=c4 }:=Hm _ hol;have hsls:=F.sub_list_set;have hslf:=F.sub_list_frozenset;have hne:(Value.type "list" == Value.type "dict")=false:=by decide
    have hl1:(st.heap.push (fA ww)).IsList l its:=⟨_,hol2,rfl,nl,rfl⟩;unfold Builtin.«set.__init__» noKeywords Builtin.Frozenset.updateFrom
    generalize hPI:pyIter=PI
    wp_walk
    subst hPI;refine wpAny_pyIter_list hl1 ?_;refine He (wpAny_runValue ?_);have hlS:l < st.heap.objs.size:=Ht hol;have hh3:AA.in1.in1.in1.handled=none:=by simp [hh]
    have sz1:(st.heap.push (fA ww)).objs.size=st.heap.objs.size+1:=Heap.size_push ..;have hneI:l≠(st.heap.push (fA ww)).objs.size:=by rw [sz1];exact HH (IW hlS)
    have hSf:st.heap.objs.size ∉ [(st.heap.push (fA ww)).objs.size,l]:=by
     rw [sz1];simp only [HB,Hw,List.not_mem_nil,Jx,not_or];exact ⟨HH (IZ _),IP hlS⟩
    have hval:∀ (i:Nat) (v:Value),its[i]?=some v->∃ t,v=.str ((fun i=>ss.getD i Str.empty) i) t:=fun i v hv=>qS hi i v (by rw [Ii];exact hv);have hmet:uc (fun i=>ss.getD i Str.empty) its.size=ss.foldl jJ []:=by
     have e1:its.size=ss.length:=by rw [<- bE hi,HM]
     rw [e1];unfold uc;rw [map_getD]
    refine Ep ((Walks.list hh3 _ l hneI its).toS) st.heap.objs.size hSf (fun i=>ss.getD i Str.empty) hval hb (its.size - 0) 0 _ (by omega) (Ip _)
     ⟨⟨_,Hy _ rfl,rfl,rfl⟩,(hl1.push _)⟩ (yj (Hm _ hS)) ?hR
    intro s' hm hS';rw [hmet] at hS';obtain ⟨h',g',d',tk',os'⟩:=s';have eg:g'=st.gens:=hm.gens;have ed:d'=st.drawn:=hm.drawn;have eo:os'=st.os:=hm.os;subst eg;subst ed;subst eo;show wpAny _ _ _ _ _ _;refine Hg ?_;show wpAny _ _ (ret Value.none) _ _ _;refine Hg ⟨rfl,h',tk',rfl,hS',fun b o hb e=>?_⟩;have hb1:b≠st.heap.objs.size:=HH hb;have hb2:b≠(st.heap.push (fA ww)).objs.size:=by rw [sz1];exact HH (IW hb)
    exact hm.heap b o (by simp only [HB,Hw,List.not_mem_nil,Jx,not_or];exact ⟨hb1,hb2⟩) (Hm _ (Hm _ e))
   ·cases r2 with
    | error e=>exact hr2
    | ok fl2 =>
     cases fl2 with
     | ret r =>
      obtain ⟨rfl,h',tk,rfl,hS',hk'⟩:=hr2
      repeat (any_goals (first | assumption | wp_step))
      exact h _ _ hS' hk'
     | _=>exact hr2.elim
  | _=>exact hr.elim
end
open PySem PySem.Spec PyProof.Rows
namespace SF
theorem dR:Slot "set_iterator" "__next__" "set_iterator.__next__" :=
 .of (owner := "set_iterator") (n := "__next__") (by rw [typeLookup_type,J2];kernel_rfl) (by decide +kernel) (by decide +kernel) (by decide +kernel) (by first | exact .inl (by decide +kernel) | exact .inr (by decide +kernel)) (by rw [isSubtype_type];kernel_rfl)
theorem pK:entryFor table "set_iterator.__next__" = some Builtin.«set_iterator.__next__»:=entryFor_of_tree (by kernel_rfl)
theorem qy (v:Value):argsOk "set_iterator.__next__" ⟨[v],[]⟩:=by kernel_rfl
theorem xg:entryFor table "set.__iter__" = some Builtin.«frozenset.__iter__»:=entryFor_alias (id' := "frozenset.__iter__") (by kernel_rfl) rfl (by decide +kernel) (by kernel_rfl)
theorem vZ:typeLookup (.type "set") "__len__" = pure (some (.builtin "set.__len__")):=by rw [typeLookup_type,J2];kernel_rfl
end SF
theorem Ed {M:Model} {AA:Around} {EE:Value->Shared->Prop} {st:Shared} {src:Source} {n:Nat} {Q:Nat->Shared->Prop} (hn:n≠0) (h:∀ k d',k < n->Q k { st with drawn:=d' }):wpAny M AA (choose src n) Q EE st:=fun _ _ _=>by
 unfold choose;exact ⟨hn,h _ _ (Nat.mod_lt _ (Nat.pos_of_ne_zero hn))⟩
theorem eY {α:Type}:∀ (xs:List α) (i:Nat) (h:i < xs.length),(xs[i] :: xs.eraseIdx i).Perm xs
 | x :: xs,0,h=>by simp
 | x :: xs,i+1,h=>by
  have ih:=eY xs i (by simpa using h);simp only [List.getElem_cons_succ,List.eraseIdx_cons_succ];exact (List.Perm.swap _ _ _).trans (ih.cons x)
theorem qu {α:Type} {M:Model} {AA:Around} {EE:Value->Shared->Prop}:∀ (n:Nat) (xs:List α) {st:Shared} {Q:List α->Shared->Prop},xs.length=n->(∀ ys d',ys.Perm xs->Q ys { st with drawn:=d' })->wpAny M AA (drawOrder n xs) Q EE st
 | 0,xs,st,Q,hn,h=>by
  obtain rfl:xs=[]:=List.length_eq_zero_iff.mp hn;unfold drawOrder;have q:=h [] st.drawn .nil;cases st;exact Hg q
 | n+1,[],st,Q,hn,h=>by simp at hn
 | n+1,x :: xs,st,Q,hn,h=>by
  unfold drawOrder;refine He (Ed (by simp) fun k d' hk=>?_);have hk':(x :: xs)[k]?=some (x :: xs)[k]:=Hj hk;rw [hk'];dsimp only;refine He (qu n _ (by rw [List.length_eraseIdx_of_lt hk,hn];rfl) fun ys d2 hp=>?_);refine Hg (h _ d2 ?_);exact (hp.cons _).trans (eY _ _ hk)
theorem o3 {α:Type} (nx:Nat->Nat):∀ (f k:Nat) (left:List α) (out:Array α),left.length=f->(pickOrder.go nx f k left out).toList.Perm (out.toList++left)
 | 0,k,left,out,h=>by
  obtain rfl:left=[]:=List.length_eq_zero_iff.mp h;unfold pickOrder.go;simp
 | f+1,k,left,out,h=>by
  unfold pickOrder.go;have hlt:nx k % left.length < left.length:=Nat.mod_lt _ (by omega);rw [Hj hlt];dsimp only;refine (o3 nx f (k+1) _ _ (by rw [List.length_eraseIdx_of_lt hlt,h];rfl)).trans ?_;rw [JL,List.append_assoc];exact (eY _ _ hlt).append_left _
theorem qN {α:Type} (nx:Nat->Nat) (xs:Array α):(pickOrder nx xs).toList.Perm xs.toList:=by
 unfold pickOrder;have:=o3 nx xs.size 0 xs.toList #[] (by simp);simpa using this
theorem vG (j:Nat):SetTable.below #[j] 0=0/\SetTable.below #[j] (j+1)=1:=by
 unfold SetTable.below;constructor
 ·show SetTable.below.go #[j] 0 1 0 1=0;simp [SetTable.below.go]
 ·show SetTable.below.go #[j] (j+1) 1 0 1=1;simp [SetTable.below.go]
abbrev yX (f0:Value) (i:Nat) (d:Value) (n ep:Nat):Obj:={ cls:=.type "set_iterator", dict:=none,data:=.fields #[f0,.int i 0,d,.int n 0,.int ep 0],slots:=#[] }
def Way (ww:World) (h:Heap) (d:Addr) (es:Array (Int×Value)) (ep:Nat) (tb:SetTable) (vs:List Value) (T:Addr) (f0:Value) (i:Nat):Prop :=
 (fz ww=true/\f0=.int 0 0/\vs=(pickOrder (ww.params.setOrder d ep) es).toList.map (·.2)) \/
 (fz ww=false/\(!tb.plain&&decide (es.size > 1))=true/\∃ ps:List Nat,f0=.ref T/\h.get? T=some { cls:=.type "tuple", data:=.seq (ps.map fun (k:Nat)=>rawInt k).toArray }/\(∀ p∈ps,p < es.size)/\vs=ps.map fun p=>(es.getD p (0,.none)).2) \/
 (fz ww=false/\es.size<=1/\tb.led=true/\(∃ k:Nat,f0=.int k 0/\SetTable.below tb.place k=i)/\vs=es.toList.map (·.2))
section
variable {pr:Program} {ww:World} {AA:Around} {EE:Value->Shared->Prop} {st:Shared}
theorem sbt {Q:Bool->Shared->Prop} (h:Q (fz ww) st):wpAny (model pr ww) AA setsByText Q EE st:=by
 unfold setsByText;exact He (wpAny_askSetting (Hg h))
theorem snA {d:Addr} {ob:Obj} {es:Array (Int×Value)} {ep sl g:Nat} {tb:SetTable} {Q:Option (Value×Nat)->Shared->Prop} (hd:st.heap.get? d=some ob) (hdd:ob.data=.set es ep tb) (hf:tb.fits es.size=true) (hb:fz ww=true)
  (h:Q (((pickOrder (ww.params.setOrder d ep) es)[g]?).map fun e=>(e.2,sl)) st):wpAny (model pr ww) AA (setNext d sl g ep) Q EE st:=by
 unfold setNext;refine He (Ji hd hdd hf ?_);dsimp only;refine He (sbt ?_);rw [hb,Hv rfl,Hz (by simp)];unfold setWalk;refine He (He (Ji hd hdd hf ?_));dsimp only;refine He (sbt ?_);rw [hb,Hv rfl];refine He (wpAny_askSetting (Hg ?_));exact Hg h
theorem snC {d:Addr} {ob:Obj} {es:Array (Int×Value)} {ep sl g:Nat} {tb:SetTable} {Q:Option (Value×Nat)->Shared->Prop} (hd:st.heap.get? d=some ob) (hdd:ob.data=.set es ep tb) (hf:tb.fits es.size=true) (hb:fz ww=false) (h1:es.size<=1) (hl:tb.led=true)
  (h:Q (match es[SetTable.below tb.place sl]?,tb.place[SetTable.below tb.place sl]? with | some (_,x),some j=>some (x,j+1) | _,_=>none) st):wpAny (model pr ww) AA (setNext d sl g ep) Q EE st:=by
 unfold setNext;refine He (Ji hd hdd hf ?_);dsimp only;refine He (sbt ?_);rw [hb,Hz (by simp)];show wpAny _ _ (if (!tb.plain&&decide (es.size > 1))=true then _ else _) _ _ _;rw [Hz (by have:decide (es.size > 1)=false:=Il (by omega);rw [this,Bool.and_false];simp)];refine He ?_;show wpAny _ _ (if (!tb.led&&!es.isEmpty)=true then _ else _) _ _ _;rw [hl,Hz (by simp)];refine Hg ?_;exact Hg h
theorem snB {d:Addr} {ob:Obj} {es:Array (Int×Value)} {ep p:Nat} {tb:SetTable} {Q:Value->Shared->Prop} {e:Int×Value} (hd:st.heap.get? d=some ob) (hdd:ob.data=.set es ep tb) (hf:tb.fits es.size=true) (he:es[p]?=some e)
  (h:Q e.2 st):wpAny (model pr ww) AA (setNextDrawn d p ep) Q EE st:=by
 unfold setNextDrawn;refine He (Ji hd hdd hf ?_);dsimp only;rw [Hz (by simp),he];exact Hg h
theorem Bv {IT d T:Addr} {f0:Value} {i ep:Nat} {es:Array (Int×Value)} {tb:SetTable} {ob:Obj} {vs:List Value} {Q:Option Value->Shared->Prop}
  (hit:st.heap.get? IT=some (yX f0 i (.ref d) es.size ep)) (hd:st.heap.get? d=some ob) (hdd:ob.data=.set es ep tb) (hf:tb.fits es.size=true) (hw:Way ww st.heap d es ep tb vs T f0 i) {v:Value} (hv:vs[i]?=some v)
  (h:∀ f1 h',h'.get? IT=some (yX f1 (i+1) (.ref d) es.size ep)->Heap.SameBut IT st.heap h'->Way ww h' d es ep tb vs T f1 (i+1)->Q (some v) { st with heap:=h' }) :
  wpAny (model pr ww) AA (pyNext (.ref IT)) Q EE st:=by
 have hT:st.TypeIs (.ref IT) "set_iterator" := ⟨_,hit,rfl⟩;unfold pyNext;refine He (wpAny_attempt (Iz (name:=Str.ofString "__next__") hT SF.dR (Im SF.dR hT SF.pK ?_ (SF.qy _))));unfold Builtin.«set_iterator.__next__»
 refine He (m:=slotArgs "__next__" 0 ⟨[.ref IT],[]⟩) (Hg ?_);dsimp only;refine He (Jw hit rfl ?_);dsimp only;refine He (wpAny_setEntries_of hd hdd hf ?_);rw [Hz (by simp)];simp only [IX];rcases hw with ⟨hb,rfl,rfl⟩ | ⟨hb,hdr,ps,rfl,hTo,hps,rfl⟩ | ⟨hb,h1,hl,⟨k,rfl,hk⟩,rfl⟩
 ·dsimp only;refine He (snA hd hdd hf hb ?_);rw [Hq,Ii] at hv;obtain ⟨e,he,rfl⟩:=HC.mp hv;rw [he];dsimp only [Option.map_some];refine He (Iy hit (by simp) fun h1 g1 s1=>?_);refine He (Iy g1 (by simp) fun h2 g2 s2=>?_);refine Hg ⟨_,rfl,Hg (h (.int 0 0) h2 ?_ (s1.trans s2) (.inl ⟨hb,rfl,rfl⟩))⟩;exact g2
 ·dsimp only;refine He (wpAny_seqItems hTo rfl ?_);dsimp only;rw [Hq] at hv;obtain ⟨p,hp,hpv⟩:=HC.mp hv;have hpl:p < es.size:=hps p (HG hp);have e1:((ps.map fun (k:Nat)=>rawInt k).toArray)[i]?=some (.int p 0):=by
   rw [List.getElem?_toArray,Hq,hp];rfl
  rw [e1];dsimp only;have e2:es[p]?=some (es.getD p (0,.none)):=by
   rw [Ik,HI hpl];rfl
  refine He (snB (p:=(p:Int).toNat) hd hdd hf (by rw [IX];exact e2) ?_);refine He (Iy hit (by simp) fun h1 g1 s1=>?_);have hne:T≠IT:=fun z=>by rw [z,hit] at hTo;exact absurd (congrArg Obj.cls (HV hTo)) (show ¬(Value.type "set_iterator" = Value.type "tuple") from by decide)
  rw [hpv];exact Hg ⟨_,rfl,Hg (h (.ref T) h1 g1 s1 (.inr (.inl ⟨hb,hdr,ps,rfl,by rw [s1.2 T hne];exact hTo,hps,rfl⟩)))⟩
 ·dsimp only;refine He (snC (sl:=(k:Int).toNat) hd hdd hf hb h1 hl ?_);rw [Hq,Ii] at hv;obtain ⟨e,he,rfl⟩:=HC.mp hv;have hi:i < es.size:=by
   rcases Ja i es.size with z | z
   ·exact z
   ·rw [JV z] at he;cases he
  obtain rfl:i=0:=by omega
  have hpl:tb.place.size=es.size:=by
   simp only [SetTable.fits,HL,Jg] at hf;exact hf.1
  obtain ⟨j,hj⟩:∃ j,tb.place=#[j]:=by
   have:tb.place.size=1:=by omega
   exact Array.size_eq_one_iff.mp this
  rw [IX,hk,he,hj];obtain ⟨hs,x⟩:=e;refine He (Iy hit (by simp) fun h1 g1 s1=>?_);refine He (Iy g1 (by simp) fun h2 g2 s2=>?_);exact Hg ⟨_,rfl,Hg (h (.int ((j+1:Nat):Int) 0) h2 g2 (s1.trans s2) (.inr (.inr ⟨hb,by assumption,hl,⟨j+1,rfl,by rw [hj];exact (vG j).2⟩,rfl⟩)))⟩
theorem oO {Q:Option Value->Shared->Prop} {IT:Addr} (hh:AA.handled=none) (h:∀ h',Heap.ExtBut IT st.heap h'->Q none { st with heap:=h' }) :
  wpAny (model pr ww) AA.in1 (do
     let z<-newExc (Value.type "StopIteration") []
     raiseNew z:Sem Fin)
  (fun fin s'=>∃ v,fin=Fin.done (Flow.ret v)/\wpAny (model pr ww) AA (pure (some v)) Q EE s')
  (fun e s' =>
   wpAny (model pr ww) AA
    (do
     let z<-isInstance e (Value.type "StopIteration")
     if z=true then pure none else throw e)
    Q EE s')
  st:=by
 refine He ?_;simp only [newExc,newTuple];refine He (Ia ?_ (by size_fits));refine He (m:=firstArgMember _ _) (wpAny_of_eq (a:=Value.none) (by first | rfl | (simp only [firstArgMember];rfl)) ?_);refine Ia ?_ (by size_fits);simp only [raiseNew];refine He (wpAny_handled ?_);rw [show AA.in1.handled=none from hh];refine He (Hg (wpAny_throw ?_));refine He (wpAny_isInstance (T := "StopIteration") (b:=true) ⟨_,Hy _ rfl,rfl⟩ isSubtype_stop ?_);rw [Hv rfl];exact Hg (h _ fun b o _ e=>Hm _ (Hm _ e))
theorem EY {IT d T:Addr} {f0:Value} {i ep:Nat} {es:Array (Int×Value)} {tb:SetTable} {ob:Obj} {vs:List Value} {Q:Option Value->Shared->Prop} (hh:AA.handled=none)
  (hit:st.heap.get? IT=some (yX f0 i (.ref d) es.size ep)) (hd:st.heap.get? d=some ob) (hdd:ob.data=.set es ep tb) (hf:tb.fits es.size=true) (hw:Way ww st.heap d es ep tb vs T f0 i) (hv:vs[i]?=none)
  (h:∀ h',Heap.ExtBut IT st.heap h'->Q none { st with heap:=h' }) :
  wpAny (model pr ww) AA (pyNext (.ref IT)) Q EE st:=by
 have hT:st.TypeIs (.ref IT) "set_iterator" := ⟨_,hit,rfl⟩;unfold pyNext;refine He (wpAny_attempt (Iz (name:=Str.ofString "__next__") hT SF.dR (Im SF.dR hT SF.pK ?_ (SF.qy _))));unfold Builtin.«set_iterator.__next__»
 refine He (m:=slotArgs "__next__" 0 ⟨[.ref IT],[]⟩) (Hg ?_);dsimp only;refine He (Jw hit rfl ?_);dsimp only;refine He (wpAny_setEntries_of hd hdd hf ?_);rw [Hz (by simp)];simp only [IX];have fin:∀ h1,Heap.SameBut IT st.heap h1->∀ h',Heap.ExtBut IT h1 h'->Q none { st with heap:=h' }:=fun h1 s1 h' x=>h h' fun b o hb e=>x b o hb (by rw [s1.2 b hb];exact e);rcases hw with ⟨hb,rfl,rfl⟩ | ⟨hb,hdr,ps,rfl,hTo,hps,rfl⟩ | ⟨hb,h1,hl,⟨k,rfl,hk⟩,rfl⟩
 ·dsimp only;refine He (snA hd hdd hf hb ?_);rw [Hq,Ii] at hv;rw [Option.map_eq_none_iff.mp hv];dsimp only [Option.map_none];refine He (Iy hit (by simp) fun h1 g1 s1=>?_);exact oO (IT:=IT) (st:={ st with heap:=h1 }) hh (fin h1 s1)
 ·dsimp only;refine He (wpAny_seqItems hTo rfl ?_);dsimp only;rw [Hq] at hv;have e1:((ps.map fun (k:Nat)=>rawInt k).toArray)[i]?=none:=by
   rw [List.getElem?_toArray,Hq,Option.map_eq_none_iff.mp hv];rfl
  rw [e1];dsimp only;refine He (Iy hit (by simp) fun h1 g1 s1=>?_);refine He (Iy g1 (by simp) fun h2 g2 s2=>?_);exact oO (IT:=IT) (st:={ st with heap:=h2 }) hh (fin h2 (s1.trans s2))
 ·dsimp only;refine He (snC (sl:=(k:Int).toNat) hd hdd hf hb h1 hl ?_);rw [Hq,Ii] at hv;have hv:=Option.map_eq_none_iff.mp hv;rw [IX,hk,hv];refine He (Iy hit (by simp) fun h1 g1 s1=>?_);exact oO (IT:=IT) (st:={ st with heap:=h1 }) hh (fin h1 s1)
end
open PySem PySem.Spec PyProof.Rows
namespace SF
theorem vI:Slot "set_iterator" "__iter__" "set_iterator.__iter__" :=
 .of (owner := "set_iterator") (n := "__iter__") (by rw [typeLookup_type,J2];kernel_rfl) (by decide +kernel) (by decide +kernel) (by decide +kernel) (by first | exact .inl (by decide +kernel) | exact .inr (by decide +kernel)) (by rw [isSubtype_type];kernel_rfl)
theorem z6:entryFor table "set_iterator.__iter__" = some Builtin.«dict_keyiterator.__iter__»:=entryFor_alias (id' := "dict_keyiterator.__iter__") (by kernel_rfl) rfl (by decide +kernel) (by kernel_rfl)
theorem Aq (v:Value):argsOk "set_iterator.__iter__" ⟨[v],[]⟩:=by kernel_rfl
end SF
section
variable {pr:Program} {ww:World} {AA:Around} {EE:Value->Shared->Prop} {st:Shared}
theorem Way.frame {h h':Heap} {d T:Addr} {es:Array (Int×Value)} {ep i:Nat} {tb:SetTable} {vs:List Value} {f0:Value} (w:Way ww h d es ep tb vs T f0 i) (k:∀ o,h.get? T=some o->h'.get? T=some o):Way ww h' d es ep tb vs T f0 i:=by
 rcases w with w | ⟨hb,hdr,ps,e,hTo,r⟩ | w
 ·exact .inl w
 ·exact .inr (.inl ⟨hb,hdr,ps,e,k _ hTo,r⟩)
 ·exact .inr (.inr w)
theorem AX (hh:AA.handled=none) (IT d T:Addr) (h1:d≠IT) (h2:T≠IT) {es:Array (Int×Value)} {ep:Nat} {tb:SetTable} {ob:Obj} (hdd:ob.data=.set es ep tb) (hf:tb.fits es.size=true) (vs:List Value) :
  WalksS pr ww AA IT [IT,d,T] [IT] (fun a b=>b=a) vs.length (fun i v=>vs[i]?=some v) (fun i s=>∃ f0,s.heap.get? IT=some (yX f0 i (.ref d) es.size ep)/\s.heap.get? d=some ob/\Way ww s.heap d es ep tb vs T f0 i) where
 sub:=fun b hb=>by simp at hb;simp [hb]
 grefl:=fun _=>rfl
 gtrans:=fun _ _ _ x y=>y.trans x
 frame:=fun i s h' tk st _ k=>by
  obtain ⟨f0,a,b,c⟩:=st;exact ⟨f0,k IT (by simp) _ a,k d (by simp) _ b,c.frame (k T (by simp))⟩
 item:=fun i s Q E hi st hQ=>by
  obtain ⟨f0,a,b,c⟩:=st;refine Bv a b hdd hf c (v:=vs[i]) (Hj hi) fun f1 h' g1 s1 w1=>?_;exact hQ _ _ (Hj hi) ⟨f1,g1,by show h'.get? d=_;rw [s1.2 d h1];exact b,w1⟩ ⟨fun b' o hb e=>by show h'.get? b'=_;rw [s1.2 b' (fun z=>hb (by simp [z]))];exact e,rfl,rfl,rfl,Hn _⟩
 done:=fun s Q E st hQ=>by
  obtain ⟨f0,a,b,c⟩:=st;refine EY hh a b hdd hf c (IU (Hn _)) fun h' x=>?_;exact hQ _ ⟨fun b' o hb e=>x b' o (fun z=>hb (by simp [z])) e,rfl,rfl,rfl,Hn _⟩
 self:=fun i s Q E st hQ=>by
  obtain ⟨f0,a,b,c⟩:=st;have hT:s.TypeIs (.ref IT) "set_iterator" := ⟨_,a,rfl⟩;refine wpAny_pyIter_slot hT SF.vI (Im SF.vI hT SF.z6 ?_ (SF.Aq _));show wpAny _ _ (ret (.ref IT)) _ _ s;exact Hg ⟨_,rfl, "set_iterator", _,hT,SF.dR.lookup,hQ⟩
theorem range_getD (es:Array (Int×Value)):(List.range es.size).map (fun p=>(es.getD p (0,.none)).2)=es.toList.map (·.2):=by
 apply List.ext_getElem
 ·simp
 ·intro i h1 h2;have h3:i < es.size:=by simpa using h1
  simp [h3]
theorem BD {d:Addr} {es:Array (Int×Value)} {ep:Nat} {tb:SetTable} {ob:Obj} {Q:Value->Shared->Prop} (hd:st.heap.get? d=some ob) (hc:ob.ExactSet) (hdd:ob.data=.set es ep tb) (ht:Ci ww tb es.size) (hsz:es.size < scanBound)
  (h:∀ vs f0 T IT h' d',vs.Perm (es.toList.map (·.2))->h'.get? IT=some (yX f0 0 (.ref d) es.size ep)->Way ww h' d es ep tb vs T f0 0->st.heap.objs.size<=IT->T≠IT->(T=d\/st.heap.objs.size<=T)->(∀ b o,st.heap.get? b=some o->h'.get? b=some o)->Q (.ref IT) { st with heap:=h',drawn:=d' }) :
  wpAny (model pr ww) AA (pyIter (.ref d)) Q EE st:=by
 have hT:st.TypeIs (.ref d) "set" := ⟨_,hd,hc.1⟩;have hlt:d < st.heap.objs.size:=Ht hd;refine wpAny_pyIter_slot hT F.slot_set_iter (Im F.slot_set_iter hT SF.xg ?_ (F.args_set_iter_1 _));unfold Builtin.«frozenset.__iter__» Builtin.Frozenset.slot0 Builtin.Frozenset.sizeOf
 refine He (He (m:=slotArgs "__iter__" 0 ⟨[.ref d],[]⟩) (Hg (Hg ?_)));refine He (He (wpAny_setEntries_of hd hdd ht.fit (Hg ?_)));unfold setDrawn;refine He (He (Ji hd hdd ht.fit ?_));dsimp only;refine He (sbt (Hg ?_));show wpAny _ _ (if (!fz ww&&(!tb.plain&&decide (es.size > 1)))=true then _ else _) _ _ _;have hpl:tb.place.size=es.size:=by
  have hf:=ht.fit;simp only [SetTable.fits,HL,Jg] at hf;exact hf.1
 split
 ·rename_i hdr;simp only [HL,Bool.not_eq_true'] at hdr;obtain ⟨hb,hdr⟩:=hdr;refine He (qu es.size (List.range es.size) (by simp) fun ps d' hps=>?_);have hpsl:ps.length=es.size:=by rw [hps.length_eq,HP]
  refine He (wpAny_newTuple ?_ (by rw [Hf,hpsl];exact fits_of_scanBound hsz));have g0:(st.heap.push { cls:=.type "tuple", data:=.seq (ps.map fun (k:Nat)=>rawInt k).toArray }).get? d=some ob:=Hm _ hd;refine He (wpAny_setEpoch_of (s:={ st with heap:=st.heap.push { cls:=.type "tuple", data:=.seq (ps.map fun (k:Nat)=>rawInt k).toArray },drawn:=d' }) g0 hdd ht.fit ?_);refine He (m:=newFields _ _) (Ia ?_ (by size_fits));have e1:(st.heap.push { cls:=.type "tuple", data:=.seq (ps.map fun (k:Nat)=>rawInt k).toArray }).objs.size=st.heap.objs.size+1:=Heap.size_push ..;have gT:(st.heap.push { cls:=.type "tuple", data:=.seq (ps.map fun (k:Nat)=>rawInt k).toArray }).get? st.heap.objs.size=some { cls:=.type "tuple", data:=.seq (ps.map fun (k:Nat)=>rawInt k).toArray }:=Hy _ rfl;refine Hg ⟨_,rfl, "set_iterator", _,⟨_,Hy _ rfl,rfl⟩,SF.dR.lookup,?_⟩;refine h (ps.map fun p=>(es.getD p (0,.none)).2) (.ref st.heap.objs.size) st.heap.objs.size _ _ d' ?_ (Hy _ rfl) (.inr (.inl ⟨hb,by rw [HL,Bool.not_eq_true'];exact hdr,ps,rfl,Hm _ gT,fun p hp=>by have:=hps.mem_iff.mp hp;simpa using this,rfl⟩)) ?_ ?_ (.inr (Hn _)) fun b o e=>Hm _ (Hm _ e)
  ·rw [<- range_getD];exact hps.map _
  ·show st.heap.objs.size<=(st.heap.push _).objs.size;rw [e1];exact JK _
  ·show st.heap.objs.size≠(st.heap.push _).objs.size;rw [e1];exact HH (IZ _)
 ·rename_i hdr;refine He (Hg ?_);refine He (wpAny_setEpoch_of hd hdd ht.fit ?_);refine He (m:=newFields _ _) (Ia ?_ (by size_fits));refine Hg ⟨_,rfl, "set_iterator", _,⟨_,Hy _ rfl,rfl⟩,SF.dR.lookup,?_⟩;have fin:∀ vs:List Value,vs.Perm (es.toList.map (·.2))->(fz ww=true/\vs=(pickOrder (ww.params.setOrder d ep) es).toList.map (·.2)\/fz ww=false/\es.size<=1/\vs=es.toList.map (·.2))->Q (.ref st.heap.objs.size) { st with heap:=st.heap.push { cls:=.type "set_iterator", data:=.fields #[rawInt 0,rawInt 0,.ref d,rawInt es.size,rawInt ep] } }:=by
   intro vs pm cs;refine h vs (.int 0 0) d _ _ st.drawn pm (Hy _ rfl) ?_ (Hn _) (HH hlt) (.inl rfl) fun b o e=>Hm _ e;rcases cs with ⟨hb,rfl⟩ | ⟨hb,h1,rfl⟩
   ·exact .inl ⟨hb,rfl,rfl⟩
   ·refine .inr (.inr ⟨hb,h1,by rw [ht.led,hb];rfl,⟨0,rfl,?_⟩,rfl⟩);rcases Ja 0 es.size with z | z
    ·obtain ⟨j,hj⟩:∃ j,tb.place=#[j]:=Array.size_eq_one_iff.mp (by omega);rw [hj];exact (vG j).1
    ·have:tb.place=#[]:=Array.size_eq_zero_iff.mp (by omega);rw [this];rfl
  cases hb:fz ww with
  | true=>exact fin _ ((qN _ es).map _) (.inl ⟨hb,rfl⟩)
  | false =>
   refine fin _ (Jn _) (.inr ⟨hb,?_,rfl⟩);rcases Ja 1 es.size with z | z
   ·have hp:=ht.pln (by omega);rw [hb,hp,HY z] at hdr;exact absurd rfl hdr
   ·exact z
theorem zS {d:Addr} {ss:List Str} {Q:List Value->Shared->Prop} (hh:AA.handled=none) (hS:cE pr ww st.heap d ss)
  (h:∀ vs ss' h' d' tk,StrsAre vs ss'->ss'.Perm ss->st.heap.objs.size<=h'.objs.size->(∀ b o,st.heap.get? b=some o->h'.get? b=some o)->Q vs { st with heap:=h',drawn:=d',toks:=tk }) :
  wpAny (model pr ww) AA (collect (.ref d)) Q EE st:=by
 obtain ⟨ob,es,ep,tb,ho,hx,hdd,he,⟨zs,hz1,hz2⟩,hb,ht⟩:=hS;unfold collect;refine He (wpAny_runValue (IQ F.entry_proto_collect ?_));rw [II F.plain_proto_collect _];show wpAny _ AA.in1 (newList []>>=fun l=>again (.builtin "list.__iadd__" ⟨[l,.ref d],[]⟩)) _ _ st;refine He (Ia ?_);refine Hg ⟨JN F.plain_list_iadd _,IQ F.entry_list_iadd ?_⟩;rw [II F.plain_list_iadd _];have hlt:d < st.heap.objs.size:=Ht ho;have ne:st.heap.objs.size≠d:=IP hlt;have g1:(st.heap.push { cls:=.type "list", data:=.seq ([]:List Value).toArray }).get? d=some ob:=Hm _ ho;have g2:(st.heap.push { cls:=.type "list", data:=.seq ([]:List Value).toArray }).get? st.heap.objs.size=some { cls:=.type "list", data:=.seq ([]:List Value).toArray }:=Hy _ rfl;have e1:(st.heap.push { cls:=.type "list", data:=.seq ([]:List Value).toArray }).objs.size=st.heap.objs.size+1:=Heap.size_push ..;have sr:Builtin.List.listSameRef (.ref st.heap.objs.size) (.ref d)=false:=by simp [Builtin.List.listSameRef,ne]
 show wpAny _ AA.in1 (Builtin.List.listExtendWith (.ref st.heap.objs.size) (.ref d) (.ref st.heap.objs.size)) _ _ _;unfold Builtin.List.listExtendWith;have hT:∀ (s:Shared),s.heap.get? d=some ob->s.TypeIs (.ref d) "set" := fun s z=>⟨_,z,hx.1⟩;refine He (wpAny_typeOf (hT _ g1) ?_);rw [Hz (by rw [sr];decide)];refine He (BD (st:={ st with heap:=st.heap.push { cls:=.type "list", data:=.seq ([]:List Value).toArray } }) g1 hx hdd ht hb fun vs f0 T IT h' d' pm gI wy lI nT lT kp=>?_);refine He (HU ?_);unfold Builtin.List.listLengthHint;refine He (JX (hT _ (kp _ _ g1)) SF.vZ ?_)
 (generalize hid:("set.__len__" : String)=id0;(fail_if_success (clear hid id0));wp_delta;rw [show splitId id0=some ("set", "__len__") from by subst hid;decide +kernel];subst hid)
 refine He (wpAny_isInstance (b:=true) (hT _ (kp _ _ g1)) sub_set_self ?_);show wpAny _ _ (typeOf (.ref d)>>=_) _ _ _;refine He (wpAny_typeOf (hT _ (kp _ _ g1)) ?_);refine Hg ?_;show wpAny _ AA.in1 (rule "list.extend.makes-room" >>= fun _=>Builtin.List.listTouch (.ref st.heap.objs.size)>>=fun _=>again (.builtin "list.extend.loop" ⟨[.ref st.heap.objs.size,.ref IT,.ref st.heap.objs.size],[]⟩)) _ _ _;refine He (IJ ?_);have g3:h'.get? st.heap.objs.size=some { cls:=.type "list", data:=.seq ([]:List Value).toArray }:=kp _ _ g2;refine He ?_;show wpAny _ AA.in1 (updateSeq st.heap.objs.size (·.push .none)>>=fun _=>updateSeq st.heap.objs.size (·.pop)) _ _ _;refine He (wpAny_updateSeq g3 rfl ?_);have g4:=Iq (Obj.mapSeq (·.push Value.none)) g3 rfl;refine wpAny_updateSeq g4 rfl ?_;have g5:=Iq (Obj.mapSeq (·.pop)) g4 rfl;have oth:∀ b o,b≠st.heap.objs.size->h'.get? b=some o->((h'.update st.heap.objs.size (Obj.mapSeq (·.push Value.none))).update st.heap.objs.size (Obj.mapSeq (·.pop))).get? b=some o :=
  fun b o hb e=>(HS _ _ (Ne.symm hb)).trans ((HS _ _ (Ne.symm hb)).trans e)
 have lI:st.heap.objs.size+1<=IT:=by rw [<- e1];exact lI
 have nI:IT≠st.heap.objs.size:=IP lI;have nT2:T≠st.heap.objs.size:=by
  rcases lT with z | z
  ·rw [z];exact Ne.symm ne
  ·have z:st.heap.objs.size+1<=T:=by rw [<- e1];exact z
   exact IP z
 have nd:d≠IT:=HH (HF (IW hlt) lI);have hh2:AA.in1.handled=none:=hh;have hsl:vs.length<=sizeLine:=by
  rw [pm.length_eq,Hf,HM];exact fits_of_scanBound hb
 refine Hg ⟨JN F.plain_extend_loop _,codeAny_extend_loopS (AX hh2 IT d T nd nT hdd ht.fit vs) hsl st.heap.objs.size (by simp [ne,Ne.symm nI,Ne.symm nT2]) _ vs.length 0 _ _ _ rfl (Ip _)
  ⟨f0,oth _ _ nI gI,oth _ _ (Ne.symm ne) (kp _ _ g1),wy.frame fun o e=>oth _ _ nT2 e⟩ g5 (ItemsOf.nil _) fun s' acc' c' hm hS' hacc=>?_⟩
 show wpAny _ AA (load st.heap.objs.size>>=_) _ _ s';refine He (wpAny_load hS' ?_);have eacc:acc'.toList=vs:=by
  apply List.ext_getElem?;intro j;rw [Ii];rcases Ja j acc'.size with z | z
  ·rw [HI z];exact (hacc.2 j _ (HI z)).symm
  ·rw [JV z];exact (IU (by rw [<- hacc.1];exact z)).symm
 refine Hg ?_;show Q acc'.toList s';rw [eacc];obtain ⟨ws,w1,w2⟩:=bO pm hz1;obtain ⟨h2,gn,dr,tk,os⟩:=s';have eg:gn=st.gens:=hm.gens;have ed:dr=d':=hm.drawn;have eo:os=st.os:=hm.os;subst eg;subst ed;subst eo;refine h vs ws h2 dr tk w1 (w2.trans hz2) (Jk (Ht hS')) fun b o e=>hm.heap b o ?_ (oth b o ?_ (kp _ _ (Hm _ e)))
 ·have hb:b < st.heap.objs.size:=Ht e;simp only [HB,List.not_mem_nil,Jx,not_or];exact ⟨HH hb,HH (HF (IW hb) lI)⟩
 ·exact HH (Ht e)
end
open PySem PySem.Spec PyProof.Rows
noncomputable def leT (x y:Str):Bool:=!ltCps y.cps.toList x.cps.toList
theorem jt (x y:Str):leT x y=true↔x.cps.toList<=y.cps.toList:=by
 unfold leT;rw [ltCps_eq,Bool.not_eq_true',decide_eq_false_iff_not];exact List.not_lt
theorem jT {x y z:Str} (h:leT x y=true) (h':leT y z=true):leT x z=true:=by
 rw [jt] at *;exact List.le_trans h h'
theorem pz (x y:Str):leT x y=true\/leT y x=true:=by
 rw [jt,jt];exact List.le_total _ _
theorem ug {x y:Str} (h:leT x y=true) (h':leT y x=true):x=y:=by
 rw [jt] at *;have:=List.le_antisymm h h';cases x;cases y;simp only [Str.mk.injEq];exact Array.toList_inj.mp this
noncomputable def wc (x:Str):List Str->List Str
 | []=>[x]
 | y :: r=>if leT x y=true then x :: y :: r else y :: wc x r
noncomputable def fC:List Str->List Str
 | []=>[]
 | x :: r=>wc x (fC r)
theorem gZ (x:Str):∀ l:List Str,(wc x l).Perm (x :: l)
 | []=>Jn _
 | y :: r=>by
  unfold wc;split
  ·exact Jn _
  ·exact ((gZ x r).cons y).trans (List.Perm.swap ..)
theorem bA:∀ l:List Str,(fC l).Perm l
 | []=>Jn _
 | x :: r=>(gZ x _).trans ((bA r).cons x)
theorem qX (x:Str):∀ l:List Str,l.Pairwise (fun a b=>leT a b=true)->(wc x l).Pairwise fun a b=>leT a b=true
 | [],_=>by simp [wc]
 | y :: r,h=>by
  obtain ⟨h1,h2⟩:=IF.mp h;unfold wc;split
  ·rename_i c;refine IF.mpr ⟨fun b hb=>?_,h⟩;rcases HB.mp hb with rfl | hb
   ·exact c
   ·exact jT c (h1 b hb)
  ·rename_i c;refine IF.mpr ⟨fun b hb=>?_,qX x r h2⟩;rcases HB.mp ((gZ x r).mem_iff.mp hb) with rfl | hb
   ·exact (pz b y).resolve_left c
   ·exact h1 b hb
theorem rJ:∀ l:List Str,(fC l).Pairwise fun a b=>leT a b=true
 | []=>by simp [fC]
 | x :: r=>qX x _ (rJ r)
theorem kE:∀ (p:Str) (l:List Str),risingS p l=true->(p :: l).Pairwise fun a b=>leT a b=true
 | p,[],_=>by simp
 | p,x :: r,h=>by
  have h:(!ltCps x.cps.toList p.cps.toList&&risingS x r)=true:=h;rw [HL] at h;have ih:=kE x r h.2;refine IF.mpr ⟨fun b hb=>?_,ih⟩;rcases HB.mp hb with rfl | hb
  ·exact h.1
  ·exact jT h.1 ((IF.mp ih).1 b hb)
theorem pT:∀ {l:List Str},sortedS l=true->l.Pairwise fun a b=>leT a b=true
 | [],_=>by simp
 | x :: r,h=>kE x r h
theorem pE {l l':List Str} (h:sortedS l=true) (p:l.Perm l'):l=fC l' :=
 List.Perm.eq_of_pairwise (fun _ _ _ _ a b=>ug a b) (pT h) (rJ l') (p.trans (bA l').symm)
noncomputable def bF (ss:List Str):List Str:=ss.foldl jJ []
theorem fq (x:Str):∀ (ss acc:List Str),x∈ss.foldl jJ acc↔x∈acc\/x∈ss
 | [],acc=>by simp
 | y :: r,acc=>by
  rw [J0,fq x r];have:x∈jJ acc y↔x∈acc\/x=y:=by
   unfold jJ;split
   ·rename_i h;constructor
    ·exact .inl
    ·rintro (h' | rfl)
     ·exact h'
     ·exact h
   ·simp
  rw [this,HB,or_assoc]
theorem mL {x:Str} {ss:List Str}:x∈bF ss↔x∈ss:=by
 unfold bF;rw [fq];simp
theorem fk:∀ (ss acc:List Str),(ss.foldl jJ acc).length<=acc.length+ss.length
 | [],acc=>by simp
 | y :: r,acc=>by
  rw [J0];have:=fk r (jJ acc y);have h:(jJ acc y).length<=acc.length+1:=by
   unfold jJ;split
   ·omega
   ·simp
  rw [HA];omega
theorem je (ss:List Str):(bF ss).length<=ss.length:=by
 have:=fk ss [];unfold bF;simpa using this
section
variable {pr:Program} {ww:World} {AA:Around} {EE:Value->Shared->Prop} {st:Shared}
theorem zX {d:Addr} {ss:List Str} {Q:Value->Shared->Prop} (hh:AA.handled=none) (hS:cE pr ww st.heap d ss) (h64:ss.length < 64)
  (h:∀ (out:List Value) h' d' tk p e,StrsAre out (fC ss)->(∀ b o,st.heap.get? b=some o->h'.get? b=some o)->st.heap.objs.size<=p->h'.get? p=some (seqObj "list" out.toArray e)->Q (.ref p) { st with heap:=h',drawn:=d',toks:=tk }) :
  wpAny (model pr ww) AA (call (.builtin "sorted") [.ref d]) Q EE st:=by
 refine Calls.call_function_entry kind_sorted plain_sorted entry_sorted (args_sorted1 _) ?_;unfold Builtin.«sorted»
 refine He (m:=checkCount "sorted" 1 1 _) (Hg ?_);refine He (zS hh hS fun vs ss' h1 d1 tk h2 h3 le h4=>?_);have hl:vs.length < 64:=by rw [bE h2,h3.length_eq];exact h64
 refine He (wpAny_newList ?_ (by rw [Ie];omega));have g1:(h1.push (seqObj "list" vs.toArray 0)).get? h1.objs.size=some (seqObj "list" vs.toArray 0):=Hy _ rfl;refine He (HU (Im slot_list_sort ⟨_,g1,rfl⟩ entry_list_sort (list_sort_treeK strKind_oneLt g1 h2.keysOf (fun v1 v2 rest e=>keyKind_strs (by rw [<- e];exact h2)) hl fun st' a1 a2=>⟨_,rfl,?_⟩) (args_list_sort _)));obtain ⟨zs,z1,z2,z3⟩:=sorted_out_str h2 a1 a2;have ez:zs=fC ss:=pE z3 (z2.trans h3);rw [ez] at z1;obtain ⟨e,he⟩:=sortedHeap_at (out:=(arrOf st').map (·.2)) (vs:=vs) (n:=0) g1;refine Hg ⟨_,rfl,h _ _ d1 tk h1.objs.size e z1 (fun b o q=>?_) le ?_⟩
 ·have lt:b < h1.objs.size:=Ht (h4 b o q);rw [sortedHeap_old (HH lt) (by rw [size_push'];exact IW lt)];exact Hm _ (h4 b o q)
 ·rw [Array.toArray_toList];exact he
end
open PySem PySem.Spec PyProof.Rows
theorem qA:∀ {ds:List PyData} {ss:List Str},strsOf ds=some ss->ds=ss.map .str
 | [],ss,h=>by cases h;rfl
 | d :: ds,ss,h=>by
  unfold strsOf at h;split at h
  ·cases h;rename_i e;cases e
  ·rename_i x r e;cases e;split at h
   ·rename_i xs hx;cases h;rw [qA hx];rfl
   ·cases h
  ·cases h
theorem qY {K:Fg} {F:Addr->Prop} {H:Hp}:∀ {ss:List Str},(∀ s∈ss,s.length<=sizeLine/\PyData.strOk s=true)->DmL K F H (ss.map .str) (ss.map V.str)
 | [],_=>rfl
 | s :: ss,h=>⟨_,_,rfl,⟨rfl,h s Hu⟩,qY fun x hx=>h x (Hr _ hx)⟩
theorem vt {K:Fg} {F:Addr->Prop} {H:Hp}:∀ {ss:List Str} {us:List V},DmL K F H (ss.map .str) us->∀ s∈ss,s.length<=sizeLine/\PyData.strOk s=true
 | [],_,_,s,hs=>by cases hs
 | s :: ss,us,h,x,hx=>by
  obtain ⟨v,r,rfl,h1,h2⟩:=h;rcases HB.mp hx with rfl | hx
  ·exact h1.2
  ·exact vt h2 x hx
noncomputable def Gv:PyData->Option PR
 | .list ds=>match strsOf ds with | some ss=>if ss.length < 64 then some (.frs (.list ((fC ss).map .str))) else none | none=>none
 | _=>none
noncomputable def Cv (X:Cx) (p:Addr) (ss:List Str):HO:=.ext fun h=>cE X.prog X.w h p ss
def Dk (X:Cx):List V->Hp->VK->Prop:=fun xs H Q=>∃ (a:Addr) (ss:List Str),xs=[.ref a]/\SqL X.K H a (ss.map V.str)/\ss.length < 1000/\∀ p,H p=none->Q (.ref p) (upd H p (Cv X p (bF ss)))
theorem qF {X:Cx} (hc:X.calm=true):aE X (.type "set") (Dk X):=by
 intro pins s σ H xs us Q I r h;obtain ⟨a,ss,rfl,hq,hl,q⟩:=h;obtain ⟨u,rfl,r1⟩:=vals1 r;cases (show u=Value.ref a from r1);obtain ⟨its,rv,p,hz⟩:=I.list hq;have hS:=da rv;have hl2:its.length=ss.length:=by rw [<- rv.length,Hf]
 refine oZ (I.ok.hd hc) p.isList (by simpa using hS) (by show its.toArray.size+1 < 4096;rw [Hx];omega) fun h' tk hS' hk=>?_;have hn:H s.heap.objs.size=none:=I.hok.fresh (Hn _);refine ⟨.ref s.heap.objs.size,_,I.laid (t':=tk) (o:=Cv X s.heap.objs.size (bF ss)) (fun b o hb=>hk b o (Ht hb) hb) (Hn _) ?_,rfl,q _ hn⟩;obtain ⟨ob,es,ep,tb,ho,_⟩:=hS'.size;exact ⟨hS',⟨_,ho⟩,fun h1 h2 z k=>z.at k⟩
def zy (X:Cx):List V->Hp->VK->Prop:=fun xs H Q=>∃ (d:Addr) (ss:List Str),xs=[.ref d]/\H d=some (Cv X d ss)/\ss.length < 64/\∀ p,H p=none->Q (.ref p) (upd H p (.lst ((fC ss).map V.str)))
theorem Inv.drew {X:Cx} {pins:List (Addr×Obj)} {σ:St} {H:Hp} {s:Shared} {d':Drawn} (I:Inv X pins σ H s):Inv X pins σ H { s with drawn:=d' } :=
 ⟨I.ok,I.os,I.bare,I.base,I.loc,I.cell,I.free,I.cM,I.pin,I.hok,I.len⟩
theorem nG {X:Cx} (hc:X.calm=true):aE X (.builtin "sorted") (zy X):=by
 intro pins s σ H xs us Q I r h;obtain ⟨d,ss,rfl,hq,h64,q⟩:=h;obtain ⟨u,rfl,r1⟩:=vals1 r;cases (show u=Value.ref d from r1);obtain ⟨hS,_⟩:=I.hok _ _ hq;refine zX (I.ok.hd hc) hS h64 fun out h' d' tk p e ho hk hp hg=>?_;have hn:H p=none:=I.hok.fresh hp;refine ⟨.ref p,_,Inv.drew (d':=d') (I.laid (t':=tk) (o:=.lst ((fC ss).map V.str)) hk hp ?_),rfl,q _ hn⟩;exact ⟨by rw [Hf,(bA ss).length_eq,Ie];omega,out,e,oJ ho,hg⟩
def rSS (K:Fg):V->Hp->VK->Prop:=fun x H Q=>∃ (a:Addr) (ss:List Str),x=.ref a/\SqL K H a (ss.map V.str)/\ss.length < 64/\∀ H1 p,az H H1->H1 p=none->Q (.ref p) (upd H1 p (.lst ((fC (bF ss)).map V.str)))
noncomputable def tI:PyData->Option PR
 | .list ds=>match strsOf ds with | some ss=>if ss.length < 64 then some (.frs (.list ((fC (bF ss)).map .str))) else none | none=>none
 | _=>none
noncomputable def rL:Prm:=Prm.one rSS tI fun K F H x u pr Q hf hx hd q=>by
 unfold tI at hf;split at hf
 ·rename_i ds;split at hf
  ·rename_i ss hss;split at hf
   ·rename_i h64;cases hf;obtain ⟨a,us,rfl,s1,z1,d1⟩:=kY hx;obtain ⟨e,os⟩:=mh hss d1;rw [e] at s1;rw [qA hss] at d1;refine ⟨a,ss,rfl,s1,h64,fun H1 p sm hp=>?_⟩;have hp0:H p=none:=sm.free hp;have dl:DmL K F H ((fC (bF ss)).map .str) ((fC (bF ss)).map V.str):=qY fun s hs=>vt d1 s (mL.mp ((bA _).mem_iff.mp hs));refine q _ _ (sm.trans (az.nw _ hp)) ?_;refine ⟨p,rfl,hp0,_,ag,?_,(dl.fresh hp0).pr (Pr.of_same (sm.trans (az.nw _ hp))) fun _ z=>z⟩;rw [Hf,(bA _).length_eq,Ie];have:=je ss;omega
   ·cases hf
  ·cases hf
 ·cases hf
theorem eSS {X:Cx} {e:Expr} {te:TE} {p1 p2 pos1 pos2:Pos} (hc:X.calm=true) (hg1:Gl X "sorted") (hm1:X.mg "sorted" = none) (hg2:Gl X "set") (hm2:X.mg "set" = none) (h:PySem.W.isStarred e=false) (ha:JE X e te) :
  JE X (.Call (.Name "sorted" p1) [.Call (.Name "set" p2) [e] [] pos2] [] pos1) (tCB (rL.r X.K) (ah te bo)):=by
 let te':TE:=fun σ H P=>∃ P0:VK,te σ H P0/\∀ x H1,P0 x H1->P x H1
 have ha':JE X e te':=⟨fun pins s σ H P I ⟨P0,h0,h1⟩=>HR (ha.h pins s σ H P0 I h0) (fun v s' ⟨x,H',I',r,q⟩=>⟨x,H',I',r,h1 _ _ q⟩) fun _ _ z=>z⟩;have inner:=eTy (p:=p2) (pos:=pos2) (qF hc) hg2 hm2 (by decide +kernel) (eA ha' ai h) h rfl (by decide) rfl;have outer:=eB (p:=p1) (pos:=pos1) (nG hc) hg1 hm1 (by decide +kernel) (eA inner ai rfl) rfl rfl (by decide) rfl;refine ⟨?_⟩;intro pins s σ H Q I hT;refine outer.h pins s σ H Q I ⟨_,hT,fun x H1 z=>?_⟩;have z:rSS X.K x H1 Q:=z;obtain ⟨a,ss,rfl,sq,h64,q⟩:=z;refine ⟨a,ss,rfl,sq,by omega,fun p hp=>?_⟩;refine ⟨p,bF ss,rfl,ag,by have:=je ss;omega,fun p2 hp2=>?_⟩;exact q _ p2 (az.nw _ hp) hp2
open PySem PySem.Spec PyProof.Rows
noncomputable def qH:PyData->List PyData->Option PR
 | .str z,[.str y]=>some (.dat (.bool (decide (y.length<=z.length)&&Builtin.Str.subAt z y 0)))
 | _,_=>none
noncomputable def xP:Mtd where
 T := "str"
 r:=fun _=>oM
 ty:=isS
 f:=qH
 yy:=fun K F H d v h t=>ty_str h t
 ok:=fun K F H d v ds vs pr Q hf hx hv hd q=>by
  unfold qH at hf;split at hf
  ·cases hf;obtain ⟨rfl,_⟩:=vStr hx;obtain ⟨w,r,rfl,hw,rfl⟩:=hv;obtain ⟨rfl,_⟩:=vStr hw;exact ⟨_,_,rfl,rfl,q _ H (az.rf H) rfl⟩
  ·cases hf
open PySem PySem.Spec PyProof.Rows
theorem FP {X:Cx} {e:Expr} {te:TE} {T:String} {p p2 pos:Pos} (hg:Gl X "isinstance") (hm:X.mg "isinstance" = none) (ha:JE X e te) (hs:PySem.W.isStarred e=false) (hb:JE X (.Name (Str.ofString T) p2) (tC (.ty T))):JE X (.Call (.Name "isinstance" p) [e,.Name (Str.ofString T) p2] [] pos) (tCB ((om T).r X.K) (ah te bo)) :=
 ⟨(eB vQ hg hm (by decide +kernel) (eA ha (eA hb ai rfl) hs) hs rfl (by decide) rfl).h⟩
open PySem
theorem rh {e:En} {i:Nat} {s:Sl} (h:e[i]?=some s) (q:soft s):free e i=true:=by
 unfold free;rw [h];cases s with
 | ino d=>exact absurd rfl (q.1 d)
 | ro d=>exact absurd rfl (q.2 d)
 | _=>rfl
theorem Be:soft .un:=⟨fun _=>nofun,fun _=>nofun⟩
theorem zO {d:PyData}:soft (.dat d):=⟨fun _=>nofun,fun _=>nofun⟩
theorem Ff {d:PyData}:soft (.own d):=⟨fun _=>nofun,fun _=>nofun⟩
theorem ny {e:En} {i:Nat} {avs:List AV} {xs:List PyData} {d:PyData} {Q:RV->En->Prop} (h1:aK e i=some (.list xs)) (h2:xs.length < sizeLine) (h3:dU e avs=some [(true,d)]) (q:Q (.dat .none) (fE e i (.list (xs++[d])))):WMr sV i avs e Q :=
 ⟨_,_,.list (xs++[d]),.none,h1,h3,by show (if xs.length < sizeLine then _ else _)=_;rw [Hv h2],q⟩
theorem hX:∀ (ss:List Str),strsOf (ss.map .str)=some ss
 | []=>rfl
 | s :: ss=>by simp only [List.map_cons,strsOf,hX ss]
theorem uG {r:RV} {avs:List AV} {e:En} {z:Str} {ss:List Str} {Q:RV->En->Prop} (h1:r.view e=some (.str z)) (h2:aQ e avs=some [.list (ss.map .str)]) (h3:fu z ss=true) (q:Q (.dat (.str (Txt.join z ss))) e):BW joinM r avs e Q:=by
 refine ⟨_,_,.dat (.str (Txt.join z ss)),h1,h2,?_,q⟩;show (match strsOf (ss.map .str) with | some ss=>if fu z ss=true then some (PR.dat (.str (Txt.join z ss))) else none | none=>none)=_;rw [hX];simp only;rw [Hv h3]
theorem rC {e:En} {x y:AV} {xs ys:List PyData} {Q:RV->En->Prop} (h1:aQ e [x,y]=some [.list xs,.list ys]) (h2:xs.length+ys.length<=sizeLine) (q:Q (.frs (.list (xs++ys))) e):WPr il [x,y] e Q :=
 ⟨_,.frs (.list (xs++ys)),h1,by show (if xs.length+ys.length<=sizeLine then _ else _)=_;rw [Hv h2],q⟩
theorem AD {e:En} {x y:AV} {xs ys:Str} {Q:RV->En->Prop} (h1:aQ e [x,y]=some [.str xs,.str ys]) (h2:xs.length+ys.length<=sizeLine) (q:Q (.dat (.str (xs++ys))) e):WPr il [x,y] e Q :=
 ⟨_,.dat (.str (xs++ys)),h1,by show (if xs.length+ys.length<=sizeLine then _ else _)=_;rw [Hv h2],q⟩
theorem w_eq {e:En} {x y:AV} {d d':PyData} {Q:RV->En->Prop} (h1:aQ e [x,y]=some [d,d']) (h2:jK d=true) (h3:jK d'=true) (q:Q (.dat (.bool (PyData.eqv d d'))) e):WPr eqP [x,y] e Q :=
 ⟨_,.dat (.bool (PyData.eqv d d')),h1,by show (if jK d=true/\jK d'=true then _ else _)=_;rw [Hv ⟨h2,h3⟩];rfl,q⟩
theorem zB {i:Nat} {v:PyData} {rk:RV} {e2:En} {N:En->Prop} {k:Int} {xs:List PyData} (h1:rk.view e2=some (.int k)) (h2:aK e2 i=some (.list xs)) (h3:0<=k) (h4:k < xs.length) (q:N (fE e2 i (.list (xs.set k.toNat v)))):An Cc i v rk e2 N:=by
 refine ⟨_,_,.list (xs.set k.toNat v),h1,h2,?_,q⟩;show (ixN xs.length k).map _=_;unfold ixN;rw [Hv h3,Hv h4];rfl
theorem lM {n i:Nat} {d:PyData} (h:((List.range n).map fun (k:Nat)=>PyData.int ((0:Int)+(k:Int)))[i]?=some d):d=.int i/\i < n:=by
 rw [Hq] at h;cases q:(List.range n)[i]? with
 | none=>rw [q] at h;cases h
 | some j =>
  rw [q] at h;obtain ⟨hi,e⟩:=Hl.mp q;rw [HP] at hi;have:j=i:=by rw [<- e];simp
  subst this;cases h;exact ⟨by simp,hi⟩
theorem ql {n:Nat}:((List.range n).map fun (k:Nat)=>PyData.int ((0:Int)+(k:Int))).length=n:=by rw [Hf,HP]
theorem atV {α:Type} {xs:List α} {r:Int} (h0:0<=r) (h1:r < xs.length):∃ v,v∈xs/\atI xs r=some v:=by
 have hj:r.toNat < xs.length:=by omega
 have ej:r=((r.toNat:Nat):Int):=by omega
 refine ⟨xs[r.toNat],List.getElem_mem hj,?_⟩;have:=lB (xs:=xs) (j:=r.toNat) (v:=xs[r.toNat]) (Hj hj);rw [<- ej] at this;exact this
theorem i5:∀ (ss:List Str),strsOf (ss.map .str)=some ss
 | []=>rfl
 | s :: ss=>by simp only [List.map_cons,strsOf,i5 ss]
theorem i8 {α:Type} {xs:List α} {k:Int} (h:0<=k):cutD xs none (some k)=xs.take k.toNat:=by
 unfold cutD;simp only [HT.sIx,List.drop_zero,Nat.sub_zero];rw [Hz (by omega)];by_cases z:k.toNat<=xs.length
 ·congr 1;omega
 ·rw [Jl (by omega),Jl (by omega)]
theorem jO (x:Str):chars x=(x.cps.toList.map fun c=>(⟨#[c]⟩:Str)).map .str:=by
 unfold chars;rw [Ij];rfl
theorem gY (x:Str):x.cps.toList.length=x.length:=by simp [Str.length]
theorem jA:∀ {ds:List PyData},dq ds=true↔∀ d∈ds,noD d=true
 | []=>by simp [dq]
 | d :: ds=>by simp [dq,jA (ds:=ds)]
theorem dX {k:Nat}:∀ {ds:List PyData},(∀ d∈ds,d.depth<=k)->PyData.depthAll ds<=k
 | [],_=>by simp [PyData.depthAll]
 | d :: ds,h=>by
  have h1:=h d Hu;have h2:=dX fun x hx=>h x (Hr _ hx);simp only [PyData.depthAll];omega
theorem n8 {k:Nat} {ds:List PyData} (h:∀ d∈ds,d.depth<=k):(PyData.list ds).depth<=k+1:=by
 simp only [PyData.depth];have:=dX h;omega
theorem lF {k:Nat} {ds:List PyData} (h:∀ d∈ds,d.depth<=k):(PyData.tuple ds).depth<=k+1:=by
 simp only [PyData.depth];have:=dX h;omega
theorem pj {d:PyData} (h1:noD d=true) (h2:d.depth<=64):jK d=true:=by simp [jK,h1,h2]
open PySem PySem.Spec PyProof.Rows
theorem oD {e:En} {x:AV} {ss:List Str} {Q:RV->En->Prop} (h1:aQ e [x]=some [.list (ss.map .str)]) (h2:ss.length < 64) (q:Q (.frs (.list ((fC (bF ss)).map .str))) e):WPr rL [x] e Q:=by
 refine ⟨_,.frs (.list ((fC (bF ss)).map .str)),h1,?_,q⟩;show tI (.list (ss.map .str))=_;unfold tI;simp only [i5];rw [Hv h2]
theorem iI:∀ bs:List Bool,fR (bs.map .bool)=some bs
 | []=>rfl
 | b :: bs=>by
  rw [List.map_cons];unfold fR;rw [iI bs]
open PySem PySem.Spec PyProof.Rows
def iD:List (Option Sl)->En->Prop
 | [],e=>e=[]
 | some s :: r,e=>∃ e',iD r e'/\e=s :: e'
 | none :: r,e=>∃ x e',soft x/\iD r e'/\e=x :: e'
def ue:List (Option Sl)->(En->Prop)->Prop
 | [],P=>P []
 | some s :: ts,P=>ue ts fun e=>P (s :: e)
 | none :: ts,P=>∀ s,soft s->ue ts fun e=>P (s :: e)
theorem iD.out:∀ {ts:List (Option Sl)} {e:En} {P:En->Prop},iD ts e->ue ts P->P e
 | [],_,_,h,q=>by cases (show _=_ from h);exact q
 | some s :: ts,e,P,h,q=>by obtain ⟨r,hr,rfl⟩:=h;exact hr.out (P:=fun e=>P (s :: e)) q
 | none :: ts,e,P,h,q=>by obtain ⟨s,r,hs,hr,rfl⟩:=h;exact hr.out (P:=fun e=>P (s :: e)) (q s hs)
section
variable {gd:List PyData} {e e':En} {E:Kn} {Q:RV->En->Prop} {QA:List AV->En->Prop} {QT:Bool->En->Prop} {QI:List PyData->Option Nat->En->Prop} {N:En->Prop} {i:Nat} {r:RV}
theorem zZ (h:e=e') (q:zx i r e' N):zx i r e N:=h▸q
theorem xF (h:e=e') (q:pZ i r e' N):pZ i r e N:=h▸q
theorem yN {is:List Nat} (h:e=e') (q:Cu is r e' N):Cu is r e N:=h▸q
theorem GI {as:XA} (h:e=e') (q:WA gd as e' QA):WA gd as e QA:=h▸q
theorem Gm {a:XE} (h:e=e') (q:WE gd a e' Q):WE gd a e Q:=h▸q
theorem GK {s:XS} (h:e=e') (q:WS gd s e' E):WS gd s e E:=h▸q
theorem GJ {t:XT} (h:e=e') (q:WT gd t e' QT):WT gd t e QT:=h▸q
theorem Gu {t:XI} (h:e=e') (q:WI gd t e' QI):WI gd t e QI:=h▸q
theorem DB {p:Prm} {avs:List AV} (h:e=e') (q:WPr p avs e' Q):WPr p avs e Q:=h▸q
theorem wx {f:Fn} {avs:List AV} (h:e=e') (q:nU f avs e' Q):nU f avs e Q:=h▸q
theorem CQ {mk:List PyData->RV} {avs:List AV} (h:e=e') (q:WTp mk avs e' Q):WTp mk avs e Q:=h▸q
theorem C4 {m:Mtr} {avs:List AV} (h:e=e') (q:WMr m i avs e' Q):WMr m i avs e Q:=h▸q
theorem E3 {m:Mtd} {avs:List AV} (h:e=e') (q:BW m r avs e' Q):BW m r avs e Q:=h▸q
theorem Ag {m:Mtd} {as:XA} (h:e=e') (q:Cr gd m as r e' Q):Cr gd m as r e Q:=h▸q
theorem BX {ms:List PM} {QF:PR->List PyData->Prop} (h:e=e') (q:Cs ms QF r e'):Cs ms QF r e:=h▸q
theorem xM {ms:List PM} {QF:PR->List PyData->Prop} (h:e=e') (q:sX ms QF e'):sX ms QF e:=h▸q
theorem Bk (h:e=e') (q:yz r e' QI):yz r e QI:=h▸q
theorem Bi {m:tD} {a:XE} (h:e=e') (q:Cp gd m i a r e' N):Cp gd m i a r e N:=h▸q
theorem Ae {m:tD} {v:PyData} (h:e=e') (q:An m i v r e' N):An m i v r e N:=h▸q
end
theorem isEq {b:Bool} {avs:List AV} {e:En} {Q:RV->En->Prop} (h:WPr (Ce b) avs e Q):WPr (Ce b) avs e Q:=h
theorem n5 {env e2:En} {i:Nat} {is:List Nat} {d:PyData} {ds:List PyData} (h:free env i=true) (q:eQ (env.set i (.dat d)) is ds=some e2):eQ env (i :: is) (d :: ds)=some e2:=by
 simp only [eQ];rw [Hv h];exact q
theorem la {x y:Str}:PyData.eqv (.str x) (.str y)=decide (x=y):=by
 simp only [PyData.eqv];rfl
theorem ze {e:En} {x y:AV} {z:PyData} {ds:List PyData} {b:Bool} {Q:RV->En->Prop} (h1:aQ e [x,y]=some [z,.tuple ds]) (h2:kB z=true) (h3:dq ds=true) (h4:fy ds z=b) (q:Q (.dat (.bool b)) e):WPr inP [x,y] e Q:=by
 refine ⟨_,.dat (.bool b),h1,?_,q⟩;subst h4;cases z with
 | dict kvs=>simp [kB,noD] at h2
 | _=>(show (if kB _=true/\dq ds=true then some (PR.dat (.bool (ngB false (fy ds _)))) else none)=_);rw [Hv ⟨h2,h3⟩];rfl
def FG (p:Prm) (r r2:RV) (k:PyData->Bool->Prop):Prop:=∃ x y b,r.av=.dat x/\r2.av=.dat y/\p.f [x,y]=some (.dat (.bool b))/\k y b
def FR (p:Prm) (y:PyData) (r:RV) (e:En) (Q:RV->En->Prop):Prop:=∃ z pr,r.av=.dat z/\p.f [y,z]=some pr/\Q pr.rv e
theorem AN {gd:List PyData} {env:En} {p p':Prm} {a b c:XE} {Q:RV->En->Prop} (h:WE gd a env fun r e=>WE gd b e fun r2 e2=>FG p r r2 fun y k=>if k=true then WE gd c e2 fun r3 e3=>FR p' y r3 e3 Q else Q (.dat (.bool false)) e2):WE gd (.chn p p' a b c) env Q:=by
 refine DG ?_;obtain ⟨r,e,h1,r2,e2,h2,x,y,k,h3,h4,h5,h6⟩:=h;exact ⟨r,e,h1,r2,e2,h2,x,y,k,h3,h4,h5,h6⟩
theorem w_all {e:En} {x:AV} {bs:List Bool} {Q:RV->En->Prop} (h1:aQ e [x]=some [.list (bs.map .bool)]) (q:Q (.dat (.bool (bs.all id))) e):WPr Cf [x] e Q:=by
 refine ⟨_,.dat (.bool (bs.all id)),h1,?_,q⟩;show (fR (bs.map .bool)).map _=_;rw [iI];rfl
theorem take_snoc {α:Type} {xs:List α} {i:Nat} {x:α} (h:xs[i]?=some x):xs.take i++[x]=xs.take (i+1):=by
 rw [List.take_add_one,h];rfl
open PySem PySem.Spec PyProof.Rows
section
variable {gd:List PyData} {a:XE} {env:En} {QI:List PyData->Option Nat->En->Prop}
def GN (r:RV) (e:En) (QI:List PyData->Option Nat->En->Prop):Prop:=(∃ kvs,r.av=.dat (.dict kvs)/\QI (kvs.map (·.1)) none e)\/∃ i kvs,r.av=.bor i/\cont e i=some (.dict kvs)/\QI (kvs.map (·.1)) (some i) e
theorem GO (h:WE gd a env fun r e=>GN r e QI):WI gd (.dct a) env QI:=by
 obtain ⟨r,e',h1,⟨kvs,h2,h3⟩ | ⟨i,kvs,h2,h4,h3⟩⟩:=h
 ·exact ⟨_,_,_,by simp only [dI,h1,h2],h3⟩
 ·exact ⟨_,_,_,by simp only [dI,h1,h2,h4],h3⟩
end
open PySem PySem.Spec PyProof.Rows PySem.W
def Ev (lt:Nat->Nat->Bool) (n:Nat) {α:Type}:KasT α->(α->Prop)->Prop
 | .ret a,R=>R a
 | .ask i j k,R=>i < n/\j < n/\Ev lt n (k (lt i j)) R
theorem fe {lt:Nat->Nat->Bool} {n:Nat} {α β:Type} {f:α->KasT β} {R:β->Prop} {S:α->Prop} (h2:∀ a,S a->Ev lt n (f a) R):∀ {t:KasT α},Ev lt n t S->Ev lt n (t.bind f) R
 | .ret a,h=>h2 a h
 | .ask i j k,h=>⟨h.1,h.2.1,fe h2 h.2.2⟩
theorem zh {lt:Nat->Nat->Bool} {n:Nat} {α:Type} {cmp:Nat->Nat->(Bool->Shared->Prop)->Shared->Prop} {Q:α->Shared->Prop} {R:α->Prop} {s:Shared} (hc:∀ i j (C:Bool->Shared->Prop),i < n->j < n->C (lt i j) s->cmp i j C s) (hq:∀ a,R a->Q a s):∀ {t:KasT α},Ev lt n t R->t.kasWp cmp Q s
 | .ret a,h=>hq a h
 | .ask i j k,h=>hc i j _ h.1 h.2.1 (zh hc hq h.2.2)
theorem Ev.mono {lt:Nat->Nat->Bool} {n:Nat} {α:Type} {R S:α->Prop}:∀ {t:KasT α},Ev lt n t R->(∀ a,R a->S a)->Ev lt n t S
 | .ret a,h,q=>q a h
 | .ask i j k,h,q=>⟨h.1,h.2.1,Ev.mono h.2.2 q⟩
structure Ord (lt:Nat->Nat->Bool) (n:Nat):Prop where
 irr:∀ i,lt i i=false
 tr:∀ i j k,lt i j=true->lt j k=true->lt i k=true
 tot:∀ i j,i < n->j < n->i≠j->lt i j=false->lt j i=true
noncomputable def at_ (p:Array Nat) (i:Nat):Nat:=p.getD i 0
def Up (lt:Nat->Nat->Bool) (p:Array Nat) (m:Nat):Prop:=∀ i,i+1 < m->lt (at_ p i) (at_ p (i+1))=true
def Dn_ (lt:Nat->Nat->Bool) (p:Array Nat) (m:Nat):Prop:=∀ i,i+1 < m->lt (at_ p (i+1)) (at_ p i)=true
section
variable {lt:Nat->Nat->Bool} {n:Nat} {p:Array Nat}
theorem ma {q:Array Nat} {i j:Nat} (h:p[i]?=q[j]?):at_ p i=at_ q j:=by
 unfold at_;rw [Ik,Ik,h]
def Pm (n:Nat) (p:Array Nat):Prop:=p.Perm (List.range n).toArray
theorem Pm.size (h:Pm n p):p.size=n:=by
 have:=Array.Perm.size_eq h;simpa using this
theorem Pm.bd (h:Pm n p) (h1:1<=n) (i:Nat):at_ p i < n:=by
 unfold at_;rw [Ik];by_cases hi:i < p.size
 ·rw [HI hi];have:p[i]∈(List.range n).toArray:=(Array.Perm.mem_iff h).mp (Array.getElem_mem hi);simpa using this
 ·rw [JV (by omega)];exact h1
theorem Pm.ne (h:Pm n p) {i j:Nat} (hi:i < n) (hj:j < n) (hn:i≠j):at_ p i≠at_ p j:=by
 have nd:p.toList.Nodup:=by
  have:=Jz.mp h;rw [this.nodup_iff];simpa using List.nodup_range
 have hs:=h.size;unfold at_;rw [Ik,Ik,HI (show i < p.size by omega),HI (show j < p.size by omega)];intro z;have z:p[i]=p[j]:=z;exact hn ((List.getElem?_inj (by rw [HM];omega) nd).mp (by rw [Ii,Ii,HI (show i < p.size by omega),HI (show j < p.size by omega),z]))
theorem Up.all (O:Ord lt n) {m:Nat} (h:Up lt p m) {i j:Nat} (hij:i < j) (hj:j < m):lt (at_ p i) (at_ p j)=true:=by
 induction j with
 | zero=>omega
 | succ j ih =>
  by_cases e:i=j
  ·subst e;exact h i hj
  ·exact O.tr _ _ _ (ih (by omega) (by omega)) (h j hj)
theorem Up.succ {m:Nat} (h:Up lt p m) (h1:1<=m) (e:lt (at_ p (m - 1)) (at_ p m)=true):Up lt p (m+1):=by
 intro i hi;by_cases z:i+1 < m
 ·exact h i z
 ·have:i=m - 1:=by omega
  subst this;rw [show m - 1+1=m by omega];exact e
theorem Dn_.succ {m:Nat} (h:Dn_ lt p m) (h1:1<=m) (e:lt (at_ p m) (at_ p (m - 1))=true):Dn_ lt p (m+1):=by
 intro i hi;by_cases z:i+1 < m
 ·exact h i z
 ·have:i=m - 1:=by omega
  subst this;rw [show m - 1+1=m by omega];exact e
theorem qa (O:Ord lt n) (P:Pm n p):∀ (f m:Nat),1<=m->m+f=n->Up lt p m->Ev lt n (kas_asc p f m) fun r=>m<=r/\r<=n/\Up lt p r/\(r < n->lt (at_ p r) (at_ p (r - 1))=true)
 | 0,m,h1,hm,hu=>⟨Hn _,by omega,hu,fun z=>by omega⟩
 | f+1,m,h1,hm,hu=>by
  unfold kas_asc;refine ⟨P.bd (by omega) m,P.bd (by omega) (m - 1),?_⟩;show Ev lt n (if lt (at_ p m) (at_ p (m - 1))=true then _ else _) _;split
  ·rename_i c;exact ⟨Hn _,by omega,hu,fun _=>c⟩
  ·rename_i c;have c':=O.tot _ _ (P.bd (by omega) m) (P.bd (by omega) (m - 1)) (P.ne (by omega) (by omega) (by omega)) (Bool.eq_false_iff.mpr c);have:=qa O P f (m+1) (by omega) (by omega) (hu.succ h1 c');exact Ev.mono this fun r h=>⟨by omega,h.2⟩
theorem oW (O:Ord lt n) (P:Pm n p):∀ (f m:Nat),1<=m->m+f=n->Dn_ lt p m->Ev lt n (kas_desc f p m 0) fun r=>r.1=p/\r.2.2=0/\m<=r.2.1/\r.2.1<=n/\Dn_ lt p r.2.1
 | 0,m,h1,hm,hu=>⟨rfl,rfl,Hn _,show m<=n by omega,hu⟩
 | f+1,m,h1,hm,hu=>by
  unfold kas_desc;refine ⟨P.bd (by omega) m,P.bd (by omega) (m - 1),?_⟩;show Ev lt n (if lt (at_ p m) (at_ p (m - 1))=true then _ else _) _;split
  ·rename_i c;rw [Hz (by omega)];exact Ev.mono (oW O P f (m+1) (by omega) (by omega) (hu.succ h1 c)) fun r h=>⟨h.1,h.2.1,by omega,h.2.2.2⟩
  ·rename_i c;have c':=O.tot _ _ (P.bd (by omega) m) (P.bd (by omega) (m - 1)) (P.ne (by omega) (by omega) (by omega)) (Bool.eq_false_iff.mpr c);refine ⟨P.bd (by omega) (m - 1),P.bd (by omega) m,?_⟩;show Ev lt n (if lt (at_ p (m - 1)) (at_ p m)=true then _ else _) _;rw [Hv c'];exact ⟨rfl,rfl,Hn _,show m<=n by omega,hu⟩
theorem BH {m:Nat} (hs:m<=p.size) (h:Dn_ lt p m):Up lt (kas_rev p 0 m) m:=by
 intro i hi;have e:∀ k,k < m->at_ (kas_rev p 0 m) k=at_ p (m - 1 - k):=by
  intro k hk;refine ma ?_;unfold kas_rev;rw [getElem?_mirror_all hs,Hv ⟨Ip _,hk⟩,Nat.zero_add]
 rw [e i (by omega),e (i+1) hi];have:=h (m - 1 - (i+1)) (by omega)
 rwa [show m - 1 - (i+1)+1=m - 1 - i by omega] at this
theorem Pm.rev (h:Pm n p) (i j:Nat):Pm n (kas_rev p i j):=(mirror_perm _ _ _ _).trans h
theorem x6 (O:Ord lt n) (P:Pm n p) {m:Nat} (h1:1<=m) (hm:m<=n) (hd:Dn_ lt p m):Ev lt n (kas_tail3 m n p) fun r=>Pm n r.2/\r.1<=n/\Up lt r.2 r.1:=by
 unfold kas_tail3;refine fe ?_ (qa O (P.rev 0 m) (n - m) m h1 (by omega) (BH (by rw [P.size];exact hm) hd));rintro r ⟨_,h1,h2,_⟩;exact ⟨P.rev 0 m,h1,h2⟩
theorem tQ (O:Ord lt n) (P:Pm n p) (hn:1<=n):Ev lt n (kas_count n p) fun r=>Pm n r.2/\r.1<=n/\Up lt r.2 r.1:=by
 unfold kas_count;refine fe ?_ (qa O P (n - 1) 1 (Hn _) (by omega) (fun i hi=>by omega));rintro m ⟨m1,mn,hu,hx⟩;split
 ·exact ⟨P,mn,hu⟩
 ·rename_i c;have hm:m < n:=by
   have:m≠n:=fun z=>c (by rw [z];exact Jp n);omega
  split
  ·refine ⟨P.bd hn 0,P.bd hn (m - 1),?_⟩;show Ev lt n (if lt (at_ p 0) (at_ p (m - 1))=true then _ else _) _;rw [Hv (hu.all O (by omega) (by omega))];exact ⟨P,mn,hu⟩
  ·have:m=1:=by omega
   subst this;unfold kas_descPart;refine fe ?_ (oW O P (n - (1+1)) (1+1) (by omega) (by omega) ?_)
   ·rintro ⟨q,m,z⟩ ⟨rfl,rfl,h1,h2,h3⟩;rw [Hz (by exact Ic 0)];exact x6 O P (by omega) h2 h3
   ·intro i hi;have:i=0:=by omega
    subst this;exact hx hm
theorem jc (O:Ord lt n) (P:Pm n p) {k:Nat} (hk:k < n) (hu:Up lt p k):∀ (f l r:Nat),r<=k->r - l<=f->l<=r->(∀ i,i < l->lt (at_ p i) (at_ p k)=true)->(∀ i,r<=i->i < k->lt (at_ p k) (at_ p i)=true)->Ev lt n (kas_place p k f l r) fun z=>z<=k/\(∀ i,i < z->lt (at_ p i) (at_ p k)=true)/\∀ i,z<=i->i < k->lt (at_ p k) (at_ p i)=true
 | 0,l,r,hr,hf,hlr,h1,h2=>⟨by omega,h1,fun i a b=>h2 i (by omega) b⟩
 | f+1,l,r,hr,hf,hlr,h1,h2=>by
  unfold kas_place;split
  ·exact ⟨by omega,h1,fun i a b=>h2 i (by omega) b⟩
  ·have hm:(l+r) / 2 < r:=by omega
   have hl:l<=(l+r) / 2:=by omega
   refine ⟨P.bd (by omega) k,P.bd (by omega) _,?_⟩;show Ev lt n (if lt (at_ p k) (at_ p ((l+r) / 2))=true then _ else _) _;generalize (l+r) / 2=m at hm hl;split
   ·rename_i c;refine jc O P hk hu f l m (by omega) (by omega) hl h1 fun i a b=>?_;by_cases e:m=i
    ·subst e;exact c
    ·exact O.tr _ _ _ c (hu.all O (by omega) b)
   ·rename_i c;have c':=O.tot _ _ (P.bd (by omega) k) (P.bd (by omega) m) (P.ne hk (by omega) (by omega)) (Bool.eq_false_iff.mpr c);refine jc O P hk hu f (m+1) r hr (by omega) (by omega) (fun i a=>?_) h2;by_cases e:i=m
    ·subst e;exact c'
    ·exact O.tr _ _ _ (hu.all O (by omega) (by omega)) c'
theorem y4 {k l:Nat} (hk:k < p.size) (hl:l<=k) (hu:Up lt p k) (h1:∀ i,i < l->lt (at_ p i) (at_ p k)=true) (h2:∀ i,l<=i->i < k->lt (at_ p k) (at_ p i)=true):Up lt (bubble p k (k - l)) (k+1):=by
 have e:∀ i,i<=k->at_ (bubble p k (k - l)) i=if i=l then at_ p k else if l < i then at_ p (i - 1) else at_ p i:=by
  intro i hi;have g:=getElem?_bubble hk (k - l) (by omega) i;rw [show k - (k - l)=l by omega] at g;split at g
  ·rename_i z;rw [Hv z];exact ma g
  ·rename_i z;rw [Hz z];split at g
   ·rename_i y;rw [Hv y.1];exact ma g
   ·rename_i y;rw [Hz (fun x=>y ⟨x,hi⟩)];exact ma g
 intro i hi;rw [e i (by omega),e (i+1) (by omega)];rcases Nat.lt_trichotomy (i+1) l with z | z | z
 ·rw [Hz (by omega),Hz (by omega),Hz (by omega),Hz (by omega)];exact hu i (by omega)
 ·rw [Hz (by omega),Hz (by omega),Hv z];exact h1 i (by omega)
 ·rw [Hz (show ¬i+1=l by omega),Hv z,Nat.add_sub_cancel];split
  ·rename_i y;subst y;exact h2 i (Hn _) (by omega)
  ·rw [Hv (by omega)];have:=hu (i - 1) (by omega)
   rwa [show i - 1+1=i by omega] at this
theorem vh (O:Ord lt n):∀ (f:Nat) (p:Array Nat) (k:Nat),Pm n p->k+f=n->Up lt p k->Ev lt n (kas_bin f p k) fun q=>Pm n q/\Up lt q n
 | 0,p,k,P,hk,hu=>⟨P,(show k=n by omega)▸hu⟩
 | f+1,p,k,P,hk,hu=>by
  unfold kas_bin;refine fe ?_ (jc O P (by omega) hu k 0 k (Hn _) (by omega) (Ip _) (fun i z=>by omega) (fun i a b=>by omega));rintro l ⟨hl,h1,h2⟩;exact vh O f _ (k+1) ((bubble_perm _ _ _).trans P) (by omega) (y4 (by rw [P.size];omega) hl hu h1 h2)
theorem ye (O:Ord lt n) (hn:1<=n):Ev lt n (kas_sort n) fun q=>Pm n q/\Up lt q n:=by
 unfold kas_sort;refine fe ?_ (tQ O (Array.Perm.refl _) hn);rintro ⟨m,q⟩ ⟨P,hm,hu⟩;show Ev lt n (if m < n then kas_bin (n - max m 1) q (max m 1) else .ret q) _;split
 ·refine vh O _ q _ P (by omega) ?_;intro i hi;exact hu i (by omega)
 ·have:m=n:=by have:m<=n:=hm;omega
  subst this;exact ⟨P,hu⟩
end
open PySem PySem.Spec PyProof.Rows PySem.W
section
variable {P:Program} {w:World} {A:Around} {E:Value->Shared->Prop} {s:Shared} {d:Addr} {es:Array DictEntry} {ep:Nat}
def OkD (d:Addr) (es:Array DictEntry) (ep:Nat) (h:Heap):Prop:=∃ od,h.get? d=some od/\od.ExactDict/\od.data=.dict es ep
def FH (es:Array DictEntry) (i:Nat) (v:Value):Prop:=∃ e,es[i]?=some e/\v=e.key
theorem zp (hh:A.handled=none) (I:Addr) (hne:d≠I):Walks P w A I [I,d] [I] es.size (FH es) (fun i h=>h.IsKeyIter I d i es.size ep/\OkD d es ep h) where
 sub:=fun b hb=>by simp at hb;simp [hb]
 frame:=fun _ _ _ st hk=>⟨st.1.at fun o e=>hk I (by simp) o e,let ⟨od,g,r⟩:=st.2;⟨od,hk d (by simp) _ g,r⟩⟩
 item:=fun i s Q E hi st hQ=>by
  obtain ⟨it,od,g1,g2,g3⟩:=st;refine z4 it g1 g3 (HI hi) fun h' it' sb=>?_;exact hQ _ h' s.toks ⟨_,HI hi,rfl⟩ ⟨it',od,(sb.2 d hne).trans g1,g2,g3⟩ fun b o hb e=>(sb.2 b (fun z=>hb (by simp [z]))).trans e
 done:=fun s Q E st hQ=>by
  obtain ⟨it,od,g1,g2,g3⟩:=st;exact Em hh it g1 g3 (Hn _) fun h' eb=>hQ h' s.toks fun b o hb e=>eb b o (fun z=>hb (by simp [z])) e
 self:=fun _ _ _ _ st hQ=>wpAny_pyIter_keyiter st.1 hQ
theorem GV (lo:(d==sysModules)=false):KdlSrc P w "dict" d d es.size (FH es) (OkD d es ep) where
 type:=fun _ ⟨od,g1,g2,_⟩=>⟨od,g1,g2.1⟩
 there:=fun _ ⟨od,g1,_⟩=>⟨Ht g1,Ht g1⟩
 keep:=fun _ _ ⟨od,g1,r⟩ hk=>⟨od,hk d (.inl rfl) _ g1,r⟩
 notList:=by decide
 notTuple:=by decide
 hint:=fun _ _ _ _ ⟨od,g1,g2,_⟩ hq=>kdl_hint_dict ⟨od,g1,g2.1⟩ hq
 iter:=fun _ s hh ⟨od,g1,g2,g3⟩=>⟨_,_,(fun _ _ hq=>BZ lo g1 g2 g3 hq),zp hh _ (HH (Ht g1)),⟨⟨_,Hy _ rfl,rfl,rfl⟩,od,Hm _ g1,g2,g3⟩⟩
end
open PySem PySem.Spec PyProof.Rows PySem.W
section
variable {P:Program} {w:World} {A:Around} {E:Value->Shared->Prop} {s:Shared} {a kS:Addr} {vs ks:List Value} {f:Value} {e1:Nat} {R:PySem.Fin->Shared->Prop}
theorem Ak {n:Nat} {J:List Value->Shared->Prop} {body:Value->PUnit->Sem (ForInStep PUnit)}
  (hb:∀ x ks (s:Shared),ks.length < n->vs[ks.length]?=some x->J ks s->wpAny (model P w) A (body x ⟨⟩) (fun r s'=>r=.yield ⟨⟩/\∃ k,J (ks++[k]) s') E s):∀ (r ks:List Value) (s:Shared),ks.length+r.length=n->vs.drop ks.length=r->J ks s ->
   wpAny (model P w) A (forIn r PUnit.unit body) (fun _ s'=>∃ ks,ks.length=n/\J ks s') E s
 | [],ks,s,hl,hr,h=>by
  rw [List.forIn_nil];exact Hg ⟨ks,by simpa using hl,h⟩
 | x :: r,ks,s,hl,hr,h=>by
  rw [HA] at hl;rw [List.forIn_cons];have hx:vs[ks.length]?=some x:=by
   have:(vs.drop ks.length)[0]?=some x:=by rw [hr];rfl
   rwa [List.getElem?_drop,Nat.add_zero] at this
  refine He (HR (hb x ks s (by omega) hx h) (fun q s' hq=>?_) fun _ _ x=>x);obtain ⟨rfl,k,h2⟩:=hq;refine Ak hb r (ks++[k]) s' (by rw [Ho,IS];omega) ?_ h2;rw [Ho,IS,<-List.drop_drop,hr];rfl
theorem D4 {J:List Value->Shared->Prop} (h64:vs.length < 64)
  (step:∀ x ks (s:Shared),vs[ks.length]?=some x->ks.length < 64->J ks s->wpAny (model P w) A (call f [x]) (fun k s'=>(∃ e,s'.heap.get? kS=some (seqObj "list" (List.toArray ks) e))/\J (ks++[k]) { s' with heap:=s'.heap.update kS (Obj.mapSeq (·.push k)) }) (fun _ _=>False) s)
  (hJ:∀ ks s,J ks s->∃ e,s.heap.get? kS=some (seqObj "list" (List.toArray ks) e))
  (fin:∀ ks (s:Shared),ks.length=vs.length->J ks s->wpAny (model P w) A (ksk_end a false vs.toArray e1 (.ref kS) (List.toArray ks)) R E s) (h:J [] s) :
  wpAny (model P w) A (ksk_rest a f false vs.toArray e1 (.ref kS)) R E s:=by
 unfold ksk_rest;refine He (IJ ?_);rw [List.forIn_toArray];refine He (HR (Ak (n:=vs.length) (vs:=vs) (J:=J) (fun x ks s' hl hx hj=>?_) vs [] s (by simp) (by simp) h) (fun _ s' hd=>?_) fun _ _ x=>x)
 ·refine He (wpAny_attempt (HR (step x ks s' hx (by omega) hj) (fun k s'' hk=>?_) fun _ _ hF=>hF.elim));obtain ⟨⟨e,g⟩,hj'⟩:=hk;try dsimp only
  refine He (listUpdate_at g rfl ?_ (by rw [Hx,Ie];omega) (HJ (Nat.le_of_eq (Array.size_push ..)) (by rw [Hx,Ie];omega)));exact Hg ⟨rfl,k,hj'⟩
 ·obtain ⟨ks,hl,hj⟩:=hd;obtain ⟨e,g⟩:=hJ ks s' hj;try dsimp only
  refine He (listItems_at g rfl ?_);exact fin ks s' hl hj
theorem B6 {st:SortSt} {e:Nat} {out:List Value} (hout:(arrOf st).map (·.2)=List.toArray out) (hz:out.length < 64) (hkz:ks.length < 64) (hf:failedOf st=none) (hne:a≠kS)
  (gk:s.heap.get? kS=some (seqObj "list" (List.toArray ks) e)) (ga:s.heap.get? a=some (seqObj "list" #[] e1))
  (h:R (.done (.ret .none)) { s with heap:=(s.heap.update kS (Obj.mapSeq fun _=>(#[]:Array Value))).update a (Obj.mapSeq fun _=>List.toArray out) }):wpAny (model P w) A (ksk_tail a false e1 (.ref kS) st) R E s:=by
 have ga':(s.heap.update kS (Obj.mapSeq fun _=>(#[]:Array Value))).get? a=some (seqObj "list" #[] e1):=(HS _ _ (Ne.symm hne)).trans ga;unfold ksk_tail;try dsimp only
 rw [hout];refine He (listUpdate_at gk rfl ?_ (by rw [Hx,Ie];omega) (Ip _));refine He (wpAny_letGo ?_);refine He (seqEpoch_at ga' rfl ?_);refine He (listUpdate_at ga' rfl ?_ (Ip _) (by show (List.toArray out).size<=_;rw [Hx,Ie];omega));rw [hf];simp only [bne_self_eq_false,Jh,Jd];exact Hg h
theorem F7 {e:Nat} {κ:SortKind} {lt:Nat->Nat->Bool} (hl:ks.length=vs.length) (h64:vs.length < 64) (hne:a≠kS)
  (gk:s.heap.get? kS=some (seqObj "list" (List.toArray ks) e)) (ga:s.heap.get? a=some (seqObj "list" #[] e1))
  (hk:2<=vs.length->∀ Q:SortKind->Shared->Prop,Q κ s->wpAny (model P w) A (keyKind' (List.toArray ks)) Q (fun _ _=>False) s)
  (hc:∀ i j (C:Bool->Shared->Prop),i < vs.length->j < vs.length->C (lt i j) s->kas_ask P w A κ ks i j C s) (O:Ord lt vs.length)
  (h:∀ p,Pm vs.length p->Up lt p vs.length->R (.done (.ret .none)) { s with heap:=(s.heap.update kS (Obj.mapSeq fun _=>(#[]:Array Value))).update a (Obj.mapSeq fun _=>List.toArray (p.toList.map fun i=>vs.getD i Value.none)) }) :
  wpAny (model P w) A (ksk_end a false vs.toArray e1 (.ref kS) (List.toArray ks)) R E s:=by
 unfold ksk_end;dsimp only;rw [Hz Ig,Hz Ig];by_cases h2:vs.length < 2
 ·have hs:vs.toArray.size < 2:=by rw [Hx];exact h2
  rw [Hv hs,Hv hs];refine He (Hg ?_);show wpAny _ _ (pure (PUnit.unit,SortSt.mk' general' (ks.toArray.zip vs.toArray) #[] 7 none)>>=_) _ _ _;refine He (Hg ?_);dsimp only;have er:(List.toArray (List.range vs.length)).map (kas_item (ks.toArray.zip vs.toArray))=ks.toArray.zip vs.toArray:=by
   have e:=kas_range (ks.toArray.zip vs.toArray)
   rwa [show (ks.toArray.zip vs.toArray).size=vs.length by simp [hl]] at e
  refine B6 (st:=SortSt.mk' general' (ks.toArray.zip vs.toArray) #[] 7 none) (kat_snds hl (p:=(List.range vs.length).toArray) er.symm) (by simpa using h64) (by omega) rfl hne gk ga (h _ (Array.Perm.refl _) fun i hi=>by omega)
 ·have hs:¬vs.toArray.size < 2:=by rw [Hx];exact h2
  rw [Hz hs,Hz hs];refine He (HR (hk (by omega) (fun κ' s'=>κ'=κ/\s'=s) ⟨rfl,rfl⟩) (fun κ' s0 hk'=>?_) fun _ _ x=>x.elim);obtain ⟨rfl,rfl⟩:=hk'
  refine He (HR (kat_run (Q:=fun st' s'=>∃ p:Array Nat,p.size=vs.length/\arrOf st'=p.map (kas_item (ks.toArray.zip vs.toArray))/\failedOf st'=none/\(Pm vs.length p/\Up lt p vs.length)/\s'=s0) (G:=fun p s'=>(Pm vs.length p/\Up lt p vs.length)/\s'=s0)
   hl (by omega) h64 (fun p' st' s' a1 a2 a3 a4=>⟨p',a1,a2,a3,a4⟩) (zh hc (fun p hp=>⟨hp,rfl⟩) (ye O (by omega)))) ?_ fun _ _ x=>x)
  rintro ⟨⟨⟩,st'⟩ s' ⟨p,hp,har,hf,⟨h1,h2'⟩,rfl⟩;dsimp only;exact B6 (kat_snds hl har) (by rw [Hf,HM,hp];exact h64) (by omega) hf hne gk ga (h p h1 h2')
end
open PySem PySem.Spec PyProof.Rows PySem.W
abbrev Ky:=Int×Int×Str
noncomputable def ltK (x y:Ky):Bool:=if x.1=y.1 then (if x.2.1=y.2.1 then decide (x.2.2.cps.toList < y.2.2.cps.toList) else decide (x.2.1 < y.2.1)) else decide (x.1 < y.1)
theorem rV (x:Ky):ltK x x=false:=by
 unfold ltK;rw [Hv rfl,Hv rfl];exact Il (List.lt_irrefl _)
theorem zC {x y z:Ky} (h1:ltK x y=true) (h2:ltK y z=true):ltK x z=true:=by
 unfold ltK at *;split at h1 <;> split at h2
 ·rename_i a b;rw [Hv (a.trans b)];split at h1 <;> split at h2
  ·rename_i c d;rw [Hv (c.trans d)];exact HY (List.lt_trans (Ib h1) (Ib h2))
  ·rename_i c d;rw [Hz (by rw [c];exact d),c];exact h2
  ·rename_i c d;rw [Hz (by rw [<- d];exact c),<-d];exact h1
  ·have:=Ib h1;have:=Ib h2;rw [Hz (by omega)];exact HY (by omega)
 ·rename_i a b;rw [Hz (by rw [a];exact b),a];exact h2
 ·rename_i a b;rw [Hz (by rw [<- b];exact a),<-b];exact h1
 ·have:=Ib h1;have:=Ib h2;rw [Hz (by omega)];exact HY (by omega)
theorem wK {x y:Ky} (hn:x≠y) (h:ltK x y=false):ltK y x=true:=by
 obtain ⟨x1,x2,x3⟩:=x;obtain ⟨y1,y2,y3⟩:=y;unfold ltK at *;dsimp only at *;split at h
 ·rename_i a;rw [Hv a.symm];split at h
  ·rename_i b;rw [Hv b.symm];refine HY ?_;have h:=Jy h
   have:y3.cps.toList≠x3.cps.toList:=fun z=>hn (by
    have:y3=x3:=by cases x3;cases y3;simpa using Array.toList_inj.mp z
    rw [a,b,this])
   exact JD fun n=>this (List.le_antisymm (List.not_lt.mp h) (List.not_lt.mp n))
  ·rename_i b;have h:=Jy h;rw [Hz (fun z=>b z.symm)];exact HY (by omega)
 ·rename_i a;have h:=Jy h;rw [Hz (fun z=>a z.symm)];exact HY (by omega)
open PySem PySem.Spec PyProof.Rows PySem.W
section
variable {X:Cx} {pins:List (Addr×Obj)} {σ:List (Option V)} {H:Hp} {s:Shared} {h':Heap}
theorem Inv.qb {a:Addr} {o:Obj} (I:Inv X ((a,o) :: pins) σ H s):∀ x c,X.env.cells.lookup x=some c->c≠a:=fun x c e z=>by
 obtain ⟨g,_,_,_,n⟩:=I.pin (a,o) (HD _ Hu);obtain ⟨v,oc,h1,h2⟩:=I.cell x c e;subst z;rw [g] at h1;cases h1;first | exact n _ h2 | exact n _ h2.1 | exact n _ h2.2
theorem Inv.tL {p:Addr×Obj} (I:Inv X (p :: pins) σ H s):Inv X pins σ H s:=I.b8 fun q hq=>I.pin q (HD _ (Hr _ hq))
theorem Inv.EF {a:Addr} {o o':Obj} (I:Inv X ((a,o) :: pins) σ H s) (ha:X.s₀.heap.objs.size<=a) (hp:∀ p∈X.pn++pins,p.1≠a) (hs:∀ b u,b≠a->s.heap.get? b=some u->h'.get? b=some u) (g':h'.get? a=some o') (hc:∀ v,o'.data≠.cell v) :
  Inv X ((a,o') :: pins) σ H { s with heap:=h' }:=by
 obtain ⟨g,n,L,f,_⟩:=I.pin (a,o) (HD _ Hu);have I2:Inv X pins σ H { s with heap:=h' }:=I.tL.turned (t':=s.toks) hs n L (.inr ha) I.qb hp;refine I2.b8 fun p hp=>?_;rcases HB.mp hp with rfl | hp
 ·exact ⟨g',n,L,f,hc⟩
 ·exact I2.pin p (HD _ hp)
theorem Inv.Gz {D k:Addr} {o:HO} (I:Inv X pins σ H s) (hD:X.s₀.heap.objs.size<=D) (hk:X.s₀.heap.objs.size<=k) (nD:H D=none) (nk:H k=none) (LD:D≠X.env.locals) (Lk:k≠X.env.locals)
  (cD:∀ x c,X.env.cells.lookup x=some c->c≠D) (ck:∀ x c,X.env.cells.lookup x=some c->c≠k) (pD:∀ p∈X.pn++pins,p.1≠D) (pk:∀ p∈X.pn++pins,p.1≠k)
  (hs:∀ b u,b≠D->b≠k->s.heap.get? b=some u->h'.get? b=some u) (new:bj X.prog X.w (upd H D o) h' D o):Inv X pins σ (upd H D o) { s with heap:=h' }:=by
 have nd:∀ b u,H b=some u->b≠D:=fun b u e z=>by rw [z,nD] at e;cases e
 have nk':∀ b u,H b=some u->b≠k:=fun b u e z=>by rw [z,nk] at e;cases e
 have hc:∀ b,b ∉ [D,k]->b≠D/\b≠k:=fun b hb=>⟨fun z=>hb (by simp [z]),fun z=>hb (by simp [z])⟩;refine I.step (t':=s.toks) (g':=s.gens) (d':=s.drawn) (ch:=[D,k]) (fun b hb=>?_) (fun b o _ _ hb e _=>hs b o (hc b hb).1 (hc b hb).2 e) (fun b o _ _ hb e _=>⟨o.slots,hs b o (hc b hb).1 (hc b hb).2 e⟩) (fun b o hb _ n=>by rw [ab (hc b hb).1];exact n)
  (fun b o hb e=>⟨o,hs b o (hc b hb).1 (hc b hb).2 e⟩) (fun b xs e=>by rw [ab (nd b _ e)];exact e) (fun b o u e=>by rw [ab (nd b _ e)];exact e) (fun b x y e=>by rw [ab (nd b _ e)];exact e) (fun m hm=>?_) (fun b u e=>?_) I.bare
 ·rcases HB.mp hb with rfl | hb
  ·exact ⟨.inr hD,LD,cD,pD⟩
  ·rw [Hw.mp hb];exact ⟨.inr hk,Lk,ck,pk⟩
 ·obtain ⟨o,es,ep,ho,r⟩:=hm;exact ⟨o,es,ep,hs _ o (Ne.symm LD) (Ne.symm Lk) ho,r⟩
 ·by_cases z:b=D
  ·subst z;rw [ag] at e;cases e;exact new
  ·rw [ab z] at e;refine (I.hok b u e).jk (fun c v hc q=>?_) (fun c q=>by rw [ab (nd c _ q)];exact q) (fun c xs q=>by rw [ab (nd c _ q)];exact q) fun c o u vs q _=>by rw [ab (nd c _ q)];exact q
   rcases hc with rfl | hc
   ·exact hs _ _ z (nk' _ _ e) q
   ·exact hs _ _ (nd c _ hc) (nk' c _ hc) q
end
open PySem PySem.Spec PyProof.Rows PySem.W
abbrev Cx.in2 (X:Cx):Cx:={ X with A:=X.A.in1.in1,xe:=fun _ _=>False }
section
variable {X:Cx} {pins:List (Addr×Obj)} {σ:List (Option V)} {H:Hp} {s:Shared}
theorem Inv.in2 (I:Inv X pins σ H s):Inv X.in2 pins σ H s :=
 ⟨⟨I.ok.mod,I.ok.kind,I.ok.glob,I.ok.blt,I.ok.above,I.ok.inj,I.ok.has,I.ok.cab,I.ok.hd,I.ok.frames,I.ok.stk,I.ok.exf,I.ok.bs,I.ok.bsz,I.ok.wH,I.ok.yn,I.ok.jL,I.ok.frf,I.ok.tabs⟩,I.os,I.bare,I.base,I.loc,I.cell,I.free,I.cM,I.pin,I.hok,I.len⟩
theorem Inv.Gh (I:Inv X.in2 pins σ H s):Inv X pins σ H s :=
 ⟨⟨I.ok.mod,I.ok.kind,I.ok.glob,I.ok.blt,I.ok.above,I.ok.inj,I.ok.has,I.ok.cab,I.ok.hd,I.ok.frames,I.ok.stk,I.ok.exf,I.ok.bs,I.ok.bsz,I.ok.wH,I.ok.yn,I.ok.jL,I.ok.frf,I.ok.tabs⟩,I.os,I.bare,I.base,I.loc,I.cell,I.free,I.cM,I.pin,I.hok,I.len⟩
end
open PySem PySem.Spec PyProof.Rows
inductive Lxy:List Value->List Value->Bool->Prop
 | nil:Lxy [] [] false
 | ii (a b:Int) (t u:Tok) {r q:List Value} {z:Bool} (h:Lxy r q z):Lxy (.int a t :: r) (.int b u :: q) (if a=b then z else decide (a < b))
 | ss (a b:Str) (t u:Tok) {r q:List Value} {z:Bool} (h:Lxy r q z):Lxy (.str a t :: r) (.str b u :: q) (if a=b then z else decide (a.cps.toList < b.cps.toList))
theorem Lxy.len:∀ {xs ys:List Value} {z:Bool},Lxy xs ys z->xs.length=ys.length
 | _,_,_,.nil=>rfl
 | _,_,_,.ii _ _ _ _ h=>by rw [HA,h.len,HA]
 | _,_,_,.ss _ _ _ _ h=>by rw [HA,h.len,HA]
theorem sH {x y:Value} {xs ys:List Value} {z:Bool} (h:Lxy (x :: xs) (y :: ys) z) (A:Around) (s:Shared):∃ e z',SeqAt.EqAt A s x y e/\Lxy xs ys z'/\(e=true->z=z')/\(e=false->∀ (prog:Program) (w:World) (E:Value->Shared->Prop) (Q:Value->Shared->Prop),Q (.bool z) s->wpAny (model prog w) A (richCompare .Lt x y) Q E s):=by
 cases h with
 | ii a b t u h =>
  refine ⟨(a==b),_,SeqAt.EqAt.int_int a t b u,h,fun e=>by rw [Hv (Jg.mp e)],fun e prog w E Q q=>?_⟩;rw [Hz (fun z=>by rw [z,Jp] at e;cases e)] at q;exact (PyProof.Rows.lt_int q:wpAny (model prog w) A (compareOp .Lt (.int a t) (.int b u)) Q E s)
 | ss a b t u h =>
  refine ⟨(a==b),_,SeqAt.EqAt.str_str a t b u,h,fun e=>by rw [Hv (Jg.mp e)],fun e prog w E Q q=>?_⟩;rw [Hz (fun z=>by rw [z,Jp] at e;cases e)] at q;exact (PyProof.Rows.lt_str q:wpAny (model prog w) A (compareOp .Lt (.str a t) (.str b u)) Q E s)
section
open PySem.SeqAt
open PySem.AutoSeq1 (wpAny_loadPart')
open PySem.MeetsSeq PySem.MeetsSeq2 PySem.MeetsSeq3
theorem qg (l b:Addr) (items items2:Array Value) (n n2:Nat) (dd dd2:Option Addr) (sl sl2:Array (Option Value)) (z:Bool) (hi:Lxy items.toList items2.toList z) :
  Meets (Builtin.«tuple.__lt__» ⟨[.ref l,.ref b],[]⟩)
   (fun _ R s=>s.heap.get? l=some { cls:=.type "tuple", dict:=dd,data:=.seq items n,slots:=sl }/\s.heap.get? b=some { cls:=.type "tuple", dict:=dd2,data:=.seq items2 n2,slots:=sl2 } /\
    R (.ok (.ret (.bool z))) s) :=
 .of_wp fun prog w A R s h=>by
  obtain ⟨hp,g,d,tk,os⟩:=s;obtain ⟨hl,hb,h⟩:=h;have f2:=AutoSeq1.sub_tuple_tuple;have zl:items.size=items2.size:=by simpa using hi.len
  wp_walk using wpAny_loadPart' hl,wpAny_loadPart' hb,Jo _ (fun rest b s'=>b.1=none/\s'=⟨hp,g,d,tk,os⟩/\∃ (vs ws:List Value) (z':Bool),rest=vs.zip ws/\Lxy vs ws z'/\R (.ok (.ret (.bool z'))) ⟨hp,g,d,tk,os⟩) _
  case turn =>
   rintro ⟨y,x⟩ rest b s' ⟨hb',rfl,vs,ws,z',hz,hv,hR⟩;cases vs with
   | nil=>rw [List.zip_nil_left] at hz;cases hz
   | cons v vs =>
    cases ws with
    | nil=>rw [List.zip_nil_right] at hz;cases hz
    | cons w1 ws =>
     rw [List.zip_cons_cons] at hz;injection hz with hyx hrest;injection hyx with hy hx;subst hy hx;obtain ⟨e,z2,he,h2,h3,h4⟩:=sH hv A.in1 ⟨hp,g,d,tk,os⟩;refine He (he prog w _ _ ?_);cases e with
     | true =>
      rw [h3 rfl] at hR
      wp_walk
      exact ⟨rfl,rfl,_,_,_,hrest,h2,hR⟩
     | false =>
      have hri:=h4 rfl prog w
      wp_walk using hri
      exact ⟨_,rfl,by simpa using hR⟩
  case fin =>
   rintro ⟨b1,b2⟩ s' ⟨hb',rfl,vs,ws,z',hz,hv,hR⟩;simp only at hb';subst hb';have hv:z'=decide (items.size < items2.size):=by
    cases hv with
    | nil=>exact (Il (by omega)).symm
    | ii a b t u h=>rw [List.zip_cons_cons] at hz;cases hz
    | ss a b t u h=>rw [List.zip_cons_cons] at hz;cases hz
   rw [hv] at hR
   wp_walk
   exact ⟨_,rfl,by simpa [Builtin.Tuple.tupleCompareSizes] using hR⟩
  case h =>
   exact ⟨rfl,rfl,items.toList,items2.toList,z,rfl,hi,h⟩
end
theorem xE {prog:Program} {w:World} {A:Around} {E:Value->Shared->Prop} {s:Shared} {l b:Addr} {items items2:Array Value} {z:Bool} {Q:Value->Shared->Prop} (hl:IsTup s.heap l items) (hb:IsTup s.heap b items2) (hi:Lxy items.toList items2.toList z)
  (hu:A.units < cLine) (h:Q (.bool z) s):wpAny (model prog w) A (compareOp .Lt (.ref l) (.ref b)) Q E s:=by
 obtain ⟨⟨cls,dd,data,sl⟩,ho,hc,n,hd⟩:=id hl;obtain ⟨⟨cls2,dd2,data2,sl2⟩,ho2,hc2,n2,hd2⟩:=id hb;simp only at hc hd hc2 hd2;subst hc hd hc2 hd2;exact richCompare_meets_room (op:=.Lt) ⟨_,ho,rfl⟩ ⟨_,ho2,rfl⟩ PySem.F.slot_tuple_lt PySem.F.entry_tuple_lt (PySem.F.args_tuple_lt_2 _ _) (qg l b items items2 n n2 dd dd2 sl sl2 z hi)
  ⟨ho,ho2,show Value.bool z≠Value.notImplemented/\Q (.bool z) s from ⟨(fun x=>nomatch x),h⟩⟩ hu
open PySem PySem.Spec PyProof.Rows
def Ga (avs:List AV) (e:En) (QI:List PyData->Option Nat->En->Prop):Prop:=∃ x y xs ys,avs=[x,y]/\roL e x=some xs/\roL e y=some ys/\QI ((xs.zip ys).map fun p=>.tuple [p.1,p.2]) none e
theorem Gj {gd:List PyData} {as:XA} {env:En} {QI:List PyData->Option Nat->En->Prop} (h:WA gd as env fun avs e=>Ga avs e QI):WI gd (.zip as) env QI:=by
 obtain ⟨avs,e',h1,x,y,xs,ys,rfl,h3,h4,h2⟩:=h;exact ⟨_,_,_,by simp only [dI,h1,h3,h4],h2⟩
open PySem PySem.Spec PyProof.Rows PySem.W
structure KS where
 κ:Type
 dft:κ
 dec:DecidableEq κ
 lt:κ->κ->Bool
 irr:∀ x,lt x x=false
 tr:∀ {x y z},lt x y=true->lt y z=true->lt x z=true
 tot:∀ {x y},x≠y->lt x y=false->lt y x=true
 T:Fg->Hp->V->κ->Prop
 same:∀ {K H H' u k},T K H u k->az H H'->T K H' u k
 Hh:Heap->Value->κ->Prop
 key:∀ {X:Cx} {pins:List (Addr×Obj)} {σ:List (Option V)} {H:Hp} {s:Shared} {v:V} {u:Value} {k:κ},Inv X pins σ H s->RelV v u->T X.K H v k->Hh s.heap u k
 ask:∀ {P:Program} {w:World} {A:Around} {E:Value->Shared->Prop} {s:Shared} {u v:Value} {a b:κ} {C:Bool->Shared->Prop},A.units+64 < cLine->Hh s.heap u a->Hh s.heap v b->C (lt a b) s->wpAny (model P w) A (keyLt' (tuples' true) u v) C E s
 kd:∀ {P:Program} {w:World} {A:Around} {E:Value->Shared->Prop} {s:Shared} {us:List Value} {Q:SortKind->Shared->Prop},(∀ u∈us,∃ k,Hh s.heap u k)->0 < us.length->Q (tuples' true) s->wpAny (model P w) A (keyKind' us.toArray) Q E s
 of:PyData->Option κ
 ofT:∀ {K:Fg} {F:Addr->Prop} {H:Hp} {d:PyData} {u:V} {k:κ},of d=some k->Dm K F H d u->T K H u k
noncomputable def AH (S:KS) (ks:List S.κ) (i j:Nat):Bool:=S.lt (ks.getD i S.dft) (ks.getD j S.dft)
theorem Fq (S:KS) {ks:List S.κ} (h:ks.Nodup):Ord (AH S ks) ks.length where
 irr:=fun i=>S.irr _
 tr:=fun i j k=>S.tr
 tot:=fun i j hi hj hn e=>S.tot (fun z=>by
  rw [HZ,HZ,Hj hi,Hj hj] at z
  exact hn ((List.getElem?_inj hi h).mp (by rw [Hj hi,Hj hj];exact congrArg some z))) e
namespace Sg
noncomputable def zv (S:KS) (f:Fn) (d:PyData):Option S.κ:=match f.F [d] with | some (.dat k,[])=>S.of k | _=>none
noncomputable def jH (S:KS) (f:Fn):List PyData->Option (List S.κ)
 | []=>some []
 | d :: ds=>match zv S f d,jH S f ds with | some k,some ks=>some (k :: ks) | _,_=>none
noncomputable def xf {S:KS} (x:S.κ×PyData):List (S.κ×PyData)->List (S.κ×PyData)
 | []=>[x]
 | y :: r=>if S.lt x.1 y.1=true then x :: y :: r else y :: xf x r
noncomputable def u6 {S:KS}:List (S.κ×PyData)->List (S.κ×PyData)
 | []=>[]
 | x :: r=>xf x (u6 r)
theorem gG {S:KS} (x:S.κ×PyData):∀ l,(xf x l).Perm (x :: l)
 | []=>Jn _
 | y :: r=>by
  unfold xf;split
  ·exact Jn _
  ·exact ((gG x r).cons y).trans (List.Perm.swap ..)
theorem d6 {S:KS}:∀ l:List (S.κ×PyData),(u6 l).Perm l
 | []=>Jn _
 | x :: r=>(gG x _).trans ((d6 r).cons x)
theorem qj {S:KS} (x:S.κ×PyData):∀ l,(∀ y∈l,x.1≠y.1)->l.Pairwise (fun a b=>S.lt a.1 b.1=true)->(xf x l).Pairwise fun a b=>S.lt a.1 b.1=true
 | [],_,_=>by simp [xf]
 | y :: r,hn,h=>by
  obtain ⟨h1,h2⟩:=IF.mp h;unfold xf;split
  ·rename_i c;refine IF.mpr ⟨fun b hb=>?_,h⟩;rcases HB.mp hb with rfl | hb
   ·exact c
   ·exact S.tr c (h1 b hb)
  ·rename_i c;refine IF.mpr ⟨fun b hb=>?_,qj x r (fun z hz=>hn z (Hr _ hz)) h2⟩;rcases HB.mp ((gG x r).mem_iff.mp hb) with rfl | hb
   ·exact S.tot (hn y Hu) (Bool.eq_false_iff.mpr c)
   ·exact h1 b hb
theorem qo {S:KS}:∀ l:List (S.κ×PyData),(l.map (·.1)).Nodup->(u6 l).Pairwise fun a b=>S.lt a.1 b.1=true
 | [],_=>.nil
 | x :: r,h=>by
  obtain ⟨h1,h2⟩:=Ih.mp h;exact qj x _ (fun y hy z=>h1 (HW.mpr ⟨y,(d6 r).mem_iff.mp hy,z.symm⟩)) (qo r h2)
theorem uy {S:KS} {ks:List S.κ} {ds:List PyData} {p:Array Nat} (hl:ks.length=ds.length) (hn:ks.Nodup) (hp:Pm ds.length p) (hu:Up (AH S ks) p ds.length):(u6 (ks.zip ds)).map (·.2)=p.toList.map fun i=>ds.getD i .none:=by
 have e1:(ks.zip ds).map (·.1)=ks:=by rw [List.map_fst_zip (Nat.le_of_eq hl)]
 have zl:(ks.zip ds).length=ds.length:=by rw [List.length_zip,hl,Nat.min_self]
 have O:Ord (AH S ks) ds.length:=by rw [<- hl];exact Fq S hn
 have row:p.toList.map (fun i=>(ks.getD i S.dft,ds.getD i .none))=u6 (ks.zip ds):=by
  refine List.Perm.eq_of_pairwise (le:=fun a b=>S.lt a.1 b.1=true) (fun a b _ _ h1 h2=>?_) ?_ (qo _ (by rw [e1];exact hn)) ?_
  ·have:=S.tr h1 h2;rw [S.irr _] at this;cases this
  ·rw [Jm,List.pairwise_iff_getElem];intro i j hi hj hij;have:=hu.all O hij (by rw [<- hp.size];simpa using hj);unfold at_ at this;rw [Ik,Ik,HI (by simpa using hi),HI (by simpa using hj)] at this;exact this
  ·refine (((Jz.mp hp).map _).trans ?_).trans (d6 _).symm;refine List.Perm.of_eq ?_;apply List.ext_getElem?;intro i;rw [List.toList_toArray,Hq];rcases Ja i ds.length with z | z
   ·have zk:i < ks.length:=by rw [hl];exact z
    rw [List.getElem?_range z,show (ks.zip ds)[i]?=some (ks[i],ds[i]) from List.getElem?_zip_eq_some.mpr ⟨Hj zk,Hj z⟩];simp [HZ,Hj (show i < ks.length by rw [hl];exact z),Hj z]
   ·rw [IU (by rw [HP];exact z),IU (by rw [zl];exact z)];rfl
 rw [<- row,Ij];rfl
theorem kO {S:KS} {f:Fn}:∀ {ds:List PyData} {ks:List S.κ},jH S f ds=some ks->ks.length=ds.length
 | [],ks,h=>by cases h;rfl
 | d :: ds,ks,h=>by
  unfold jH at h;split at h
  ·rename_i k ks' _ h2;cases h;rw [HA,kO h2,HA]
  ·cases h
theorem kL {S:KS} {f:Fn}:∀ {ds:List PyData} {ks:List S.κ} {i:Nat} {d:PyData} {k:S.κ},jH S f ds=some ks->ds[i]?=some d->ks[i]?=some k->zv S f d=some k
 | [],ks,i,d,k,h,h1,h2=>by simp at h1
 | e :: ds,ks,i,d,k,h,h1,h2=>by
  unfold jH at h;split at h
  ·rename_i k' ks' h3 h4;cases h;cases i with
   | zero=>simp at h1 h2;subst h1 h2;exact h3
   | succ i=>exact kL h4 (by simpa using h1) (by simpa using h2)
  ·cases h
noncomputable def FY (S:KS) (f:Fn):List PyData->Option PR
 | [.dict kvs]=>match jH S f (kvs.map (·.1)) with
  | some ks=>if kvs.length < 64/\@decide ks.Nodup (@List.nodupDecidable _ S.dec ks)=true then some (.frs (.list ((u6 (ks.zip (kvs.map (·.1)))).map (·.2)))) else none
  | none=>none
 | _=>none
end Sg
abbrev Fy:=Str×Str×Ky
noncomputable def ltF (x y:Fy):Bool:=if x.1=y.1 then (if x.2.1=y.2.1 then ltK x.2.2 y.2.2 else decide (x.2.1.cps.toList < y.2.1.cps.toList)) else decide (x.1.cps.toList < y.1.cps.toList)
theorem yk (x:Fy):ltF x x=false:=by
 unfold ltF;rw [Hv rfl,Hv rfl];exact rV _
theorem xl {x y:Str} (h:x.cps.toList=y.cps.toList):x=y:=by
 cases x;cases y;simpa using Array.toList_inj.mp h
theorem pJ (x:Str):¬x.cps.toList < x.cps.toList:=List.lt_irrefl _
theorem BU {x y z:Fy} (h1:ltF x y=true) (h2:ltF y z=true):ltF x z=true:=by
 obtain ⟨x1,x2,x3⟩:=x;obtain ⟨y1,y2,y3⟩:=y;obtain ⟨z1,z2,z3⟩:=z;unfold ltF at *;dsimp only at *;split at h1 <;> split at h2
 ·rename_i a b;rw [Hv (a.trans b)];split at h1 <;> split at h2
  ·rename_i c d;rw [Hv (c.trans d)];exact zC h1 h2
  ·rename_i c d;rw [Hz (by rw [c];exact d),c];exact h2
  ·rename_i c d;rw [Hz (by rw [<- d];exact c),<-d];exact h1
  ·have:=List.lt_trans (Ib h1) (Ib h2);rw [Hz (fun e=>by rw [e] at this;exact pJ _ this)];exact HY this
 ·rename_i a b;rw [Hz (by rw [a];exact b),a];exact h2
 ·rename_i a b;rw [Hz (by rw [<- b];exact a),<-b];exact h1
 ·have:=List.lt_trans (Ib h1) (Ib h2);rw [Hz (fun e=>by rw [e] at this;exact pJ _ this)];exact HY this
theorem rl {x y:Str} (hn:¬x=y) (h:¬x.cps.toList < y.cps.toList):y.cps.toList < x.cps.toList :=
 JD fun n=>hn (xl (List.le_antisymm (List.not_lt.mp n) (List.not_lt.mp h)))
theorem yf {x y:Fy} (hn:x≠y) (h:ltF x y=false):ltF y x=true:=by
 obtain ⟨x1,x2,x3⟩:=x;obtain ⟨y1,y2,y3⟩:=y;unfold ltF at *;dsimp only at *;split at h
 ·rename_i a;rw [Hv a.symm];split at h
  ·rename_i b;rw [Hv b.symm];exact wK (fun z=>hn (by rw [a,b,z])) h
  ·rename_i b;rw [Hz (fun z=>b z.symm)];exact HY (rl b (Jy h))
 ·rename_i a;rw [Hz (fun z=>a z.symm)];exact HY (rl a (Jy h))
abbrev FyV (k:Fy):List V:=[.int k.2.2.1,.int k.2.2.2.1,.str k.2.2.2.2]
def FyT (K:Fg) (H:Hp) (u:V) (k:Fy):Prop:=∃ t t2,u=.ref t/\SqT K H t [.str k.1,.str k.2.1,.ref t2]/\SqT K H t2 (FyV k)/\PyData.strOk k.2.2.2.2=true
theorem mP {K:Fg} {H H':Hp} {t:Addr} {xs:List V} (h:SqT K H t xs) (e:az H H'):SqT K H' t xs:=by
 rcases h with (h | ⟨o,h⟩) | h
 ·exact .inl (.inl (e _ _ h))
 ·exact .inl (.inr ⟨o,e _ _ h⟩)
 ·exact .inr h
def FyH (h:Heap) (u:Value) (k:Fy):Prop:=∃ t t2 a1 a2 b1 b2 b3,u=.ref t/\IsTup h t #[.str k.1 a1,.str k.2.1 a2,.ref t2]/\IsTup h t2 #[.int k.2.2.1 b1,.int k.2.2.2.1 b2,.str k.2.2.2.2 b3]/\PyData.strOk k.2.2.2.2=true
theorem Bh {X:Cx} {pins:List (Addr×Obj)} {σ:List (Option V)} {H:Hp} {s:Shared} {v:V} {u:Value} {k:Fy} (I:Inv X pins σ H s) (r:RelV v u) (h:FyT X.K H v k):FyH s.heap u k:=by
 obtain ⟨t,t2,rfl,h,h',so⟩:=h;obtain ⟨its,r2,h2,_⟩:=I.tuple h;obtain ⟨its',r3,h3,_⟩:=I.tuple h';cases r2 with
 | cons a r2 =>
  cases r2 with
  | cons b r2 =>
   cases r2 with
   | cons c r2 =>
    cases r2;obtain ⟨t1,rfl⟩:=a;obtain ⟨t4,rfl⟩:=b;have c:_=Value.ref t2:=c;subst c;cases r3 with
    | cons a r3 =>
     cases r3 with
     | cons b r3 =>
      cases r3 with
      | cons c r3 =>
       cases r3;obtain ⟨q1,rfl⟩:=a;obtain ⟨q2,rfl⟩:=b;obtain ⟨q3,rfl⟩:=c;exact ⟨t,t2,t1,t4,q1,q2,q3,r,h2,h3,so⟩
noncomputable def kyD (k:Ky):PyData:=.tuple [.int k.1,.int k.2.1,.str k.2.2]
theorem rn (a b:Ky):PyData.eqv (kyD a) (kyD b)=true↔a=b:=by
 obtain ⟨a1,a2,a3⟩:=a;obtain ⟨b1,b2,b3⟩:=b;simp [kyD,PyData.eqv,PyData.eqvAll]
theorem l3 {h:Heap} {t:Addr} {k:Ky} {b1 b2 b3:Tok} (hx:IsTup h t #[.int k.1 b1,.int k.2.1 b2,.str k.2.2 b3]):∃ as,Reads h (.ref t) (kyD k) as:=by
 obtain ⟨o,h1,h2,n,h4⟩:=hx;exact ⟨_,.tuple h1 h2 h4 (.cons (.int _ _) (.cons (.int _ _) (.cons (.str _ _) .nil)))⟩
theorem g9 {k:Ky} (h:PyData.strOk k.2.2=true):SeqAt.shaped (kyD k)=true:=by
 have d:(kyD k).depth<=64:=by simp [kyD,PyData.depth,PyData.depthAll]
 have l:(kyD k).canLay0=true:=by simp [kyD,PyData.canLay0,PyData.canLayAll0,h]
 simp [SeqAt.shaped,l,d]
theorem AW {P:Program} {w:World} {A:Around} {E:Value->Shared->Prop} {s:Shared} {u v:Value} {a b:Fy} {C:Bool->Shared->Prop} (hu:A.units+64 < cLine) (hx:FyH s.heap u a) (hy:FyH s.heap v b) (h:C (ltF a b) s):wpAny (model P w) A (keyLt' (tuples' true) u v) C E s:=by
 obtain ⟨x,x',t1,t2,t3,t4,t5,rfl,hx,hx',ox⟩:=hx;obtain ⟨y,y',u1,u2,u3,u4,u5,rfl,hy,hy',oy⟩:=hy;obtain ⟨ox,gx,cx,n,dx⟩:=hx;obtain ⟨oy,gy,cy,k,dy⟩:=hy;unfold ltF at h;refine kat_lt gx dx gy dy ?_;show KatLex P w A true _ C [(.str a.1 t1,.str b.1 u1),(.str a.2.1 t2,.str b.2.1 u2),(.ref x',.ref y')] 0 s;refine kat_cons (eqBool_str (kat_go (fun e=>kat_yes ?_) fun e=>kat_no (oneLt_str ?_)))
 ·rw [Hv (Jg.mp e)] at h;refine kat_cons (eqBool_str (kat_go (fun e=>kat_yes ?_) fun e=>kat_no (kat_one _ _ (lt_str ?_))))
  ·rw [Hv (Jg.mp e)] at h;obtain ⟨as,ra⟩:=l3 (k:=a.2.2) hx';obtain ⟨bs,rb⟩:=l3 (k:=b.2.2) hy';refine kat_cons (SeqAt.eqAt_reads _ _ A s _ _ as bs ra rb (SeqAt.canLay_of_shaped (g9 ‹_›)) (SeqAt.canLay_of_shaped (g9 ‹_›)) (SeqAt.room_of_shaped (g9 ‹_›) hu) P w _ _ (kat_go (fun e=>kat_yes ?_) fun e=>kat_no (kat_one _ _ ?_)))
   ·have e:=(rn _ _).mp e;rw [e,rV] at h;exact kat_nil h
   ·have ne:a.2.2≠b.2.2:=fun z=>by rw [(rn _ _).mpr z] at e;cases e
    refine xE hx' hy' (.ii _ _ _ _ (.ii _ _ _ _ (.ss _ _ _ _ .nil))) (by omega) ?_;have el:(if a.2.2.1=b.2.2.1 then if a.2.2.2.1=b.2.2.2.1 then if a.2.2.2.2=b.2.2.2.2 then false else decide (a.2.2.2.2.cps.toList < b.2.2.2.2.cps.toList) else decide (a.2.2.2.1 < b.2.2.2.1) else decide (a.2.2.1 < b.2.2.1))=ltK a.2.2 b.2.2:=by
     unfold ltK;split
     ·split
      ·split
       ·rename_i z;rw [z,Il (List.lt_irrefl _)]
       ·rfl
      ·rfl
     ·rfl
    rw [el];exact h
  ·rw [Hz (fun z=>by rw [z,Jp] at e;cases e)] at h;exact h
 ·rw [Hz (fun z=>by rw [z,Jp] at e;cases e)] at h;exact h
theorem zr {h:Heap}:∀ {us:List Value},(∀ u∈us,∃ k,FyH h u k)->∃ fs,KatTups h us fs/\fs.length=us.length/\∀ v∈fs,∃ i t,v=.str i t
 | [],_=>⟨[],trivial,rfl,fun _ z=>nomatch z⟩
 | u :: us,hu=>by
  obtain ⟨k,t,t2,t1,a2,a3,a4,a5,rfl,⟨o,g,c,n,d⟩,_⟩:=hu u Hu;obtain ⟨fs,h1,h2,h3⟩:=zr fun v hv=>hu v (Hr _ hv);refine ⟨.str k.1 t1 :: fs,KatTups.cons g c d rfl h1,by rw [HA,h2,HA],fun v hv=>?_⟩;rcases HB.mp hv with rfl | hv
  ·exact ⟨_,_,rfl⟩
  ·exact h3 v hv
noncomputable def F6:PyData->Option Fy | .tuple [.str a,.str b,.tuple [.int i,.int j,.str x]]=>some (a,b,i,j,x) | _=>none
noncomputable def fyS:KS where
 κ:=Fy
 dft:=("", "", 0,0, "")
 dec:=inferInstance
 lt:=ltF
 irr:=yk
 tr:=BU
 tot:=yf
 T:=FyT
 same:=fun ⟨t,t2,e,h1,h2,h3⟩ sm=>⟨t,t2,e,mP h1 sm,mP h2 sm,h3⟩
 Hh:=FyH
 key:=Bh
 ask:=AW
 kd:=fun {P w A E s us Q} hu h0 hq=>by
  obtain ⟨fs,t1,t2,t3⟩:=zr hu;refine kat_kind (T:=.type "str") t1 (by rw [t2];exact h0) (fun v hv=>?_) rfl hq;obtain ⟨i,t,rfl⟩:=t3 v hv;exact Looks.of_pure rfl
 of:=F6
 ofT:=fun {K F H d u k} e h=>by
  unfold F6 at e;split at e
  ·cases e;obtain ⟨t,ys,rfl,sq,_,u1,r1,rfl,e1,u2,r2,rfl,e2,u3,r3,rfl,e3,rfl⟩:=h;obtain ⟨t2,zs,rfl,sq2,_,w1,q1,rfl,f1,w2,q2,rfl,f2,w3,q3,rfl,f3,rfl⟩:=e3;have e1:u1=_:=e1.1;have e2:u2=_:=e2.1;have f1:w1=_:=f1;have f2:w2=_:=f2;have f4:w3=_:=f3.1;subst e1 e2 f1 f2 f4;exact ⟨t,t2,rfl,sq,sq2,f3.2.2⟩
  ·cases e
open PySem PySem.Spec PyProof.Rows
section
variable {X:Cx} {x:Str} {p pos:Pos} {e:Expr} {es:List Expr} {t:TA} {f:Addr} {fd:FuncData} {ps:List Str} {sp:Sp} {k m:Nat} {r:List V->Hp->VK->Prop} {id T:String}
theorem eVx (i:Nat) (a:X.N[i]?=some x:=by exact rfl) (b:Vis X.env.scope x:=by exact .inl rfl) (c:(x==("__debug__" : Str))=false:=by exact rfl) (d:(x==("__classdict__" : Str))=false:=by exact rfl):JE X (.Name x pos) (aJ i):=yr i a b c d
theorem eVy (i:Nat) (a:X.N[i]?=some x:=by exact rfl) (b:Vis X.env.scope x:=by exact .inr (.inl rfl)) (c:(x==("__debug__" : Str))=false:=by exact rfl) (d:(x==("__classdict__" : Str))=false:=by exact rfl):JE X (.Name x pos) (aJ i):=yr i a b c d
theorem eCl (F:bq X.prog X.w X.K X.mg X.base CX0 k f fd ps sp) (hr:bN m X.A) (hm:X.mg x=some (.ref f)) (hk:PySem.W.keepIn X.K (.ref f)=true) (hb:Binds X.K fd ps []) (ha:JA X (e :: es) t)
  (a:k<=m:=by omega) (b:Gl X x:=by exact rfl) (h1:PySem.W.isStarred e=false:=by exact rfl) (h2:es.all (fun e=>!PySem.W.isStarred e)=true:=by exact rfl) (c:(x==("__debug__" : Str))=false:=by exact rfl):JE X (.Call (.Name x p) (e :: es) [] pos) (ba sp [] E0 t) :=
 wI F (hr.mono a) b hm hk hb .nil oF ha h1 h2 c
theorem eBs (hc:aE X (.builtin id) r) (hm:X.mg x=none) (ha:JA X (e :: es) t) (a:Gl X x:=by exact rfl) (hv:bootBuiltins x=some (.builtin id):=by decide +kernel) (h1:PySem.W.isStarred e=false:=by exact rfl) (h2:es.all (fun e=>!PySem.W.isStarred e)=true:=by exact rfl)
  (hn:x ≠ "__name__" := by decide) (c:(x==("__debug__" : Str))=false:=by exact rfl):JE X (.Call (.Name x p) (e :: es) [] pos) (tCB r t):=eB hc a hm hv ha h1 h2 hn c
theorem eTs (hc:aE X (.type T) r) (hm:X.mg x=none) (ha:JA X (e :: es) t) (a:Gl X x:=by exact rfl) (hv:bootBuiltins x=some (.type T):=by decide +kernel) (h1:PySem.W.isStarred e=false:=by exact rfl) (h2:es.all (fun e=>!PySem.W.isStarred e)=true:=by exact rfl)
  (hn:x ≠ "__name__" := by decide) (c:(x==("__debug__" : Str))=false:=by exact rfl):JE X (.Call (.Name x p) (e :: es) [] pos) (tCB r t):=eTy hc a hm hv ha h1 h2 hn c
end
theorem Fun.okX {P:Program} {w:World} {K:Fg} {mg:Str->Option Value} {base:Heap} {x qual:Str} {st:Stmt} {f:Addr} {fd:FuncData} {N ps:List Str} {k:Nat} {b:XS} {gd:List PyData} {ga:Nat->V} {ms:List PM} {rd:TS}
  (F:Fun K x qual st f fd) (S:ao N ps (aa st)) (hg:∀ g d,gd[g]?=some d->∀ F H,Dm K F H d (ga g)) (e:rd=rS K ga b)
  (j:∀ {cdv:Value} {A:Around} {outer:List Env} {s:Shared} {H:Hp} {E:XK},bN k (A.deeper (envOfC qual (aa st) s.heap.objs.size f cdv))->JSs (sy CX0 P w K mg base N qual (aa st) f cdv A outer s H E).nox (bK st) rd)
  (hl:ms.length<=N.length:=by decide) (hp:ms.length=ps.length:=by exact rfl):bq P w K mg base CX0 (k+1) f fd ps (bZ (cN gd ms N.length b) K) :=
 F.okJ S (fun vs H Q E h=>(m6 h).trans hp) fun cdv A outer s H vs Q E hr h=>⟨rd,j hr,by rw [e];exact lL (N:=N) hg h hl⟩
open PySem PySem.Spec PyProof.Rows
structure Fa (K:Fg) (mg:Str->Option Value) (x:Str) (st:Stmt) (ps:List Str) (a:Addr×FuncData):Prop where
 F:Fun K x x st a.1 a.2
 c:∀ us:List Value,us.length=ps.length->bindArgs a.2 ⟨us,[]⟩=pure (ps.zip us)
 m:mg x=some (.ref a.1)
section
variable {K:Fg} {mg:Str->Option Value} {x:Str} {st:Stmt} {ps:List Str} {a:Addr×FuncData} {h:Heap} {f:Addr} {od an:Option Addr} {sl:Array (Option Value)} {oc kV dc pm cd ct:Value}
theorem Fa.b (D:Fa K mg x st ps a):Binds K a.2 ps []:=.all D.c
def yx (K:Fg) (mg:Str->Option Value):List (Str×Stmt×List Str)->Prop
 | []=>True
 | (x,st,ps) :: r=>(∃ a,Fa K mg x st ps a)/\yx K mg r
theorem Fm {r:List (Str×Stmt×List Str)} (X:K.In h) (G:h.Ns mainGlobals mg) (a:PySem.W.nsIn K mainGlobals x=some (some (.ref f))) (l:K.lookup f=some ⟨oc,od,.func (PySem.W.fnOf x x (gu st) (bK st) (aa st) .none kV dc pm an cd ct),sl⟩) (c:PySem.W.codeIn K cd x=true) (k:PySem.W.keepIn K (.ref f)=true)
  (hb:∀ (kV dc pm:Value) (an:Option Addr) (cd ct:Value) (us:List Value),us.length=ps.length->bindArgs (PySem.W.fnOf x x (gu st) (bK st) (aa st) .none kV dc pm an cd ct) ⟨us,[]⟩=pure (ps.zip us)) (hr:yx K mg r):yx K mg ((x,st,ps) :: r) :=
 ⟨⟨(f,_),yW l c k,hb _ _ _ _ _ _,PySem.W.mg_of X G a⟩,hr⟩
theorem BK (a0:Addr×FuncData):∀ {l:List (Str×Stmt×List Str)},yx K mg l->∃ f:Nat->Addr×FuncData,∀ i {x st ps},l[i]?=some (x,st,ps)->Fa K mg x st ps (f i)
 | [],_=>⟨fun _=>a0,fun i x st ps h=>by cases h⟩
 | (y,st,ps) :: r,⟨⟨a,ha⟩,hr⟩=>by
  obtain ⟨f,hf⟩:=BK a0 hr;refine ⟨fun i=>i.casesOn a f,fun i x st ps h=>?_⟩;cases i with
  | zero=>cases h;exact ha
  | succ i=>exact hf i h
theorem GU {e:Str×Stmt×List Str} {l:List (Str×Stmt×List Str)} (D:yx K mg (e :: l)):∃ f:Nat->Addr×FuncData,∀ i {x st ps},(e :: l)[i]?=some (x,st,ps)->Fa K mg x st ps (f i):=by
 obtain ⟨y,st,ps⟩:=e;have ⟨⟨a,_⟩,_⟩:=D;exact BK a D
end
theorem us1 {P:List Value->Prop} (h:∀ a,P [a]):∀ us:List Value,us.length=1->P us
 | [a],_=>h a
theorem us2 {P:List Value->Prop} (h:∀ a b,P [a,b]):∀ us:List Value,us.length=2->P us
 | [a,b],_=>h a b
theorem us3 {P:List Value->Prop} (h:∀ a b c,P [a,b,c]):∀ us:List Value,us.length=3->P us
 | [a,b,c],_=>h a b c
theorem us4 {P:List Value->Prop} (h:∀ a b c d,P [a,b,c,d]):∀ us:List Value,us.length=4->P us
 | [a,b,c,d],_=>h a b c d
theorem us5 {P:List Value->Prop} (h:∀ a b c d e,P [a,b,c,d,e]):∀ us:List Value,us.length=5->P us
 | [a,b,c,d,e],_=>h a b c d e
theorem scm {N P:List Str} {sc:Scope} (a:sc.kind=.function:=by exact rfl) (b:sc.isCoroutine=false:=by exact rfl) (c:sc.isGenerator=false:=by exact rfl) (d:N.Nodup:=by decide +kernel) (e:N.take P.length=P:=by exact rfl) (f:∀ x∈P,sc.names.lookup x=some .local\/sc.names.lookup x=some .cell:=by decide +kernel) (g:∀ y∈sc.names,y.2≠.free:=by decide +kernel):ao N P sc:=⟨a,b,c,d,e,f,g⟩
theorem Fa.ok {P:Program} {w:World} {K:Fg} {mg:Str->Option Value} {base:Heap} {x:Str} {st:Stmt} {a:Addr×FuncData} {N ps:List Str} {k:Nat} {b:XS} {gd:List PyData} {ga:Nat->V} {ms:List PM}
  (D:Fa K mg x st ps a) (S:ao N ps (aa st)) (hg:∀ g d,gd[g]?=some d->∀ F H,Dm K F H d (ga g))
  (j:∀ {cdv:Value} {A:Around} {outer:List Env} {s:Shared} {H:Hp} {E:XK},bN k (A.deeper (envOfC x (aa st) s.heap.objs.size a.1 cdv))->JSs (sy CX0 P w K mg base N x (aa st) a.1 cdv A outer s H E).nox (bK st) (rS K ga b))
  (hl:ms.length<=N.length:=by decide) (hp:ms.length=ps.length:=by exact rfl):bq P w K mg base CX0 (k+1) a.1 a.2 ps (bZ (cN gd ms N.length b) K) :=
 D.F.okX S hg rfl j hl hp
section
variable {X:Cx} {x:Str} {p p2 pos pos':Pos} {e a b:Expr} {es:List Expr} {t:TA} {te ta tb:TE} {ps:List Str} {sp:Sp} {k m i:Nat} {r:List V->Hp->VK->Prop} {T:String} {st:Stmt} {q:Addr×FuncData}
theorem eCx (F:bq X.prog X.w X.K X.mg X.base CX0 k q.1 q.2 ps sp) (hr:bN m X.A) (D:Fa X.K X.mg x st ps q) (ha:JA X (e :: es) t)
  (a:k<=m:=by omega) (b:Gl X x:=by exact rfl) (h1:PySem.W.isStarred e=false:=by exact rfl) (h2:es.all (fun e=>!PySem.W.isStarred e)=true:=by exact rfl) (c:(x==("__debug__" : Str))=false:=by exact rfl):JE X (.Call (.Name x p) (e :: es) [] pos) (ba sp [] E0 t) :=
 wI F (hr.mono a) b D.m D.F.kp D.b .nil oF ha h1 h2 c
theorem eAx (ha:JE X e te) (hr:JA X es t) (h:PySem.W.isStarred e=false:=by exact rfl):JA X (e :: es) (ah te t):=eA ha hr h
theorem eIy (ha:JE X a ta) (hb:JE X b tb) (hs:lH b:=by exact fun _ _=>rfl):JE X (.Subscript a b pos) (tOp (fun x y=>ixP.r X.K [x,y]) ta tb):=eIx aX ha hb hs
theorem eSx (hN:X.N.Nodup) (i:Nat) (he:JE X e te) (hi:X.N[i]?=some x:=by exact rfl) (hx:Loc X.env.scope x:=by exact .inl rfl) (hs:swapsWith e (some (.Name x pos')) pos.line X.env=pure false:=by exact rfl) (hf:X.fn x=true\/X.env.scope.names.lookup x=some .local:=by exact .inl rfl) :
  JS X (.Assign [.Name x pos'] e pos) (fG te (aT i)):=oz he hN hi hx hs hf
theorem eSy (hN:X.N.Nodup) (i:Nat) (he:JE X e te) (hi:X.N[i]?=some x:=by exact rfl) (hx:Loc X.env.scope x:=by exact .inr rfl) (hs:swapsWith e (some (.Name x pos')) pos.line X.env=pure false:=by exact rfl) (hf:X.fn x=true\/X.env.scope.names.lookup x=some .local:=by exact .inl rfl) :
  JS X (.Assign [.Name x pos'] e pos) (fG te (aT i)):=oz he hN hi hx hs hf
theorem eGx (hN:X.N.Nodup) (i:Nat) (hi:X.N[i]?=some x:=by exact rfl) (hx:Loc X.env.scope x:=by exact .inl rfl) (hf:X.fn x=true\/X.env.scope.names.lookup x=some .local:=by exact .inl rfl):JG X (.Name x pos) (aT i):=eGN hN hi hx hf
theorem eGy (hN:X.N.Nodup) (i:Nat) (hi:X.N[i]?=some x:=by exact rfl) (hx:Loc X.env.scope x:=by exact .inr rfl) (hf:X.fn x=true\/X.env.scope.names.lookup x=some .local:=by exact .inl rfl):JG X (.Name x pos) (aT i):=eGN hN hi hx hf
theorem eTx {op:CmpOp} {r:R2} (ho:OpR X (compareOp op) r) (ha:JE X a ta) (hb:JE X b tb) (hm:behindInMarks op b=false:=by exact aC _):JT X (.Compare a [op] [b] pos) (kP (tOp r ta tb)):=kR ho ha hb hm
theorem eUx (h:JE X e te) (he:∀ whole,isTrue e X.env whole=(do let v<-whole;standAt e.pos;holding [v] (truthy v)):=by exact fun _=>rfl):JT X e (tB te):=uJ h he
theorem eIz (hm:X.mg "isinstance" = none) (ha:JE X e te) (hz:X.mg (Str.ofString T)=none) (hg:Gl X "isinstance" := by exact rfl) (hs:PySem.W.isStarred e=false:=by exact rfl)
  (h1:Gl X (Str.ofString T):=by exact rfl) (h2:bootBuiltins (Str.ofString T)=some (.type T):=by decide +kernel) (h3:Str.ofString T ≠ "__name__" := by decide) (h4:(Str.ofString T==("__debug__" : Str))=false:=by exact rfl):JE X (.Call (.Name "isinstance" p) [e,.Name (Str.ofString T) p2] [] pos) (tCB ((om T).r X.K) (ah te bo)) :=
 FP hg hm ha hs (FV h1 hz h2 rfl h3 h4)
theorem eFx {iter tg:Expr} {body:List Stmt} {wi:TI} {g:TG} {tb:TS} (hi:JI X tg iter wi) (hg:JG X tg g) (hb:JSs X body tb) (hp:PassesOwn (model X.prog X.w) X.A X.env X.xe:=by exact PassesOwn.never) (hc:X.calm=true:=by exact rfl) (hs:∀ x,foldedSetIterable iter X.env x=pure x:=by exact fun _=>rfl):JS X (.For tg iter body [] pos) (xW wi g tb):=EZ hi hg hb hp hc hs
theorem eUy (ha:JE X a ta):JE X (.UnaryOp .USub a pos) (tCB (D5.r X.K) (ah ta bo)):=eUn zw ha
theorem eKx {elt iter:Expr} {px:Pos} {ifs:List Expr} {scope:Scope} {wi:TI} {tt:TT} {js:List Nat} (ys:List Str) (hi:JI X (.Name x px) iter wi) (ht:JTs X (x :: ys) scope ifs tt) (he:JC X (x :: ys) scope elt te) (B:fw X scope x) (cap:ei X scope ys js)
  (hc:X.calm=true:=by exact rfl) (nd:(x :: ys).Nodup:=by decide +kernel) (hs:∀ x,foldedSetIterable iter X.env x=pure x:=by exact fun _=>rfl):JE X (.ListComp elt [⟨.Name x px,iter,ifs,0⟩] scope pos) (gm js wi tt te):=xU ys hi ht he hc B nd cap hs
end
abbrev vr (i:Nat):XE:=.var i
abbrev ci (i:Int):XE:=.cst (.i i)
abbrev cs (x:String) (h:(Str.ofString x).length<=sizeLine:=by decide +kernel):XE:=.cst (.s x h (bu x))
abbrev p1 (p:Prm) (a:XE):XE:=.prm p (.cons a .nil)
abbrev p2 (p:Prm) (a b:XE):XE:=.prm p (.cons a (.cons b .nil))
open PySem PySem.Spec PyProof.Rows
theorem xK:typeLookup (.type "list") "keys" = pure none:=by rw [typeLookup_type,J2];kernel_rfl
theorem wz {prog:Program} {w:World} {A:Around} {E:Value->Shared->Prop} {s:Shared} {a:Addr} {o:Obj} {xs:Array Value} {k:Nat} {Q:Option Value->Shared->Prop}
  (hx:s.heap.get? a=some o) (hc:o.cls=.type "list") (hdat:o.data=.seq xs k) (hd:o.dict=none) (hA:A.handled=none)
  (h:∀ h' tk,(∀ b u,s.heap.get? b=some u->h'.get? b=some u)->Q none { s with heap:=h',toks:=tk }):wpAny (model prog w) A (getAttr? (.ref a) "keys") Q E s:=by
 obtain ⟨c,dct,dat,sl⟩:=o;simp only at hc hdat hd;subst hc hdat hd;obtain ⟨hp,g,d,tk,os⟩:=s;have hT:∀ tk',(⟨hp,g,d,tk',os⟩:Shared).TypeIs (.ref a) "list" := fun _=>⟨_,hx,rfl⟩;have f1:=sub_AttributeError;have f3:=F.slot_list_getattribute.lookup;have f4:=F.slot_list_getattribute.bind (.ref a);have f5:=am_list_getattr_none;unfold getAttr? getAttrBy? getAttrBy
 repeat (any_goals (first | assumption | exact hT _ | ((with_reducible show wpAny _ _ (call (Value.builtin "list.__getattribute__") _ _) _ _ _);refine call_meets F.slot_list_getattribute (hT _) am_entry_list_getattribute (F.args_list_getattribute_2 _ _) (meets_getattribute_miss_list a xs k sl "keys" _ xK (by decide +kernel)) ⟨hx,hA,fun h' tk' e hx'=>?_⟩) | wp_step))
 obtain ⟨t',u',he⟩:=hx'.there;show wpAny _ _ (getattributeRaised _ _ _ _ _ _ _) _ _ _;unfold getattributeRaised
 repeat (any_goals (first | assumption | wp_step))
 exact h _ _ hx'.keeps
theorem mf:entryFor table "dict.update.loop" = some Builtin.«dict.update.loop»:=entryFor_of_tree (by kernel_rfl)
theorem fH:plainId "dict.update.loop" = true:=by decide +kernel
def Cj (K:Fg) (F:Addr->Prop) (H:Hp):List (PyData×PyData)->List V->Prop
 | [],vs=>vs=[]
 | (k,d) :: ps,vs=>∃ p j v r,vs=.ref p :: r/\SqT K H p [j,v]/\Dm K F H k j/\hk6 k=true/\Dm K F H d v/\Cj K F H ps r
noncomputable def jm (kvs ps:List (PyData×PyData)):List (PyData×PyData):=ps.foldl (fun acc p=>putD acc p.1 p.2) kvs
theorem mI {kvs:List (PyData×PyData)} {k d:PyData}:(putD kvs k d).length<=kvs.length+1:=by
 unfold putD;split
 ·rw [Hf];omega
 ·rw [Ho];exact Hn _
theorem j5:∀ {ps kvs:List (PyData×PyData)},(jm kvs ps).length<=kvs.length+ps.length
 | [],kvs=>Hn _
 | p :: ps,kvs=>by
  have h:=j5 (ps:=ps) (kvs:=putD kvs p.1 p.2);have:=mI (kvs:=kvs) (k:=p.1) (d:=p.2);rw [HA];show (jm (putD kvs p.1 p.2) ps).length<=_;omega
section
variable {X:Cx} {pins:List (Addr×Obj)} {σ:St} {H:Hp} {A:Around} {F:Addr->Prop} {D IT l:Addr} {vs:List V} {R:Result->Shared->Prop}
theorem xh (hu:A.units+8 < cLine) (hh:A.handled=none) (hD:H D=none) (hDI:IT≠D) (hl:SqL X.K H l vs) (hf:t8 X pins H IT) :
  ∀ (ps:List (PyData×PyData)) (i:Nat) (kvs:List (PyData×PyData)) (xs:List (PyData×V×V)) (ep:Nat) (s:Shared),Cj X.K F H ps (vs.drop i)->DmP X.K F H kvs xs->kvs.length+ps.length<=1000 ->
   Inv X pins σ (upd H D (.dD ep xs)) s->s.heap.IsListIter IT l i ->
   (∀ ep' xs' s',Inv X pins σ (upd H D (.dD ep' xs')) s'->DmP X.K F H (jm kvs ps) xs'->R (.ok (.ret .none)) s') ->
   codeAny (model X.prog X.w) A (.builtin "dict.update.loop" ⟨[.ref D,.ref IT,rawInt i,.none],[]⟩) R s:=by
 obtain ⟨f0,f1,f2,f3,f4,f5⟩:=hf;intro ps;induction ps with
 | nil =>
  intro i kvs xs ep s hp dp hn I st q;obtain ⟨its,rv,p,hz⟩:=I.list ((az.nw (.dD ep xs) hD).seq hl);have hl':=rv.length;have hp:vs.drop i=[]:=hp;have hi:vs.length<=i:=Ju.mp hp;refine IQ mf ?_;rw [II fH _];show wpAny _ A.in1 (pyNext (.ref IT)>>=_) _ _ s;refine He (wpAny_pyNext_list_end hh st p.isList (by simp;omega) fun h' eb=>?_);have I1:Inv X pins σ (upd H D (.dD ep xs)) { s with heap:=h' }:=I.turned (t':=s.toks) (fun b o hb e=>eb b o hb e) (by rw [ab hDI];exact f0) f1 f3 f4 f5;exact He (Hg (Hg (q ep xs _ I1 dp)))
 | cons kd ps ih =>
  obtain ⟨k,d⟩:=kd;intro i kvs xs ep s hp dp hn I st q;obtain ⟨its,rv,p,hz⟩:=I.list ((az.nw (.dD ep xs) hD).seq hl);obtain ⟨pa,j,v,r,er,sq,dk,hk,dd,hr⟩:=hp;have hx:vs[i]?=some (.ref pa):=by
   have:=congrArg (·[0]?) er;simpa using this
  have er':vs.drop (i+1)=r:=by
   have:=congrArg List.tail er;simpa using this
  obtain ⟨u,eu,ru⟩:=rv.get hx;obtain rfl:u=Value.ref pa:=ru;refine IQ mf ?_;rw [II fH _];show wpAny _ A.in1 (pyNext (.ref IT)>>=_) _ _ s;refine He (wpAny_pyNext_list_item st p.isList (x:=.ref pa) (by simpa using eu) fun h' st' sb=>?_);have I1:Inv X pins σ (upd H D (.dD ep xs)) { s with heap:=h' }:=I.turned (t':=s.toks) (fun b o hb e=>(sb.2 b hb).trans e) (by rw [ab hDI];exact f0) f1 f3 f4 f5;have pr:Pr F H (upd H D (.dD ep xs)):=Pr.of_same (az.nw _ hD);obtain ⟨ts,tv,tp,tz⟩:=I1.tuple (sq.pr pr);cases tv with
  | @cons _ u1 _ ts t1 tv =>
  cases tv with
  | @cons _ u2 _ ts t2 tv =>
  cases tv;obtain ⟨ot,ht,hct,nt,hdt⟩:=tp;have dk':=dk.pr pr fun _ z=>z;obtain ⟨as,rk⟩:=dk'.reads I1 (iH _ (fS.mp hk).1) t1;refine He (HU (He (wpAny_tryCatch ?_)));unfold Builtin.Dict.pairItems;refine He (wpAny_typeOf (T := "tuple") ⟨ot,ht,hct⟩ ?_);rw [Hv (by decide)];refine He (wpAny_seqItems ht hdt (Hg ?_));show wpAny _ A.in1 (holding [u1,u2] (dictSet D u1 u2)) _ _ _;refine HU (y0 (xs:=xs) (ep:=ep) (j:=j) (v:=v) (by have:A.in1.units=A.units+1:=rfl;omega) I1 ag (uk I1 (dp.pr pr fun _ z=>z)) rk (sP dk'.vw hk) t1 t2 (by rw [mO dp];have:=Ie;omega) fun ep' s' I' kp=>?_);rw [wj] at I';refine Hg ⟨JN fH _,?_⟩;refine ih (i+1) (putD kvs k d) (kZ xs k j v) ep' s' (by rw [er'];exact hr) (qh dp hk dk dd) (by have:=mI (kvs:=kvs) (k:=k) (d:=d);rw [HA] at hn;omega) I' (st'.at fun o e=>kp IT o hDI e) q
end
def rDL (K:Fg):V->Hp->VK->Prop:=fun u H Q=>∃ (a:Addr) (vs:List V) (F:Addr->Prop) (ps:List (PyData×PyData)),u=.ref a/\SqL K H a vs/\Cj K F H ps vs/\ps.length<=1000/\∀ D ep xs,H D=none->DmP K F H (jm [] ps) xs->Q (.ref D) (upd H D (.dD ep xs))
noncomputable def k6:List PyData->Option (List (PyData×PyData))
 | []=>some []
 | .tuple [k,d] :: r=>if hk6 k=true then (match k6 r with | some ps=>some ((k,d) :: ps) | none=>none) else none
 | _ :: _=>none
theorem Ax {K:Fg} {F:Addr->Prop} {H:Hp}:∀ {ds:List PyData} {vs:List V} {ps:List (PyData×PyData)},k6 ds=some ps->DmL K F H ds vs->Cj K F H ps vs
 | [],vs,ps,h,d=>by cases h;exact d
 | x :: ds,vs,ps,h,hd=>by
  unfold k6 at h;split at h
  ·cases ‹_=[]›
  ·rename_i k d r e;cases e;split at h
   ·rename_i hk;split at h
    ·rename_i qs hq;cases h;obtain ⟨v,rs,rfl,h1,h2⟩:=hd;obtain ⟨p,us,rfl,s1,z1,d1⟩:=oq h1;obtain ⟨j,r1,rfl,dj,w,r2,rfl,dw,rfl⟩:=d1;exact ⟨p,j,w,rs,rfl,s1,dj,hk,dw,Ax hq h2⟩
    ·cases h
   ·cases h
  ·cases h
noncomputable def m5:Prm:=Prm.one rDL (fun x=>match x with | .list ds=>(match k6 ds with | some ps=>if ps.length<=1000 then some (.frs (.dict (jm [] ps))) else none | none=>none) | _=>none) fun K F H x u pr Q hf hx hd q=>by
 split at hf
 ·rename_i ds;split at hf
  ·rename_i ps hps;split at hf
   ·rename_i hl;cases hf;obtain ⟨a,us,rfl,s1,z1,d1⟩:=kY hx;refine ⟨a,us,F,ps,rfl,s1,Ax hps d1,hl,fun D ep xs hD dp=>q _ _ (az.nw _ hD) ⟨D,rfl,hD,ep,xs,ag,?_,(dp.fresh hD).pr (Pr.of_same (az.nw _ hD)) fun _ z=>z⟩⟩;rw [mO dp];have:=j5 (ps:=ps) (kvs:=[]);have:=Ie;rw [List.length_nil] at *;omega
   ·cases hf
  ·cases hf
 ·cases hf
theorem rB {X:Cx} (hu:X.A.units+64 < cLine) (hc:X.calm=true):aE X (.type "dict") (m5.r X.K):=by
 intro pins s σ H xs us Q I rv q
 match xs,q with
 | [x],q =>
  obtain ⟨l,vs,G,ps,rfl,sq,pv,hl,q⟩:=(show rDL X.K x H Q from q);cases rv with
  | cons r0 r1 =>
  cases r1;have r0:_=Value.ref l:=r0;subst r0;have hD:=I.hok.fresh (Hn s.heap.objs.size);have I1:=I.laid (o:=.dD 0 []) (h':=s.heap.push { cls:=.type "dict", data:=.dict #[] }) (t':=s.toks) (fun _ _ q=>Hm _ q) (Hn _) (l5 s.heap I.big);refine callType_codes (Q₁:=fun obj s₁=>obj=.ref s.heap.objs.size/\s₁={ s with heap:=s.heap.push { cls:=.type "dict", data:=.dict #[] } }) F.kt_called_dict (F.kt_typeCall_dict_1 _) F.entry_dict_init (kt_code_dict_new _ ⟨rfl,rfl⟩) ?_;rintro obj s₁ ⟨rfl,rfl⟩;obtain ⟨its,rvl,⟨ol,nl,g1,g2,g3,g4⟩,hz⟩:=I1.list ((az.nw (.dD 0 []) hD).seq sq);have hT:Shared.TypeIs { s with heap:=s.heap.push { cls:=.type "dict", data:=.dict #[] } } (.ref s.heap.objs.size) "dict" := ⟨_,Hy _ rfl,rfl⟩;refine ⟨hT,F.args_dict_init_2 _ _,?_⟩;unfold Builtin.«dict.__init__»
  refine He ?_;unfold Builtin.Dict.selfAndRest;refine He (wpAny_notOrdered_dict hT ?_);show wpAny _ _ (pure (s.heap.objs.size,[Value.ref l])) _ _ _;refine Hg ?_;show wpAny _ _ (Builtin.Dict.updateFrom "dict.__init__" s.heap.objs.size (.ref l) [] .none) _ _ _;unfold Builtin.Dict.updateFrom;refine He (wpAny_typeOf (T := "list") ⟨ol,g1,g2⟩ ?_);rw [Hv (by decide)];have hh:X.A.handled=none:=I.ok.hd hc;refine He (wz g1 g2 g4 g3 (by simp [hh]) fun h' tk kp=>?_);rw [Hv (show (none:Option Value).isNone=true from rfl)];have I2:Inv X pins σ (upd H s.heap.objs.size (.dD 0 [])) { s with heap:=h',toks:=tk }:=I1.kept (t':=tk) kp;refine He (IJ (He (wpAny_pyIter_list (l:=l) ⟨ol,kp _ _ g1,g2,nl,g4⟩ ?_)));refine Hg ⟨JN fH _,?_⟩;have I3:Inv X pins σ (upd H s.heap.objs.size (.dD 0 [])) { s with heap:=h'.push { cls:=.type "list_iterator", data:=.fields #[.ref l,.int 0 0] },toks:=tk }:=I2.kept (t':=tk) fun b o e=>Hm _ e;have hsz:s.heap.objs.size < h'.objs.size:=Ht (kp _ _ (Hy _ rfl));refine xh (X:=X) (pins:=pins) (σ:=σ) (H:=H) (F:=G) (D:=s.heap.objs.size) (IT:=h'.objs.size) (l:=l) (vs:=vs) (by have:X.A.in1.units=X.A.units+1:=rfl;omega) (by simp [hh]) hD (IP hsz) sq (I2.Co (Hn _) (I.hok.fresh (Jk hsz))) ps 0 [] [] 0 _ (by simpa using pv) rfl (by simpa using hl) I3 ⟨_,Hy _ rfl,rfl,rfl⟩ fun ep' xs' s' I' dp=>?_;exact ⟨rfl,.ref _,_,I',rfl,q _ ep' xs' hD dp⟩
open PySem PySem.Spec PyProof.Rows
theorem nR {X:Cx} (hc:X.calm=true):aE X (.builtin "max") (fun xs H Q=>∃ i j,xs=[.int i,.int j]/\Q (.int (if j > i then j else i)) H):=by
 intro pins s σ H xs us Q I r h;obtain ⟨i,j,rfl,q⟩:=h;obtain ⟨u,w',rfl,⟨t,rfl⟩,⟨t',rfl⟩⟩:=vals2 r;refine max_two_ints (I.ok.hd hc) fun h' tk k=>⟨_,H,I.kept k,?_,q⟩;by_cases hj:j > i
 ·rw [Hv hj,Hv hj];exact ⟨_,rfl⟩
 ·rw [Hz hj,Hz hj];exact ⟨_,rfl⟩
noncomputable def Ec:Prm:=Prm.two (fun _ x y H Q=>∃ i j,[x,y]=[.int i,.int j]/\Q (.int (if j > i then j else i)) H) (sd (fun _ _=>true) fun i j=>.int (if j > i then j else i)) fun K F H x y u v pr Q hf hx hy hd q=>by
 unfold sd at hf;split at hf
 ·rw [Hv rfl] at hf;cases hf;rw [vInt hx,vInt hy];exact ⟨_,_,rfl,q _ H (az.rf H) rfl⟩
 ·cases hf
theorem wA {X:Cx} (hc:X.calm=true):aE X (.builtin "max") (Ec.r X.K):=vE (nR hc) fun _ _ _ _ h=>h
open PySem PySem.Spec PyProof.Rows PySem.W
theorem AU {P:Program} {w:World} {A:Around} {E:Value->Shared->Prop} {s:Shared} {d g:Addr} {vs:List Value} {Q:Value->Shared->Prop} (hl:s.heap.IsList d vs.toArray) (hvl:vs.length < 64)
  (h:∀ D kS e1 h' tk,s.heap.objs.size<=D->D < kS->(∀ b o,s.heap.get? b=some o->h'.get? b=some o)->h'.get? D=some (seqObj "list" #[] e1)->h'.get? kS=some (seqObj "list" #[] 0) ->
   ∀ R:PySem.Fin->Shared->Prop,(∀ s',Q (.ref D) s'->R (.done (.ret .none)) s')->wpAny (model P w) A.in1.in1 (ksk_rest D (.ref g) false vs.toArray e1 (.ref kS)) R (fun _ _=>False) { s with heap:=h',toks:=tk }) :
  wpAny (model P w) A (call (.builtin "sorted") [.ref d] [(Str.ofString "key", .ref g)]) Q E s:=by
 refine call_function_entry_kw kind_sorted plain_sorted entry_sorted (ksk_s1 _ _) ?_;unfold Builtin.«sorted»
 refine He (m:=checkCount "sorted" 1 1 _) (Hg ?_);refine He (collect_list hl ?_ (by rw [Ie];omega));have hsz:s.heap.objs.size < ((s.heap.push (seqObj "list" #[] 0)).update s.heap.objs.size (Obj.mapSeq (·++vs.toArray))).objs.size:=by
  rw [Heap.size_update,size_push'];exact IZ _
 have hk:∀ b o,s.heap.get? b=some o->((s.heap.push (seqObj "list" #[] 0)).update s.heap.objs.size (Obj.mapSeq (·++vs.toArray))).get? b=some o:=fun b o q=>by
  have hlt:b < s.heap.objs.size:=Ht q;rw [Heap.get?_update_ne _ _ _ _ (HH hlt),Heap.get?_push_ne _ _ _ (HH hlt)];exact q
 generalize hh1:(s.heap.push (seqObj "list" #[] 0)).update s.heap.objs.size (Obj.mapSeq (·++vs.toArray))=h1 at hsz hk;refine He (wpAny_newList ?_ (by rw [Ie];omega));have hoL:(h1.push (seqObj "list" vs.toArray 0)).get? h1.objs.size=some (seqObj "list" vs.toArray 0):=Hy _ rfl;refine He (HU (wpAny_call_entry_kw slot_list_sort ⟨_,hoL,rfl⟩ entry_list_sort ?body (ksk_l1 _ _)))
 case body =>
  show wpAny (model P w) A.in1.in1 (Builtin.«list.sort» ⟨[.ref h1.objs.size],[(Str.ofString "key", .ref g)]⟩) _ _ _
  rw [ksk_t1];unfold ksk_tree;obtain ⟨e1,ho1⟩:∃ e1,((h1.push (seqObj "list" vs.toArray 0)).update h1.objs.size (Obj.mapSeq fun _=>(#[]:Array Value))).get? h1.objs.size=some (seqObj "list" #[] e1):=⟨_,get?_update_seq hoL fun _=>#[]⟩;refine He (listItems_at hoL rfl ?_);refine He (listUpdate_at hoL rfl ?_ (by rw [Hx,Ie];omega) (Ip _));refine He (seqEpoch_at ho1 rfl ?_);refine He (wpAny_newTuple ?_ (by show vs.length<=_;rw [Ie];omega));refine He (wpAny_newList ?_ (Ip _));refine HU ?_;have hks:(((h1.push (seqObj "list" vs.toArray 0)).update h1.objs.size (Obj.mapSeq fun _=>(#[]:Array Value))).push (seqObj "tuple" vs.toArray 0)).objs.size=h1.objs.size+2:=by
   rw [size_push',Heap.size_update,size_push']
  refine HR (h h1.objs.size (((h1.push (seqObj "list" vs.toArray 0)).update h1.objs.size (Obj.mapSeq fun _=>(#[]:Array Value))).push (seqObj "tuple" vs.toArray 0)).objs.size e1
   ((((h1.push (seqObj "list" vs.toArray 0)).update h1.objs.size (Obj.mapSeq fun _=>(#[]:Array Value))).push (seqObj "tuple" vs.toArray 0)).push (seqObj "list" #[] 0)) s.toks (Jk hsz) (by rw [hks];exact IW (IZ _)) (fun b o e=>?_)
   (Hm _ (Hm _ ho1)) (Hy _ rfl) _ fun s' hq=>?_) (fun _ _ z=>z) fun _ _ z=>z.elim
  ·have hb:b≠h1.objs.size:=HH (Ht (hk b o e));exact Hm _ (Hm _ ((HS _ _ (Ne.symm hb)).trans (Hm _ (hk b o e))))
  ·exact ⟨_,rfl,Hg ⟨_,rfl,hq⟩⟩
def gO (S:KS) (K:Fg) (sp:Sp):List V->Hp->VK->Prop:=fun us H Q=>∃ (d:Addr) (xs:List V) (ks:List S.κ),us=[.ref d]/\SqL K H d xs/\xs.length < 64/\ks.length=xs.length/\ks.Nodup /\
 (∀ (i:Nat) (x:V) (k:S.κ) (H':Hp),xs[i]?=some x->ks[i]?=some k->az H H'->sp [x] H' (fun u H''=>az H' H''/\S.T K H'' u k) E0) /\
 ∀ (H':Hp) (D:Addr) (p:Array Nat),az H H'->H' D=none->Pm xs.length p->Up (AH S ks) p xs.length->Q (.ref D) (upd H' D (.lst (p.toList.map fun i=>xs.getD i .non)))
theorem gO.mono {S:KS} {K:Fg} {sp:Sp} {us:List V} {H H2:Hp} {Q:VK} (h:gO S K sp us H Q) (sm:az H H2):gO S K sp us H2 Q:=by
 obtain ⟨d,xs,ks,h1,h2,h3,h4,h5,h6,h7⟩:=h;refine ⟨d,xs,ks,h1,?_,h3,h4,h5,fun i x k H' a b c=>h6 i x k H' a b (sm.trans c),fun H' D p a=>h7 H' D p (sm.trans a)⟩;rcases h2 with (h2 | ⟨o,h2⟩) | h2
 ·exact .inl (.inl (sm _ _ h2))
 ·exact .inl (.inr ⟨o,sm _ _ h2⟩)
 ·exact .inr h2
def A1 (X:Cx) (H:Hp) (g:Addr) (sp:Sp):Prop:=∀ (pins:List (Addr×Obj)) (σ:List (Option V)) (H':Hp) (s:Shared) (x:Value) (v:V) (Q:VK),az H H'->Inv X.in2 pins σ H' s->RelV v x->sp [v] H' Q E0->wpAny (model X.prog X.w) X.in2.A (call (.ref g) [x]) (EP X.in2 pins σ Q) X.in2.xe s
section
variable {X:Cx} {pins:List (Addr×Obj)} {σ:List (Option V)} {H:Hp} {s:Shared}
theorem lS {S:KS} {k:Nat} {g:Addr} {sp:Sp} {us:List V} {ws:List Value} {Q:VK} (F:A1 X H g sp) (hr:bN (k+2) X.A)
  (I:Inv X pins σ H s) (rw_:Vals us ws) (h:gO S X.K sp us H Q):wpAny (model X.prog X.w) X.A (call (.builtin "sorted") ws [(Str.ofString "key", .ref g)]) (EP X pins σ Q) X.xe s:=by
 obtain ⟨d,xs,ks,rfl,ed,h64,kl,kn,hsp,q⟩:=h;cases rw_ with
 | cons r0 r1 =>
 cases r1;have r0:_=Value.ref d:=r0;subst r0;obtain ⟨vs,rv,pl,hz⟩:=I.list ed;have vl:vs.length=xs.length:=rv.length.symm;refine AU pl.isList (by rw [vl];exact h64) fun D kS e1 h' tk hD hDk keep gD gk R hR=>?_;have hkS:s.heap.objs.size<=kS:=HJ hD (Jk hDk);have rel:∀ (i:Nat) (x:V) (v:Value),xs[i]?=some x->vs[i]?=some v->RelV x v:=by
  intro i x v hx hv;obtain ⟨u,hu,r⟩:=rv.get hx;rw [hv] at hu;cases hu;exact r
 have neD:∀ p∈X.pn++pins,p.1≠D:=fun p hp=>HH (HF (Ht (I.pin p hp).1) hD);have nek:∀ p∈X.pn++pins,p.1≠kS:=fun p hp=>HH (HF (Ht (I.pin p hp).1) hkS);have I0:Inv X.in2 ((kS,seqObj "list" (List.toArray []) 0) :: (D,seqObj "list" #[] e1) :: pins) σ H { s with heap:=h',toks:=tk }:=by
  have I0:=(I.kept (t':=tk) keep).in2;refine I0.b8 fun p hp=>?_;rcases HB.mp hp with rfl | hp
  ·exact ⟨gk,I.hok.fresh hkS,IP (HF I.lt hkS),I.yD hkS,fun v z=>nomatch z⟩
  ·rcases HB.mp hp with rfl | hp
   ·exact ⟨gD,I.hok.fresh hD,IP (HF I.lt hD),I.yD hD,fun v z=>nomatch z⟩
   ·exact I0.pin p (HD _ hp)
 have szD:X.s₀.heap.objs.size<=D:=HJ I.sz hD;have szk:X.s₀.heap.objs.size<=kS:=HJ I.sz hkS;have pk:∀ p∈X.pn++(D,seqObj "list" #[] e1) :: pins,p.1≠kS:=fun p hp=>by
  rcases Ir.mp hp with hp | hp
  ·exact nek p (Jt _ hp)
  ·rcases HB.mp hp with rfl | hp
   ·exact HH hDk
   ·exact nek p (HD _ hp)
 refine D4 (J:=fun ks' s=>∃ H' e,Inv X.in2 ((kS,seqObj "list" (List.toArray ks') e) :: (D,seqObj "list" #[] e1) :: pins) σ H' s/\az H H'/\∀ i u,ks'[i]?=some u->∃ v k,RelV v u/\ks[i]?=some k/\S.T X.K H' v k) (by rw [vl];exact h64) ?_ ?_ ?_ ⟨H,0,I0,az.refl _,fun i u z=>absurd z (by rw [show (([]:List Value)[i]?)=none from List.getElem?_nil];exact nofun)⟩
 ·rintro x ks' s' hx hl ⟨H',e,I',sm,hks⟩;have hi:ks'.length < xs.length:=by rw [<- vl];exact (Hl.mp hx).1
  have hxi:=Hj hi;have hki:=Hj (show ks'.length < ks.length by rw [kl];exact hi);refine HR (F _ _ H' _ x xs[ks'.length] _ sm I' (rel _ _ _ hxi hx) (hsp _ _ _ H' hxi hki sm)) (fun u s'' hu=>?_) fun _ _ z=>z;obtain ⟨v,H'',I'',rv,sm',ky⟩:=hu;have gk':=(I''.pin (kS,seqObj "list" (List.toArray ks') e) (HD _ Hu)).1;have ea:(List.toArray ks').push u=List.toArray (ks'++[u]):=by simp
  obtain ⟨c2,hc2⟩:∃ c2,(s''.heap.update kS (Obj.mapSeq (·.push u))).get? kS=some (seqObj "list" (List.toArray (ks'++[u])) c2):=⟨_,by rw [<- ea];exact get?_update_seq gk' (·.push u)⟩;refine ⟨⟨e,gk'⟩,H'',c2,I''.EF szk pk (fun b o hb e=>(HS _ _ (Ne.symm hb)).trans e) hc2 (fun v z=>nomatch z),sm.trans sm',fun i w hw=>?_⟩;rw [List.getElem?_append] at hw;split at hw
  ·obtain ⟨v',k',a1,a2,a3⟩:=hks i w hw;exact ⟨v',k',a1,a2,S.same a3 sm'⟩
  ·rename_i hge;have:i=ks'.length:=by
    have:=(Hl.mp hw).1;rw [IS] at this;omega
   subst this;rw [Nat.sub_self] at hw;cases hw;exact ⟨v,_,rv,hki,ky⟩
 ·rintro ks' s' ⟨H',e,I',_⟩;exact ⟨e,(I'.pin (kS,seqObj "list" (List.toArray ks') e) (HD _ Hu)).1⟩
 ·rintro ks' s' hl ⟨H',e,I',sm,hks⟩;have gk':=I'.pin (kS,seqObj "list" (List.toArray ks') e) (HD _ Hu);have gD':=I'.pin (D,seqObj "list" #[] e1) (HD _ (Hr _ Hu));have ky:∀ i,i < vs.length->S.Hh s'.heap (ks'.getD i Value.none) (ks.getD i S.dft):=by
   intro i hi;obtain ⟨v,k,a1,a2,a3⟩:=hks i _ (Hj (show i < ks'.length by rw [hl];exact hi));rw [HZ,HZ,a2,Hj (show i < ks'.length by rw [hl];exact hi)];exact S.key I' a1 a3
  refine F7 (κ:=tuples' true) (lt:=AH S ks) hl (by rw [vl];exact h64) (HH hDk) gk'.1 gD'.1 (fun h2 Q' hq=>?_) (fun i j C hi hj hC=>?_) (by rw [vl,<-kl];exact Fq S kn) fun p hp hu=>hR _ ?_
  ·refine S.kd (s:=s') (us:=ks') (fun u hu=>?_) (by omega) hq;obtain ⟨i,hi⟩:=IG.mp hu;obtain ⟨v,k,a1,a2,a3⟩:=hks i u hi;exact ⟨k,S.key I' a1 a3⟩
  ·unfold kas_ask;exact S.ask (hr.in1.in1).units (ky i hi) (ky j hj) hC
  ·have I2:Inv X pins σ H' s':=I'.tL.tL.Gh;rw [vl] at hp hu;have el:Vals (p.toList.map (fun i=>xs.getD i .non)) (p.toList.map fun i=>vs.getD i Value.none):=by
    have hb:∀ i∈p.toList,i < xs.length:=fun i hi=>by
     have:=(Jz.mp hp).mem_iff.mp hi;simpa using this
    revert hb;generalize p.toList=l;intro hb;induction l with
    | nil=>exact .nil
    | cons i l ih =>
     refine .cons ?_ (ih fun j hj=>hb j (Hr _ hj));have hi:=hb i Hu;show RelV (xs.getD i .non) (vs.getD i Value.none);rw [HZ,Hj hi,HZ,Hj (show i < vs.length by rw [vl];exact hi)];exact rel i _ _ (Hj hi) (Hj (show i < vs.length by rw [vl];exact hi))
   have gDD:((s'.heap.update kS (Obj.mapSeq fun _=>(#[]:Array Value)))).get? D=some (seqObj "list" #[] e1):=(HS _ _ (IP hDk)).trans gD'.1;obtain ⟨c2,hc2⟩:∃ c2,((s'.heap.update kS (Obj.mapSeq fun _=>(#[]:Array Value))).update D (Obj.mapSeq fun _=>List.toArray (p.toList.map fun i=>vs.getD i Value.none))).get? D=some (seqObj "list" (List.toArray (p.toList.map fun i=>vs.getD i Value.none)) c2):=⟨_,get?_update_seq gDD fun _=>_⟩;refine ⟨.ref D,_,I2.Gz (o:=.lst (p.toList.map (fun i=>xs.getD i .non))) szD szk gD'.2.1 gk'.2.1 gD'.2.2.1 gk'.2.2.1 (I'.tL.qb) I'.qb neD nek (fun b u b1 b2 e=>(HS _ _ (Ne.symm b1)).trans ((HS _ _ (Ne.symm b2)).trans e)) ⟨?_,_,c2,el,hc2⟩,rfl,q H' D p sm gD'.2.1 hp hu⟩;rw [Hf,HM,hp.size,Ie];omega
end
namespace Sg
noncomputable def mG (S:KS) (f:Fn):List PyData->Option PR
 | [.list ds]=>match jH S f ds with
  | some ks=>if ds.length < 64/\@decide ks.Nodup (@List.nodupDecidable _ S.dec ks)=true then some (.frs (.list ((u6 (ks.zip ds)).map (·.2)))) else none
  | none=>none
 | _=>none
noncomputable def vg (S:KS) (f:Fn) (hm:f.ms=[.dat]):Prm where
 r:=fun K=>gO S K (bZ f K)
 f:=mG S f
 ok:=by
  intro K F H ds vs pr Q hf hv hF q;unfold mG at hf;split at hf
  ·rename_i ds;split at hf
   ·rename_i ks hks;split at hf
    ·rename_i c;replace c:ds.length < 64/\ks.Nodup:=⟨c.1,@of_decide_eq_true _ (_) c.2⟩;cases hf;obtain ⟨v,r,rfl,⟨a,rfl,xs,ea,z,dp⟩,rfl⟩:=hv;have kl:ks.length=ds.length:=kO hks;have xk:xs.length=ds.length:=dp.len;refine ⟨a,xs,ks,rfl,ea,by rw [xk];exact c.1,by rw [kl,xk],c.2,fun i x k H' hx hk sm=>?_,fun H' D p sm hD hp hu=>?_⟩
     ·obtain ⟨d0,d1,d2⟩:=dp.get' hx;have kf:=kL hks d1 hk;unfold zv at kf;split at kf
      ·rename_i kd hFd;have d3:Dm K F H' d0 x:=d2.pr (fun b o e _=>sm b o e) fun _ z=>z;refine ⟨F,[d0],[],.dat kd,[],hFd,by rw [hm];exact ⟨d3,rfl⟩,fun b hb=>?_,fun v' H'' hs hr=>⟨fun b o e=>hs b o e (by simp),?_⟩⟩
       ·intro z;cases e:H b with
        | none=>exact hF b hb e
        | some o=>rw [sm b o e] at z;cases z
       ·exact S.ofT kf hr.1
      ·cases kf
     ·have hDn:H D=none:=sm.free hD;refine q _ _ (fun b o e=>?_) ⟨D,rfl,hDn,_,ag,?_,?_⟩
      ·have:b≠D:=fun z=>by rw [z,hDn] at e;cases e
       rw [ab this];exact sm b o e
      ·rw [Hf,HM,hp.size];exact z
      ·rw [xk] at hp hu;rw [uy kl c.2 hp hu];have hb:∀ i∈p.toList,i < xs.length:=fun i hi=>by
        have:=(Jz.mp hp).mem_iff.mp hi;rw [xk];simpa using this
       have hU:∀ b,b≠D->upd H' D (.lst (p.toList.map fun i=>xs.getD i .non)) b=H' b:=fun b hb=>ab hb;generalize upd H' D (.lst (p.toList.map fun i=>xs.getD i .non))=H9 at hU;revert hb;generalize p.toList=l;intro hb;induction l with
       | nil=>exact rfl
       | cons i l ih =>
        have hi:=hb i Hu;obtain ⟨d0,d1,d2⟩:=dp.get' (Hj hi);refine ⟨_,_,rfl,?_,ih fun j hj=>hb j (Hr _ hj)⟩;show Dm K _ _ (ds.getD i .none) (xs.getD i .non);rw [HZ,d1,HZ,Hj hi];have d3:Dm K F H' d0 xs[i]:=d2.pr (fun b o e _=>sm b o e) fun _ z=>z;refine (d3.fresh hD).pr (fun b o e _=>?_) fun _ z=>z;have:b≠D:=fun z=>by rw [z,hD] at e;cases e
        rw [hU b this];exact e
    ·cases hf
   ·cases hf
  ·cases hf
end Sg
open PySem PySem.Spec PySem.Calls PyProof.Rows PySem.W
theorem us6 {P:List Value->Prop} (h:∀ a b c d e f,P [a,b,c,d,e,f]):∀ us:List Value,us.length=6->P us
 | [a,b,c,d,e,f],_=>h a b c d e f
section
variable {X:Cx} {k i:Nat} {p pos kpos:Pos} {e:Expr} {es:List Expr} {te:TE} {t:Addr×Addr×Str×Pos} {params:Arguments} {body:Expr} {scope:Scope} {x0 x:Str} {ir:XE} {gd:List PyData} {ga:Nat->V}
theorem sC {H:Hp} {g:Addr} {pm:Value} {tb:TE} {q:Str} {sp:Sp} (hL:uw H g q fun cv ctv=>{ cls:=.type "function", data:=.func (kla_fn "<lambda>" q params body scope [] pm cv ctv) }) (S0:eK [x0] scope) (hr:bN (k+3) X.A)
  (hb:∀ (c':Addr) (pm ctv u:Value),bindArgs (kla_fn "<lambda>" q params body scope [] pm (.ref c') ctv) ⟨[u],[]⟩=pure [(x0,u)])
  (cB:∀ (f:Addr) (cd:Value) (A:Around) (s:Shared) (H:Hp),bN k (A.deeper (envX q scope s.heap.objs.size f cd []))->JE (cxL CX0 X.prog X.w X.K X.mg X.base [x0] q scope f cd [] A X.stack s H H E0) body tb)
  (hsp:∀ v H Q,sp [v] H Q E0->tb [some v] H Q):A1 X H g sp:=by
 intro pins σ H' s u v Q sm I rv h;obtain ⟨c,ctv,oc,u2,vs,tq,h1,h2,h3,h4⟩:=hL;have hr2:bN (k+1) X.in2.A:=hr.in1.in1;refine wpAny_call (Jj (tJ (CX:=CX0) (E:=E0) (Q:=Q) (k:=k) (vs:=[v]) S0 hr2 I.yA rfl (.cons rv .nil) (sm _ _ h1) (sm _ _ h2) h3 h4 (hb _ _ _ _) (cB _ _ _ _ _ (hr2.deeper _)).h (hsp v H' Q h)) fun r s' hq=>?_);cases r with
 | error e=>exact hq.elim
 | ok fl =>
  cases fl with
  | ret u=>exact I.after hq
  | next=>exact False.elim hq
  | brk=>exact False.elim hq
  | cont=>exact False.elim hq
theorem uo (S:KS) (ht:t∈bp) (hcode:X.env.code=.ref t.1) (hg:∀ g d,gd[g]?=some d->∀ F H,Dm X.K F H d (ga g)) (S0:eK [x0] scope) (hr:bN (k+3) X.A) (hms:X.mg "sorted" = none)
  (hb:∀ (c':Addr) (pm ctv u:Value),bindArgs (kla_fn "<lambda>" t.2.2.1 params body scope [] pm (.ref c') ctv) ⟨[u],[]⟩=pure [(x0,u)])
  (cB:∀ (f:Addr) (cd:Value) (A:Around) (s:Shared) (H:Hp),bN k (A.deeper (envX t.2.2.1 scope s.heap.objs.size f cd []))->JE (cxL CX0 X.prog X.w X.K X.mg X.base [x0] t.2.2.1 scope f cd [] A X.stack s H H E0) body (rE X.K ga ir))
  (ha:JE X e te) (h1:isStarred e=false:=by exact rfl) (hq:X.env.qual ++ "<lambda>" = t.2.2.1:=by exact rfl) (hdef:defaultsOf params X.env=([],[]):=by exact rfl) (hcl:closureFor scope X.env=pure []:=by exact rfl) (hgs:Gl X "sorted" := by exact rfl) :
  JE X (.Call (.Name "sorted" p) [e] [⟨some "key", .Lambda params body scope t.2.2.2,kpos⟩] pos) (tCB ((Sg.vg S (cN gd [.dat] 1 (.ret ir)) rfl).r X.K) (ah te bo)):=⟨by
 have hsp:∀ v H Q,bZ (cN gd [.dat] 1 (.ret ir)) X.K [v] H Q E0->rE X.K ga ir [some v] H Q:=fun v H Q h=>lL (N:=[x0]) (E:=E0) hg h (Hn 1);intro pins s σ H Q I h;refine Jf (iT I hgs hms (show bootBuiltins "sorted" = some (.builtin "sorted") by decide +kernel) ?_ (by decide) (by decide));refine callWith_kw (thn ((eA ha ai h1).h pos pins s σ H _ I h) fun us s1 ⟨vs,H1,I1,r1,q1⟩=>?_) (by rw [aN h1];rfl) (by rw [aN h1];rfl) (by rfl) (by rfl);have pk:PK X [⟨some "key", .Lambda params body scope t.2.2.2,kpos⟩] _:=wD (vv ht hcode hq hdef hcl) Bo;refine thn (pk pos pins s1 σ H1 (fun zs H2=>∃ g,zs=[.ref g]/\az H1 H2/\uw H2 g t.2.2.1 _) I1 (fun f H' _ hx hl=>⟨f,rfl,hx,hl⟩)) fun ws s2 ⟨zs,H2,I2,rz,g,e1,sm,hL⟩=>?_;subst e1;cases rz with
 | cons a b =>
  cases b;have a:_=Value.ref g:=a;subst a
  exact lS (k:=k+1) (sC hL S0 hr hb cB hsp) hr I2 r1 (q1.mono sm)⟩
structure yL (P:Program) (w:World) (K:Frag) (mg:Str->Option Value) (base:Heap) (pb:Prm):Prop where
 S:fN aq.ps aq.g aq.scope
 h2:aq.ps.length=2
 hb:∀ (c c':Addr) (pm ctv:Value) (us:List Value),us.length=aq.ps.length->bindArgs (kla_fn aq.name aq.qual aq.params aq.body aq.scope [(aq.g,c)] pm (.ref c') ctv) ⟨us,[]⟩=pure (aq.ps.zip us)
 cB:∀ {k:Nat} (f c c':Addr) (A:Around) (outer:List Env) (s:Shared) (H:Hp),bN k (A.deeper (envX aq.qual aq.scope s.heap.objs.size f (.ref c') [(aq.g,c)]))->JE (cxL CX0 P w K mg base (aq.ps++[aq.g]) aq.qual aq.scope f (.ref c') [(aq.g,c)] A outer s (off H c) H NoE) aq.body (kcB pb K)
theorem eKc {pb:Prm} {ta:TA} (L:yL X.prog X.w X.K X.mg X.base pb) (hr:bN (k+1) X.A) (i:Nat) (ha:JA X (e :: es) ta) (a:X.N[i]?=some x:=by exact rfl) (b:Vis X.env.scope x:=by exact .inl rfl)
  (h1:isStarred e=false:=by exact rfl) (h2:es.all (fun e=>!isStarred e)=true:=by exact rfl) (c:(x==("__debug__" : Str))=false:=by exact rfl) (d:(x==("__classdict__" : Str))=false:=by exact rfl) :
  JE X (.Call (.Name x p) (e :: es) [] pos) (ba (bZ (vT pb) X.K) [] NoE (ah (aJ i) ta)) :=
 ⟨Fj (CX:=CX0) L.S L.h2 hr oF L.hb (fun f c c' s H=>(L.cB f c c' _ _ s H (hr.deeper _)).h) (pY a b c d) ha.h (aN h1) (bU h2)⟩
theorem DT {fn:Fn} {q:Addr×FuncData} {m i1 i2 i3 j:Nat} {st:Stmt} {ps:List Str} {a1 a2 a3:Str} {q1 q2 q3:Pos} (F:bq X.prog X.w X.K X.mg X.base CX0 k q.1 q.2 ps (bZ fn X.K)) (hr:bN m X.A) (D:Fa X.K X.mg x st ps q) (ht:t∈bp) (hcode:X.env.code=.ref t.1) (e1:t.2.2.1=aq.qual) (e2 : "<lambda>" = aq.name)
  (hcl:X.env.scope.names.lookup aq.g=some .cell) (hC:∀ c,X.env.cells.lookup aq.g=some c->closureFor aq.scope X.env=pure [(aq.g,c)]) (hE:∃ c,X.env.cells.lookup aq.g=some c)
  (v1:JE X (.Name a1 q1) (aJ i1)) (v2:JE X (.Name a2 q2) (aJ i2)) (v3:JE X (.Name a3 q3) (aJ i3)) (hN:X.N[j]?=some aq.g)
  (a:k<=m:=by omega) (b:Gl X x:=by exact rfl) (hq:X.env.qual ++ "<lambda>" = t.2.2.1:=by exact rfl) (hdef:defaultsOf aq.params X.env=([],[]):=by exact rfl) (hfn:X.fn aq.g=true:=by exact rfl) (c:(x==("__debug__" : Str))=false:=by exact rfl) :
  JE X (.Call (.Name x p) [.Name a1 q1,.Name a2 q2,.Name a3 q3,.Lambda aq.params aq.body aq.scope t.2.2.2] [] pos) (tCB ((AZ fn).r X.K) (ah (aJ i1) (ah (aJ i2) (ah (aJ i3) (ah (aJ j) bo))))):=by
 obtain ⟨cl,hc⟩:=hE;have pl:=vv (X:=X) (body:=aq.body) ht hcode hq hdef (hC cl hc);rw [e1,e2] at pl;have ha:=(eA v1 (eA v2 (eA v3 (eA ⟨pl⟩ ai rfl) rfl) rfl) rfl).h;have P:=uB (L:=aq) (j:=j) (p:=p) (pos:=pos) (E:=NoE) F (hr.mono a) b D.m D.F.kp D.b oF (fun H s oc e s' h=>h.elim) ha hc hfn hN hcl c;refine ⟨fun pins s σ H Q I h=>P pins s σ H Q I ?_⟩;obtain ⟨w1,s1,w2,s2,w3,s3,w4,s4,u1,u2,u3,wv,e,h⟩:=h;cases e;exact ⟨_,_,_,_,s1,s2,s3,s4,h⟩
end
section
variable {P:Program} {w:World} {K:Frag} {mg:Str->Option Value} {base:Heap} {x:Str} {st:Stmt} {a:Addr×FuncData} {N ps:List Str} {k:Nat} {b:XS} {gd:List PyData} {ga:Nat->V} {ms:List PM} {c:Addr}
theorem Fa.code {h:Heap} {f:Addr} {oc:Value} {od:Option Addr} {fd:FuncData} {sl:Array (Option Value)} (D:Fa K mg x st ps a) (X:K.In h) (G:h.Ns mainGlobals mg) (n:nsIn K mainGlobals x=some (some (.ref f))) (l:K.lookup f=some ⟨oc,od,.func fd,sl⟩) (hc:fd.code=.ref c):a.2.code=.ref c:=by
 have m:=mg_of X G n;rw [D.m] at m;cases m;obtain ⟨oc,od,kV,doc,pm,an,cdv,ct,osl,e,lk,hcd⟩:=D.F.ex;rw [l] at lk;cases lk;exact hc
theorem Fa.okC (D:Fa K mg x st ps a) (hc:a.2.code=.ref c) (S:ao N ps (aa st)) (hg:∀ g d,gd[g]?=some d->∀ F H,Dm K F H d (ga g))
  (j:∀ {A:Around} {outer:List Env} {s:Shared} {H:Hp} {E:XK},bN k (A.deeper (envOfC x (aa st) s.heap.objs.size a.1 (.ref c)))->JSs (sy CX0 P w K mg base N x (aa st) a.1 (.ref c) A outer s H E).nox (bK st) (rS K ga b))
  (hl:ms.length<=N.length:=by decide) (hp:ms.length=ps.length:=by exact rfl):bq P w K mg base CX0 (k+1) a.1 a.2 ps (bZ (cN gd ms N.length b) K):=by
 obtain ⟨a1,a2⟩:=a;obtain ⟨oc,od,kV,doc,pm,an,cdv,ct,osl,e,lk,hcd⟩:=D.F.ex;have e:a2=_:=e;subst e;have hc:cdv=.ref c:=hc;subst hc;exact BE lk hcd S (fun vs H Q E h=>(m6 h).trans hp) fun A outer s H vs Q E hr h=>⟨_,(j hr).h.nox,lL (N:=N) hg h hl⟩
end
open PySem PySem.Spec PyProof.Rows PySem.W
def vd (K:Fg):V->Hp->VK->Prop:=fun u H Q=>∃ (a:Addr) (ep:Nat) (xs:List (PyData×V×V)),u=.ref a/\H a=some (.dD ep xs)/\xs.length<=sizeLine/\∀ D,H D=none->Q (.ref D) (upd H D (.lst (xs.map (·.2.1))))
theorem nS {X:Cx} (hc:X.calm=true):aE X (.type "list") (fun us H Q=>∃ u,us=[u]/\vd X.K u H Q):=by
 intro pins s σ H us ws Q I r h;obtain ⟨u,rfl,a,ep,xs,rfl,ea,z,q⟩:=h;obtain ⟨v,rfl,r1⟩:=vals1 r;cases (show v=Value.ref a from r1);obtain ⟨z0,lo,nd,o,es,g1,g2,g3,g4⟩:=(show bj X.prog X.w H s.heap a (.dD ep xs) from I.hok _ _ ea);have hsz:es.size=xs.length:=by rw [Paired.length g4];simp
 refine kdl_call (GV (es:=es) (ep:=ep) lo) (I.ok.hd hc) ⟨o,g1,g2,g3⟩ (by rw [hsz];exact z) fun h' tk acc' c' kp hS hacc=>?_;have ev:Vals (xs.map (·.2.1)) acc'.toList:=by
  have key:∀ (xs:List (PyData×V×V)) (vs:List Value),xs.length=vs.length->(∀ (i:Nat) (x:PyData×V×V) (v:Value),xs[i]?=some x->vs[i]?=some v->RelV x.2.1 v)->Vals (xs.map (·.2.1)) vs:=by
   intro xs;induction xs with
   | nil=>intro vs h1 _;cases vs with
    | nil=>exact .nil
    | cons _ _=>simp at h1
   | cons x xs ih=>intro vs h1 h2;cases vs with
    | nil=>simp at h1
    | cons v vs=>exact .cons (h2 0 x v rfl rfl) (ih vs (by simpa using h1) fun i x v a b=>h2 (i+1) x v (by simpa using a) (by simpa using b))
  refine key xs acc'.toList ((hsz.symm.trans (hacc.1.symm.trans HM.symm))) fun i x v hx hv=>?_;rw [Ii] at hv;obtain ⟨e,h1,h2⟩:=hacc.2 i v hv;obtain ⟨en,h3,h4⟩:=eD g4 i x hx;rw [Ii] at h3;rw [h3] at h1;cases h1;rw [h2];exact h4.2.1
 have hn:H s.heap.objs.size=none:=I.hok.fresh (Hn _);refine ⟨.ref s.heap.objs.size,_,I.laid (t':=tk) (o:=.lst (xs.map (·.2.1))) (fun b o e=>kp b o e) (Hn _) ⟨by rw [Hf];exact z,acc'.toList,c',ev,by rw [Array.toArray_toList];exact hS⟩,rfl,q _ hn⟩
theorem lZ {K:Fg} {F:Addr->Prop} {H:Hp}:∀ {kvs:List (PyData×PyData)} {xs:List (PyData×V×V)},DmP K F H kvs xs->DmL K F H (kvs.map (·.1)) (xs.map (·.2.1))
 | [],xs,h=>by rw [show xs=[] from h];rfl
 | (k,d) :: kvs,xs,h=>by
  obtain ⟨j,v,r,rfl,h1,h2,h3,h4⟩:=h;exact ⟨_,_,rfl,h2,lZ h4⟩
noncomputable def uH:Prm:=Prm.one vd (fun x=>match x with | .dict kvs=>some (.frs (.list (kvs.map (·.1)))) | _=>none) fun K F H x u pr Q hf hx hd q=>by
 split at hf
 ·rename_i kvs;cases hf;obtain ⟨a,rfl,ep,xs,ea,z,dp⟩:=hx;exact ⟨a,ep,xs,rfl,ea,z,fun D hD=>q _ _ (az.nw _ hD) (yq hD (by rw [Hf];exact z) (lZ dp))⟩
 ·cases hf
theorem o6 {X:Cx} (hc:X.calm=true):aE X (.type "list") (uH.r X.K):=hZ (nS hc) fun u H Q h=>⟨u,rfl,h⟩
open PySem PySem.Spec PyProof.Rows
noncomputable def rgI (n:Nat):List Int:=(List.range n).map Int.ofNat
def rLR:List V->Hp->VK->Prop:=fun us H Q=>∃ n:Nat,us=[.int n]/\n<=1000/\∀ H' D,az H H'->H' D=none->Q (.ref D) (upd H' D (.lst ((rgI n).map V.int)))
theorem pR {K:Fg} {F:Addr->Prop} {H:Hp}:∀ ns:List Int,DmL K F H (ns.map PyData.int) (ns.map V.int)
 | []=>rfl
 | n :: ns=>⟨_,_,rfl,rfl,pR ns⟩
noncomputable def lrP:Prm where
 r:=fun _=>rLR
 f:=fun ds=>match ds with
  | [.int i]=>if 0<=i/\i<=1000 then some (.frs (.list ((rgI i.toNat).map .int))) else none
  | _=>none
 ok:=by
  intro K F H ds vs pr Q hf hv hF q;split at hf
  ·rename_i i;split at hf
   ·rename_i c;cases hf;obtain ⟨v,r,rfl,hx,rfl⟩:=hv;rw [vInt hx];refine ⟨i.toNat,by rw [Int.toNat_of_nonneg c.1],by omega,fun H' D sm hD=>?_⟩;have hDn:H D=none:=sm.free hD;refine q _ _ (fun b o e=>?_) ⟨D,rfl,hDn,_,ag,?_,pR _⟩
    ·have:b≠D:=fun z=>by rw [z,hDn] at e;cases e
     rw [ab this];exact sm b o e
    ·rw [Hf,rgI,Hf,HP,Ie];omega
   ·cases hf
  ·cases hf
theorem iJ:∀ (ns:List Int) (vs:List Value),vs.length=ns.length->(∀ (j:Nat) (v:Value),vs[j]?=some v->∃ t,∃ i,ns[j]?=some i/\v=.int i t)->Vals (ns.map V.int) vs
 | [],[],_,_=>.nil
 | n :: ns,v :: vs,hl,h=>by
  obtain ⟨t,i,h1,rfl⟩:=h 0 v rfl;cases h1;exact .cons ⟨t,rfl⟩ (iJ ns vs (by simpa using hl) fun j v hv=>h (j+1) v hv)
abbrev rgO (n:Nat) (t u w:Tok):Obj:={ cls:=.type "range", data:=.fields #[.int 0 t,.int n u,.int 1 w] }
def rL2:List V->Hp->VK->Prop:=fun us H Q=>∃ r n t u w,us=[.ref r]/\H r=some (.frz (rgO n t u w) (.own r))/\n<=1000/\∀ D,H D=none->Q (.ref D) (upd H D (.lst ((rgI n).map V.int)))
theorem nz {X:Cx} (hh:X.A.handled=none):aE X (.type "list") rL2:=by
 intro pins s σ H us ws Q I r h;obtain ⟨a,n,t,u,w,rfl,ha,hn,q⟩:=h;obtain ⟨v,rfl,r1⟩:=vals1 r;cases (show v=Value.ref a from r1);have g:=(I.hok _ _ ha).1;refine call_list_range (a:=0) (b:=n) (c:=1) (n:=n) (t:=t) (u:=u) (v:=w) hh g (small_one (by omega) (by omega) (by omega) (by omega)) (by rw [rangeSize_one];split <;> omega) (by omega) fun h' tk acc c hk hD hI=>?_;have hn':H s.heap.objs.size=none:=I.hok.fresh (Hn _);have hl:acc.toList.length=(rgI n).length:=by rw [rgI,Hf,HP,HM,hI.1]
 refine ⟨.ref s.heap.objs.size,_,I.laid (t':=tk) (o:=.lst ((rgI n).map V.int)) hk (Hn _) ⟨?_,acc.toList,c,iJ _ _ hl fun j v hv=>?_,by simpa using hD⟩,rfl,q _ hn'⟩
 ·rw [Hf,rgI,Hf,HP,Ie];omega
 ·have hv':acc[j]?=some v:=by simpa using hv
  obtain ⟨t,rfl⟩:=hI.2 j v hv';have hj:j < n:=by
   have:=(Array.getElem?_eq_some_iff.mp hv').1;rw [hI.1] at this;exact this
  exact ⟨t,j,by rw [rgI,Hq,List.getElem?_range hj];rfl,by simp⟩
theorem eLR {X:Cx} {a:Expr} {ta:TE} {p1 p2 pos1 pos2:Pos} (hh:X.A.handled=none) (hg1:Gl X "list") (hm1:X.mg "list" = none) (hg2:Gl X "range") (hm2:X.mg "range" = none) (h:PySem.W.isStarred a=false) (ha:JE X a ta) :
  JE X (.Call (.Name "list" p1) [.Call (.Name "range" p2) [a] [] pos2] [] pos1) (tCB (lrP.r X.K) (ah ta bo)):=by
 let ti:TE:=fun σ H P=>∃ P0:List V->Hp->Prop,ah ta bo σ H P0/\∀ vs H1,P0 vs H1->∃ n:Nat,vs=[.int n]/\n<=1000/\∀ r t u w,H1 r=none->P (.ref r) (upd H1 r (.frz (rgO n t u w) (.own r)))
 have inner:JE X (.Call (.Name "range" p2) [a] [] pos2) ti:=⟨by
  intro pins s σ H P I ⟨P0,hT,h0⟩;refine Call_ (iT I hg2 hm2 boot_range (PyProof.Rows.callWith_type1 (thn ((eA ha ai h).h pos2 pins s σ H _ I hT) fun us s1 ⟨vs,H1,I1,r1,q1⟩=>?_) (aN h) rfl));obtain ⟨n,rfl,hn,q2⟩:=h0 _ _ q1;obtain ⟨v,rfl,t,rfl⟩:=vals1 r1;refine call_range_1 ?_;have hp:=Hy s1.heap (o:=rgO n s1.toks t (s1.toks+1)) rfl
  exact ⟨.ref s1.heap.objs.size,_,I1.laid (t':=s1.toks+1+1) (o:=.frz (rgO n s1.toks t (s1.toks+1)) (.own s1.heap.objs.size)) (fun b o e=>Hm _ e) (Hn _) ⟨hp,_,hp⟩,rfl,q2 _ _ _ _ (I1.hok.fresh (Hn _))⟩⟩
 have outer:=eTy (p:=p1) (pos:=pos1) (nz hh) hg1 hm1 (by decide +kernel) (eA inner ai rfl) rfl rfl (by decide) rfl;refine ⟨fun pins s σ H Q I hT=>outer.h pins s σ H Q I ⟨_,hT,fun vs H1 z=>?_⟩⟩;obtain ⟨n,rfl,hn,q⟩:=z;exact ⟨n,rfl,hn,fun r t u w hr=>⟨r,n,t,u,w,rfl,ag,hn,fun D hD=>q _ D (fun b o e=>by rw [ab fun z=>by rw [z,hr] at e;cases e];exact e) hD⟩⟩
end L2
end
set_option bootstrap.genMatcherCode true
section
namespace K34
open PySem PySem.Spec PyProof.Rows L2
noncomputable def top (i:Nat):Stmt:=PySem.Challenge.pw_webshapes_k34_bounds_and_ends.main.body.getD i (.Pass ⟨0,0,0,0⟩)
noncomputable abbrev fY:Stmt:=top 2
noncomputable abbrev cQ:Stmt:=top 5
noncomputable abbrev f6:Stmt:=top 6
noncomputable abbrev fM:Stmt:=top 9
noncomputable abbrev cX:Stmt:=top 10
noncomputable abbrev dM:Stmt:=top 12
noncomputable abbrev cT:Stmt:=top 13
noncomputable abbrev gH:Stmt:=top 14
noncomputable abbrev cw:Stmt:=top 15
noncomputable abbrev bM:Stmt:=top 16
noncomputable abbrev bI:Stmt:=top 17
noncomputable abbrev qD:Stmt:=top 19
noncomputable abbrev m7:Stmt:=top 20
noncomputable abbrev gE:Stmt:=top 21
noncomputable abbrev iY:Stmt:=top 22
noncomputable abbrev e7:Stmt:=top 23
noncomputable abbrev oP:Stmt:=top 24
noncomputable abbrev cz:Stmt:=top 25
noncomputable abbrev vy:Stmt:=top 29
noncomputable abbrev iP:Stmt:=top 30
noncomputable abbrev eV:Stmt:=top 31
noncomputable abbrev de:Stmt:=top 32
noncomputable abbrev iL:Stmt:=top 33
noncomputable abbrev mS:Stmt:=top 34
noncomputable abbrev dQ:Stmt:=top 35
noncomputable def dfs:List (Str×Stmt×List Str):=[("kind_of", fY,["node"]),("is_backward", cQ,["step"]),("bond_of", f6,["step"]),("ends", fM,["web", "node", "step"]),("bonds_of", cX,["web", "node"]),("is_between", dM,["count", "low", "high"]),("keeps_bound", cT,["form", "node"]),("counted", gH,["web", "forms", "node", "kept", "verdict", "enough"]),("keeps_listed", cw,["web", "form", "node", "kept"]),("keeps_walk", bM,["web", "form", "node", "kept"]),("keeps_form", bI,["web", "form", "node", "kept"]),("_law_pen", qD,["_law_script"]),("_law_draw", m7,["_law_pen_here", "_law_many"]),("_law_names", gE,["_law_pen_here", "_law_many"]),("_law_number", iY,["_law_pen_here"]),("_law_values", e7,["_law_pen_here", "_law_many"]),("_law_key", oP,["_law_node"]),("_law_facts_sorted", cz,["_law_facts"]),("_law_so", vy,["_law_web_here", "_law_form", "_law_node", "_law_good", "_law_due"]),("_law_bounds", iP,["_law_many"]),("_law_counted", eV,["_law_web_here", "_law_node", "_law_step", "_law_good", "_law_many"]),("_law_closed", de,["_law_web_here", "_law_node", "_law_bonds"]),("_law_beside", iL,["_law_web_here", "_law_number_here"]),("_law_same", mS,["_law_web_here", "_law_nodes"]),("law", dQ,["_law_script"])]
structure Adr where
 f:Nat->Addr×FuncData
 jG:Addr
 jh:Addr
 BQ:Tok
structure Txt (K:Fg) (mg:Str->Option Value) (t:Adr):Prop where
 d:∀ i {x st ps},dfs[i]?=some (x,st,ps)->Fa K mg x st ps (t.f i)
 Gw:(t.f 18).2.code=.ref 155
 ip:(t.f 17).2.code=.ref 129
 z_abs:mg "abs" = none
 z_all:mg "all" = none
 z_bool:mg "bool" = none
 z_dict:mg "dict" = none
 z_int:mg "int" = none
 z_isinstance:mg "isinstance" = none
 z_len:mg "len" = none
 z_list:mg "list" = none
 z_max:mg "max" = none
 z_min:mg "min" = none
 z_range:mg "range" = none
 z_set:mg "set" = none
 z_sorted:mg "sorted" = none
 z_str:mg "str" = none
 z_tuple:mg "tuple" = none
 g_BACK:mg "BACK" = some (Value.str "^" t.BQ)
 g_KINDS:mg "KINDS" = some (.ref t.jG)
 g_LISTS:mg "LISTS" = some (.ref t.jh)
 s_KINDS:∀ H,SqT K H t.jG [.str "number", .str "said", .str "thing"]
 s_LISTS:∀ H,SqT K H t.jh [.str "all", .str "some", .str "one", .str "none"]
theorem nC:ao ["node"] ["node"] (aa fY):=scm
theorem iB:ao ["step"] ["step"] (aa cQ):=scm
theorem nY:ao ["step"] ["step"] (aa f6):=scm
theorem qV:ao ["web", "node", "step", "bond"] ["web", "node", "step"] (aa fM):=scm
theorem ll:ao ["web", "node"] ["web", "node"] (aa cX):=scm
theorem jy:ao ["count", "low", "high"] ["count", "low", "high"] (aa dM):=scm
theorem iq:ao ["form", "node"] ["form", "node"] (aa cT):=scm
theorem c8:ao ["web", "forms", "node", "kept", "verdict", "enough", "count", "form"] ["web", "forms", "node", "kept", "verdict", "enough"] (aa gH):=scm
theorem bz:ao ["web", "form", "node", "kept", "head", "first"] ["web", "form", "node", "kept"] (aa cw):=scm
theorem b9:ao ["web", "form", "node", "kept", "walked", "keeping"] ["web", "form", "node", "kept"] (aa bM):=scm
theorem cf:ao ["web", "form", "node", "kept", "head"] ["web", "form", "node", "kept"] (aa bI):=scm
theorem zW:ao ["_law_script"] ["_law_script"] (aa qD):=scm
theorem dY:ao ["_law_pen_here", "_law_many", "_law_found", "_law_place", "_law_cell", "_law_one", "_law_two"] ["_law_pen_here", "_law_many"] (aa m7):=scm
theorem a7:ao ["_law_pen_here", "_law_many", "_law_letters", "_law_base", "_law_word", "_law_place", "_law_begin", "_law_found", "_law_k", "_law_signs"] ["_law_pen_here", "_law_many"] (aa gE):=scm
theorem gi:ao ["_law_pen_here", "_law_way", "_law_sign"] ["_law_pen_here"] (aa iY):=scm
theorem bT:ao ["_law_pen_here", "_law_many", "_law_letters", "_law_found", "_law_k", "_law_one"] ["_law_pen_here", "_law_many"] (aa e7):=scm
theorem zd:ao ["_law_node"] ["_law_node"] (aa oP):=scm
theorem gB:ao ["_law_facts"] ["_law_facts"] (aa cz):=scm
theorem Bs:ao ["_law_web_here", "_law_form", "_law_node", "_law_good", "_law_due", "_law_found"] ["_law_web_here", "_law_form", "_law_node", "_law_good", "_law_due"] (aa vy):=scm
theorem eh:ao ["_law_many", "_law_found", "_law_low", "_law_high"] ["_law_many"] (aa iP):=scm
theorem aI:ao ["_law_web_here", "_law_node", "_law_step", "_law_good", "_law_many", "_law_low", "_law_high", "_law_due"] ["_law_web_here", "_law_node", "_law_step", "_law_good", "_law_many"] (aa eV):=scm
theorem cY:ao ["_law_web_here", "_law_node", "_law_bonds", "_law_there", "_law_more", "_law_bond", "_law_rest"] ["_law_web_here", "_law_node", "_law_bonds"] (aa de):=scm
theorem gj:ao ["_law_web_here", "_law_number_here", "_law_other", "_law_one"] ["_law_web_here", "_law_number_here"] (aa iL):=scm
theorem gJ:ao ["_law_web_here", "_law_nodes", "_law_one", "_law_other", "_law_k", "_law_kind"] ["_law_web_here", "_law_nodes"] (aa mS):=scm
theorem br:ao ["_law_script", "_law_pen_here", "_law_things", "_law_bonds", "_law_node", "_law_back", "_law_there", "_law_facts", "_law_one", "_law_web_here", "_law_good", "_law_step"] ["_law_script"] (aa dQ):=scm
noncomputable def gds:List PyData:=[.tuple [PyData.str "number", PyData.str "said", PyData.str "thing"],.tuple [PyData.str "all", PyData.str "some", PyData.str "one", PyData.str "none"]]
noncomputable def gav (t:Adr):Nat->V:=fun g=>([.ref t.jG,.ref t.jh]:List V)[g]?.getD .non
theorem bc {K:Fg} {mg:Str->Option Value} {t:Adr} (T:Txt K mg t):∀ g d,gds[g]?=some d->∀ F H,Dm K F H d (gav t g):=by
 intro g d h F H;rcases g with _ | g
 ·cases h;exact ⟨_,_,rfl,T.s_KINDS H,by decide,⟨_,_,rfl,⟨rfl,by decide +kernel,bu _⟩,⟨_,_,rfl,⟨rfl,by decide +kernel,bu _⟩,⟨_,_,rfl,⟨rfl,by decide +kernel,bu _⟩,rfl⟩⟩⟩⟩
 rcases g with _ | g
 ·cases h;exact ⟨_,_,rfl,T.s_LISTS H,by decide,⟨_,_,rfl,⟨rfl,by decide +kernel,bu _⟩,⟨_,_,rfl,⟨rfl,by decide +kernel,bu _⟩,⟨_,_,rfl,⟨rfl,by decide +kernel,bu _⟩,⟨_,_,rfl,⟨rfl,by decide +kernel,bu _⟩,rfl⟩⟩⟩⟩⟩
 cases h
theorem zt {env:Env} (c:Addr) (h:env.cells.lookup aq.g=some c):closureFor aq.scope env=pure [(aq.g,c)]:=by
 show closureFor { kind:=.function,names:=[("_law_one", .local),("_law_other", .local),("_law_good", .free)],isGenerator:=false,isCoroutine:=false,more:=[] } env=_;have h:env.cells.lookup ("_law_good" : Str)=some c:=h;simp [closureFor,cellOf,h];rfl
theorem Ba:eK ["_law_fact"] { kind:=.function,names:=[("_law_fact", .local),("_law_key", .globalImplicit)],isGenerator:=false,isCoroutine:=false,more:=[] }:=⟨rfl,rfl,rfl,by decide +kernel,by decide +kernel,by decide +kernel,fun us i y u hl h1 h2=>match us,i with
 | [_],0=>by cases h1;cases h2;rfl
 | [_],i+1=>by simp at h1⟩
theorem Br {P:Program} {w:World} {K:Fg} {mg:Str->Option Value} {base:Heap}:yL P w K mg base inP where
 S:=⟨rfl,rfl,rfl,by decide +kernel,by decide +kernel,rfl,fun y h=>by
  have h:List.lookup y [(("_law_one" : Str),NameKind.local),("_law_other", .local),("_law_good", .free)]=some .free:=h;have m:=Io h;simp at m;exact m,fun us i y u hl h1 h2=>match us,i with
  | [_,_],0=>by cases h1;cases h2;rfl
  | [_,_],1=>by cases h1;cases h2;rfl
  | [_,_],i+2=>by simp [aq] at h1⟩
 h2:=rfl
 hb:=fun _ _ _ _ us hl=>match us,hl with | [_,_],_=>rfl
 cB:=fun _ _ _ _ _ _ _ hr=>eT (jP hr.units) (eVx 0) (yr 2 rfl (.inr (.inr rfl)) rfl rfl) (by with_unfolding_all rfl)
noncomputable def iF:XS :=
 (.seq (.ifs (.tst (p1 (om "str") (vr 0))) (.ret (cs "thing")) .skip)
  (.seq (.ifs (.tst (p1 (om "tuple") (vr 0))) (.ret (cs "said")) .skip)
  (.ret (cs "number"))))
noncomputable def cZ:Fn:=cN gds [.dat] 1 iF
def nJ (K:Fg):Sp:=bZ cZ K
noncomputable def du:XS :=
 (.ret (.met xP (vr 0) (.cons (cs "^") .nil)))
noncomputable def a9:Fn:=cN gds [.dat] 1 du
def ix (K:Fg):Sp:=bZ a9 K
noncomputable def e6:XS :=
 (.ret (.ifx (.tst (.call a9 (.cons (vr 0) .nil))) (p2 Gn (vr 0) (ci 1)) (vr 0)))
noncomputable def df:Fn:=cN gds [.dat] 1 e6
def nv (K:Fg):Sp:=bZ df K
noncomputable def lN:XS :=
 (.seq (.bx 3 (.call df (.cons (vr 2) .nil)))
  (.seq (.ifs (.tst (.call a9 (.cons (vr 2) .nil))) (.ret (.cmp [3,1] (.tup (vr 0)) (.and (.tst (p2 eqP (p2 ixP (vr 0) (ci 1)) (vr 1))) (.tst (p2 eqP (p2 ixP (vr 0) (ci 2)) (vr 2)))) (p2 ixP (vr 0) (ci 0)))) .skip)
  (.ret (.cmp [1,3] (.tup (vr 0)) (.and (.tst (p2 eqP (p2 ixP (vr 0) (ci 0)) (vr 1))) (.tst (p2 eqP (p2 ixP (vr 0) (ci 1)) (vr 2)))) (p2 ixP (vr 0) (ci 2))))))
noncomputable def gL:Fn:=cN gds [.dat,.dat,.dat] 4 lN
def wM (K:Fg):Sp:=bZ gL K
noncomputable def gp:XS :=
 (.ret (p1 rL (.cmp [1] (.tup (vr 0)) (.tst (p2 eqP (p2 ixP (vr 0) (ci 0)) (vr 1))) (p2 ixP (vr 0) (ci 1)))))
noncomputable def dZ:Fn:=cN gds [.dat,.dat] 2 gp
def lg (K:Fg):Sp:=bZ dZ K
noncomputable def eS:XS :=
 (.ret (.rZ (p2 leP (vr 1) (vr 0)) (.orv (p2 isP (vr 2) (.cst .n)) (p2 leP (vr 0) (vr 2)))))
noncomputable def bt:Fn:=cN gds [.dat,.dat,.dat] 3 eS
def jo (K:Fg):Sp:=bZ bt K
noncomputable def dH:XS :=
 (.seq (.ifs (.tst (p2 neP (.call cZ (.cons (vr 1) .nil)) (cs "number"))) (.ret (.cst (.b false))) .skip)
  (.ret (.ifx (.tst (p2 eqP (p2 ixP (vr 0) (ci 0)) (cs "from"))) (p2 geP (vr 1) (p2 ixP (vr 0) (ci 1))) (p2 leP (vr 1) (p2 ixP (vr 0) (ci 1))))))
noncomputable def bJ:Fn:=cN gds [.dat,.dat] 2 dH
def iC (K:Fg):Sp:=bZ bJ K
noncomputable def n6 (F_keeps_form:Fn):XS :=
 (.seq (.bx 6 (ci 0))
  (.seq (.fr 7 (.tup (vr 1)) (.seq (.ifs (.tst (p2 eqP (.call F_keeps_form (.cons (vr 0) (.cons (vr 7) (.cons (vr 2) (.cons (vr 3) .nil))))) (vr 4))) (.bx 6 (p2 il (vr 6) (ci 1))) .skip)
  (.ifs (.tst (p2 eqP (vr 6) (vr 5))) (.ret (vr 6)) .skip)))
  (.ret (vr 6))))
noncomputable def gM (F_counted:Fn):XS :=
 (.seq (.bx 4 (p2 ixP (vr 1) (ci 0)))
  (.seq (.ifs (.tst (p2 eqP (vr 4) (cs "one"))) (.ret (p2 eqP (.call F_counted (.cons (vr 0) (.cons (p2 ixP (vr 1) (ci 1)) (.cons (vr 2) (.cons (vr 3) (.cons (.cst (.b true)) (.cons (ci 2) .nil))))))) (ci 1))) .skip)
  (.seq (.bx 5 (.call F_counted (.cons (vr 0) (.cons (p2 ixP (vr 1) (ci 1)) (.cons (vr 2) (.cons (vr 3) (.cons (p2 neP (vr 4) (cs "all")) (.cons (ci 1) .nil))))))))
  (.ret (.ifx (.tst (p2 eqP (vr 4) (cs "some"))) (p2 eqP (vr 5) (ci 1)) (p2 eqP (vr 5) (ci 0)))))))
noncomputable def ee (F_keeps_form:Fn):XS :=
 (.seq (.bx 4 (.call gL (.cons (vr 0) (.cons (vr 2) (.cons (p2 ixP (vr 1) (ci 3)) .nil)))))
  (.seq (.ifs (.and (.tst (p2 eqP (p2 ixP (vr 1) (ci 0)) (cs "each"))) (.not (.tst (.call bt (.cons (p1 lR (vr 4)) (.cons (p2 ixP (vr 1) (ci 1)) (.cons (p2 ixP (vr 1) (ci 2)) .nil))))))) (.ret (.cst (.b false))) .skip)
  (.seq (.bx 5 (.cmp [0,3,1] (.lst (vr 4)) (.tst (.call F_keeps_form (.cons (vr 1) (.cons (p2 ixP (vr 3) (ci 4)) (.cons (vr 0) (.cons (vr 2) .nil)))))) (vr 0)))
  (.seq (.ifs (.tst (p2 eqP (p2 ixP (vr 1) (ci 0)) (cs "each"))) (.ret (p2 eqP (p1 lR (vr 5)) (p1 lR (vr 4)))) .skip)
  (.ret (.call bt (.cons (p1 lR (vr 5)) (.cons (p2 ixP (vr 1) (ci 1)) (.cons (p2 ixP (vr 1) (ci 2)) .nil)))))))))
noncomputable def aD (F_keeps_form:Fn) (F_keeps_listed:Fn) (F_keeps_walk:Fn):XS :=
 (.seq (.bx 4 (p2 ixP (vr 1) (ci 0)))
  (.seq (.ifs (.tst (p2 eqP (vr 4) (cs "any"))) (.ret (.cst (.b true))) .skip)
  (.seq (.ifs (.tst (p2 inP (vr 4) (.glb 0))) (.ret (p2 eqP (.call cZ (.cons (vr 2) .nil)) (vr 4))) .skip)
  (.seq (.ifs (.tst (p2 inP (vr 4) (.tup (.cons (cs "from") (.cons (cs "upto") .nil))))) (.ret (.call bJ (.cons (vr 1) (.cons (vr 2) .nil)))) .skip)
  (.seq (.ifs (.tst (p2 eqP (vr 4) (cs "is"))) (.ret (p2 eqP (vr 2) (p2 ixP (vr 1) (ci 1)))) .skip)
  (.seq (.ifs (.tst (p2 eqP (vr 4) (cs "keeps"))) (.ret (.call (vT inP) (.cons (vr 3) (.cons (vr 2) (.cons (p2 ixP (vr 1) (ci 1)) .nil))))) .skip)
  (.seq (.ifs (.tst (p2 eqP (vr 4) (cs "not"))) (.ret (.yo (.call F_keeps_form (.cons (vr 0) (.cons (p2 ixP (vr 1) (ci 1)) (.cons (vr 2) (.cons (vr 3) .nil))))))) .skip)
  (.seq (.ifs (.tst (p2 eqP (vr 4) (cs "closed"))) (.ret (p1 Cf (.cmp [1] (.lst (.call dZ (.cons (vr 0) (.cons (vr 2) .nil)))) .yes (p2 inP (vr 0) (p2 ixP (vr 1) (ci 1)))))) .skip)
  (.seq (.ifs (.tst (p2 inP (vr 4) (.glb 1))) (.ret (.call F_keeps_listed (.cons (vr 0) (.cons (vr 1) (.cons (vr 2) (.cons (vr 3) .nil)))))) .skip)
  (.ret (.call F_keeps_walk (.cons (vr 0) (.cons (vr 1) (.cons (vr 2) (.cons (vr 3) .nil)))))))))))))))
noncomputable def i0 (F_keeps_form:Fn):Fn:=cN gds [.dat,.dat,.dat,.bor,.dat,.dat] 8 (n6 F_keeps_form)
noncomputable def cU (F_keeps_form:Fn):Fn:=cN gds [.dat,.dat,.dat,.bor] 6 (gM (i0 F_keeps_form))
noncomputable def cm (F_keeps_form:Fn):Fn:=cN gds [.dat,.dat,.dat,.bor] 6 (ee F_keeps_form)
noncomputable def aw:Nat->Fn
 | 0=>Fn.no [.dat,.dat,.dat,.bor]
 | n+1=>cN gds [.dat,.dat,.dat,.bor] 5 (aD (aw n) (cU (aw n)) (cm (aw n)))
noncomputable def nq (n:Nat):Fn:=i0 (aw n)
noncomputable def gF (n:Nat):Fn:=cU (aw n)
noncomputable def jb (n:Nat):Fn:=cm (aw n)
def nL (K:Fg) (n:Nat):Sp:=bZ (nq n) K
def gS (K:Fg) (n:Nat):Sp:=bZ (gF n) K
def jC (K:Fg) (n:Nat):Sp:=bZ (jb n) K
def eM (K:Fg) (n:Nat):Sp:=bZ (aw n) K
noncomputable def A4:XS :=
 (.ret (.dsp (.cons (cs "cells") (p2 C1 (vr 0) (ci 63)) (.cons (cs "place") (ci 0) (.cons (cs "rest") (ci 0) .nil)))))
noncomputable def mX:Fn:=cN gds [.dat] 1 A4
def vB (K:Fg):Sp:=bZ mX K
noncomputable def o9:XS :=
 (.seq (.ifs (.tst (p2 gtP (p2 jD (vr 0) (cs "rest")) (ci 0))) (.seq (.bx 2 (p2 r9 (p2 jD (vr 0) (cs "rest")) (vr 1)))
  (.seq (.sto tZ 0 (cs "rest") (p2 tM (p2 jD (vr 0) (cs "rest")) (vr 1)))
  (.ret (vr 2)))) .skip)
  (.seq (.bx 3 (p2 jD (vr 0) (cs "place")))
  (.seq (.sto tZ 0 (cs "place") (p2 il (vr 3) (ci 1)))
  (.seq (.bx 4 (ci 0))
  (.seq (.ifs (.tst (p2 gtP (p1 lR (p2 jD (vr 0) (cs "cells"))) (ci 0))) (.bx 4 (p2 ixP (p2 jD (vr 0) (cs "cells")) (p2 r9 (vr 3) (p1 lR (p2 jD (vr 0) (cs "cells")))))) .skip)
  (.seq (.ifs (.and (.tst (p2 ltP (vr 3) (p1 lR (p2 jD (vr 0) (cs "cells"))))) (.tst (p2 geP (p1 Ck (vr 4)) (p2 r8 (ci 10) (ci 18))))) (.seq (.sto tZ 0 (cs "rest") (p2 tM (p1 Ck (vr 4)) (vr 1)))
  (.ret (p2 r9 (p1 Ck (vr 4)) (vr 1)))) .skip)
  (.seq (.bx 5 (p2 r9 (p2 sf (p2 il (p2 r9 (vr 4) (ci 1000000007)) (ci 1)) (p2 il (p2 sf (ci 7919) (vr 3)) (ci 104729))) (ci 2147483647)))
  (.seq (.bx 6 (p2 r9 (p2 il (p2 il (p2 sf (vr 5) (vr 5)) (p2 sf (ci 48271) (vr 3))) (ci 11)) (ci 2147483629)))
  (.ret (p2 r9 (p2 tM (p2 r9 (p2 sf (vr 6) (vr 6)) (ci 1073741789)) (ci 5)) (vr 1)))))))))))
noncomputable def au:Fn:=cN gds [.ino,.dat] 7 o9
def cq (K:Fg):Sp:=bZ au K
noncomputable def mV:XS :=
 (.seq (.bx 2 (cs "abcdefghijklmnopqrstuvwxyz"))
  (.seq (.bx 3 (.cmp [2,0] (.rng1 (.cons (p2 il (ci 1) (.call au (.cons (vr 0) (.cons (ci 7) .nil)))) .nil)) .yes (p2 ixP (vr 1) (.call au (.cons (vr 2) (.cons (ci 26) .nil))))))
  (.seq (.ifs (.tst (p2 eqP (.call au (.cons (vr 0) (.cons (ci 4) .nil))) (ci 0))) (.seq (.bx 4 (p2 ixP (.lst (.cons (cs "any") (.cons (cs "all") (.cons (cs "is") (.cons (cs "keeps") (.cons (cs "many") (.cons (cs "shape") (.cons (cs "not") (.cons (cs "least") .nil))))))))) (.call au (.cons (vr 0) (.cons (ci 8) .nil)))))
  (.bx 3 (p2 C1 (p2 il (p1 xX (vr 4)) (vr 3)) (ci 7)))) .skip)
  (.seq (.bx 5 (.call au (.cons (vr 0) (.cons (p1 lR (vr 3)) .nil))))
  (.seq (.bx 6 (.call au (.cons (vr 0) (.cons (ci 26) .nil))))
  (.seq (.oo 7 (.lst .nil))
  (.seq (.fr 8 (.rng1 (.cons (vr 1) .nil)) (.seq (.oo 9 (p1 xX (vr 3)))
  (.seq (.sto Cc 9 (vr 5) (p2 ixP (vr 2) (p2 r9 (p2 il (vr 6) (p2 sf (ci 5) (vr 8))) (ci 26))))
  (.seq (.ifs (.tst (p2 eqP (.call au (.cons (vr 0) (.cons (ci 2) .nil))) (ci 0))) (.drop (.mtr sV 9 (.cons (p2 ixP (vr 2) (.call au (.cons (vr 0) (.cons (ci 26) .nil)))) .nil))) .skip)
  (.drop (.mtr sV 7 (.cons (.met joinM (cs "") (.cons (vr 9) .nil)) .nil)))))))
  (.ret (.tke 7)))))))))
noncomputable def fP:Fn:=cN gds [.ino,.dat] 10 mV
def jv (K:Fg):Sp:=bZ fP K
noncomputable def jV:XS :=
 (.seq (.bx 1 (.call au (.cons (vr 0) (.cons (ci 4) .nil))))
  (.seq (.ifs (.tst (p2 eqP (vr 1) (ci 0))) (.ret (.call au (.cons (vr 0) (.cons (ci 10) .nil)))) .skip)
  (.seq (.ifs (.tst (p2 eqP (vr 1) (ci 1))) (.ret (p2 pS (.call au (.cons (vr 0) (.cons (ci 61) .nil))) (ci 30))) .skip)
  (.seq (.bx 2 (p2 ixP (.lst (.cons (ci 1) (.cons (p1 D5 (ci 1)) .nil))) (.call au (.cons (vr 0) (.cons (ci 2) .nil)))))
  (.seq (.ifs (.tst (p2 eqP (vr 1) (ci 2))) (.ret (p2 sf (vr 2) (p2 pS (p2 pS (p2 r8 (ci 10) (ci 30)) (ci 1)) (.call au (.cons (vr 0) (.cons (ci 3) .nil)))))) .skip)
  (.ret (p2 sf (p2 sf (vr 2) (.call au (.cons (vr 0) (.cons (ci 1000) .nil)))) (p2 ixP (.lst (.cons (p2 r8 (ci 10) (ci 9)) (.cons (p2 r8 (ci 10) (ci 18)) (.cons (p2 r8 (ci 10) (ci 27)) .nil)))) (.call au (.cons (vr 0) (.cons (ci 3) .nil)))))))))))
noncomputable def cL:Fn:=cN gds [.ino] 3 jV
def gW (K:Fg):Sp:=bZ cL K
noncomputable def kM:XS :=
 (.seq (.bx 2 (cs "abcdefghijklmnopqrstuvwxyz"))
  (.seq (.oo 3 (.lst .nil))
  (.seq (.fr 4 (.rng1 (.cons (vr 1) .nil)) (.seq (.bx 5 (.call cL (.cons (vr 0) .nil)))
  (.seq (.ifs (.tst (p2 eqP (.call au (.cons (vr 0) (.cons (ci 3) .nil))) (ci 0))) (.bx 5 (.tup (.cons (.met joinM (cs "") (.cons (.cmp [2,0] (.rng1 (.cons (.call au (.cons (vr 0) (.cons (ci 9) .nil))) .nil)) .yes (p2 ixP (vr 1) (.call au (.cons (vr 2) (.cons (ci 26) .nil))))) .nil)) .nil))) .skip)
  (.ifs (.tst (p2 lY (vr 5) (vr 3))) (.drop (.mtr sV 3 (.cons (vr 5) .nil))) .skip))))
  (.ret (.tke 3)))))
noncomputable def gb:Fn:=cN gds [.ino,.dat] 6 kM
def jS (K:Fg):Sp:=bZ gb K
noncomputable def uM:XS :=
 (.seq (.ifs (.tst (p1 (om "tuple") (vr 0))) (.ret (.tup (.cons (ci 1) (.cons (ci 0) (.cons (p2 ixP (vr 0) (ci 0)) .nil))))) .skip)
  (.seq (.ifs (.tst (p1 (om "str") (vr 0))) (.ret (.tup (.cons (ci 2) (.cons (ci 0) (.cons (vr 0) .nil))))) .skip)
  (.ret (.tup (.cons (ci 0) (.cons (vr 0) (.cons (cs "") .nil)))))))
noncomputable def iX:Fn:=cN gds [.dat] 1 uM
def AM (K:Fg):Sp:=bZ iX K
noncomputable def pV:Fn:=cN gds [.dat] 1 (.ret (.tup (.cons (.prm ixP (.cons (vr 0) (.cons (ci 0) .nil))) (.cons (.prm ixP (.cons (vr 0) (.cons (ci 1) .nil))) (.cons (.call iX (.cons (.prm ixP (.cons (vr 0) (.cons (ci 2) .nil))) .nil)) .nil)))))
noncomputable def cJ:XS :=
 (.ret (p1 mT (p1 (Sg.vg fyS pV rfl) (p1 uH (vr 0)))))
noncomputable def bC:Fn:=cN gds [.dat] 1 cJ
def cK (K:Fg):Sp:=bZ bC K
noncomputable def Bz:XS :=
 (.seq (.bx 5 (.prm (AZ (aw 2)) (.cons (vr 0) (.cons (vr 1) (.cons (vr 2) (.cons (vr 3) .nil))))))
  (.ret (.rZ (p1 (om "bool") (vr 5)) (p2 eqP (vr 5) (vr 4)))))
noncomputable def dh:Fn:=cN gds [.dat,.dat,.dat,.dat,.dat] 6 Bz
def EN (K:Fg):Sp:=bZ dh K
noncomputable def jY:XS :=
 (.seq (.oo 1 (.lst .nil))
  (.seq (.fr 2 (.tup (.tup (.cons (p2 pS (vr 0) (ci 1)) (.cons (vr 0) (.cons (p2 il (vr 0) (ci 1)) .nil))))) (.fr 3 (.tup (.tup (.cons (.cst .n) (.cons (p2 pS (vr 0) (ci 1)) (.cons (vr 0) (.cons (p2 il (vr 0) (ci 1)) .nil)))))) (.ifs (.and (.tst (.chn leP leP (ci 0) (vr 2) (ci 60))) (.or (.tst (p2 isP (vr 3) (.cst .n))) (.tst (.chn leP leP (vr 2) (vr 3) (ci 60))))) (.drop (.mtr sV 1 (.cons (.tup (.cons (vr 2) (.cons (vr 3) .nil))) .nil))) .skip)))
  (.ret (.tke 1))))
noncomputable def d5:Fn:=cN gds [.dat] 4 jY
def qz (K:Fg):Sp:=bZ d5 K
noncomputable def fv:XS :=
 (.seq (.frT [5,6] (.lst (.call d5 (.cons (p1 lR (vr 3)) .nil))) (.seq (.bx 7 (.rZ (p2 leP (vr 5) (p1 lR (vr 3))) (.orv (p2 isP (vr 6) (.cst .n)) (p2 leP (p1 lR (vr 3)) (vr 6)))))
  (.ifs (.not (.tst (.call dh (.cons (vr 0) (.cons (.tup (.cons (cs "many") (.cons (vr 5) (.cons (vr 6) (.cons (vr 2) (.cons (.tup (.cons (cs "keeps") (.cons (cs "a") .nil))) .nil)))))) (.cons (vr 1) (.cons (vr 3) (.cons (vr 7) .nil)))))))) (.ret (.cst (.b false))) .skip)))
  (.seq (.frT [5,6] (.lst (.call d5 (.cons (vr 4) .nil))) (.seq (.bx 7 (.rZ (p2 leP (vr 5) (vr 4)) (.orv (p2 isP (vr 6) (.cst .n)) (p2 leP (vr 4) (vr 6)))))
  (.seq (.ifs (.not (.tst (.call dh (.cons (vr 0) (.cons (.tup (.cons (cs "each") (.cons (vr 5) (.cons (vr 6) (.cons (vr 2) (.cons (.tup (.cons (cs "any") .nil)) .nil)))))) (.cons (vr 1) (.cons (vr 3) (.cons (vr 7) .nil)))))))) (.ret (.cst (.b false))) .skip)
  (.seq (.bx 7 (.rZ (vr 7) (p2 eqP (p1 lR (vr 3)) (vr 4))))
  (.ifs (.not (.tst (.call dh (.cons (vr 0) (.cons (.tup (.cons (cs "each") (.cons (vr 5) (.cons (vr 6) (.cons (vr 2) (.cons (.tup (.cons (cs "keeps") (.cons (cs "a") .nil))) .nil)))))) (.cons (vr 1) (.cons (vr 3) (.cons (vr 7) .nil)))))))) (.ret (.cst (.b false))) .skip)))))
  (.ret (.cst (.b true)))))
noncomputable def cO:Fn:=cN gds [.dat,.dat,.dat,.dat,.dat] 8 fv
def fi (K:Fg):Sp:=bZ cO K
noncomputable def km:XS :=
 (.seq (.bx 3 (p1 rL (.cmp [1] (.tup (vr 0)) (.tst (p2 eqP (p2 ixP (vr 0) (ci 0)) (vr 1))) (p2 ixP (vr 0) (ci 1)))))
  (.seq (.bx 4 (p1 rL (p2 il (vr 3) (vr 2))))
  (.seq (.ifs (.not (.tst (.call dh (.cons (vr 0) (.cons (.tup (.cons (cs "closed") (.cons (p1 mT (vr 3)) .nil))) (.cons (vr 1) (.cons (.lst .nil) (.cons (.cst (.b true)) .nil)))))))) (.ret (.cst (.b false))) .skip)
  (.seq (.fr 5 (.lst (vr 4)) (.seq (.bx 6 (p1 mT (.cmp [5] (.lst (vr 4)) (.tst (p2 neP (vr 0) (vr 1))) (vr 0))))
  (.ifs (.not (.tst (.call dh (.cons (vr 0) (.cons (.tup (.cons (cs "closed") (.cons (vr 6) .nil))) (.cons (vr 1) (.cons (.lst .nil) (.cons (p2 lY (vr 5) (vr 3)) .nil)))))))) (.ret (.cst (.b false))) .skip)))
  (.ret (.call dh (.cons (vr 0) (.cons (.tup (.cons (cs "closed") (.cons (.tup .nil) .nil))) (.cons (vr 1) (.cons (.lst .nil) (.cons (p2 eqP (vr 3) (.lst .nil)) .nil)))))))))))
noncomputable def gq:Fn:=cN gds [.dat,.dat,.dat] 7 km
def kq (K:Fg):Sp:=bZ gq K
noncomputable def kG:XS :=
 (.seq (.fr 2 (.tup (.tup (.cons (p2 pS (vr 1) (ci 1)) (.cons (vr 1) (.cons (p2 il (vr 1) (ci 1)) .nil))))) (.fr 3 (.tup (.tup (.cons (vr 1) (.cons (vr 2) .nil)))) (.seq (.ifs (.not (.tst (.call dh (.cons (vr 0) (.cons (.tup (.cons (cs "from") (.cons (vr 2) .nil))) (.cons (vr 3) (.cons (.lst .nil) (.cons (p2 geP (vr 3) (vr 2)) .nil)))))))) (.ret (.cst (.b false))) .skip)
  (.ifs (.not (.tst (.call dh (.cons (vr 0) (.cons (.tup (.cons (cs "upto") (.cons (vr 2) .nil))) (.cons (vr 3) (.cons (.lst .nil) (.cons (p2 leP (vr 3) (vr 2)) .nil)))))))) (.ret (.cst (.b false))) .skip))))
  (.ret (.call dh (.cons (vr 0) (.cons (.tup (.cons (cs "closed") (.cons (.tup .nil) .nil))) (.cons (vr 1) (.cons (.lst .nil) (.cons (.cst (.b true)) .nil))))))))
noncomputable def fV:Fn:=cN gds [.dat,.dat] 4 kG
def kF (K:Fg):Sp:=bZ fV K
noncomputable def p7:XS :=
 (.seq (.fr 2 (.lst (vr 1)) (.seq (.fr 3 (.lst (vr 1)) (.ifs (.not (.tst (.call dh (.cons (vr 0) (.cons (.tup (.cons (cs "is") (.cons (vr 3) .nil))) (.cons (vr 2) (.cons (.lst .nil) (.cons (p2 eqP (.call iX (.cons (vr 2) .nil)) (.call iX (.cons (vr 3) .nil))) .nil)))))))) (.ret (.cst (.b false))) .skip))
  (.seq (.ifs (.not (.tst (p1 (om "int") (vr 2)))) (.ifs (.or (.not (.tst (.call dh (.cons (vr 0) (.cons (.tup (.cons (cs "from") (.cons (p1 D5 (ci 5)) .nil))) (.cons (vr 2) (.cons (.lst .nil) (.cons (.cst (.b false)) .nil)))))))) (.not (.tst (.call dh (.cons (vr 0) (.cons (.tup (.cons (cs "upto") (.cons (ci 5) .nil))) (.cons (vr 2) (.cons (.lst .nil) (.cons (.cst (.b false)) .nil))))))))) (.ret (.cst (.b false))) .skip) .skip)
  (.seq (.fr 4 (.rng1 (.cons (ci 3) .nil)) (.seq (.bx 5 (p2 ixP (.lst (.cons (cs "number") (.cons (cs "said") (.cons (cs "thing") .nil)))) (vr 4)))
  (.ifs (.not (.tst (.call dh (.cons (vr 0) (.cons (.tup (.cons (vr 5) .nil)) (.cons (vr 2) (.cons (.lst .nil) (.cons (p2 eqP (p2 ixP (.call iX (.cons (vr 2) .nil)) (ci 0)) (vr 4)) .nil)))))))) (.ret (.cst (.b false))) .skip)))
  (.ifs (.not (.tst (.call dh (.cons (vr 0) (.cons (.tup (.cons (cs "any") .nil)) (.cons (vr 2) (.cons (.lst .nil) (.cons (.cst (.b true)) .nil)))))))) (.ret (.cst (.b false))) .skip)))))
  (.ret (.cst (.b true))))
noncomputable def k7:Fn:=cN gds [.dat,.dat] 6 p7
def qW (K:Fg):Sp:=bZ k7 K
noncomputable def uY:XS :=
 (.seq (.oo 1 (.call mX (.cons (vr 0) .nil)))
  (.seq (.bx 2 (.call fP (.cons (vr 1) (.cons (ci 8) .nil))))
  (.seq (.bx 3 (.call fP (.cons (vr 1) (.cons (ci 3) .nil))))
  (.seq (.bx 4 (p2 ixP (vr 2) (.call au (.cons (vr 1) (.cons (ci 8) .nil)))))
  (.seq (.bx 5 (p2 eqP (.call au (.cons (vr 1) (.cons (ci 2) .nil))) (ci 0)))
  (.seq (.bx 6 (p2 C1 (.cmp [1] (.lst (p2 il (vr 2) (.call gb (.cons (vr 1) (.cons (ci 3) .nil))))) (.tst (p2 eqP (.call au (.cons (vr 1) (.cons (ci 2) .nil))) (ci 0))) (vr 0)) (ci 6)))
  (.seq (.ifs (.tst (vr 5)) (.bx 6 (.cmp [] (.lst (vr 6)) (.tst (p1 (om "str") (vr 0))) (vr 0))) .skip)
  (.seq (.oo 7 (.cmp [2,3,1] (.rng1 (.cons (ci 5) .nil)) .yes (.tup (.cons (p2 ixP (vr 1) (.call au (.cons (vr 3) (.cons (ci 8) .nil)))) (.cons (p2 ixP (vr 2) (ci 1)) (.cons (p2 ixP (vr 1) (.call au (.cons (vr 3) (.cons (ci 8) .nil)))) .nil))))))
  (.seq (.ifs (.and (.not (.tst (vr 5))) (.tst (p2 eqP (.call au (.cons (vr 1) (.cons (ci 6) .nil))) (ci 0)))) (.seq (.bx 6 (p1 lrP (p2 il (ci 57) (.call au (.cons (vr 1) (.cons (ci 4) .nil))))))
  (.oo 7 (.lst .nil))) .skip)
  (.seq (.fr 8 (.lst (vr 6)) (.ifs (.tst (vr 5)) (.drop (.mtr sV 7 (.cons (.tup (.cons (vr 8) (.cons (p2 ixP (vr 3) (ci 0)) (.cons (vr 4) .nil)))) .nil))) (.drop (.mtr sV 7 (.cons (.tup (.cons (vr 4) (.cons (p2 ixP (vr 3) (ci 0)) (.cons (vr 8) .nil)))) .nil)))))
  (.seq (.bx 9 (.call bC (.cons (p1 m5 (.cmp [] (.lst (vr 7)) .yes (.tup (.cons (vr 0) (.cons (.cst (.b true)) .nil))))) .nil)))
  (.seq (.bx 10 (.cmp [1] (.lst (vr 6)) (.tst (p2 eqP (.call au (.cons (vr 1) (.cons (ci 2) .nil))) (ci 0))) (vr 0)))
  (.seq (.bx 11 (p2 il (p2 ixP (.lst (.cons (cs "") (.cons (cs "^") .nil))) (p1 E2 (vr 5))) (p2 ixP (vr 3) (ci 0))))
  (.seq (.ifs (.not (.tst (.call cO (.cons (vr 9) (.cons (vr 4) (.cons (vr 11) (.cons (vr 10) (.cons (p1 lR (vr 6)) .nil)))))))) (.ret (.cst (.b false))) .skip)
  (.seq (.fr 8 (.lst (vr 2)) (.ifs (.not (.tst (.call gq (.cons (vr 9) (.cons (vr 8) (.cons (vr 3) .nil)))))) (.ret (.cst (.b false))) .skip))
  (.seq (.ifs (.not (.tst (.call fV (.cons (vr 9) (.cons (p2 Ec (p2 pS (ci 2) (p2 r8 (ci 10) (ci 30))) (p2 CH (p2 pS (p2 r8 (ci 10) (ci 30)) (ci 2)) (.call cL (.cons (vr 1) .nil)))) .nil))))) (.ret (.cst (.b false))) .skip)
  (.ret (.call k7 (.cons (vr 9) (.cons (.lst (.cons (p2 ixP (vr 2) (ci 0)) (.cons (.tup (.cons (p2 ixP (vr 2) (ci 0)) .nil)) (.cons (.call cL (.cons (vr 1) .nil)) (.cons (.tup (.cons (cs "") .nil)) (.cons (p2 ixP (vr 2) (ci 1)) .nil)))))) .nil))))))))))))))))))))
noncomputable def vF:Fn:=cN gds [.dat] 12 uY
def p0 (K:Fg):Sp:=bZ vF K
section
variable (P:Program) (w:World) (K:Fg) (mg:Str->Option Value) (base:Heap) (t:Adr)
abbrev gz:=bq P w K mg base CX0 1 (t.f 0).1 (t.f 0).2 ["node"] (nJ K)
abbrev cp:=bq P w K mg base CX0 1 (t.f 1).1 (t.f 1).2 ["step"] (ix K)
abbrev kJ:=bq P w K mg base CX0 2 (t.f 2).1 (t.f 2).2 ["step"] (nv K)
abbrev uK:=bq P w K mg base CX0 3 (t.f 3).1 (t.f 3).2 ["web", "node", "step"] (wM K)
abbrev iO:=bq P w K mg base CX0 1 (t.f 4).1 (t.f 4).2 ["web", "node"] (lg K)
abbrev fx:=bq P w K mg base CX0 1 (t.f 5).1 (t.f 5).2 ["count", "low", "high"] (jo K)
abbrev eE:=bq P w K mg base CX0 2 (t.f 6).1 (t.f 6).2 ["form", "node"] (iC K)
abbrev gN (l n:Nat):=bq P w K mg base CX0 l (t.f 7).1 (t.f 7).2 ["web", "forms", "node", "kept", "verdict", "enough"] (nL K n)
abbrev bL (l n:Nat):=bq P w K mg base CX0 l (t.f 8).1 (t.f 8).2 ["web", "form", "node", "kept"] (gS K n)
abbrev cR (l n:Nat):=bq P w K mg base CX0 l (t.f 9).1 (t.f 9).2 ["web", "form", "node", "kept"] (jC K n)
abbrev aL (l n:Nat):=bq P w K mg base CX0 l (t.f 10).1 (t.f 10).2 ["web", "form", "node", "kept"] (eM K n)
abbrev zf:=bq P w K mg base CX0 1 (t.f 11).1 (t.f 11).2 ["_law_script"] (vB K)
abbrev jQ:=bq P w K mg base CX0 1 (t.f 12).1 (t.f 12).2 ["_law_pen_here", "_law_many"] (cq K)
abbrev qm:=bq P w K mg base CX0 2 (t.f 13).1 (t.f 13).2 ["_law_pen_here", "_law_many"] (jv K)
abbrev jw:=bq P w K mg base CX0 2 (t.f 14).1 (t.f 14).2 ["_law_pen_here"] (gW K)
abbrev lW:=bq P w K mg base CX0 3 (t.f 15).1 (t.f 15).2 ["_law_pen_here", "_law_many"] (jS K)
abbrev xu:=bq P w K mg base CX0 1 (t.f 16).1 (t.f 16).2 ["_law_node"] (AM K)
abbrev dN:=bq P w K mg base CX0 5 (t.f 17).1 (t.f 17).2 ["_law_facts"] (cK K)
abbrev B2:=bq P w K mg base CX0 11 (t.f 18).1 (t.f 18).2 ["_law_web_here", "_law_form", "_law_node", "_law_good", "_law_due"] (EN K)
abbrev mW:=bq P w K mg base CX0 1 (t.f 19).1 (t.f 19).2 ["_law_many"] (qz K)
abbrev gU:=bq P w K mg base CX0 12 (t.f 20).1 (t.f 20).2 ["_law_web_here", "_law_node", "_law_step", "_law_good", "_law_many"] (fi K)
abbrev nc:=bq P w K mg base CX0 12 (t.f 21).1 (t.f 21).2 ["_law_web_here", "_law_node", "_law_bonds"] (kq K)
abbrev mZ:=bq P w K mg base CX0 12 (t.f 22).1 (t.f 22).2 ["_law_web_here", "_law_number_here"] (kF K)
abbrev uW:=bq P w K mg base CX0 12 (t.f 23).1 (t.f 23).2 ["_law_web_here", "_law_nodes"] (qW K)
abbrev Dp:=bq P w K mg base CX0 13 (t.f 24).1 (t.f 24).2 ["_law_script"] (p0 K)
end
section
variable {P:Program} {w:World} {K:Fg} {mg:Str->Option Value} {base:Heap} {t:Adr} {n:Nat} {cdv:Value} {A:Around} {outer:List Env} {s:Shared} {H:Hp} {E:XK}
theorem nO (T:Txt K mg t):gz P w K mg base t :=
 (T.d 0 rfl).ok nC (bc T) fun hr=>aA (bw (eUx (eIz T.z_isinstance (eVx 0) T.z_str)) (aF (aU aR)) bD) (aA (bw (eUx (eIz T.z_isinstance (eVx 0) T.z_tuple)) (aF (aU aR)) bD) (aF (aU aR)))
theorem iw (T:Txt K mg t):cp P w K mg base t :=
 (T.d 1 rfl).ok iB (bc T) fun hr=>aF (aU (eBM (eVx 0) (eAx (vU (v:=.str "^") rfl T.g_BACK ⟨_,rfl⟩ rfl) ai) qw PySem.F.plainAttrs_str PySem.F.slot_str_startswith PySem.F.type_str_startswith rfl rfl rfl rfl rfl))
theorem nX (T:Txt K mg t) (G1:cp P w K mg base t):kJ P w K mg base t :=
 (T.d 2 rfl).ok nY (bc T) fun hr=>aF (aU (eIf (eUx (eCx G1 hr (T.d 1 rfl) (eAx (eVx 0) ai))) (eSl (orS mQ (orS jq mF)) (eVx 0) (eP aj) Ct) (eVx 0)))
theorem wC (T:Txt K mg t) (G2:kJ P w K mg base t) (G1:cp P w K mg base t):uK P w K mg base t :=
 (T.d 3 rfl).ok qV (bc T) fun hr=>aA (eSy qV.nd 3 (eCx G2 hr (T.d 2 rfl) (eAx (eVx 2) ai))) (aA (bw (eUx (eCx G1 hr (T.d 1 rfl) (eAx (eVx 2) ai))) (aF (aU (eKx ["bond", "node"] (eIT (eVx 0)) (eT1 fun _ _ _ _=>(eW (nN (eTx (ar hr.units) (eIy (eVx 0) aj) (eVy 1)) (iK (eTx (ar hr.units) (eIy (eVx 0) aj) (eVy 2)))))) (eC fun _ _ _ _=>(eIy (eVx 0) aj)) (bsc (sc:=aa fM) rfl (by decide +kernel)) ⟨rfl,⟨rfl,rfl⟩,⟨rfl,⟨rfl,rfl⟩,trivial⟩⟩))) bD) (aF (aU (eKx ["node", "bond"] (eIT (eVx 0)) (eT1 fun _ _ _ _=>(eW (nN (eTx (ar hr.units) (eIy (eVx 0) aj) (eVy 1)) (iK (eTx (ar hr.units) (eIy (eVx 0) aj) (eVy 2)))))) (eC fun _ _ _ _=>(eIy (eVx 0) aj)) (bsc (sc:=aa fM) rfl (by decide +kernel)) ⟨rfl,⟨rfl,rfl⟩,⟨rfl,⟨rfl,rfl⟩,trivial⟩⟩))))
theorem lP (T:Txt K mg t):iO P w K mg base t :=
 (T.d 4 rfl).ok ll (bc T) fun hr=>aF (aU (eSS rfl rfl T.z_sorted rfl T.z_set rfl (eKx ["node"] (eIT (eVx 0)) (eT1 fun _ _ _ _=>(eTx (ar hr.units) (eIx aX (eVx 0) aj (fun _ _=>rfl)) (eVy 1))) (eC fun _ _ _ _=>(eIy (eVx 0) aj)) (bsc (sc:=aa cX) rfl (by decide +kernel)) ⟨rfl,⟨rfl,rfl⟩,trivial⟩)))
theorem jg (T:Txt K mg t):fx P w K mg base t :=
 (T.d 5 rfl).ok jy (bc T) fun hr=>aF (aU (Af (eT cA (eVx 1) (eVx 0) (aC _)) (uF (eOr (eT my (eVx 2) BL (aC _)) (uF (eT cA (eVx 0) (eVx 2) (aC _)))))))
theorem iA (T:Txt K mg t) (G0:gz P w K mg base t):eE P w K mg base t :=
 (T.d 6 rfl).ok iq (bc T) fun hr=>aA (bw (eTx (o7 hr.units) (eCx G0 hr (T.d 0 rfl) (eAx (eVx 1) ai)) aR) (aF (aU eBl)) bD) (aF (aU (eIf (eTx (ar hr.units) (eIy (eVx 0) aj) aR) (eT qJ (eVx 1) (eIy (eVx 0) aj) (aC _)) (eT cA (eVx 1) (eIy (eVx 0) aj) (aC _)))))
theorem iZ (T:Txt K mg t) (G10:aL P w K mg base t (4+3*n) n):gN P w K mg base t (5+3*n) n :=
 ((T.d 7 rfl).ok c8 (bc T) fun hr=>aA (eSx c8.nd 6 aj) (aA (eFx (eIT (eVx 1)) (eGx c8.nd 7) (aA (bw (eTx (ar hr.units) (eCx G10 hr (T.d 10 rfl) (eAx (eVx 0) (eAx (eVx 7) (eAx (eVx 2) (eAx (eVx 3) ai))))) (eVx 4)) (aF (eSx c8.nd 6 (eOp aS (eVx 6) aj))) bD) (aF (bw (eTx (ar hr.units) (eVx 6) (eVx 5)) (aF (aU (eVx 6))) bD)))) (aF (aU (eVx 6)))):gN P w K mg base t ((4+3*n)+1) n).mono (by omega)
theorem cV (T:Txt K mg t) (G7:gN P w K mg base t (5+3*n) n):bL P w K mg base t (6+3*n) n :=
 ((T.d 8 rfl).ok bz (bc T) fun hr=>aA (eSx bz.nd 4 (eIy (eVx 1) aj)) (aA (bw (eTx (ar hr.units) (eVx 4) aR) (aF (aU (eT (ar hr.units) (eCx G7 hr (T.d 7 rfl) (eAx (eVx 0) (eAx (eIy (eVx 1) aj) (eAx (eVx 2) (eAx (eVx 3) (eAx eBl (eA aj ai rfl))))))) aj (aC _)))) bD) (aA (eSx bz.nd 5 (eCx G7 hr (T.d 7 rfl) (eAx (eVx 0) (eAx (eIy (eVx 1) aj) (eAx (eVx 2) (eAx (eVx 3) (eA (eT (o7 hr.units) (eVx 4) aR (aC _)) (eA aj ai rfl) rfl))))))) (aF (aU (eIf (eTx (ar hr.units) (eVx 4) aR) (eT (ar hr.units) (eVx 5) aj (aC _)) (eT (ar hr.units) (eVx 5) aj (aC _))))))):bL P w K mg base t ((5+3*n)+1) n).mono (by omega)
theorem d7 (T:Txt K mg t) (G3:uK P w K mg base t) (G5:fx P w K mg base t) (G10:aL P w K mg base t (4+3*n) n):cR P w K mg base t (5+3*n) n :=
 ((T.d 9 rfl).ok b9 (bc T) fun hr=>aA (eSx b9.nd 4 (eCx G3 hr (T.d 3 rfl) (eAx (eVy 0) (eAx (eVx 2) (eA (eIx aX (eVy 1) aj (fun _ _=>rfl)) ai rfl))))) (aA (bw (eW (nN (eTx (ar hr.units) (eIy (eVy 1) aj) aR) (iK (cF (eUx (eCx G5 hr (T.d 5 rfl) (eAx (eBs a6 T.z_len (eAx (eVx 4) ai)) (eAx (eIy (eVy 1) aj) (eAx (eIx aX (eVy 1) aj (fun _ _=>rfl)) ai))))))))) (aF (aU eBl)) bD) (aA (oE (i:=5) ["web", "kept", "form"] (eIL (eVx 4)) (eT1 fun _ _ _ _=>(eUx (eCx G10 hr (T.d 10 rfl) (eAx (eVy 1) (eAx (eIy (eVy 3) aj) (eAx (eVx 0) (eA (eVy 2) ai rfl))))))) (eC fun _ _ _ _=>(eVx 0)) b9.nd rfl rfl rfl rfl (bsc (sc:=aa bM) rfl (by decide +kernel)) (by decide +kernel) ⟨rfl,⟨rfl,rfl⟩,⟨rfl,⟨rfl,rfl⟩,⟨rfl,⟨rfl,rfl⟩,trivial⟩⟩⟩ (fun _=>rfl)) (aA (bw (eTx (ar hr.units) (eIy (eVy 1) aj) aR) (aF (aU (eT (ar hr.units) (eBs a6 T.z_len (eAx (eVx 5) ai)) (eBs a6 T.z_len (eAx (eVx 4) ai)) (aC _)))) bD) (aF (aU (eCx G5 hr (T.d 5 rfl) (eAx (eBs a6 T.z_len (eAx (eVx 5) ai)) (eAx (eIy (eVy 1) aj) (eAx (eIy (eVy 1) aj) ai))))))))):cR P w K mg base t ((4+3*n)+1) n).mono (by omega)
theorem jF (T:Txt K mg t) (G0:gz P w K mg base t) (G6:eE P w K mg base t) (G10:aL P w K mg base t (4+3*n) n) (G4:iO P w K mg base t) (G8:bL P w K mg base t (6+3*n) n) (G9:cR P w K mg base t (5+3*n) n):aL P w K mg base t (4+3*(n+1)) (n+1) :=
 ((T.d 10 rfl).ok cf (bc T) fun hr=>aA (eSx cf.nd 4 (eIy (eVy 1) aj)) (aA (bw (eTx (ar hr.units) (eVx 4) aR) (aF (aU eBl)) bD) (aA (bw (kR (jP hr.units) (eVx 4) (vU (v:=.ref t.jG) rfl T.g_KINDS rfl rfl) (by with_unfolding_all rfl)) (aF (aU (eT (ar hr.units) (eCx G0 hr (T.d 0 rfl) (eAx (eVx 2) ai)) (eVx 4) (aC _)))) bD) (aA (bw (kR (jP hr.units) (eVx 4) (cG (eAx aR (eAx aR ai))) (by with_unfolding_all rfl)) (aF (aU (eCx G6 hr (T.d 6 rfl) (eAx (eVy 1) (eAx (eVx 2) ai))))) bD) (aA (bw (eTx (ar hr.units) (eVx 4) aR) (aF (aU (eT (ar hr.units) (eVx 2) (eIy (eVy 1) aj) (aC _)))) bD) (aA (bw (eTx (ar hr.units) (eVx 4) aR) (aF (aU (eKc (k:=0) Br (hr.mono (by omega)) 3 (eAx (eVx 2) (eAx (eIy (eVy 1) aj) ai))))) bD) (aA (bw (eTx (ar hr.units) (eVx 4) aR) (aF (aU (GL (eCx G10 hr (T.d 10 rfl) (eAx (eVx 0) (eAx (eIy (eVy 1) aj) (eAx (eVx 2) (eAx (eVx 3) ai)))))))) bD) (aA (bw (eTx (ar hr.units) (eVx 4) aR) (aF (aU (eBs (vX rfl) T.z_all (eAx (eKx ["form"] (eIL (eCx G4 hr (T.d 4 rfl) (eAx (eVx 0) (eAx (eVx 2) ai)))) eT0 (eC fun _ _ _ _=>(eT (jP hr.units) (eVx 0) (eIy (eVy 1) aj) (by with_unfolding_all rfl))) (bsc (sc:=aa bI) rfl (by decide +kernel)) ⟨rfl,⟨rfl,rfl⟩,trivial⟩) ai)))) bD) (aA (bw (kR (jP hr.units) (eVx 4) (vU (v:=.ref t.jh) rfl T.g_LISTS rfl rfl) (by with_unfolding_all rfl)) (aF (aU (eCx G8 hr (T.d 8 rfl) (eAx (eVx 0) (eAx (eVy 1) (eAx (eVx 2) (eAx (eVx 3) ai))))))) bD) (aF (aU (eCx G9 hr (T.d 9 rfl) (eAx (eVx 0) (eAx (eVy 1) (eAx (eVx 2) (eAx (eVx 3) ai))))))))))))))):aL P w K mg base t ((6+3*n)+1) (n+1)).mono (by omega)
theorem j0 (T:Txt K mg t):aL P w K mg base t (3+1) 0 :=
 bq.no (k:=3) (T.d 10 rfl).F cf fun vs H Q E h=>by obtain ⟨G,ds,is,pr,outs,hF,_⟩:=h;cases hF
theorem Bx (T:Txt K mg t):zf P w K mg base t :=
 (T.d 11 rfl).ok zW (bc T) fun hr=>aF (aU (zG (ePC aR (eSl (orS mQ (orS jq mF)) (eVx 0) Ct (eP aj)) (ePC aR aj (ePC aR aj ePN))) (by rfl) (by rfl) (by simp) (by decide)))
theorem w5 (T:Txt K mg t):jQ P w K mg base t :=
 (T.d 12 rfl).ok dY (bc T) fun hr=>aA (bw (eTx vD (j4 hr.units (eVx 0) aR (fun _ _=>rfl)) aj) (aA (eSx dY.nd 2 (eOp cn (j4 hr.units (eVx 0) aR (fun _ _=>rfl)) (eVx 1))) (aA (xx hr.units (eVx 0) aR (eOp jf (j4 hr.units (eVx 0) aR (fun _ _=>rfl)) (eVx 1)) rfl) (aF (aU (eVx 2))))) bD) (aA (eSx dY.nd 3 (j4 hr.units (eVx 0) aR (fun _ _=>rfl))) (aA (xx hr.units (eVx 0) aR (eOp aS (eVx 3) aj) rfl) (aA (eSx dY.nd 4 aj) (aA (bw (eTx vD (eBs a6 T.z_len (eAx (j4 hr.units (eVx 0) aR (fun _ _=>rfl)) ai)) aj) (aF (eSx dY.nd 4 (eIy (j4 hr.units (eVx 0) aR (fun _ _=>rfl)) (eOp cn (eVx 3) (eBs a6 T.z_len (eAx (j4 hr.units (eVx 0) aR (fun _ _=>rfl)) ai)))))) bD) (aA (bw (eW (nN (eTx yP (eVx 3) (eBs a6 T.z_len (eAx (j4 hr.units (eVx 0) aR (fun _ _=>rfl)) ai))) (iK (eTx qJ (eBs lj T.z_abs (eAx (eVx 4) ai)) (eOp dO aj aj))))) (aA (xx hr.units (eVx 0) aR (eOp jf (eBs lj T.z_abs (eAx (eVx 4) ai)) (eVx 1)) rfl) (aF (aU (eOp cn (eBs lj T.z_abs (eAx (eVx 4) ai)) (eVx 1))))) bD) (aA (eSx dY.nd 5 (eOp cn (eOp cj (eOp aS (eOp cn (eVx 4) aj) aj) (eOp aS (eOp cj aj (eVx 3)) aj)) aj)) (aA (eSx dY.nd 6 (eOp cn (eOp aS (eOp aS (eOp cj (eVx 5) (eVx 5)) (eOp cj aj (eVx 3))) aj) aj)) (aF (aU (eOp cn (eOp jf (eOp cn (eOp cj (eVx 6) (eVx 6)) aj) aj) (eVx 1)))))))))))
theorem tO (T:Txt K mg t) (G12:jQ P w K mg base t):qm P w K mg base t :=
 (T.d 13 rfl).ok a7 (bc T) fun hr=>aA (eSy a7.nd 2 aR) (aA (oE (i:=3) ["_law_letters", "_law_pen_here"] (eR1 rfl T.z_range (eAx (eOp aS aj (eCx G12 hr (T.d 12 rfl) (eAx (eVy 0) (eAx aj ai)))) ai) rfl) eT0 (eC fun _ _ _ _=>(eIy (eVy 1) (eCx G12 hr (T.d 12 rfl) (eAx (eVy 2) (eAx aj ai))))) a7.nd rfl rfl rfl rfl (bsc (sc:=aa gE) rfl (by decide +kernel)) (by decide +kernel) ⟨rfl,⟨rfl,rfl⟩,⟨rfl,⟨rfl,rfl⟩,trivial⟩⟩ (fun _=>rfl)) (aA (bw (eTx (ar hr.units) (eCx G12 hr (T.d 12 rfl) (eAx (eVy 0) (eAx aj ai))) aj) (aA (eSx a7.nd 4 (eIy (ij (eAx aR (eAx aR (eAx aR (eAx aR (eAx aR (eA aR (eA aR (eA aR ai rfl) rfl) rfl))))))) (eCx G12 hr (T.d 12 rfl) (eAx (eVy 0) (eAx aj ai))))) (aF (eSx a7.nd 3 (eSl (orS mQ (orS jq mF)) (eOp aS (eTs (mr rfl) T.z_list (eAx (eVx 4) ai)) (eVx 3)) Ct (eP aj))))) bD) (aA (eSx a7.nd 5 (eCx G12 hr (T.d 12 rfl) (eAx (eVy 0) (eAx (eBs a6 T.z_len (eAx (eVx 3) ai)) ai)))) (aA (eSx a7.nd 6 (eCx G12 hr (T.d 12 rfl) (eAx (eVy 0) (eAx aj ai)))) (aA (eSx a7.nd 7 (ij ai)) (aA (eFx (eR1 rfl T.z_range (eAx (eVx 1) ai) rfl) (eGx a7.nd 8) (aA (eSx a7.nd 9 (eTs (mr rfl) T.z_list (eAx (eVx 3) ai))) (aA (F9 (eIy (eVy 2) (eOp cn (eOp aS (eVx 6) (eOp cj aj (eVx 8))) aj)) (Ge (eVx 9) (eVx 5) set_list (fun _=>rfl)) rfl rfl rfl) (aA (bw (eTx (ar hr.units) (eCx G12 hr (T.d 12 rfl) (eAx (eVy 0) (eAx aj ai))) aj) (aF (nB (eBM (eVx 9) (eAx (eIy (eVy 2) (eCx G12 hr (T.d 12 rfl) (eAx (eVy 0) (eAx aj ai)))) ai) bV IM IL IK rfl rfl rfl rfl rfl) rfl)) bD) (aF (nB (eBM (eVx 7) (eAx (eBM aR (eAx (eVx 9) ai) ml PySem.F.plainAttrs_str PySem.F.slot_str_join PySem.F.type_str_join rfl rfl rfl rfl rfl) ai) bV IM IL IK rfl rfl rfl rfl rfl) rfl)))))) (aF (aU (eVx 7)))))))))
theorem pL (T:Txt K mg t) (G12:jQ P w K mg base t):jw P w K mg base t :=
 (T.d 14 rfl).ok gi (bc T) fun hr=>aA (eSx gi.nd 1 (eCx G12 hr (T.d 12 rfl) (eAx (eVx 0) (eAx aj ai)))) (aA (bw (eTx (ar hr.units) (eVx 1) aj) (aF (aU (eCx G12 hr (T.d 12 rfl) (eAx (eVx 0) (eAx aj ai))))) bD) (aA (bw (eTx (ar hr.units) (eVx 1) aj) (aF (aU (eOp cS (eCx G12 hr (T.d 12 rfl) (eAx (eVx 0) (eAx aj ai))) aj))) bD) (aA (eSx gi.nd 2 (eIy (ij (eAx aj (eAx (eUy aj) ai))) (eCx G12 hr (T.d 12 rfl) (eAx (eVx 0) (eAx aj ai))))) (aA (bw (eTx (ar hr.units) (eVx 1) aj) (aF (aU (eOp cj (eVx 2) (eOp cS (eOp cS (eOp dO aj aj) aj) (eCx G12 hr (T.d 12 rfl) (eAx (eVx 0) (eAx aj ai))))))) bD) (aF (aU (eOp cj (eOp cj (eVx 2) (eCx G12 hr (T.d 12 rfl) (eAx (eVx 0) (eAx aj ai)))) (eIy (ij (eAx (eOp dO aj aj) (eAx (eOp dO aj aj) (eAx (eOp dO aj aj) ai)))) (eCx G12 hr (T.d 12 rfl) (eAx (eVx 0) (eAx aj ai)))))))))))
theorem qL (T:Txt K mg t) (G14:jw P w K mg base t) (G12:jQ P w K mg base t):lW P w K mg base t :=
 (T.d 15 rfl).ok bT (bc T) fun hr=>aA (eSy bT.nd 2 aR) (aA (eSx bT.nd 3 (ij ai)) (aA (eFx (eR1 rfl T.z_range (eAx (eVx 1) ai) rfl) (eGx bT.nd 4) (aA (eSx bT.nd 5 (eCx G14 hr (T.d 14 rfl) (eAx (eVy 0) ai))) (aA (bw (eTx (ar hr.units) (eCx G12 hr (T.d 12 rfl) (eAx (eVy 0) (eAx aj ai))) aj) (aF (eSx bT.nd 5 (cG (eAx (eBM aR (eAx (eKx ["_law_letters", "_law_pen_here"] (eR1 rfl T.z_range (eAx (eCx G12 hr (T.d 12 rfl) (eAx (eVy 0) (eAx aj ai))) ai) rfl) eT0 (eC fun _ _ _ _=>(eIy (eVy 1) (eCx G12 hr (T.d 12 rfl) (eAx (eVy 2) (eAx aj ai))))) (bsc (sc:=aa e7) rfl (by decide +kernel)) ⟨rfl,⟨rfl,rfl⟩,⟨rfl,⟨rfl,rfl⟩,trivial⟩⟩) ai) ml PySem.F.plainAttrs_str PySem.F.slot_str_join PySem.F.type_str_join rfl rfl rfl rfl rfl) ai)))) bD) (aF (bw (kR (j9 hr.units) (eVx 5) (eVx 3) (by with_unfolding_all rfl)) (aF (nB (eBM (eVx 3) (eAx (eVx 5) ai) bV IM IL IK rfl rfl rfl rfl rfl) rfl)) bD))))) (aF (aU (eVx 3)))))
theorem zY (T:Txt K mg t):xu P w K mg base t :=
 (T.d 16 rfl).ok zd (bc T) fun hr=>aA (bw (eUx (eIz T.z_isinstance (eVx 0) T.z_tuple)) (aF (aU (cG (eAx aj (eAx aj (eAx (eIy (eVx 0) aj) ai)))))) bD) (aA (bw (eUx (eIz T.z_isinstance (eVx 0) T.z_str)) (aF (aU (cG (eAx aj (eAx aj (eAx (eVx 0) ai)))))) bD) (aF (aU (cG (eAx aj (eAx (eVx 0) (eAx aR ai)))))))
theorem gh (T:Txt K mg t) (G16:xu P w K mg base t):dN P w K mg base t :=
 (T.d 17 rfl).okC T.ip gB (bc T) fun hr=>aF (aU (eTs fT T.z_tuple (eAx (uo (k:=1) fyS (Hr _ Hu) rfl (bc T) Ba (hr.mono (by omega)) T.z_sorted (fun _ _ _ _=>rfl) (fun _ _ _ _ _ hr=>(cG (eAx (eIx aX (yr 0 rfl (Or.inl rfl) rfl rfl) aj (fun _ _=>rfl)) (eA (eIx aX (yr 0 rfl (Or.inl rfl) rfl rfl) aj (fun _ _=>rfl)) (eA (wI G16 (hr.mono (by omega)) rfl (T.d 16 rfl).m (T.d 16 rfl).F.kp (T.d 16 rfl).b .nil oF (eA (eIx aX (yr 0 rfl (Or.inl rfl) rfl rfl) aj (fun _ _=>rfl)) ai rfl) rfl rfl rfl) ai rfl) rfl)))) (eTs (o6 rfl) T.z_list (eAx (eVx 0) ai))) ai)))
theorem Ez (T:Txt K mg t) (G10:aL P w K mg base t 10 2):B2 P w K mg base t :=
 (T.d 18 rfl).okC T.Gw Bs (bc T) fun hr=>aA (eSx Bs.nd 5 (DT G10 hr (T.d 10 rfl) Hu rfl rfl rfl rfl zt (jB rfl) (eVx 0) (eVx 1) (eVx 2) rfl)) (aF (aU (Af (eIz T.z_isinstance (eVx 5) T.z_bool) (uF (eT (ar hr.units) (eVx 5) (eVx 4) (aC _))))))
theorem qd (T:Txt K mg t):mW P w K mg base t :=
 (T.d 19 rfl).ok eh (bc T) fun hr=>aA (eSx eh.nd 1 (ij ai)) (aA (eFx (eIT (cG (eAx (eOp cS (eVx 0) aj) (eAx (eVx 0) (eAx (eOp aS (eVx 0) aj) ai))))) (eGx eh.nd 2) (aF (eFx (eIT (cG (eAx BL (eAx (eOp cS (eVx 0) aj) (eAx (eVx 0) (eAx (eOp aS (eVx 0) aj) ai)))))) (eGx eh.nd 3) (aF (bw (eW (nN (rO cA cA aj (eVx 2) aj (by with_unfolding_all rfl)) (iK (eW (F3 (eTx my (eVx 3) BL) (Ah (rO cA cA (eVx 2) (eVx 3) aj (by with_unfolding_all rfl)))))))) (aF (nB (eBM (eVx 1) (eAx (cG (eAx (eVx 2) (eAx (eVx 3) ai))) ai) bV IM IL IK rfl rfl rfl rfl rfl) rfl)) bD))))) (aF (aU (eVx 1))))
theorem ku (T:Txt K mg t) (G19:mW P w K mg base t) (G18:B2 P w K mg base t):gU P w K mg base t :=
 (T.d 20 rfl).ok aI (bc T) fun hr=>aA (eFx (eIL (eCx G19 hr (T.d 19 rfl) (eAx (eBs a6 T.z_len (eAx (eVx 3) ai)) ai))) (eGT (n:=2) rfl (Cn (i:=5) aI.nd rfl (Or.inl rfl) (Or.inl rfl) (Cn (i:=6) aI.nd rfl (Or.inl rfl) (Or.inl rfl) FZ)) rfl rfl) (aA (eSx aI.nd 7 (Af (eT cA (eVx 5) (eBs a6 T.z_len (eAx (eVx 3) ai)) (aC _)) (uF (eOr (eT my (eVx 6) BL (aC _)) (uF (eT cA (eBs a6 T.z_len (eAx (eVx 3) ai)) (eVx 6) (aC _))))))) (aF (bw (cF (eUx (eCx G18 hr (T.d 18 rfl) (eAx (eVx 0) (eAx (cG (eAx aR (eAx (eVx 5) (eA (eVx 6) (eA (eVx 2) (eA (cG (eA aR (eA aR ai rfl) rfl)) ai rfl) rfl) rfl)))) (eAx (eVx 1) (eAx (eVx 3) (eA (eVx 7) ai rfl)))))))) (aF (aU eBl)) bD)))) (aA (eFx (eIL (eCx G19 hr (T.d 19 rfl) (eAx (eVx 4) ai))) (eGT (n:=2) rfl (Cn (i:=5) aI.nd rfl (Or.inl rfl) (Or.inl rfl) (Cn (i:=6) aI.nd rfl (Or.inl rfl) (Or.inl rfl) FZ)) rfl rfl) (aA (eSx aI.nd 7 (Af (eT cA (eVx 5) (eVx 4) (aC _)) (uF (eOr (eT my (eVx 6) BL (aC _)) (uF (eT cA (eVx 4) (eVx 6) (aC _))))))) (aA (bw (cF (eUx (eCx G18 hr (T.d 18 rfl) (eAx (eVx 0) (eAx (cG (eAx aR (eAx (eVx 5) (eAx (eVx 6) (eA (eVx 2) (eA (cG (eA aR ai rfl)) ai rfl) rfl))))) (eAx (eVx 1) (eAx (eVx 3) (eAx (eVx 7) ai)))))))) (aF (aU eBl)) bD) (aA (eSx aI.nd 7 (Af (eVx 7) (uF (eT (ar hr.units) (eBs a6 T.z_len (eAx (eVx 3) ai)) (eVx 4) (aC _))))) (aF (bw (cF (eUx (eCx G18 hr (T.d 18 rfl) (eAx (eVx 0) (eAx (cG (eAx aR (eAx (eVx 5) (eAx (eVx 6) (eAx (eVx 2) (eAx (cG (eA aR (eA aR ai rfl) rfl)) ai)))))) (eAx (eVx 1) (eAx (eVx 3) (eAx (eVx 7) ai)))))))) (aF (aU eBl)) bD)))))) (aF (aU eBl)))
theorem q8 (T:Txt K mg t) (G18:B2 P w K mg base t):nc P w K mg base t :=
 (T.d 21 rfl).ok cY (bc T) fun hr=>aA (eSx cY.nd 3 (eSS rfl rfl T.z_sorted rfl T.z_set rfl (eKx ["_law_node"] (eIT (eVx 0)) (eT1 fun _ _ _ _=>(eTx (ar hr.units) (eIx aX (eVx 0) aj (fun _ _=>rfl)) (eVy 1))) (eC fun _ _ _ _=>(eIy (eVx 0) aj)) (bsc (sc:=aa de) rfl (by decide +kernel)) ⟨rfl,⟨rfl,rfl⟩,trivial⟩))) (aA (eSx cY.nd 4 (eSS rfl rfl T.z_sorted rfl T.z_set rfl (eOp aS (eVx 3) (eVx 2)))) (aA (bw (cF (eUx (eCx G18 hr (T.d 18 rfl) (eAx (eVx 0) (eAx (cG (eAx aR (eAx (eTs fT T.z_tuple (eA (eVx 3) ai rfl)) ai))) (eAx (eVy 1) (eAx (ij ai) (eA eBl ai rfl)))))))) (aF (aU eBl)) bD) (aA (eFx (eIL (eVx 4)) (eGy cY.nd 5) (aA (eSx cY.nd 6 (eTs fT T.z_tuple (eAx (eKx ["_law_bond"] (eIL (eVx 4)) (eT1 fun _ _ _ _=>(eTx (o7 hr.units) (eVx 0) (eVy 1))) (eC fun _ _ _ _=>(eVx 0)) (bsc (sc:=aa de) rfl (by decide +kernel)) ⟨rfl,⟨rfl,rfl⟩,trivial⟩) ai))) (aF (bw (cF (eUx (eCx G18 hr (T.d 18 rfl) (eAx (eVx 0) (eAx (cG (eAx aR (eAx (eVx 6) ai))) (eAx (eVy 1) (eAx (ij ai) (eAx (eT (j9 hr.units) (eVy 5) (eVx 3) (by with_unfolding_all rfl)) ai)))))))) (aF (aU eBl)) bD)))) (aF (aU (eCx G18 hr (T.d 18 rfl) (eAx (eVx 0) (eAx (cG (eAx aR (eAx (cG ai) ai))) (eAx (eVy 1) (eAx (ij ai) (eAx (eT (ar hr.units) (eVx 3) (ij ai) (aC _)) ai)))))))))))
theorem p6 (T:Txt K mg t) (G18:B2 P w K mg base t):mZ P w K mg base t :=
 (T.d 22 rfl).ok gj (bc T) fun hr=>aA (eFx (eIT (cG (eAx (eOp cS (eVx 1) aj) (eAx (eVx 1) (eA (eOp aS (eVx 1) aj) ai rfl))))) (eGx gj.nd 2) (aF (eFx (eIT (cG (eAx (eVx 1) (eAx (eVx 2) ai)))) (eGx gj.nd 3) (aA (bw (cF (eUx (eCx G18 hr (T.d 18 rfl) (eAx (eVx 0) (eAx (cG (eAx aR (eAx (eVx 2) ai))) (eAx (eVx 3) (eAx (ij ai) (eA (eT qJ (eVx 3) (eVx 2) (aC _)) ai rfl)))))))) (aF (aU eBl)) bD) (aF (bw (cF (eUx (eCx G18 hr (T.d 18 rfl) (eAx (eVx 0) (eAx (cG (eAx aR (eAx (eVx 2) ai))) (eAx (eVx 3) (eAx (ij ai) (eAx (eT cA (eVx 3) (eVx 2) (aC _)) ai)))))))) (aF (aU eBl)) bD)))))) (aF (aU (eCx G18 hr (T.d 18 rfl) (eAx (eVx 0) (eAx (cG (eAx aR (eA (cG ai) ai rfl))) (eAx (eVx 1) (eA (ij ai) (eA eBl ai rfl) rfl)))))))
theorem vK (T:Txt K mg t) (G18:B2 P w K mg base t) (G16:xu P w K mg base t):uW P w K mg base t :=
 (T.d 23 rfl).ok gJ (bc T) fun hr=>aA (eFx (eIL (eVx 1)) (eGx gJ.nd 2) (aA (eFx (eIL (eVx 1)) (eGx gJ.nd 3) (aF (bw (cF (eUx (eCx G18 hr (T.d 18 rfl) (eAx (eVx 0) (eAx (cG (eAx aR (eAx (eVx 3) ai))) (eAx (eVx 2) (eAx (ij ai) (eA (eT (ar hr.units) (eCl G16 hr (T.d 16 rfl).m (T.d 16 rfl).F.kp (T.d 16 rfl).b (eA (eVx 2) ai rfl)) (eCl G16 hr (T.d 16 rfl).m (T.d 16 rfl).F.kp (T.d 16 rfl).b (eA (eVx 3) ai rfl)) (aC _)) ai rfl)))))))) (aF (aU eBl)) bD))) (aA (bw (cF (eUx (eIz T.z_isinstance (eVx 2) T.z_int))) (aF (bw (eW (F3 (cF (eUx (eCx G18 hr (T.d 18 rfl) (eAx (eVx 0) (eAx (cG (eAx aR (eAx (eUy aj) ai))) (eAx (eVx 2) (eAx (ij ai) (eAx eBl ai)))))))) (Ah (cF (eUx (eCx G18 hr (T.d 18 rfl) (eAx (eVx 0) (eAx (cG (eAx aR (eAx aj ai))) (eAx (eVx 2) (eAx (ij ai) (eAx eBl ai))))))))))) (aF (aU eBl)) bD)) bD) (aA (eFx (eR1 rfl T.z_range (eAx aj ai) rfl) (eGx gJ.nd 4) (aA (eSx gJ.nd 5 (eIy (ij (eAx aR (eAx aR (eAx aR ai)))) (eVx 4))) (aF (bw (cF (eUx (eCx G18 hr (T.d 18 rfl) (eAx (eVx 0) (eAx (cG (eAx (eVx 5) ai)) (eAx (eVx 2) (eAx (ij ai) (eAx (eT (ar hr.units) (eIy (eCx G16 hr (T.d 16 rfl) (eAx (eVx 2) ai)) aj) (eVx 4) (aC _)) ai)))))))) (aF (aU eBl)) bD)))) (aF (bw (cF (eUx (eCx G18 hr (T.d 18 rfl) (eAx (eVx 0) (eAx (cG (eAx aR ai)) (eAx (eVx 2) (eAx (ij ai) (eAx eBl ai)))))))) (aF (aU eBl)) bD)))))) (aF (aU eBl))
def vp (K:Fg) (t:Adr):TS :=
 (iU (fG (ba (vB K) [] E0 (ah (aJ 0) bo)) (aT 1))
  (iU (fG (ba (jv K) [] E0 (ah (aJ 1) (ah (tC (.int 8)) bo))) (aT 2))
  (iU (fG (ba (jv K) [] E0 (ah (aJ 1) (ah (tC (.int 3)) bo))) (aT 3))
  (iU (fG (tOp (fun x y=>ixP.r K [x,y]) (aJ 2) (ba (cq K) [] E0 (ah (aJ 1) (ah (tC (.int 8)) bo)))) (aT 4))
  (iU (fG (tOp (fun x y=>eqP.r K [x,y]) (ba (cq K) [] E0 (ah (aJ 1) (ah (tC (.int 2)) bo))) (tC (.int 0))) (aT 5))
  (iU (fG (tSl (BV E1 (BV (Ey K) (Fd K))) (gm [1] (iu K (tOp (fun x y=>il.r K [x,y]) (aJ 2) (ba (jS K) [] E0 (ah (aJ 1) (ah (tC (.int 3)) bo))))) (kP (tOp (fun x y=>eqP.r K [x,y]) (ba (cq K) [] E0 (ah (aJ 1) (ah (tC (.int 2)) bo))) (tC (.int 0)))) (aJ 0)) lx (wg (tC (.int 6)))) (aT 6))
  (iU (sG (tB (aJ 5)) (fG (gm [] (iu K (aJ 6)) (tB (tCB ((om "str").r K) (ah (aJ 0) bo))) (aJ 0)) (aT 6)) kQ)
  (iU (fG (gm [2,3,1] (tX (ah (tC (.int 5)) bo)) Ao (tP (ah (tOp (fun x y=>ixP.r K [x,y]) (aJ 1) (ba (cq K) [] E0 (ah (aJ 3) (ah (tC (.int 8)) bo)))) (ah (tOp (fun x y=>ixP.r K [x,y]) (aJ 2) (tC (.int 1))) (ah (tOp (fun x y=>ixP.r K [x,y]) (aJ 1) (ba (cq K) [] E0 (ah (aJ 3) (ah (tC (.int 8)) bo)))) bo))))) (aT 7))
  (iU (sG (Cm (x8 (tB (aJ 5))) (kP (tOp (fun x y=>eqP.r K [x,y]) (ba (cq K) [] E0 (ah (aJ 1) (ah (tC (.int 6)) bo))) (tC (.int 0))))) (iU (fG (tCB (lrP.r K) (ah (tOp (fun x y=>il.r K [x,y]) (tC (.int 57)) (ba (cq K) [] E0 (ah (aJ 1) (ah (tC (.int 4)) bo)))) bo)) (aT 6))
  (fG (yp bo) (aT 7))) kQ)
  (iU (xW (iu K (aJ 6)) (aT 8) (sG (tB (aJ 5)) (pU (tBM K "list" (sV.r K) (aJ 7) (ah (tP (ah (aJ 8) (ah (tOp (fun x y=>ixP.r K [x,y]) (aJ 3) (tC (.int 0))) (ah (aJ 4) bo)))) bo))) (pU (tBM K "list" (sV.r K) (aJ 7) (ah (tP (ah (aJ 4) (ah (tOp (fun x y=>ixP.r K [x,y]) (aJ 3) (tC (.int 0))) (ah (aJ 8) bo)))) bo)))))
  (iU (fG (ba (cK K) [] E0 (ah (tCB (m5.r K) (ah (gm [] (iu K (aJ 7)) Ao (tP (ah (aJ 0) (ah (tC (.bl true)) bo)))) bo)) bo)) (aT 9))
  (iU (fG (gm [1] (iu K (aJ 6)) (kP (tOp (fun x y=>eqP.r K [x,y]) (ba (cq K) [] E0 (ah (aJ 1) (ah (tC (.int 2)) bo))) (tC (.int 0)))) (aJ 0)) (aT 10))
  (iU (fG (tOp (fun x y=>il.r K [x,y]) (tOp (fun x y=>ixP.r K [x,y]) (yp (ah (tC (.str "")) (ah (tC (.str "^")) bo))) (tCB (E2.r K) (ah (aJ 5) bo))) (tOp (fun x y=>ixP.r K [x,y]) (aJ 3) (tC (.int 0)))) (aT 11))
  (iU (sG (x8 (tB (ba (fi K) [] E0 (ah (aJ 9) (ah (aJ 4) (ah (aJ 11) (ah (aJ 10) (ah (tCB (lR.r K) (ah (aJ 6) bo)) bo)))))))) (wO (tC (.bl false))) kQ)
  (iU (xW (iu K (aJ 2)) (aT 8) (sG (x8 (tB (ba (kq K) [] E0 (ah (aJ 9) (ah (aJ 8) (ah (aJ 3) bo)))))) (wO (tC (.bl false))) kQ))
  (iU (sG (x8 (tB (ba (kF K) [] E0 (ah (aJ 9) (ah (tCB (Ec.r K) (ah (tOp (fun x y=>pS.r K [x,y]) (tC (.int 2)) (tOp (fun x y=>r8.r K [x,y]) (tC (.int 10)) (tC (.int 30)))) (ah (tCB (CH.r K) (ah (tOp (fun x y=>pS.r K [x,y]) (tOp (fun x y=>r8.r K [x,y]) (tC (.int 10)) (tC (.int 30))) (tC (.int 2))) (ah (ba (gW K) [] E0 (ah (aJ 1) bo)) bo))) bo))) bo))))) (wO (tC (.bl false))) kQ)
  (wO (ba (qW K) [] E0 (ah (aJ 9) (ah (yp (ah (tOp (fun x y=>ixP.r K [x,y]) (aJ 2) (tC (.int 0))) (ah (tP (ah (tOp (fun x y=>ixP.r K [x,y]) (aJ 2) (tC (.int 0))) bo)) (ah (ba (gW K) [] E0 (ah (aJ 1) bo)) (ah (tP (ah (tC (.str "")) bo)) (ah (tOp (fun x y=>ixP.r K [x,y]) (aJ 2) (tC (.int 1))) bo)))))) bo))))))))))))))))))))
theorem A0 (T:Txt K mg t) (G11:zf P w K mg base t) (G13:qm P w K mg base t) (G12:jQ P w K mg base t) (G15:lW P w K mg base t) (G17:dN P w K mg base t) (G20:gU P w K mg base t) (G21:nc P w K mg base t) (G22:mZ P w K mg base t) (G14:jw P w K mg base t) (G23:uW P w K mg base t):Dp P w K mg base t:=by
 refine (T.d 24 rfl).F.okX br (bc T) (rd:=vp K t) rfl fun hr=>?_;unfold vp;refine aA ?_ ?_
 ·refine oz (i:=1) ?_ br.nd rfl (Or.inr rfl) rfl (Or.inl rfl);exact (eCl G11 hr (T.d 11 rfl).m (T.d 11 rfl).F.kp (T.d 11 rfl).b (eA (eVx 0) ai rfl))
 ·refine aA ?_ ?_
  ·refine oz (i:=2) ?_ br.nd rfl (Or.inr rfl) rfl (Or.inl rfl);exact (eCl G13 hr (T.d 13 rfl).m (T.d 13 rfl).F.kp (T.d 13 rfl).b (eA (eVy 1) (eA aj ai rfl) rfl))
  ·refine aA ?_ ?_
   ·refine oz (i:=3) ?_ br.nd rfl (Or.inr rfl) rfl (Or.inl rfl);exact (eCl G13 hr (T.d 13 rfl).m (T.d 13 rfl).F.kp (T.d 13 rfl).b (eA (eVy 1) (eA aj ai rfl) rfl))
   ·refine aA ?_ ?_
    ·refine oz (i:=4) ?_ br.nd rfl (Or.inl rfl) rfl (Or.inl rfl);exact (eIx aX (eVy 2) (eCl G12 hr (T.d 12 rfl).m (T.d 12 rfl).F.kp (T.d 12 rfl).b (eA (eVy 1) (eA aj ai rfl) rfl)) (fun _ _=>rfl))
    ·refine aA ?_ ?_
     ·refine oz (i:=5) ?_ br.nd rfl (Or.inl rfl) rfl (Or.inl rfl);exact (eT (ar hr.units) (eCl G12 hr (T.d 12 rfl).m (T.d 12 rfl).F.kp (T.d 12 rfl).b (eA (eVy 1) (eA aj ai rfl) rfl)) aj (aC _))
     ·refine aA ?_ ?_
      ·refine oz (i:=6) ?_ br.nd rfl (Or.inl rfl) rfl (Or.inl rfl);exact (eSl (orS mQ (orS jq mF)) (xU ["_law_pen_here"] (eIL (eOp aS (eVy 2) (eCl G15 hr (T.d 15 rfl).m (T.d 15 rfl).F.kp (T.d 15 rfl).b (eA (eVy 1) (eA aj ai rfl) rfl)))) (eT1 fun _ _ _ _=>(kR (ar hr.units) (eCl G12 hr (T.d 12 rfl).m (T.d 12 rfl).F.kp (T.d 12 rfl).b (eA (eVy 1) (eA aj ai rfl) rfl)) aj (aC _))) (eC fun _ _ _ _=>(eVx 0)) rfl (bsc (sc:=aa dQ) rfl (by decide +kernel)) (by decide +kernel) ⟨rfl,⟨rfl,rfl⟩,trivial⟩ (fun _=>rfl)) Ct (eP aj))
      ·refine aA ?_ ?_
       ·refine bw ?_ ?_ ?_
        ·exact (uJ (eVx 5) (fun _=>rfl))
        ·refine aF ?_;exact (oE (i:=6) [] (eIL (eVx 6)) (eT1 fun _ _ _ _=>(uJ (FP rfl T.z_isinstance (eVx 0) rfl (FV (v:=.ty "str") rfl T.z_str (by decide +kernel) rfl (by decide) rfl)) (fun _=>rfl))) (eC fun _ _ _ _=>(eVx 0)) br.nd rfl rfl rfl rfl (bsc (sc:=aa dQ) rfl (by decide +kernel)) (by decide +kernel) trivial (fun _=>rfl))
        ·exact bD
       ·refine aA ?_ ?_
        ·exact (oE (i:=7) ["_law_things", "_law_bonds", "_law_pen_here"] (eR1 rfl T.z_range (eA aj ai rfl) rfl) eT0 (eC fun _ _ _ _=>(cG (eA (eIx aX (eVy 1) (eCl G12 hr (T.d 12 rfl).m (T.d 12 rfl).F.kp (T.d 12 rfl).b (eA (eVy 3) (eA aj ai rfl) rfl)) (fun _ _=>rfl)) (eA (eIx aX (eVy 2) aj (fun _ _=>rfl)) (eA (eIx aX (eVy 1) (eCl G12 hr (T.d 12 rfl).m (T.d 12 rfl).F.kp (T.d 12 rfl).b (eA (eVy 3) (eA aj ai rfl) rfl)) (fun _ _=>rfl)) ai rfl) rfl) rfl))) br.nd rfl rfl rfl rfl (bsc (sc:=aa dQ) rfl (by decide +kernel)) (by decide +kernel) ⟨rfl,⟨rfl,rfl⟩,⟨rfl,⟨rfl,rfl⟩,⟨rfl,⟨rfl,rfl⟩,trivial⟩⟩⟩ (fun _=>rfl))
        ·refine aA ?_ ?_
         ·refine bw ?_ ?_ ?_
          ·exact (eW (nN (cF (uJ (eVx 5) (fun _=>rfl))) (iK (kR (ar hr.units) (eCl G12 hr (T.d 12 rfl).m (T.d 12 rfl).F.kp (T.d 12 rfl).b (eA (eVy 1) (eA aj ai rfl) rfl)) aj (aC _)))))
          ·refine aA ?_ ?_
           ·refine oz (i:=6) ?_ br.nd rfl (Or.inl rfl) rfl (Or.inl rfl);exact (eLR hr.hd rfl T.z_list rfl T.z_range rfl (eOp aS aj (eCl G12 hr (T.d 12 rfl).m (T.d 12 rfl).F.kp (T.d 12 rfl).b (eA (eVy 1) (eA aj ai rfl) rfl))))
           ·refine aF ?_;refine oz (i:=7) ?_ br.nd rfl (Or.inl rfl) rfl (Or.inl rfl);exact (ij ai)
          ·exact bD
         ·refine aA ?_ ?_
          ·refine EZ ?_ (eGN (i:=8) br.nd rfl (Or.inl rfl) (Or.inl rfl)) ?_ PassesOwn.never rfl (fun _=>rfl)
           ·exact (eIL (eVx 6))
           ·refine aF ?_;refine bw ?_ ?_ ?_
            ·exact (uJ (eVx 5) (fun _=>rfl))
            ·refine aF ?_;exact (nB (eBM (eVx 7) (eA (cG (eA (eVx 8) (eA (eIx aX (eVy 3) aj (fun _ _=>rfl)) (eA (eVx 4) ai rfl) rfl) rfl)) ai rfl) bV IM IL IK rfl rfl rfl rfl rfl) rfl)
            ·refine aF ?_;exact (nB (eBM (eVx 7) (eA (cG (eA (eVx 4) (eA (eIx aX (eVy 3) aj (fun _ _=>rfl)) (eA (eVx 8) ai rfl) rfl) rfl)) ai rfl) bV IM IL IK rfl rfl rfl rfl rfl) rfl)
          ·refine aA ?_ ?_
           ·refine oz (i:=9) ?_ br.nd rfl (Or.inl rfl) rfl (Or.inl rfl);exact (eCl G17 hr (T.d 17 rfl).m (T.d 17 rfl).F.kp (T.d 17 rfl).b (eA (eTs (rB hr.units rfl) T.z_dict (eA (xU [] (eIL (eVx 7)) eT0 (eC fun _ _ _ _=>(cG (eA (eVx 0) (eA eBl ai rfl) rfl))) rfl (bsc (sc:=aa dQ) rfl (by decide +kernel)) (by decide +kernel) trivial (fun _=>rfl)) ai rfl)) ai rfl))
           ·refine aA ?_ ?_
            ·exact (oE (i:=10) ["_law_pen_here"] (eIL (eVx 6)) (eT1 fun _ _ _ _=>(kR (ar hr.units) (eCl G12 hr (T.d 12 rfl).m (T.d 12 rfl).F.kp (T.d 12 rfl).b (eA (eVy 1) (eA aj ai rfl) rfl)) aj (aC _))) (eC fun _ _ _ _=>(eVx 0)) br.nd rfl rfl rfl rfl (bsc (sc:=aa dQ) rfl (by decide +kernel)) (by decide +kernel) ⟨rfl,⟨rfl,rfl⟩,trivial⟩ (fun _=>rfl))
            ·refine aA ?_ ?_
             ·refine oz (i:=11) ?_ br.nd rfl (Or.inl rfl) rfl (Or.inl rfl);exact (eOp aS (eIx aX (ij (eA aR (eA aR ai rfl) rfl)) (eTs yg T.z_int (eA (eVx 5) ai rfl)) (fun _ _=>rfl)) (eIx aX (eVy 3) aj (fun _ _=>rfl)))
             ·refine aA ?_ ?_
              ·refine bw ?_ ?_ ?_
               ·exact (cF (uJ (eCl G20 hr (T.d 20 rfl).m (T.d 20 rfl).F.kp (T.d 20 rfl).b (eA (eVx 9) (eA (eVx 4) (eA (eVx 11) (eA (eVx 10) (eA (eBs a6 T.z_len (eA (eVx 6) ai rfl)) ai rfl) rfl) rfl) rfl) rfl)) (fun _=>rfl)))
               ·refine aF ?_;exact (aU eBl)
               ·exact bD
              ·refine aA ?_ ?_
               ·refine EZ ?_ (eGN (i:=8) br.nd rfl (Or.inl rfl) (Or.inl rfl)) ?_ PassesOwn.never rfl (fun _=>rfl)
                ·exact (eIL (eVy 2))
                ·refine aF ?_;refine bw ?_ ?_ ?_
                 ·exact (cF (uJ (eCl G21 hr (T.d 21 rfl).m (T.d 21 rfl).F.kp (T.d 21 rfl).b (eA (eVx 9) (eA (eVx 8) (eA (eVy 3) ai rfl) rfl) rfl)) (fun _=>rfl)))
                 ·refine aF ?_;exact (aU eBl)
                 ·exact bD
               ·refine aA ?_ ?_
                ·refine bw ?_ ?_ ?_
                 ·exact (cF (uJ (eCl G22 hr (T.d 22 rfl).m (T.d 22 rfl).F.kp (T.d 22 rfl).b (eA (eVx 9) (eA (eBs (wA rfl) T.z_max (eA (eOp cS aj (eOp dO aj aj)) (eA (eBs (xQ rfl) T.z_min (eA (eOp cS (eOp dO aj aj) aj) (eA (eCl G14 hr (T.d 14 rfl).m (T.d 14 rfl).F.kp (T.d 14 rfl).b (eA (eVy 1) ai rfl)) ai rfl) rfl)) ai rfl) rfl)) ai rfl) rfl)) (fun _=>rfl)))
                 ·refine aF ?_;exact (aU eBl)
                 ·exact bD
                ·refine aF ?_;exact (aU (eCl G23 hr (T.d 23 rfl).m (T.d 23 rfl).F.kp (T.d 23 rfl).b (eA (eVx 9) (eA (ij (eA (eIx aX (eVy 2) aj (fun _ _=>rfl)) (eA (cG (eA (eIx aX (eVy 2) aj (fun _ _=>rfl)) ai rfl)) (eA (eCl G14 hr (T.d 14 rfl).m (T.d 14 rfl).F.kp (T.d 14 rfl).b (eA (eVy 1) ai rfl)) (eA (cG (eA aR ai rfl)) (eA (eIx aX (eVy 2) aj (fun _ _=>rfl)) ai rfl) rfl) rfl) rfl) rfl)) ai rfl) rfl)))
end
theorem AO {P:Program} {w:World} {K:Fg} {mg:Str->Option Value} {base:Heap} {t:Adr} (T:Txt K mg t):bq P w K mg base CX0 13 (t.f 24).1 (t.f 24).2 ["_law_script"] (p0 K):=by
 have h0:=Bx (P:=P) (w:=w) (base:=base) T;have h1:=w5 (P:=P) (w:=w) (base:=base) T;have h2:=tO (P:=P) (w:=w) (base:=base) T h1;have h3:=pL (P:=P) (w:=w) (base:=base) T h1;have h4:=qL (P:=P) (w:=w) (base:=base) T h3 h1;have h5:=zY (P:=P) (w:=w) (base:=base) T;have h6:=gh (P:=P) (w:=w) (base:=base) T h5;have h7:=qd (P:=P) (w:=w) (base:=base) T;have h8:=iw (P:=P) (w:=w) (base:=base) T;have h9:=nX (P:=P) (w:=w) (base:=base) T h8;have h10:=wC (P:=P) (w:=w) (base:=base) T h9 h8;have h11:=jg (P:=P) (w:=w) (base:=base) T;have h12:=nO (P:=P) (w:=w) (base:=base) T;have h13:=iA (P:=P) (w:=w) (base:=base) T h12;have h14:=lP (P:=P) (w:=w) (base:=base) T;have m_keeps_form:∀ n,bq P w K mg base CX0 (4+3*n) (t.f 10).1 (t.f 10).2 ["web", "form", "node", "kept"] (eM K n):=by
  intro n;induction n with
  | zero=>exact (j0 T).mono (by omega)
  | succ n h18 =>
   have h15:=iZ (n:=n) T h18;have h16:=cV (n:=n) T h15;have h17:=d7 (n:=n) T h10 h11 h18;exact (jF (n:=n) T h12 h13 h18 h14 h16 h17).mono (by omega)
 have h18:=m_keeps_form 2;have h15:=iZ (n:=2) T h18;have h16:=cV (n:=2) T h15;have h17:=d7 (n:=2) T h10 h11 h18;have h22:=Ez (P:=P) (w:=w) (base:=base) T h18;have h23:=ku (P:=P) (w:=w) (base:=base) T h7 h22;have h24:=q8 (P:=P) (w:=w) (base:=base) T h22;have h25:=p6 (P:=P) (w:=w) (base:=base) T h22;have h26:=vK (P:=P) (w:=w) (base:=base) T h22 h5;have h27:=A0 (P:=P) (w:=w) (base:=base) T h0 h2 h1 h4 h6 h23 h24 h25 h3 h26;exact h27
theorem Ay {K:Fg} {h:Heap} {mg:Str->Option Value} (X:K.In h) (G:h.Ns mainGlobals mg) (D:yx K mg dfs)
  {f_so:Addr} {oc_so:Value} {od_so:Option Addr} {fd_so:FuncData} {sl_so:Array (Option Value)} (n_so:PySem.W.nsIn K mainGlobals "_law_so" = some (some (.ref f_so))) (l_so:K.lookup f_so=some ⟨oc_so,od_so,.func fd_so,sl_so⟩) (c_so:fd_so.code=.ref 155)
  {f_facts_sorted:Addr} {oc_facts_sorted:Value} {od_facts_sorted:Option Addr} {fd_facts_sorted:FuncData} {sl_facts_sorted:Array (Option Value)} (n_facts_sorted:PySem.W.nsIn K mainGlobals "_law_facts_sorted" = some (some (.ref f_facts_sorted))) (l_facts_sorted:K.lookup f_facts_sorted=some ⟨oc_facts_sorted,od_facts_sorted,.func fd_facts_sorted,sl_facts_sorted⟩) (c_facts_sorted:fd_facts_sorted.code=.ref 129)
  (z_abs:PySem.W.nsIn K mainGlobals "abs" = some none)
  (z_all:PySem.W.nsIn K mainGlobals "all" = some none)
  (z_bool:PySem.W.nsIn K mainGlobals "bool" = some none)
  (z_dict:PySem.W.nsIn K mainGlobals "dict" = some none)
  (z_int:PySem.W.nsIn K mainGlobals "int" = some none)
  (z_isinstance:PySem.W.nsIn K mainGlobals "isinstance" = some none)
  (z_len:PySem.W.nsIn K mainGlobals "len" = some none)
  (z_list:PySem.W.nsIn K mainGlobals "list" = some none)
  (z_max:PySem.W.nsIn K mainGlobals "max" = some none)
  (z_min:PySem.W.nsIn K mainGlobals "min" = some none)
  (z_range:PySem.W.nsIn K mainGlobals "range" = some none)
  (z_set:PySem.W.nsIn K mainGlobals "set" = some none)
  (z_sorted:PySem.W.nsIn K mainGlobals "sorted" = some none)
  (z_str:PySem.W.nsIn K mainGlobals "str" = some none)
  (z_tuple:PySem.W.nsIn K mainGlobals "tuple" = some none)
  {tk_BACK:Tok} (g_BACK:PySem.W.nsIn K mainGlobals "BACK" = some (some (Value.str "^" tk_BACK)))
  {ca_KINDS:Addr} (g_KINDS:PySem.W.nsIn K mainGlobals "KINDS" = some (some (.ref ca_KINDS)))
  {od_KINDS:Option Addr} {sl_KINDS:Array (Option Value)} {nn_KINDS:Nat} {tt_KINDS_0:Tok} {tt_KINDS_1:Tok} {tt_KINDS_2:Tok} (s_KINDS:K.lookup ca_KINDS=some ⟨.type "tuple", od_KINDS,.seq #[.str "number" tt_KINDS_0,.str "said" tt_KINDS_1,.str "thing" tt_KINDS_2] nn_KINDS,sl_KINDS⟩)
  {ca_LISTS:Addr} (g_LISTS:PySem.W.nsIn K mainGlobals "LISTS" = some (some (.ref ca_LISTS)))
  {od_LISTS:Option Addr} {sl_LISTS:Array (Option Value)} {nn_LISTS:Nat} {tt_LISTS_0:Tok} {tt_LISTS_1:Tok} {tt_LISTS_2:Tok} {tt_LISTS_3:Tok} (s_LISTS:K.lookup ca_LISTS=some ⟨.type "tuple", od_LISTS,.seq #[.str "all" tt_LISTS_0,.str "some" tt_LISTS_1,.str "one" tt_LISTS_2,.str "none" tt_LISTS_3] nn_LISTS,sl_LISTS⟩)
  : ∃ t:Adr,(∀ (s:Shared) (u:Value),BindsTo s (t.f 24).2 ⟨[u],[]⟩ [("_law_script", u)])/\Txt K mg t:=by
 obtain ⟨f,hf⟩:=GU D
 exact ⟨⟨f,ca_KINDS,ca_LISTS,tk_BACK⟩,fun s u=>.of_eq ((hf 24 rfl).c [u] rfl),⟨hf,
  (hf 18 rfl).code X G n_so l_so c_so,
  (hf 17 rfl).code X G n_facts_sorted l_facts_sorted c_facts_sorted,
  HQ X G z_abs,
  HQ X G z_all,
  HQ X G z_bool,
  HQ X G z_dict,
  HQ X G z_int,
  HQ X G z_isinstance,
  HQ X G z_len,
  HQ X G z_list,
  HQ X G z_max,
  HQ X G z_min,
  HQ X G z_range,
  HQ X G z_set,
  HQ X G z_sorted,
  HQ X G z_str,
  HQ X G z_tuple,
  PySem.W.mg_of X G g_BACK,
  PySem.W.mg_of X G g_KINDS,
  PySem.W.mg_of X G g_LISTS,
  fun H=>Or.inr ⟨_,_,_,s_KINDS,rfl,rfl,(by show 3<=sizeLine;decide),(.cons ⟨_,rfl⟩ (.cons ⟨_,rfl⟩ (.cons ⟨_,rfl⟩ .nil)))⟩,
  fun H=>Or.inr ⟨_,_,_,s_LISTS,rfl,rfl,(by show 4<=sizeLine;decide),(.cons ⟨_,rfl⟩ (.cons ⟨_,rfl⟩ (.cons ⟨_,rfl⟩ (.cons ⟨_,rfl⟩ .nil))))⟩⟩⟩
local macro_rules | `(tactic| walk_at "e")=>`(tactic| (case e9=>exact rfl))
local macro_rules | `(tactic| walk_at "p")=>`(tactic| first | with_reducible refine Bu ?_ | walk_at "p0")
local macro_rules | `(tactic| walk_at "p0")=>`(tactic| first
 | (with_reducible first | refine y9 ?_ | refine yK ?_ | refine A9 ?_ | refine Cb ?_ | refine AI ?_ | refine Dh ?_ | refine B7 ?_ | refine DW ?_ | refine GP ?_ | refine CF ?_ | refine Dt ?_ | refine Ej ?_ | refine CG ?_ | refine CM ?_ | refine AF ?_ | refine Ew ?_)
 | ((with_reducible refine w_var (d:=?d9) ?e9 ?_);walk_at "e") | ((with_reducible refine A3 (d:=?d9) ?e9 ?_);walk_at "e") | ((with_reducible refine BN (d:=?d9) ?e9 ?_);walk_at "e") | ((with_reducible refine A6 (d:=?d9) ?e9 ?_);walk_at "e")
 | ((with_reducible refine C0 (d:=?d9) ?e9 ?_);walk_at "e") | ((with_reducible refine CJ (d:=?d9) ?e9 ?_);walk_at "e") | ((with_reducible refine Ea (d:=?d9) ?e9 ?_);walk_at "e")
 | (with_reducible first | refine Df ?_ | refine B3 ?_ | refine DN ?_) | ((with_reducible refine Dr (d:=?d9) ?e9 ?f9 ?_);walk_at "e"; (case f9=>exact rfl))
 | (with_reducible first | refine BS ?_ | refine zL ?_ | refine DR ?_ | refine Bl ?_ | refine C3 ?_ | refine Aj ?_ | refine AN ?_ | refine CN ?_ | refine EJ rfl ?_ | refine zc rfl ?_ | refine ES ?_ | refine DZ ?_ | refine w_and ?_ | refine w_or ?_ | refine w_not ?_ | refine DO ?_ | refine Gj ?_ | refine GO ?_ | refine GF ?_ | refine Gx ?_ | refine F8 ?_ | refine Ha ?_ | refine GS ?_)
 | walk_at "q")
local macro_rules | `(tactic| walk_at "q0")=>`(tactic| first
 | ((with_reducible refine EL ?e9 ?_);walk_at "e") | ((with_reducible refine Eh ?e9 ?_);walk_at "e")
 | ((show WPr _ _ _ _);refine ⟨_,_,rfl,rfl,?_⟩) | ((show WPr _ _ _ _);(refine ⟨_,_,rfl,Hv ?c9,?_⟩);(case c9=>walk_at "c")) | ((show Cs _ _ _ _);refine ⟨_,_,rfl,rfl,?_⟩) | ((show sX _ _ _);refine ⟨_,rfl,?_⟩) | ((show Cp _ _ _ _ _ _ _);refine ⟨_,rfl,rfl,?_⟩) | ((show An _ _ _ _ _ _);refine ⟨_,_,_,rfl,rfl,rfl,?_⟩) | ((show Cr _ _ _ _ _ _);refine ⟨_,rfl,rfl,?_⟩) | ((show BW _ _ _ _ _);refine ⟨_,_,_,rfl,rfl,rfl,?_⟩) | ((show WMr _ _ _ _ _);refine ⟨_,_,_,_,rfl,rfl,rfl,?_⟩) | ((show WTp _ _ _ _);refine ⟨_,rfl,Nat.le_of_ble_eq_true rfl,?_⟩) | ((show Cu _ _ _ _);refine ⟨_,_,rfl,rfl,?_⟩) | ((show zx _ _ _ _);refine ⟨_,rfl,rfl,?_⟩) | ((show pZ _ _ _ _);refine ⟨_,rfl,rfl,?_⟩)
 | ((with_reducible refine ⟨_,rfl,?_⟩)))
local macro_rules | `(tactic| walk_at "pp")=>`(tactic| repeat walk_at "p")
local macro_rules | `(tactic| walk_at "c")=>`(tactic| first | exact rfl | assumption | (simp only [mulC,J1,HL,IV] <;> omega))
local macro_rules | `(tactic| walk_at "pz")=>`(tactic| repeat walk_at "p0")
local macro_rules | `(tactic| walk_at "n=")=>`(tactic| ((try dsimp only [Cst.i,Cst.s,Cst.b,Cst.n,RV.av,ak,List.replicate_succ,List.replicate_zero,cC,fE,ay,bh,aH,bW,lU,List.set_cons_zero,List.set_cons_succ,List.getElem?_cons_zero,List.getElem?_cons_succ,List.map_cons,List.map_nil,List.tail_cons,Option.getD_some,decide_true,decide_false,List.drop_succ_cons,List.drop_zero]);exact rfl))
local macro_rules | `(tactic| walk_at "n")=>`(tactic| ((with_reducible first | refine zZ (e':=?e9) ?h9 ?_ | refine xF (e':=?e9) ?h9 ?_ | refine yN (e':=?e9) ?h9 ?_ | refine GI (e':=?e9) ?h9 ?_ | refine Gm (e':=?e9) ?h9 ?_ | refine GK (e':=?e9) ?h9 ?_ | refine GJ (e':=?e9) ?h9 ?_ | refine Gu (e':=?e9) ?h9 ?_ | refine DB (e':=?e9) ?h9 ?_ | refine wx (e':=?e9) ?h9 ?_ | refine CQ (e':=?e9) ?h9 ?_ | refine C4 (e':=?e9) ?h9 ?_ | refine E3 (e':=?e9) ?h9 ?_ | refine Ag (e':=?e9) ?h9 ?_ | refine BX (e':=?e9) ?h9 ?_ | refine xM (e':=?e9) ?h9 ?_ | refine Bk (e':=?e9) ?h9 ?_ | refine Bi (e':=?e9) ?h9 ?_ | refine Ae (e':=?e9) ?h9 ?_);(case h9=>walk_at "n=")))
local macro_rules | `(tactic| walk_at "soft")=>`(tactic| first | exact Be | exact zO | exact Ff | assumption)
local macro_rules | `(tactic| walk_at "l")=>`(tactic| (rename_i h9;apply iD.out h9;clear h9;dsimp only [ue];intros))
local macro_rules | `(tactic| walk_at "L1")=>`(tactic| first | exact (rfl:iD [] []) | refine ⟨_,?_,rfl⟩ | ((refine ⟨_,_,?s9,?_,rfl⟩);(case s9=>walk_at "soft")))
local macro_rules | `(tactic| walk_at "L")=>`(tactic| repeat walk_at "L1")
local macro_rules | `(tactic| walk_at "q")=>`(tactic| first | walk_at "q0" | ((show FG _ _ _ _);refine ⟨_,_,_,rfl,rfl,rfl,?_⟩) | ((show FR _ _ _ _ _);refine ⟨_,_,rfl,rfl,?_⟩) | ((show zx _ _ _ _);(refine ⟨_,rfl,rh rfl ?s9,?_⟩);(case s9=>walk_at "soft")) | ((show pZ _ _ _ _);(refine ⟨_,rfl,rh rfl ?s9,?_⟩);(case s9=>walk_at "soft")))
local macro_rules | `(tactic| walk_at "fT1")=>`(tactic| ((refine n5 ?f9 ?_);(case f9=>((refine rh rfl ?s9);(case s9=>walk_at "soft")))))
local macro_rules | `(tactic| walk_at "fT")=>`(tactic| ((refine Bw (e2:=?e9) ?h9 ?_);(case h9=>((repeat walk_at "fT1");exact rfl))))
local macro_rules | `(tactic| walk_at "f")=>`(tactic| ((refine B5 ?h9 ?_);(case h9=>((refine rh rfl ?s9);(case s9=>walk_at "soft")));walk_at "n"))
local macro_rules | `(tactic| walk_at "ps1")=>`(tactic| ((fail_if_success (with_reducible refine isEq ?_));walk_at "p"))
local macro_rules | `(tactic| walk_at "ps")=>`(tactic| repeat walk_at "ps1")
noncomputable def vn (cs:List Int) (p r:Int):PyData:=.dict [(.str "cells", .list (cs.map .int)),(.str "place", .int p),(.str "rest", .int r)]
theorem GA {cs:List Int} {p:Int} (h:0 < cs.length):∃ c,atI (cs.map PyData.int) (p % (((cs.map PyData.int).length:Nat):Int))=some (.int c):=by
 have hn:(((cs.map PyData.int).length:Nat):Int)=cs.length:=by rw [Hf]
 rw [hn];have hj0:=Int.emod_nonneg p (by omega:(cs.length:Int)≠0);have hj1:=Int.emod_lt_of_pos p (by omega:(0:Int) < cs.length);have hj2:(p % (cs.length:Int)).toNat < cs.length:=by omega
 have ej:p % (cs.length:Int)=(((p % (cs.length:Int)).toNat:Nat):Int):=by omega
 refine ⟨cs[(p % (cs.length:Int)).toNat],?_⟩;have:=lB (xs:=cs.map PyData.int) (j:=(p % (cs.length:Int)).toNat) (v:=.int cs[(p % (cs.length:Int)).toNat]) (by rw [Hq,Hj hj2];rfl)
 rwa [<- ej] at this
theorem yi {cs:List Int} {p r m:Int} {Q:PR->List PyData->Prop} (hp:0<=p) (hr:0<=r) (h0:0 < m) (hm:m < 2 ^ 200) (q:∀ v p' r',0<=v->v < m->0<=p'->0<=r'->Q (.dat (.int v)) [vn cs p' r']):WF au [vn cs p r,.int m] Q:=by
 refine d4 rfl ?_;have m0:∀ x:Int,0<=x % m/\x % m < m:=fun x=>⟨Int.emod_nonneg _ (by omega),Int.emod_lt_of_pos _ h0⟩;have d0:∀ x:Int,0<=x->0<=x / m:=fun x h=>Int.ediv_nonneg h (Int.le_of_lt h0);unfold o9;walk_at "pp";refine dJ (fun e0=>?_) (fun e0=>?_)
 ·walk_at "pp";exact q _ _ _ (m0 r).1 (m0 r).2 hp (d0 r hr)
 ·walk_at "pp";have fin:∀ c:Int,0<=(if c < 0 then -c else c):=fun c=>by split <;> omega
  refine dJ (fun e1=>?_) (fun e1=>?_)
  ·have h1:(0:Int) < (((cs.map PyData.int).length:Nat):Int):=Ib e1;obtain ⟨c,hc⟩:=GA (cs:=cs) (p:=p) (by rw [Hf] at h1;omega);walk_at "pp";refine oh rfl hc ?_;clear hc;walk_at "pp";refine dJ (fun e2=>?_) (fun e2=>?_)
   ·walk_at "pp";refine dJ (fun e3=>?_) (fun e3=>?_)
    ·walk_at "pp";exact q _ _ _ (m0 _).1 (m0 _).2 (by omega) (d0 _ (fin c))
    ·walk_at "pp";exact q _ _ _ (m0 _).1 (m0 _).2 (by omega) hr
   ·walk_at "pp";exact q _ _ _ (m0 _).1 (m0 _).2 (by omega) hr
  ·walk_at "pp";refine dJ (fun e2=>?_) (fun e2=>?_)
   ·walk_at "pp";exact q _ _ _ (m0 _).1 (m0 _).2 (by omega) hr
   ·walk_at "pp";exact q _ _ _ (m0 _).1 (m0 _).2 (by omega) hr
theorem Bc {ns:List Int} {Q:PR->List PyData->Prop} (q:Q (.frs (vn (ns.take 63) 0 0)) []):WF mX [.list (ns.map .int)] Q:=by
 refine ⟨.frs (vn (ns.take 63) 0 0),[],?_,q⟩;have:mX.F [.list (ns.map .int)]=some (.frs (.dict [(.str "cells", .list (cutD (ns.map .int) none (some 63))),(.str "place", .int 0),(.str "rest", .int 0)]),[]):=rfl;rw [this,i8 (by decide),<-List.map_take];rfl
def bR (cs:List Int) (d:PyData):Prop:=∃ p l:Int,d=vn cs p l/\0<=p/\0<=l
theorem Ex {cs:List Int} {pn:PyData} {m:Int} {e1:En} {Q:RV->En->Prop} {i:Nat} (hi:aK e1 i=some pn) (hP:bR cs pn) (h0:0 < m) (hm:m < 2 ^ 200) (q:∀ v pn',bR cs pn'->0<=v->v < m->Q (.dat (.int v)) (fE e1 i pn')):nU au [.bor i,.dat (.int m)] e1 Q:=by
 obtain ⟨p,l,rfl,hp,hl⟩:=hP;refine af (ds:=[vn cs p l,.int m]) (is:=[i]) ?_ rfl (yi hp hl h0 hm fun v p' l' a b c d=>⟨?_,q v _ ⟨p',l',rfl,c,d⟩ a b⟩)
 ·show iz e1 [.ino,.dat] _=_;simp only [iz,EI,hi]
 ·rfl
def Ltr (x:Str):Prop:=∀ c∈x.cps.toList,97<=c/\c<=122
abbrev abc:Str := "abcdefghijklmnopqrstuvwxyz"
theorem fW (x y:Str):(x++y).cps.toList=x.cps.toList++y.cps.toList:=by
 show (x.cps++y.cps).toList=_;simp
theorem yG:∀ n < 26,abc.cps.toList[n]?=some (97+n):=by decide +kernel
theorem mK {r:Int} (h0:0<=r) (h1:r < 26):atI abc.cps.toList r=some (97+r.toNat):=by
 have:=lB (xs:=abc.cps.toList) (j:=r.toNat) (yG r.toNat (by omega))
 rwa [Int.toNat_of_nonneg h0] at this
def Stp (i:Int):Prop:=i=1\/i=3\/i=5\/i=7\/i=9\/i=11\/i=15\/i=17\/i=19\/i=21\/i=23\/i=25
theorem xm {st sp:Int} {i j:Nat} (h:Stp sp) (hi:i < 26) (hj:j < 26) (e:(st+sp*i) % 26=(st+sp*j) % 26):i=j:=by
 unfold Stp at h;rcases h with rfl | rfl | rfl | rfl | rfl | rfl | rfl | rfl | rfl | rfl | rfl | rfl <;> omega
def NmK (S:Nat) (st sp:Int) (k:Nat) (x:Str):Prop:=Ltr x/\x.length<=8/\S < x.length/\x.cps.toList[S]?=some (97+((st+sp*k) % 26).toNat)
theorem rQ {S:Nat} {st sp:Int} {xs:List Str} (hs:Stp sp) (hl:xs.length<=26) (h:∀ k x,xs[k]?=some x->NmK S st sp k x):xs.Nodup:=by
 refine List.pairwise_iff_getElem.mpr fun i j hi hj hij e=>?_;have a:=(h i _ (Hj hi)).2.2.2;have b:=(h j _ (Hj hj)).2.2.2;rw [e,b] at a;injection a with a;have:=xm (i:=i) (j:=j) (st:=st) hs (by omega) (by omega) (by omega);omega
theorem foldl_nil:∀ (ps:List Str) (acc:Array Nat),(ps.foldl (fun acc p=>acc++(Str.ofString "").cps++p.cps) acc).toList=acc.toList++ps.flatMap fun s=>s.cps.toList
 | [],acc=>by simp
 | p :: ps,acc=>by
  rw [J0,foldl_nil ps,List.flatMap_cons];have e:(Str.ofString "").cps=#[]:=by decide +kernel
  rw [e];simp
theorem kg (ss:List Str):(PySem.Txt.join "" ss).cps.toList=ss.flatMap fun s=>s.cps.toList:=by
 cases ss with
 | nil=>rfl
 | cons x r =>
  show (r.foldl (fun acc p=>acc++(Str.ofString "").cps++p.cps) x.cps).toList=_;rw [foldl_nil,List.flatMap_cons]
local macro_rules | `(tactic| walk_at "d")=>`(tactic| ((repeat walk_at "p");(refine Ex (cs:=?c9) (pn:=?n9) (m:=?m9) (hi:=?hi9) (hP:=?hP9) ?h09 ?hm9 ?_);(case hi9=>exact rfl);(case hP9=>assumption);(case h09=>first | decide | omega);(case hm9=>first | decide | omega)))
abbrev wds:List PyData:=[.str "any", .str "all", .str "is", .str "keeps", .str "many", .str "shape", .str "not", .str "least"]
theorem e8:∀ w∈wds,∃ z:Str,w=.str z/\Ltr z/\0 < z.length/\z.length<=9:=by
 intro w h;simp only [HB,Jb,Jx] at h;rcases h with rfl | rfl | rfl | rfl | rfl | rfl | rfl | rfl <;> exact ⟨_,rfl,by unfold Ltr;decide +kernel,by decide +kernel,by decide +kernel⟩
def Nam (x:Str):Prop:=Ltr x/\x.length<=8/\0 < x.length
abbrev sg (c:Nat):Str:=⟨#[c]⟩
abbrev Lt (c:Nat):Prop:=97<=c/\c<=122
abbrev sgs (bs:List Nat):List PyData:=(bs.map sg).map .str
theorem k5 (bs:List Nat):(Txt.join "" (bs.map sg)).cps.toList=bs:=by
 rw [kg,List.flatMap_map];simp
theorem l7 (bs:List Nat):(Txt.join "" (bs.map sg)).length=bs.length:=by rw [<- gY,k5]
theorem hV (bs:List Nat) (h:bs.length<=100):fu "" (bs.map sg)=true:=by
 have e0:(Str.ofString "").length=0:=by decide
 have e1:((bs.map sg).map (·.length)).sum=bs.length:=by
  rw [Ij,show (Str.length∘sg)=fun _=>1 from rfl,List.map_const',List.sum_replicate_nat];omega
 simp only [fu,IV];rw [e0,e1];omega
theorem nj {cs:List Int} {pn:PyData} {m:Int} {Q:PR->List PyData->Prop} (hP:bR cs pn) (h0:0<=m) (hm:m<=8) (q:∀ (xs:List Str) pn',bR cs pn'->(xs.length:Int)=m->xs.Nodup->(∀ x∈xs,Nam x)->Q (.frs (.list (xs.map .str))) [pn']):WF fP [pn,.int m] Q:=by
 refine d4 rfl ?_;unfold mV;walk_at "d";intro v1 pn1 hP1 a0 a1;walk_at "n";walk_at "pp";refine ⟨⟨by omega,by omega⟩,?_⟩;refine eZ (fun i ys ec=>∃ (bs:List Nat) (pn':PyData),ys=sgs bs/\bs.length=i/\(∀ c∈bs,Lt c)/\bR cs pn'/\ec=[.dat (.str abc),.ino pn']) ⟨[],pn1,rfl,rfl,fun s h=>(by cases h),hP1,rfl⟩ ?_ ?_
 ·rintro i d ys ec hd ⟨bs,pn',rfl,hl,h1,hP',rfl⟩;refine bY ?_;walk_at "d";intro v pn2 hP2 b0 b1;walk_at "n";walk_at "pp";refine ud rfl (mK b0 b1) ?_;refine ⟨_,rfl,bs++[97+v.toNat],pn2,by simp [sgs],by rw [Ho,hl];rfl,fun c hc=>?_,hP2,rfl⟩;rcases Ir.mp hc with hc | hc
  ·exact h1 c hc
  ·rw [Hw.mp hc];constructor <;> omega
 rintro ys ec ⟨bs,pn',rfl,hl,h1,hP',rfl⟩;have hl1:1<=bs.length:=by rw [hl,Hf,HP];omega
 have hl2:bs.length<=7:=by rw [hl,Hf,HP];omega
 clear hl;walk_at "q";with_reducible refine dG fun N eN=>?_
 have rest:∀ (bs:List Nat) pn' x4,soft x4->1<=bs.length->bs.length<=7->(∀ c∈bs,Lt c)->bR cs pn'->N [.ino pn',.dat (.int m),.dat (.str abc),.dat (.list (sgs bs)),x4,.un,.un,.un,.un,.un]:=by
  clear hP' h1 hl1 hl2 bs pn';intro bs pn' x4 s4 hl1 hl2 h1 hP';rw [eN];have hlen:(((sgs bs).length:Nat):Int)=bs.length:=by rw [Hf,Hf]
  walk_at "d";intro pl pn2 hP2 b0 b1;walk_at "n";walk_at "d";intro bg pn3 hP3 c0 c1;walk_at "n";walk_at "pp";refine ⟨⟨by omega,by omega⟩,?_⟩;refine aW (fun i e=>∃ (xs:List Str) (pn':PyData),xs.length=i/\(∀ k x,xs[k]?=some x->NmK pl.toNat bg 5 k x)/\bR cs pn'/\iD [some (.ino pn'),some (.dat (.int m)),some (.dat (.str abc)),some (.dat (.list (sgs bs))),none,some (.dat (.int pl)),some (.dat (.int bg)),some (.own (.list (xs.map .str))),none,none] e)
   ⟨[],pn3,rfl,fun k x h=>by simp at h,hP3,by walk_at "L"⟩ ?_ ?_
  ·rintro i d e hd ⟨xs,pn4,hxl,hx,hP4,_⟩;walk_at "l";obtain ⟨rfl,hi⟩:=lM hd;refine B5 (rh rfl (by assumption)) ?_;walk_at "n";walk_at "pp";refine ud rfl (mK (r:=(bg+5*i) % 26) (by omega) (by omega)) ?_;walk_at "pp";refine zB rfl rfl b0 b1 ?_;have es:(sgs bs).set pl.toNat (.str ⟨#[97+((bg+5*i) % 26).toNat]⟩)=sgs (bs.set pl.toNat (97+((bg+5*i) % 26).toNat)):=by simp only [sgs,List.map_set]
   rw [es];have hp:pl.toNat < bs.length:=by omega
   have h1':∀ c∈bs.set pl.toNat (97+((bg+5*i) % 26).toNat),Lt c:=fun c hc=>by
    rcases List.mem_or_eq_of_mem_set hc with hc | rfl
    ·exact h1 c hc
    ·constructor <;> omega
   have hg':(bs.set pl.toNat (97+((bg+5*i) % 26).toNat))[pl.toNat]?=some (97+((bg+5*i) % 26).toNat):=by rw [Hs hp]
   have hl':(bs.set pl.toNat (97+((bg+5*i) % 26).toNat)).length=bs.length:=HK;generalize bs.set pl.toNat (97+((bg+5*i) % 26).toNat)=ts at h1' hg' hl';with_reducible refine dG fun N2 eN2=>?_
   have last:∀ (us:List Nat) pn',(∀ c∈us,Lt c)->us.length<=8->us[pl.toNat]?=some (97+((bg+5*i) % 26).toNat)->bR cs pn'->∀ x4,soft x4->N2 [.ino pn',.dat (.int m),.dat (.str abc),.dat (.list (sgs bs)),x4,.dat (.int pl),.dat (.int bg),.own (.list (xs.map .str)),.dat (.int i),.own (.list (sgs us))]:=by
    intro us pn' hu hul hg hP' x4 s4';rw [eN2];walk_at "pp";refine uG (ss:=us.map sg) rfl rfl (hV us (by omega)) ?_;have hj:NmK pl.toNat bg 5 i (Txt.join "" (us.map sg)):=by
     refine ⟨fun c hc=>by rw [k5] at hc;exact hu c hc,by rw [l7];exact hul,by rw [l7];exact (Hl.mp hg).1,by rw [k5];exact hg⟩
    generalize Txt.join "" (us.map sg)=jn at hj;walk_at "pp";refine ny rfl (by rw [Hf,hxl];show i < 2 ^ 24;omega) rfl ?_;refine ⟨xs++[jn],pn',by rw [Ho,hxl];rfl,fun k x h=>?_,hP',by rw [HX];walk_at "L"⟩;rcases Ja k xs.length with z | z
    ·rw [HN z] at h;exact hx k x h
    ·rw [HE z] at h;have hk:k - xs.length=0:=by
      rcases Nat.eq_zero_or_pos (k - xs.length) with y | y
      ·exact y
      ·rw [IU (by simp;omega)] at h;cases h
     rw [hk] at h;have hk2:k=i:=by omega
     subst hk2;cases h;exact hj
   walk_at "d";intro v5 pn5 hP5 d0 d1;walk_at "n";walk_at "pp";refine dJ (fun e5=>?_) (fun e5=>?_)
   ·walk_at "d";intro v6 pn6 hP6 f0 f1;walk_at "n";walk_at "pp";refine ud rfl (mK f0 f1) ?_;walk_at "pp";refine ny rfl (by rw [Hf,Hf,hl'];show _ < 2 ^ 24;omega) rfl ?_
    have:=last (ts++[97+v6.toNat]) pn6 (fun c hc=>by
     rcases Ir.mp hc with hc | hc
     ·exact h1' c hc
     ·rw [Hw.mp hc];constructor <;> omega) (by rw [Ho,hl'];simp;omega) (by rw [HN (by omega)];exact hg') hP6
    simp only [sgs,HX] at this;exact this _ (by assumption)
   ·walk_at "pp";exact last ts pn5 h1' (by omega) hg' hP5 _ (by assumption)
  ·rintro e ⟨xs,pn4,hxl,hx,hP4,_⟩;walk_at "l";rw [ql] at hxl;walk_at "pp";refine q xs pn4 hP4 (by omega) (rQ (S:=pl.toNat) (st:=bg) (sp:=5) (.inr (.inr (.inl rfl))) (by omega) hx) fun x hm=>?_;obtain ⟨k,hk⟩:=IG.mp hm;have:=hx k x hk;exact ⟨this.1,this.2.1,by have:=this.2.2.1;omega⟩
 walk_at "d";intro v2 pn2 hP2 b0 b1;walk_at "n";walk_at "pp";refine dJ (fun e5=>?_) (fun e5=>?_)
 ·walk_at "d";intro v3 pn3 hP3 c0 c1;walk_at "n";walk_at "pp";obtain ⟨v,mv,ev⟩:=atV (xs:=wds) c0 c1;obtain ⟨wd,rfl,hw1,hw0,hw9⟩:=e8 v mv;refine oh rfl ev ?_;clear ev mv;walk_at "pp";have hcl:(chars wd).length=wd.length:=by rw [jO,Hf,Hf,gY]
  refine rC rfl (by rw [hcl,Hf,Hf];show _<=2 ^ 24;omega) ?_;walk_at "pp"
  have:=rest ((wd.cps.toList++bs).take 7) pn3 (.dat (.str wd)) zO (by rw [IE,Ho];omega) (by rw [IE];omega) (fun c hc=>by
   rcases Ir.mp (List.mem_of_mem_take hc) with hc | hc
   ·exact hw1 c hc
   ·exact h1 c hc) hP3
  rw [show sgs ((wd.cps.toList++bs).take 7)=cutD (chars wd++sgs bs) none (some 7) from ?_] at this
  ·exact this
  ·rw [i8 (by decide),jO,sgs,List.map_take,List.map_take,HX,HX];rfl
 ·walk_at "pp";exact rest _ _ _ Be hl1 hl2 h1 hP2
inductive Nd
 | num (n:Int)
 | gC (x:Str)
 | ax (x:Str)
noncomputable def Nd.enc:Nd->PyData
 | .num n=>.int n
 | .gC x=>.tuple [.str x]
 | .ax x=>.str x
noncomputable def Nd.key:Nd->Ky
 | .num n=>(0,n, "")
 | .gC x=>(1,0,x)
 | .ax x=>(2,0,x)
noncomputable def uQ (k:Ky):PyData:=.tuple [.int k.1,.int k.2.1,.str k.2.2]
theorem xc:∀ {a b:Nd},a.key=b.key->a=b
 | .num n,.num m,h=>by have:n=m:=congrArg (·.2.1) h;rw [this]
 | .gC x,.gC y,h=>by have:x=y:=congrArg (·.2.2) h;rw [this]
 | .ax x,.ax y,h=>by have:x=y:=congrArg (·.2.2) h;rw [this]
 | .num _,.gC _,h=>by have:=congrArg (·.1) h;simp [Nd.key] at this
 | .num _,.ax _,h=>by have:=congrArg (·.1) h;simp [Nd.key] at this
 | .gC _,.num _,h=>by have:=congrArg (·.1) h;simp [Nd.key] at this
 | .gC _,.ax _,h=>by have:=congrArg (·.1) h;simp [Nd.key] at this
 | .ax _,.num _,h=>by have:=congrArg (·.1) h;simp [Nd.key] at this
 | .ax _,.gC _,h=>by have:=congrArg (·.1) h;simp [Nd.key] at this
theorem fX:∀ {a b:Nd},PyData.eqv a.enc b.enc=true->a=b
 | .num n,.num m,h=>by
  have:n=m:=by simpa [Nd.enc,PyData.eqv] using h
  rw [this]
 | .gC x,.gC y,h=>by
  have:x=y:=by simpa [Nd.enc,PyData.eqv,PyData.eqvAll] using h
  rw [this]
 | .ax x,.ax y,h=>by
  have:x=y:=by simpa [Nd.enc,PyData.eqv] using h
  rw [this]
 | .num _,.gC _,h=>by simp [Nd.enc,PyData.eqv] at h
 | .num _,.ax _,h=>by simp [Nd.enc,PyData.eqv] at h
 | .gC _,.num _,h=>by simp [Nd.enc,PyData.eqv] at h
 | .gC _,.ax _,h=>by simp [Nd.enc,PyData.eqv] at h
 | .ax _,.num _,h=>by simp [Nd.enc,PyData.eqv] at h
 | .ax _,.gC _,h=>by simp [Nd.enc,PyData.eqv] at h
theorem cb (a:Nd):PyData.eqv a.enc a.enc=true:=by
 cases a <;> simp [Nd.enc,PyData.eqv,PyData.eqvAll]
theorem lq (a:Nd):noD a.enc=true:=by cases a <;> rfl
theorem lC (a:Nd):a.enc.depth<=2:=by
 cases a with
 | num n=>simp [Nd.enc,PyData.depth]
 | ax n=>simp [Nd.enc,PyData.depth]
 | gC n=>simp [Nd.enc,PyData.depth,PyData.depthAll]
theorem vJ (a:Nd):jK a.enc=true:=pj (lq a) (HJ (lC a) (by omega))
theorem qi {a:Nd} {Q:PR->List PyData->Prop} (q:Q (.dat (.str (match a with | .num _ => "number" | .gC _ => "said" | .ax _ => "thing"))) []):WF cZ [a.enc] Q:=by
 refine d4 rfl ?_;unfold iF;cases a <;> (unfold Nd.enc;walk_at "pp"; exact q)
structure Fc where
 t:Str
 b:Str
 n:Nd
noncomputable def Fc.enc (f:Fc):PyData:=.tuple [.str f.t,.str f.b,f.n.enc]
noncomputable def Fc.key (f:Fc):Fy:=(f.t,f.b,f.n.key)
theorem sN {a b:Fc} (h:a.key=b.key):a=b:=by
 obtain ⟨a1,a2,a3⟩:=a;obtain ⟨b1,b2,b3⟩:=b;have h1:a1=b1:=congrArg (·.1) h;have h2:a2=b2:=congrArg (·.2.1) h;have h3:a3=b3:=xc (congrArg (·.2.2) h);rw [h1,h2,h3]
theorem sJ {a b:Fc} (h:PyData.eqv a.enc b.enc=true):a=b:=by
 obtain ⟨a1,a2,a3⟩:=a;obtain ⟨b1,b2,b3⟩:=b;have h:a1=b1/\a2=b2/\PyData.eqv a3.enc b3.enc=true:=by simpa [Fc.enc,PyData.eqv,PyData.eqvAll] using h
 rw [h.1,h.2.1,fX h.2.2]
theorem qU (a:Fc):PyData.eqv a.enc a.enc=true:=by
 simp [Fc.enc,PyData.eqv,PyData.eqvAll,cb]
theorem sQ (a:Fc):a.enc.depth<=3:=by
 refine lF (k:=2) fun d hd=>?_;simp only [HB,Jb,Jx] at hd;rcases hd with rfl | rfl | rfl
 ·simp [PyData.depth]
 ·simp [PyData.depth]
 ·exact lC _
theorem vM (a:Fc):hk6 a.enc=true:=by
 unfold hk6;rw [HL];refine ⟨?_,HY (HJ (sQ a) (by omega))⟩;obtain ⟨t,b,n⟩:=a;cases n <;> rfl
section
variable {α:Type} {enc:α->PyData} (inj:∀ {a b:α},PyData.eqv (enc a) (enc b)=true->a=b) (rfl_:∀ a,PyData.eqv (enc a) (enc a)=true)
include inj rfl_
theorem fI {a:α}:∀ {L:List α},fy (L.map enc) (enc a)=true↔a∈L
 | []=>by simp [fy]
 | b :: L=>by
  have ih:=fI (a:=a) (L:=L);unfold fy at ih ⊢;rw [List.map_cons,Jr,J1,ih,HB];exact ⟨fun z=>z.elim (fun z=>.inl (inj z).symm) .inr,fun z=>z.elim (fun e=>.inl (e▸rfl_ _)) .inr⟩
end
theorem u0 {e:En} {x y:AV} {d:PyData} {ds:List PyData} {Q:RV->En->Prop} (h1:aQ e [x,y]=some [d,.list ds]) (h2:kB d=true) (h3:dq ds=true) (q:Q (.dat (.bool (!fy ds d))) e):WPr lY [x,y] e Q:=by
 refine ⟨_,.dat (.bool (!fy ds d)),h1,?_,q⟩;cases d with
 | dict kvs=>simp [kB,noD] at h2
 | _=>(show (if kB _=true/\dq ds=true then some (PR.dat (.bool (ngB true (fy ds _)))) else none)=_);rw [Hv ⟨h2,h3⟩];rfl
theorem rX (L:List Nd):dq (L.map Nd.enc)=true:=jA.mpr fun d hd=>by
 obtain ⟨x,_,rfl⟩:=HW.mp hd;exact lq x
theorem lX (a:Nd):kB a.enc=true:=by
 have h1:=lq a;have h2:=lC a;simp [kB,h1];omega
theorem mY {a:Nd} {Q:PR->List PyData->Prop} (q:Q (.dat (uQ a.key)) []):WF iX [a.enc] Q:=by
 refine d4 rfl ?_;unfold uM;cases a <;> (unfold Nd.enc;walk_at "pp"; exact q)
theorem CS {v:Int} {a b:PyData} (h0:0<=v) (h1:v < 2):∃ d,atI [a,b] v=some d/\(d=a\/d=b):=by
 obtain ⟨d,hd,ed⟩:=atV (xs:=[a,b]) h0 h1;exact ⟨d,ed,by simpa using hd⟩
theorem fZ {cs:List Int} {pn:PyData} {Q:PR->List PyData->Prop} (hP:bR cs pn) (q:∀ n pn',bR cs pn'->Q (.dat (.int n)) [pn']):WF cL [pn] Q:=by
 refine d4 rfl ?_;unfold jV;walk_at "d";intro v1 pn1 hP1 a0 a1;walk_at "n";walk_at "pp";refine dJ (fun e1=>?_) (fun e1=>?_)
 ·walk_at "d";intro v2 pn2 hP2 b0 b1;walk_at "n";walk_at "pp";exact q _ _ hP2
 walk_at "pp";refine dJ (fun e2=>?_) (fun e2=>?_)
 ·walk_at "d";intro v2 pn2 hP2 b0 b1;walk_at "n";walk_at "pp";exact q _ _ hP2
 walk_at "d";intro v2 pn2 hP2 b0 b1;walk_at "n";walk_at "pp";obtain ⟨d,ed,hd⟩:=CS (a:=.int 1) (b:=.int (-1)) b0 b1;obtain ⟨s,rfl,hs⟩:∃ s:Int,d=.int s/\(s=1\/s=-1):=by rcases hd with rfl | rfl <;> exact ⟨_,rfl,by decide⟩
 refine oh rfl ed ?_;clear ed hd;walk_at "pp";refine dJ (fun e3=>?_) (fun e3=>?_)
 ·walk_at "d";intro v3 pn3 hP3 c0 c1;walk_at "n";walk_at "pp";exact q _ _ hP3
 walk_at "d";intro v3 pn3 hP3 c0 c1;walk_at "n";walk_at "d";intro v4 pn4 hP4 d0 d1;walk_at "n";walk_at "pp";obtain ⟨d,hd,ed⟩:=atV (xs:=([.int (10 ^ 9),.int (10 ^ 18),.int (10 ^ 27)]:List PyData)) d0 d1;obtain ⟨k,rfl,hk⟩:∃ k:Int,d=.int k/\(0 < k/\k<=10 ^ 27):=by
  simp only [HB,Jb,Jx] at hd;rcases hd with rfl | rfl | rfl <;> exact ⟨_,rfl,by decide⟩
 refine oh rfl ed ?_;clear ed hd;have hm:mulC (s*v3) k=true:=by
  have h3:-1000 < s*v3/\s*v3 < 1000:=by rcases hs with rfl | rfl <;> omega
  simp only [mulC,J1,HL,IV];omega
 walk_at "pp";exact q _ _ hP4
theorem nf {b:Bool} (h:(!b)=false):b=true:=by cases b;cases h;rfl
theorem nt {b:Bool} (h:(!b)=true):b=false:=by cases b;rfl;cases h
def NoT (a:Nd):Prop:=∀ x,a≠.ax x
theorem qc {cs:List Int} {pn:PyData} {m:Int} {Q:PR->List PyData->Prop} (hP:bR cs pn) (h0:0<=m) (hm:m<=8) (q:∀ (vs:List Nd) pn',bR cs pn'->(vs.length:Int)<=m->vs.Nodup->(∀ v∈vs,NoT v)->Q (.frs (.list (vs.map Nd.enc))) [pn']):WF gb [pn,.int m] Q:=by
 refine d4 rfl ?_;unfold kM;walk_at "pp";refine ⟨⟨by omega,by omega⟩,?_⟩;refine aW (fun i e=>∃ (vs:List Nd) (pn':PyData),vs.length<=i/\vs.Nodup/\(∀ v∈vs,NoT v)/\bR cs pn'/\iD [some (.ino pn'),some (.dat (.int m)),some (.dat (.str abc)),some (.own (.list (vs.map Nd.enc))),none,none] e)
  ⟨[],pn,Hn 0,List.nodup_nil,fun v h=>(by cases h),hP,by walk_at "L"⟩ ?_ ?_
 ·rintro i d e hd ⟨vs,pn1,hvl,hvn,hvt,hP1,_⟩;walk_at "l";obtain ⟨rfl,hi⟩:=lM hd;walk_at "f";walk_at "pp";refine af (is:=[0]) rfl rfl (fZ hP1 fun n pn2 hP2=>⟨rfl,?_⟩);walk_at "n";walk_at "q";with_reducible refine dG fun N eN=>?_
  have rest:∀ (a:Nd) pn',NoT a->bR cs pn'->N [.ino pn',.dat (.int m),.dat (.str abc),.own (.list (vs.map Nd.enc)),.dat (.int i),.dat a.enc]:=by
   intro a pn' ha hP';rw [eN];walk_at "pp";refine u0 rfl (lX a) (rX vs) ?_;walk_at "pp";refine dJ (fun c=>?_) fun c=>?_
   ·have hn:a ∉ vs:=fun z=>by
     have:=(fI fX cb).mpr z;rw [nt c] at this;cases this
    walk_at "pp";refine ny rfl (by rw [Hf];show vs.length < 2 ^ 24;omega) rfl ?_;refine ⟨vs++[a],pn',by rw [Ho];show vs.length+1<=_;omega,List.nodup_append.mpr ⟨hvn,by simp,fun x hx y hy e=>hn (Hw.mp hy▸e▸hx)⟩,fun v hv=>?_,hP',by rw [HX];walk_at "L"⟩;rcases Ir.mp hv with hv | hv
    ·exact hvt v hv
    ·rw [Hw.mp hv];exact ha
   ·walk_at "pp";exact ⟨vs,pn',by omega,hvn,hvt,hP',by walk_at "L"⟩
  walk_at "d";intro v3 pn3 hP3 c0 c1;walk_at "n";walk_at "pp";refine dJ (fun e5=>?_) (fun e5=>?_)
  ·walk_at "d";intro v4 pn4 hP4 d0 d1;walk_at "n";walk_at "pp";refine ⟨⟨by omega,by omega⟩,?_⟩;refine eZ (fun i ys ec=>∃ (bs:List Nat) (pn':PyData),ys=sgs bs/\bs.length=i/\bR cs pn'/\ec=[.dat (.str abc),.ino pn']) ⟨[],pn4,rfl,rfl,hP4,rfl⟩ ?_ ?_
   ·rintro i d ys ec hd ⟨bs,pn',rfl,hl,hP',rfl⟩;refine bY ?_;walk_at "d";intro v pn2 hP2 b0 b1;walk_at "n";walk_at "pp";refine ud rfl (mK b0 b1) ?_;exact ⟨_,rfl,bs++[97+v.toNat],pn2,by simp [sgs],by rw [Ho,hl];rfl,hP2,rfl⟩
   rintro ys ec ⟨bs,pn',rfl,hl,hP',rfl⟩;walk_at "n";walk_at "pp";refine uG (ss:=bs.map sg) rfl rfl (hV bs (by rw [hl,Hf,HP];omega)) ?_;generalize Txt.join "" (bs.map sg)=x;walk_at "pp";exact rest (.gC x) pn' (fun _ h=>nomatch h) hP'
  ·walk_at "pp";exact rest (.num n) pn3 (fun _ h=>nomatch h) hP3
 ·rintro e ⟨vs,pn1,hvl,hvn,hvt,hP1,_⟩;walk_at "l";rw [ql] at hvl;walk_at "pp";exact q vs pn1 hP1 (by omega) hvn hvt
theorem Es (a:Fc):Sg.zv fyS pV a.enc=some a.key:=by
 have h:WF pV [a.enc] fun pr outs=>pr=.dat (.tuple [.str a.t,.str a.b,uQ a.n.key])/\outs=[]:=by
  refine d4 rfl ?_;unfold Fc.enc;walk_at "pp";refine af (ds:=[a.n.enc]) (is:=[]) rfl rfl (mY ⟨rfl,?_⟩);walk_at "n";walk_at "pp";exact ⟨rfl,rfl⟩
 obtain ⟨pr,outs,h1,rfl,rfl⟩:=h;unfold Sg.zv;rw [h1];rfl
theorem u9:∀ U:List Fc,Sg.jH fyS pV (U.map Fc.enc)=some (U.map Fc.key)
 | []=>rfl
 | a :: U=>by
  rw [List.map_cons,Sg.jH,Es,u9 U];rfl
theorem oU {U:List Fc} (h:U.Nodup):(U.map Fc.key).Nodup:=Jm.mpr (h.imp fun hn e=>hn (sN e))
noncomputable abbrev kvs (U:List Fc):List (PyData×PyData):=U.map fun a=>(Fc.enc a,PyData.bool true)
theorem j8 {α β:Type} {f:α->β} {l m:List β} (h:l.Perm m):∀ U:List α,m=U.map f->∃ L:List α,l=L.map f/\L.Perm U:=by
 induction h with
 | nil=>intro U e;exact ⟨[],rfl,by rw [List.map_eq_nil_iff.mp e.symm]⟩
 | cons x _ ih =>
  intro U e;cases U with
  | nil=>cases e
  | cons u U=>cases e;obtain ⟨L,rfl,hp⟩:=ih U rfl;exact ⟨u :: L,rfl,hp.cons u⟩
 | swap x y l =>
  intro U e
  match U,e with
  | u :: v :: U,e=>cases e;exact ⟨v :: u :: U,rfl,.swap ..⟩
 | trans _ _ ih1 ih2 =>
  intro U e;obtain ⟨M,rfl,h2⟩:=ih2 U e;obtain ⟨L,h3,h4⟩:=ih1 M rfl;exact ⟨L,h3,h4.trans h2⟩
theorem tK (U:List Fc):∃ L:List Fc,L.Perm U/\(Sg.u6 (S:=fyS) ((U.map Fc.key).zip (U.map Fc.enc))).map (·.2)=L.map Fc.enc:=by
 have h1:((U.map Fc.key).zip (U.map Fc.enc))=U.map fun a=>(a.key,a.enc):=by rw [List.zip_map']
 have h2:=(Sg.d6 (S:=fyS) ((U.map Fc.key).zip (U.map Fc.enc)));obtain ⟨L,h3,h4⟩:=j8 (f:=fun a:Fc=>(a.key,a.enc)) h2 U h1;exact ⟨L,h4,(congrArg (List.map (·.2)) h3).trans (by show List.map (fun x:Fy×PyData=>x.2) (List.map (fun a:Fc=>(a.key,a.enc)) L)=_;rw [Ij];rfl)⟩
theorem tS {U:List Fc} {Q:PR->List PyData->Prop} (hU:U.Nodup) (hl:U.length < 64) (q:∀ L:List Fc,L.Perm U->Q (.dat (.tuple (L.map Fc.enc))) []):WF bC [.dict (kvs U)] Q:=by
 obtain ⟨L,hp,eL⟩:=tK U;refine d4 rfl ?_;unfold cJ;walk_at "pp";refine ⟨_,.frs (.list (L.map Fc.enc)),rfl,?_,?_⟩
 ·have e1:(kvs U).map (·.1)=U.map Fc.enc:=by rw [Ij];rfl
  rw [e1];show Sg.mG fyS pV [.list (U.map Fc.enc)]=_;unfold Sg.mG;dsimp only;rw [u9];dsimp only;rw [Hv ⟨by rw [Hf];exact hl,@decide_eq_true _ (_) (oU hU)⟩];exact congrArg (fun z=>some (PR.frs (PyData.list z))) eL
 ·walk_at "pp";exact q L hp
theorem ifT {α:Type} {c:Bool} {y:α} (h:c=true):some y=if c=true then some y else none:=(Hv h).symm
theorem ifF {α:Type} {c:Bool} {y:α} (h:c=false):none=if c=true then some y else none:=by rw [h];rfl
section
variable {α:Type} {st:PyData->En->Option (Option PyData×En)} {js:List Nat} {lk:Option Nat} {e1:En} {Q:RV->En->Prop}
theorem dW (xs:List α) (enc:α->PyData) (p:α->Bool) (g:α->PyData)
  (hs:∀ x∈xs,p5 st (enc x) (bW e1 lk js) fun y e=>(y=if p x=true then some (g x) else none)/\e=bW e1 lk js) (hq:Q (.frs (.list ((xs.filter p).map g))) e1) (hb:aH e1 js (bW e1 lk js)=e1:=by exact rfl):yt st js (xs.map enc) lk e1 Q:=by
 refine eZ (fun i ys ec=>ys=((xs.take i).filter p).map g/\ec=bW e1 lk js) ⟨rfl,rfl⟩ ?_ ?_
 ·rintro i d ys ec hd ⟨rfl,rfl⟩;rw [Hq] at hd;obtain ⟨x,hx,rfl⟩:=HC.mp hd;obtain ⟨y,e,h1,rfl,rfl⟩:=hs x (HG hx);refine ⟨_,_,h1,?_,rfl⟩;rw [<- take_snoc hx,List.filter_append,HX];cases z:p x <;> simp [z]
 ·rintro ys ec ⟨rfl,rfl⟩;rw [Hf,List.take_length,hb];exact hq
theorem pP (xs:List α) (enc:α->PyData) (g:α->PyData)
  (hs:∀ x∈xs,p5 st (enc x) (bW e1 lk js) fun y e=>y=some (g x)/\e=bW e1 lk js) (hq:Q (.frs (.list (xs.map g))) e1) (hb:aH e1 js (bW e1 lk js)=e1:=by exact rfl):yt st js (xs.map enc) lk e1 Q :=
 dW xs enc (fun _=>true) g (fun x hx=>by obtain ⟨y,e,h1,rfl,rfl⟩:=hs x hx;exact ⟨_,_,h1,rfl,rfl⟩) (by rw [List.filter_eq_self.mpr fun _ _=>rfl];exact hq) hb
end
theorem qt (x y:Str) (c:Nat) (hy:y.cps=#[c]):(decide (y.length<=x.length)&&Builtin.Str.subAt x y 0)=decide (x.cps.toList.head?=some c):=by
 obtain ⟨⟨l⟩⟩:=x;obtain ⟨yc⟩:=y;have hy:yc=#[c]:=hy;subst hy;cases l with
 | nil=>rfl
 | cons a l =>
  unfold Builtin.Str.subAt;have e1:decide ((⟨#[c]⟩:Str).length<=(⟨⟨a :: l⟩⟩:Str).length)=true:=HY (by show 1<=(a :: l).length;simp);rw [e1,Bool.true_and];have e2:((⟨⟨a :: l⟩⟩:Str).cps.extract 0 (0+(⟨#[c]⟩:Str).length))=#[a]:=by
   show (⟨a :: l⟩:Array Nat).extract 0 1=#[a];simp
  rw [e2];show ((#[a]:Array Nat)==#[c])=decide (some a=some c);by_cases h:a=c
  ·subst h;simp
  ·rw [Il (by simpa using h)];simp [h]
theorem CA {x:Str} {k:Int} (h:0<=k):(oT x (some k) none).cps.toList=x.cps.toList.drop k.toNat:=by
 unfold oT;have e1:HT.sIx x.length 0 (some k)=min k.toNat x.length:=by
  simp only [HT.sIx];rw [Hz (by omega)]
 have e2:HT.sIx x.length x.length none=x.length:=rfl;rw [e1,e2];show (((x.cps.toList.drop (min k.toNat x.length)).take (x.length - min k.toNat x.length)).toArray).toList=_;rw [Jl (by rw [Jq,gY];omega)];by_cases z:k.toNat<=x.length
 ·rw [Nat.min_eq_left z]
 ·rw [List.drop_of_length_le (by rw [gY];omega),List.drop_of_length_le (by rw [gY];omega)]
theorem uI {x:Str} (h:Ltr x):(decide ((Str.ofString "^").length<=x.length)&&Builtin.Str.subAt x "^" 0)=false:=by
 rw [qt x (Str.ofString "^") 94 rfl];refine Il fun z=>?_;cases e:x.cps.toList with
 | nil=>rw [e] at z;cases z
 | cons c r =>
  rw [e] at z;have:=h c (by rw [e];exact Hu);cases z;omega
theorem o5 {x:Str}:(decide ((Str.ofString "^").length<=((Str.ofString "^")++x).length)&&Builtin.Str.subAt ((Str.ofString "^")++x) "^" 0)=true:=by
 rw [qt _ (Str.ofString "^") 94 rfl,fW];rfl
theorem qp {x y:Str} (h:x.cps.toList=y.cps.toList):x=y:=by
 obtain ⟨a⟩:=x;obtain ⟨b⟩:=y;exact congrArg Str.mk (Array.toList_inj.mp h)
theorem vN {x:Str}:oT ((Str.ofString "^")++x) (some 1) none=x:=by
 apply qp;rw [CA (by decide),fW];rfl
theorem sU {x:Str} {b:Bool} {Q:PR->List PyData->Prop} (h:(decide ((Str.ofString "^").length<=x.length)&&Builtin.Str.subAt x "^" 0)=b) (q:Q (.dat (.bool b)) []):WF a9 [.str x] Q:=by
 refine d4 rfl ?_;unfold du;walk_at "pp";rw [h];exact q
theorem t7 {x:Str} {Q:PR->List PyData->Prop} (h:Ltr x) (q:Q (.dat (.str x)) []):WF df [.str x] Q:=by
 refine d4 rfl ?_;unfold e6;walk_at "pp";refine af (ds:=[.str x]) (is:=[]) rfl rfl (sU (uI h) ⟨rfl,?_⟩);walk_at "pp";exact q
theorem uj {x:Str} {Q:PR->List PyData->Prop} (q:Q (.dat (.str x)) []):WF df [.str ((Str.ofString "^")++x)] Q:=by
 refine d4 rfl ?_;unfold e6;walk_at "pp";refine af (ds:=[.str ((Str.ofString "^")++x)]) (is:=[]) rfl rfl (sU o5 ⟨rfl,?_⟩);walk_at "pp";rw [vN];exact q
noncomputable def pF (a:Nd) (b:Str) (f:Fc):Bool:=PyData.eqv (.str f.t) a.enc&&PyData.eqv (.str f.b) (.str b)
noncomputable def pB (a:Nd) (b:Str) (f:Fc):Bool:=PyData.eqv (.str f.b) (.str b)&&PyData.eqv f.n.enc a.enc
theorem nM {e:En} {x y:AV} {a:Nd} {t:Nd} {Q:RV->En->Prop} (h1:aQ e [x,y]=some [t.enc,a.enc]) (q:Q (.dat (.bool (PyData.eqv t.enc a.enc))) e):WPr eqP [x,y] e Q:=w_eq h1 (vJ t) (vJ a) q
theorem uh {L:List Fc} {a:Nd} {x:Str} {Q:PR->List PyData->Prop} (h:Ltr x) (q:Q (.frs (.list (((L.filter (pF a x)).map (·.n)).map Nd.enc))) []):WF gL [.tuple (L.map Fc.enc),a.enc,.str x] Q:=by
 refine d4 rfl ?_;unfold lN;walk_at "pp";refine af (ds:=[.str x]) (is:=[]) rfl rfl (t7 h ⟨rfl,?_⟩);walk_at "pp";refine af (ds:=[.str x]) (is:=[]) rfl rfl (sU (uI h) ⟨rfl,?_⟩);walk_at "pp";rw [Ij] at q;refine dW L Fc.enc (pF a x) (fun f=>f.n.enc) (fun f hf=>?_) ?_
 ·refine bY ?_;unfold Fc.enc;walk_at "ps";refine nM (t:=.ax f.t) (a:=a) rfl ?_;walk_at "ps";refine dJ (fun c1=>?_) (fun c1=>?_)
  ·walk_at "ps";refine nM (t:=.ax f.b) (a:=.ax x) rfl ?_;walk_at "ps";refine dJ (fun c2=>?_) (fun c2=>?_)
   ·walk_at "pp";exact ⟨ifT (Iu.mpr ⟨c1,c2⟩),rfl⟩
   ·exact ⟨ifF (J4.mpr (.inr c2)),rfl⟩
  ·exact ⟨ifF (J4.mpr (.inl c1)),rfl⟩
 ·walk_at "n";walk_at "pp";exact q
theorem s8 {L:List Fc} {a:Nd} {x:Str} {Q:PR->List PyData->Prop} (q:Q (.frs (.list (((L.filter (pB a x)).map (fun f=>Nd.ax f.t)).map Nd.enc))) []):WF gL [.tuple (L.map Fc.enc),a.enc,.str ((Str.ofString "^")++x)] Q:=by
 refine d4 rfl ?_;unfold lN;walk_at "pp";refine af (ds:=[.str ((Str.ofString "^")++x)]) (is:=[]) rfl rfl (uj ⟨rfl,?_⟩);walk_at "pp";refine af (ds:=[.str ((Str.ofString "^")++x)]) (is:=[]) rfl rfl (sU o5 ⟨rfl,?_⟩);walk_at "pp";rw [Ij] at q;refine dW L Fc.enc (pB a x) (fun f=>(Nd.ax f.t).enc) (fun f hf=>?_) ?_
 ·refine bY ?_;unfold Fc.enc;walk_at "ps";refine nM (t:=.ax f.b) (a:=.ax x) rfl ?_;walk_at "ps";refine dJ (fun c1=>?_) (fun c1=>?_)
  ·walk_at "ps";refine nM (t:=f.n) (a:=a) rfl ?_;walk_at "ps";refine dJ (fun c2=>?_) (fun c2=>?_)
   ·walk_at "pp";exact ⟨ifT (Iu.mpr ⟨c1,c2⟩),rfl⟩
   ·exact ⟨ifF (J4.mpr (.inr c2)),rfl⟩
  ·exact ⟨ifF (J4.mpr (.inl c1)),rfl⟩
 ·walk_at "n";walk_at "pp";exact q
noncomputable def bts (a:Nd) (L:List Fc):List Str:=(L.filter fun f=>PyData.eqv (.str f.t) a.enc).map (·.b)
theorem k0 {a:Nd} {L:List Fc}:(bts a L).length<=L.length:=by unfold bts;rw [Hf];exact List.length_filter_le ..
theorem FQ {L:List Fc} {a:Nd} {js:List Nat} {lk:Option Nat} {e1:En} {Q:RV->En->Prop} (hc:bW e1 lk js=[.dat a.enc]) (q:Q (.frs (.list ((bts a L).map .str))) e1) (hb:aH e1 js (bW e1 lk js)=e1):yt (fc (dT gds (.tst (.prm eqP (.cons (.prm ixP (.cons (.var 0) (.cons (.cst (.i 0)) .nil))) (.cons (.var 1) .nil))))) (dE gds (.prm ixP (.cons (.var 0) (.cons (.cst (.i 1)) .nil))))) js (L.map Fc.enc) lk e1 Q:=by
 unfold bts at q;rw [Ij] at q;refine dW L Fc.enc (fun f=>PyData.eqv (.str f.t) a.enc) (fun f=>.str f.b) (fun f hf=>?_) q hb;rw [hc];refine bY ?_;unfold Fc.enc;walk_at "ps";refine nM (t:=.ax f.t) (a:=a) rfl ?_;walk_at "ps";refine dJ (fun c1=>?_) (fun c1=>?_)
 ·walk_at "pp";exact ⟨ifT c1,rfl⟩
 ·exact ⟨ifF c1,rfl⟩
theorem ua {L:List Fc} {a:Nd} {Q:PR->List PyData->Prop} (hl:L.length<=60) (q:Q (.frs (.list ((fC (bF (bts a L))).map .str))) []):WF dZ [.tuple (L.map Fc.enc),a.enc] Q:=by
 refine d4 rfl ?_;unfold gp;walk_at "pp";refine FQ rfl ?_ rfl;walk_at "pp";refine oD (ss:=bts a L) rfl (by have:=k0 (a:=a) (L:=L);omega) ?_;walk_at "pp";exact q
noncomputable abbrev KD (G:List Nd):PyData:=.dict [(.list (G.map Nd.enc),.none)]
noncomputable abbrev WB (L:List Fc):PyData:=.tuple (L.map Fc.enc)
def ou (n:Nat) (L:List Fc) (fs:List PyData) (a:Nd) (G:List Nd) (b:Bool):Prop:=∀ {Q:PR->List PyData->Prop},Q (.dat (.bool b)) []->WF (aw n) [WB L,.tuple fs,a.enc,KD G] Q
section
variable {n:Nat} {L:List Fc} {a:Nd} {G:List Nd} {Q:PR->List PyData->Prop}
theorem eU {fs:List PyData} {b due:Bool} (h:ou 2 L fs a G b) (e:b=due) (q:Q (.dat (.bool true)) []):WF dh [WB L,.tuple fs,a.enc,.list (G.map Nd.enc),.bool due] Q:=by
 subst e;obtain ⟨pr,outs,hF,rfl,rfl⟩:=h (Q:=fun pr outs=>pr=.dat (.bool b)/\outs=[]) ⟨rfl,rfl⟩;refine d4 rfl ?_;unfold Bz;walk_at "pp";refine ⟨_,.dat (.bool b),rfl,?_,?_⟩
 ·show (if ms4 _=true/\ndL (WB L)=true/\ndL (.tuple fs)=true/\ndL a.enc=true then (match (aw 2).F [WB L,.tuple fs,a.enc,KD G] with | some (.dat (.bool x),[])=>some (PR.dat (.bool x)) | _=>none) else none)=_;rw [Hv ⟨rfl,rfl,rfl,by cases a <;> rfl⟩,hF]
 ·cases b <;> (walk_at "pp"; exact q)
theorem vA:ou (n+1) L [.str "any"] a G true:=by
 intro Q q;refine d4 rfl ?_;unfold aD;walk_at "pp";exact q
theorem Eu (q:Q (.dat (.bool (fy (G.map Nd.enc) a.enc))) []):WF (vT inP) [KD G,a.enc,.str "a"] Q:=by
 have e:inP.f [a.enc,.list (G.map Nd.enc)]=some (.dat (.bool (fy (G.map Nd.enc) a.enc))):=by
  have h2:=lX a;cases a <;> (show (if kB _=true/\dq (G.map Nd.enc)=true then some (PR.dat (.bool (fy (G.map Nd.enc) _))) else none)=_;exact Hv ⟨h2,rX G⟩)
 refine ⟨.dat (.bool (fy (G.map Nd.enc) a.enc)),[],?_,q⟩;show (((inP.f [a.enc,.list (G.map Nd.enc)]).bind fun r=>match r with | .dat (.bool x)=>some (PR.dat (.bool x)) | _=>none).map fun r=>(r,([]:List PyData)))=_;rw [e];rfl
theorem mR:ou (n+1) L [.str "keeps", .str "a"] a G (fy (G.map Nd.enc) a.enc):=by
 intro Q q;refine d4 rfl ?_;unfold aD;walk_at "pp";refine af (ds:=[KD G,a.enc,.str "a"]) (is:=[]) rfl rfl (Eu ⟨rfl,?_⟩);walk_at "n";walk_at "pp";exact q
theorem EM {c:Nd}:ou (n+1) L [.str "is", c.enc] a G (PyData.eqv a.enc c.enc):=by
 intro Q q;refine d4 rfl ?_;unfold aD;walk_at "pp";refine nM (t:=a) (a:=c) rfl ?_;walk_at "pp";exact q
theorem xq {k:Nat} (hk:k < 3):ou (n+1) L [.str (["number", "said", "thing"].getD k "")] a G (PyData.eqv (.int a.key.1) (.int k)):=by
 intro Q q;refine d4 rfl ?_;unfold aD;rcases (show k=0\/k=1\/k=2 by omega) with rfl | rfl | rfl <;> (walk_at "pp"; refine af (ds:=[a.enc]) (is:=[]) rfl rfl (qi ⟨rfl,?_⟩);walk_at "n"; cases a <;> (walk_at "pp"; exact q))
theorem tE {w:Str} {m:Int} (hw:w = "from" \/ w = "upto") (q:Q (.dat (.bool (match a with | .num i=>if w = "from" then decide (i>=m) else decide (i<=m) | _=>false))) []):WF bJ [.tuple [.str w,.int m],a.enc] Q:=by
 refine d4 rfl ?_;unfold dH;walk_at "pp";refine af (ds:=[a.enc]) (is:=[]) rfl rfl (qi ⟨rfl,?_⟩);walk_at "n";rcases hw with rfl | rfl <;> cases a <;> (walk_at "pp"; exact q)
theorem fK {w:Str} {m:Int} (hw:w = "from" \/ w = "upto"):ou (n+1) L [.str w,.int m] a G (match a with | .num i=>if w = "from" then decide (i>=m) else decide (i<=m) | _=>false):=by
 intro Q q;refine d4 rfl ?_;unfold aD;have h2:=hw;rcases h2 with rfl | rfl <;> (walk_at "pp"; refine af (ds:=[.tuple [.str _,.int m],a.enc]) (is:=[]) rfl rfl (tE hw ⟨rfl,?_⟩);walk_at "n"; walk_at "pp"; exact q)
noncomputable def tY (bs cs:List Str):Bool:=bs.all fun b=>fy (cs.map .str) (.str b)
theorem Bn {α:Type} {e:En} {x:AV} {xs:List α} {b:α->Bool} {Q:RV->En->Prop} (h1:aQ e [x]=some [.list (xs.map fun y=>.bool (b y))]) (q:Q (.dat (.bool (xs.all b))) e):WPr Cf [x] e Q :=
 w_all (bs:=xs.map b) (by rw [Ij];exact h1) (by rw [List.all_map];exact q)
theorem lQ:∀ xs:List Str,dq (xs.map .str)=true
 | []=>rfl
 | x :: xs=>by rw [List.map_cons];exact lQ xs
theorem ze {e:En} {x y:AV} {z:PyData} {ds:List PyData} {Q:RV->En->Prop} (h1:aQ e [x,y]=some [z,.tuple ds]) (h2:kB z=true) (h3:dq ds=true) (q:Q (.dat (.bool (fy ds z))) e):WPr inP [x,y] e Q:=by
 refine ⟨_,.dat (.bool (fy ds z)),h1,?_,q⟩;cases z with
 | dict kvs=>simp [kB,noD] at h2
 | _=>(show (if kB _=true/\dq ds=true then some (PR.dat (.bool (ngB false (fy ds _)))) else none)=_);rw [Hv ⟨h2,h3⟩];rfl
theorem ke {cs:List Str} (hl:L.length<=60):ou (n+1) L [.str "closed", .tuple (cs.map .str)] a G (tY (fC (bF (bts a L))) cs):=by
 intro Q q;refine d4 rfl ?_;unfold aD;walk_at "pp";refine af (ds:=[WB L,a.enc]) (is:=[]) rfl rfl (ua hl ⟨rfl,?_⟩);walk_at "n";walk_at "pp";refine fh rfl (pP (fC (bF (bts a L))) .str (fun b=>.bool (fy (cs.map .str) (.str b))) (fun b hb=>?_) ?_)
 ·refine bY ?_;walk_at "pp";refine ze rfl rfl (lQ cs) ?_;walk_at "pp";exact ⟨rfl,rfl⟩
 ·walk_at "pp";refine Bn rfl ?_;walk_at "pp";exact q
noncomputable def btw (c lo:Int) (hi:PyData):Bool:=decide (lo<=c)&&(match hi with | .int h=>decide (c<=h) | _=>true)
def Hi (d:PyData):Prop:=d=.none\/∃ h,d=.int h
theorem iM {c lo:Int} {hi:PyData} (hh:Hi hi) (q:Q (.dat (.bool (btw c lo hi))) []):WF bt [.int c,.int lo,hi] Q:=by
 refine d4 rfl ?_;unfold eS;unfold btw at q;rcases hh with rfl | ⟨h,rfl⟩
 ·walk_at "pp";refine dJ (fun c1=>?_) fun c1=>?_
  ·rw [show decide (lo<=c)=true from c1] at q;walk_at "pp";exact q
  ·rw [show decide (lo<=c)=false from c1] at q;walk_at "pp";exact q
 ·walk_at "pp";refine dJ (fun c1=>?_) fun c1=>?_
  ·rw [show decide (lo<=c)=true from c1] at q;walk_at "pp";exact q
  ·rw [show decide (lo<=c)=false from c1] at q;walk_at "pp";exact q
end
section
variable {n:Nat} {L:List Fc} {a:Nd} {G:List Nd} {Q:PR->List PyData->Prop}
def ju (L:List Fc) (a:Nd) (st:PyData) (E:List Nd):Prop:=∀ {Q:PR->List PyData->Prop},Q (.frs (.list (E.map Nd.enc))) []->WF gL [WB L,a.enc,st] Q
noncomputable def wkB (h:Str) (E:List Nd) (p:Nd->Bool) (lo:Int) (hi:PyData):Bool:=if h = "each" then btw E.length lo hi&&PyData.eqv (.int (E.filter p).length) (.int E.length) else btw (E.filter p).length lo hi
theorem wb {h:Str} {lo:Int} {hi st:PyData} {fs:List PyData} {E:List Nd} {p:Nd->Bool} (hh:h = "each" \/ h = "many") (hH:Hi hi) (hE:ju L a st E) (hI:∀ b∈E,ou (n+1) L fs b G (p b)) (q:Q (.dat (.bool (wkB h E p lo hi))) []):WF (cm (aw (n+1))) [WB L,.tuple [.str h,.int lo,hi,st,.tuple fs],a.enc,KD G] Q:=by
 refine d4 rfl ?_;unfold ee;walk_at "pp";refine af (ds:=[WB L,a.enc,st]) (is:=[]) rfl rfl (hE ⟨rfl,?_⟩);walk_at "n";walk_at "q";have el:∀ X:List Nd,(((X.map Nd.enc).length:Nat):Int)=X.length:=fun X=>by rw [Hf]
 with_reducible refine dG fun N eN=>?_
 have rest:(h = "each" -> btw E.length lo hi=true)->N ([.dat (WB L),.dat (.tuple [.str h,.int lo,hi,st,.tuple fs]),.dat a.enc,tw (KD G),.dat (.list (E.map Nd.enc)),.un]:En):=by
  intro hb;rw [eN];walk_at "pp";refine fh rfl (dW E Nd.enc p Nd.enc (fun b hb=>?_) ?_)
  ·refine bY ?_;walk_at "pp";refine af (ds:=[WB L,.tuple fs,b.enc,KD G]) (is:=[]) rfl rfl (hI b hb ⟨rfl,?_⟩);walk_at "pp";refine dJ (fun c=>?_) fun c=>?_
   ·walk_at "pp";exact ⟨ifT c,rfl⟩
   ·exact ⟨ifF c,rfl⟩
  ·walk_at "n";unfold wkB at q;rcases hh with rfl | rfl
   ·rw [Hv rfl,hb rfl] at q;walk_at "pp";rw [el,el];exact q
   ·rw [Hz (by decide)] at q;walk_at "pp";rw [el];refine af (ds:=[.int (E.filter p).length,.int lo,hi]) (is:=[]) rfl rfl (iM hH ⟨rfl,?_⟩);walk_at "pp";exact q
 rcases hh with rfl | rfl
 ·walk_at "pp";rw [el];refine af (ds:=[.int E.length,.int lo,hi]) (is:=[]) rfl rfl (iM hH ⟨rfl,?_⟩);walk_at "pp";refine dJ (fun c=>?_) fun c=>?_
  ·walk_at "pp";unfold wkB at q;rw [Hv rfl,nt c] at q;exact q
  ·walk_at "pp";exact rest fun _=>nf c
 ·walk_at "pp";exact rest fun z=>absurd z (by decide)
theorem ly {h:Str} {lo:Int} {hi st:PyData} {fs:List PyData} {E:List Nd} {p:Nd->Bool} (hh:h = "each" \/ h = "many") (hH:Hi hi) (hE:ju L a st E) (hI:∀ b∈E,ou (n+1) L fs b G (p b)):ou (n+1+1) L [.str h,.int lo,hi,st,.tuple fs] a G (wkB h E p lo hi):=by
 intro Q q;refine d4 rfl ?_;unfold aD;have go:=fun {Q:PR->List PyData->Prop}=>wb (Q:=Q) (lo:=lo) hh hH hE hI;rcases hh with rfl | rfl <;> (walk_at "pp"; refine af (is:=[]) rfl rfl (go ⟨rfl,?_⟩);walk_at "pp"; exact q)
end
def Pr2 (d:PyData):Prop:=∃ (lo:Int) (hi:PyData),d=.tuple [.int lo,hi]/\Hi hi
theorem jR {m:Int} {Q:PR->List PyData->Prop} (q:∀ ps:List PyData,(∀ d∈ps,Pr2 d)->Q (.frs (.list ps)) []):WF d5 [.int m] Q:=by
 refine d4 rfl ?_;unfold jY;walk_at "pp";refine aW (fun i e=>∃ ps:List PyData,ps.length<=4*i/\(∀ d∈ps,Pr2 d)/\iD [some (.dat (.int m)),some (.own (.list ps)),none,none] e) ⟨[],Hn 0,fun d h=>(by cases h),by walk_at "L"⟩ ?_ ?_
 ·rintro i d e hd ⟨ps,hl,hp,_⟩;walk_at "l";have hi:=(Hl.mp hd).1;obtain ⟨lo,rfl⟩:∃ lo:Int,d=.int lo:=by
   have:=HG hd;simp only [HB,Jb,Jx] at this;rcases this with rfl | rfl | rfl <;> exact ⟨_,rfl⟩
  clear hd;walk_at "f";walk_at "pp";refine aW (fun j e=>∃ ps:List PyData,ps.length<=4*i+j/\(∀ d∈ps,Pr2 d)/\iD [some (.dat (.int m)),some (.own (.list ps)),some (.dat (.int lo)),none] e) ⟨ps,hl,hp,by walk_at "L"⟩ ?_ ?_
  ·clear hl hp;rintro j d e hd ⟨ps,hl,hp,_⟩;walk_at "l";have hj:=(Hl.mp hd).1;have hh:Hi d:=by
    have:=HG hd;simp only [HB,Jb,Jx] at this;rcases this with rfl | rfl | rfl | rfl
    ·exact .inl rfl
    all_goals exact .inr ⟨_,rfl⟩
   clear hd;walk_at "f";have hi3:i < 3:=hi;have hj4:j < 4:=hj;have fin:∀ x∈ps++[PyData.tuple [.int lo,d]],Pr2 x:=fun x hx=>by
    rcases Ir.mp hx with hx | hx
    ·exact hp x hx
    ·rw [Hw.mp hx];exact ⟨_,_,rfl,hh⟩
   have len:(ps++[PyData.tuple [.int lo,d]]).length<=4*i+(j+1):=by rw [Ho];show ps.length+1<=_;omega
   have h24:ps.length < 2 ^ 24:=by omega
   rcases hh with rfl | ⟨h,rfl⟩ <;> repeat' first | walk_at "p" | (refine dJ (fun _=>?_) fun _=>?_) | (refine ny rfl h24 rfl ⟨_,len,fin,?_⟩;walk_at "L"; done) | (refine ⟨ps,?_,hp,?_⟩;omega;walk_at "L"; done)
  ·clear hl hp;rintro e ⟨ps,hl,hp,_⟩;walk_at "l";walk_at "pp";have h4:4*i+4=4*(i+1):=by omega
   exact ⟨ps,h4▸hl,hp,by walk_at "L"⟩
 ·rintro e ⟨ps,hl,hp,_⟩;walk_at "l";walk_at "pp";exact q ps hp
section
variable {L:List Fc} {a:Nd} {G E:List Nd} {st:PyData} {Q:PR->List PyData->Prop}
noncomputable abbrev inG (G:List Nd) (b:Nd):Bool:=fy (G.map Nd.enc) b.enc
theorem ui {c lo:Int} {hi:PyData} (h:decide (lo<=c)=false):btw c lo hi=false:=by unfold btw;rw [h];rfl
theorem yF {c lo:Int} (h:decide (lo<=c)=true):btw c lo .none=true:=by unfold btw;rw [h];rfl
theorem A8 {c lo h:Int} (z:decide (lo<=c)=true):btw c lo (.int h)=decide (c<=h):=by unfold btw;rw [z];rfl
theorem nQ (hE:ju L a st E) (hG:(E.filter (inG G)).length=G.length) (q:Q (.dat (.bool true)) []):WF cO [WB L,a.enc,st,.list (G.map Nd.enc),.int E.length] Q:=by
 have el:(((G.map Nd.enc).length:Nat):Int)=G.length:=by rw [Hf]
 refine d4 rfl ?_;unfold fv;walk_at "pp";rw [el];refine af (ds:=[.int G.length]) (is:=[]) rfl rfl (jR fun ps hps=>⟨rfl,?_⟩);walk_at "n";refine fh rfl (aW (fun i e=>iD [some (.dat (WB L)),some (.dat a.enc),some (.dat st),some (.dat (.list (G.map Nd.enc))),some (.dat (.int E.length)),none,none,none] e) (by walk_at "L") ?_ ?_)
 ·rintro i d e hd _;walk_at "l";obtain ⟨lo,hi,rfl,hH⟩:=hps d (HG hd);clear hd;walk_at "fT";walk_at "n";with_reducible refine dG fun N eN=>?_
  have rest:N ([.dat (WB L),.dat a.enc,.dat st,.dat (.list (G.map Nd.enc)),.dat (.int E.length),.dat (.int lo),.dat hi,.dat (.bool (btw G.length lo hi))]:En):=by
   rw [eN];walk_at "pp";refine af (ds:=[WB L,.tuple [.str "many", .int lo,hi,st,.tuple [.str "keeps", .str "a"]],a.enc,.list (G.map Nd.enc),.bool (btw G.length lo hi)]) (is:=[]) rfl rfl (eU (ly (n:=0) (.inr rfl) hH hE fun b _=>mR) (by show btw (E.filter (inG G)).length lo hi=_;rw [hG]) ⟨rfl,?_⟩);walk_at "pp";walk_at "L"
  rcases hH with rfl | ⟨h,rfl⟩
  ·walk_at "pp";rw [el];refine dJ (fun c1=>?_) fun c1=>?_
   ·rw [yF c1] at rest;walk_at "pp";exact rest
   ·rw [ui c1] at rest;walk_at "pp";exact rest
  ·walk_at "pp";rw [el];refine dJ (fun c1=>?_) fun c1=>?_
   ·rw [A8 c1] at rest;walk_at "pp";rw [el];exact rest
   ·rw [ui c1] at rest;walk_at "pp";exact rest
 ·rintro e _;walk_at "l";walk_at "pp";refine af (ds:=[.int E.length]) (is:=[]) rfl rfl (jR fun ps hps=>⟨rfl,?_⟩);walk_at "n";refine fh rfl (aW (fun i e=>iD [some (.dat (WB L)),some (.dat a.enc),some (.dat st),some (.dat (.list (G.map Nd.enc))),some (.dat (.int E.length)),none,none,none] e) (by walk_at "L") ?_ ?_)
  ·rintro i d e hd _;walk_at "l";obtain ⟨lo,hi,rfl,hH⟩:=hps d (HG hd);clear hd;walk_at "fT";walk_at "n";with_reducible refine dG fun N eN=>?_
   have rest:N ([.dat (WB L),.dat a.enc,.dat st,.dat (.list (G.map Nd.enc)),.dat (.int E.length),.dat (.int lo),.dat hi,.dat (.bool (btw E.length lo hi))]:En):=by
    rw [eN];walk_at "pp"
    refine af (ds:=[WB L,.tuple [.str "each", .int lo,hi,st,.tuple [.str "any"]],a.enc,.list (G.map Nd.enc),.bool (btw E.length lo hi)]) (is:=[]) rfl rfl (eU (ly (n:=0) (p:=fun _=>true) (.inl rfl) hH hE fun b _=>vA) (by
     unfold wkB;rw [Hv rfl,List.filter_eq_self.mpr fun _ _=>rfl]
     simp [PyData.eqv]) ⟨rfl,?_⟩)
    walk_at "pz";with_reducible refine dG fun N2 eN2=>?_
    have last:N2 ([.dat (WB L),.dat a.enc,.dat st,.dat (.list (G.map Nd.enc)),.dat (.int E.length),.dat (.int lo),.dat hi,.dat (.bool (btw E.length lo hi&&PyData.eqv (.int G.length) (.int E.length)))]:En):=by
     rw [eN2];walk_at "pp"
     refine af (ds:=[WB L,.tuple [.str "each", .int lo,hi,st,.tuple [.str "keeps", .str "a"]],a.enc,.list (G.map Nd.enc),.bool (btw E.length lo hi&&PyData.eqv (.int G.length) (.int E.length))]) (is:=[]) rfl rfl (eU (ly (n:=0) (.inl rfl) hH hE fun b _=>mR) (by
      unfold wkB
      rw [Hv rfl,hG]) ⟨rfl,?_⟩)
     walk_at "pp";walk_at "L"
    walk_at "n";cases z:btw E.length lo hi with
    | true =>
     rw [z] at last;walk_at "pp";rw [el];exact last
    | false =>
     rw [z] at last;walk_at "pp";exact last
   rcases hH with rfl | ⟨h,rfl⟩
   ·walk_at "pp";refine dJ (fun c1=>?_) fun c1=>?_
    ·rw [yF c1] at rest;walk_at "pp";exact rest
    ·rw [ui c1] at rest;walk_at "pp";exact rest
   ·walk_at "pp";refine dJ (fun c1=>?_) fun c1=>?_
    ·rw [A8 c1] at rest;walk_at "pp";exact rest
    ·rw [ui c1] at rest;walk_at "pp";exact rest
  ·rintro e _;walk_at "l";walk_at "pp";exact q
end
local macro_rules | `(tactic| walk_at "fl")=>`(tactic| ((refine bY ?_);(walk_at "pp");(refine dJ (fun c9=>?_) fun c9=>?_);(case _=>(walk_at "pp"; exact ⟨ifT c9,rfl⟩));(case _=>exact ⟨ifF c9,rfl⟩)))
theorem eqS {x y:Str}:PyData.eqv (.str x) (.str y)=true->x=y:=fun h=>by rw [la] at h;exact Ib h
theorem inS {x:Str} {xs:List Str}:fy (xs.map .str) (.str x)=true↔x∈xs:=fI (enc:=.str) eqS fun a=>by rw [la];exact HY rfl
theorem uq {x:Str} {ss:List Str}:x∈fC (bF ss)↔x∈ss:=(bA _).mem_iff.trans mL
theorem jU {bs cs:List Str}:tY bs cs=true↔∀ b∈bs,b∈cs:=by
 unfold tY;rw [JU];exact forall_congr' fun b=>imp_congr_right fun _=>inS
theorem wQ (ds:List PyData):PyData.eqv (.list ds) (.list [])=ds.isEmpty:=by cases ds <;> simp [PyData.eqv,PyData.eqvAll]
theorem okL {ds:List PyData} (h:∀ d∈ds,noD d=true/\d.depth<=20):jK (.list ds)=true:=pj (by show dq ds=true;exact jA.mpr fun d hd=>(h d hd).1) (HJ (n8 fun d hd=>(h d hd).2) (by decide))
theorem DI {e:En} {x y:AV} {ds:List PyData} {Q:RV->En->Prop} (h1:aQ e [x,y]=some [.list ds,.list []]) (h:∀ d∈ds,noD d=true/\d.depth<=20) (q:Q (.dat (.bool ds.isEmpty)) e):WPr eqP [x,y] e Q:=w_eq h1 (okL h) rfl (by rw [wQ];exact q)
section
variable {L:List Fc} {a:Nd} {Q:PR->List PyData->Prop}
theorem rY {bs:List Str} (hl:L.length<=60) (hb:bs.length<=3) (q:Q (.dat (.bool true)) []):WF gq [WB L,a.enc,.list (bs.map .str)] Q:=by
 have hS:(fC (bF (bts a L))).length<=60:=by
  rw [(bA _).length_eq];have:=je (bts a L);have:=k0 (a:=a) (L:=L);omega
 refine d4 rfl ?_;unfold km;walk_at "pp";refine FQ rfl ?_ rfl;walk_at "pp";refine oD (ss:=bts a L) rfl (by have:=k0 (a:=a) (L:=L);omega) ?_;have kc:∀ cs:List Str,ou 2 L [.str "closed", .tuple (cs.map .str)] a [] (tY (fC (bF (bts a L))) cs):=fun cs=>ke hl;generalize fC (bF (bts a L))=S at hS kc;walk_at "pp";refine rC rfl (by rw [Hf,Hf];show _<=2 ^ 24;omega) ?_;rw [<- HX];walk_at "pp";refine oD (ss:=S++bs) rfl (by rw [Ho];omega) ?_;have hM:∀ b∈S,b∈fC (bF (S++bs)):=fun b hb=>uq.mpr (Jt _ hb);generalize fC (bF (S++bs))=M at hM;walk_at "pp";refine af (ds:=[WB L,.tuple [.str "closed", .tuple (S.map .str)],a.enc,.list [],.bool true]) (is:=[]) rfl rfl (eU (G:=[]) (kc _) (jU.mpr fun b h=>h) ⟨rfl,?_⟩);walk_at "pp";refine fh rfl (aW (fun i e=>iD [some (.dat (WB L)),some (.dat a.enc),none,some (.dat (.list (S.map .str))),some (.dat (.list (M.map .str))),none,none] e) (by walk_at "L") ?_ ?_)
 ·rintro i d e hd _;walk_at "l";rw [Hq] at hd;obtain ⟨bd,hm,rfl⟩:=HC.mp hd;clear hd;walk_at "f";walk_at "pp";refine fh rfl (dW M .str (fun x=>!PyData.eqv (.str x) (.str bd)) .str (fun x hx=>?_) ?_)
  ·walk_at "fl"
  ·walk_at "n";walk_at "pp";refine u0 rfl rfl (lQ S) ?_;walk_at "pp";refine af (ds:=[WB L,.tuple [.str "closed", .tuple ((M.filter fun x=>!PyData.eqv (.str x) (.str bd)).map .str)],a.enc,.list [],.bool (!fy (S.map .str) (.str bd))]) (is:=[]) rfl rfl (eU (G:=[]) (kc _) ?_ ⟨rfl,?_⟩)
   ·rw [Bool.eq_iff_iff,jU,Bool.not_eq_true',<-Bool.not_eq_true,inS];constructor
    ·intro h z;have:=(IC.mp (h bd z)).2;rw [la] at this;simp at this
    ·intro h b hb;refine IC.mpr ⟨hM b hb,?_⟩;cases e:PyData.eqv (.str b) (.str bd) with
     | false=>rfl
     | true=>rw [eqS e] at hb;exact absurd hb h
   ·walk_at "pp";walk_at "L"
 ·rintro e _;walk_at "l";walk_at "pp";refine DI rfl (fun d hd=>by obtain ⟨x,_,rfl⟩:=HW.mp hd;exact ⟨rfl,by simp [PyData.depth]⟩) ?_;rw [List.isEmpty_map];walk_at "pp";refine af (ds:=[WB L,.tuple [.str "closed", .tuple []],a.enc,.list [],.bool S.isEmpty]) (is:=[]) rfl rfl (eU (G:=[]) (kc []) ?_ ⟨rfl,?_⟩)
  ·cases S <;> rfl
  ·walk_at "pp";exact q
theorem w6 {i:Int}:bts (.num i) L=[]:=by
 unfold bts;rw [List.filter_eq_nil_iff.mpr]
 ·rfl
 ·intro f _ h;exact Nd.noConfusion (fX (a:=.ax f.t) (b:=.num i) h)
theorem rg {i:Int} (hl:L.length<=60) (q:Q (.dat (.bool true)) []):WF fV [WB L,.int i] Q:=by
 refine d4 rfl ?_;unfold kG;walk_at "pp";refine aW (fun k e=>iD [some (.dat (WB L)),some (.dat (.int i)),none,none] e) (by walk_at "L") ?_ ?_
 ·rintro k d e hd _;walk_at "l";obtain ⟨m,rfl⟩:∃ m:Int,d=.int m:=by
   have:=HG hd;simp only [HB,Jb,Jx] at this;rcases this with rfl | rfl | rfl <;> exact ⟨_,rfl⟩
  clear hd;walk_at "f";walk_at "pp";refine aW (fun k e=>iD [some (.dat (WB L)),some (.dat (.int i)),some (.dat (.int m)),none] e) (by walk_at "L") ?_ ?_
  ·rintro k d e hd _;walk_at "l";obtain ⟨j,rfl⟩:∃ m:Int,d=.int m:=by
    have:=HG hd;simp only [HB,Jb,Jx] at this;rcases this with rfl | rfl <;> exact ⟨_,rfl⟩
   clear hd;walk_at "f";walk_at "pp";refine af (ds:=[WB L,.tuple [.str "from", .int m],.int j,.list [],.bool (decide (j>=m))]) (is:=[]) rfl rfl (eU (a:=.num j) (G:=[]) (fK (n:=1) (.inl rfl)) (Hv rfl) ⟨rfl,?_⟩);walk_at "pp";refine af (ds:=[WB L,.tuple [.str "upto", .int m],.int j,.list [],.bool (decide (j<=m))]) (is:=[]) rfl rfl (eU (a:=.num j) (G:=[]) (fK (n:=1) (.inr rfl)) (Hz (by decide)) ⟨rfl,?_⟩);walk_at "pp";walk_at "L"
  ·rintro e _;walk_at "l";walk_at "pp";walk_at "L"
 ·rintro e _;walk_at "l";walk_at "pp";refine af (ds:=[WB L,.tuple [.str "closed", .tuple []],.int i,.list [],.bool true]) (is:=[]) rfl rfl (eU (a:=.num i) (G:=[]) (ke (n:=1) (cs:=[]) hl) (by rw [w6];rfl) ⟨rfl,?_⟩);walk_at "pp";exact q
end
theorem wm (a b:Nd):PyData.eqv (uQ a.key) (uQ b.key)=PyData.eqv a.enc b.enc:=by
 cases a <;> cases b <;> simp [uQ,Nd.key,Nd.enc,PyData.eqv,PyData.eqvAll]
section
variable {L:List Fc} {Q:PR->List PyData->Prop}
theorem wo {ns:List Nd} (q:Q (.dat (.bool true)) []):WF k7 [WB L,.list (ns.map Nd.enc)] Q:=by
 refine d4 rfl ?_;unfold p7;walk_at "pp";refine fh rfl (aW (fun k e=>iD [some (.dat (WB L)),some (.dat (.list (ns.map Nd.enc))),none,none,none,none] e) (by walk_at "L") ?_ ?_)
 ·rintro k d e hd _;walk_at "l";rw [Hq] at hd;obtain ⟨a,hm,rfl⟩:=HC.mp hd;clear hd hm;walk_at "f";walk_at "pp";refine fh rfl (aW (fun k e=>iD [some (.dat (WB L)),some (.dat (.list (ns.map Nd.enc))),some (.dat a.enc),none,none,none] e) (by walk_at "L") ?_ ?_)
  ·rintro k d e hd _;walk_at "l";rw [Hq] at hd;obtain ⟨b,hm,rfl⟩:=HC.mp hd;clear hd hm;walk_at "f";walk_at "pp";refine af (ds:=[a.enc]) (is:=[]) rfl rfl (mY ⟨rfl,?_⟩);walk_at "pp";refine af (ds:=[b.enc]) (is:=[]) rfl rfl (mY ⟨rfl,?_⟩);walk_at "pp";refine af (ds:=[WB L,.tuple [.str "is", b.enc],a.enc,.list [],.bool (PyData.eqv (uQ a.key) (uQ b.key))]) (is:=[]) rfl rfl (eU (G:=[]) (EM (n:=1)) (wm a b).symm ⟨rfl,?_⟩);walk_at "pp";walk_at "L"
  ·rintro e _;walk_at "l";show WS _ _ _ _;with_reducible refine dG fun N eN=>?_
   have rest:∀ x3 x4 x5,soft x3->soft x4->soft x5->N [.dat (WB L),.dat (.list (ns.map Nd.enc)),.dat a.enc,x3,x4,x5]:=by
    intro x3 x4 x5 s3 s4 s5;rw [eN];walk_at "pp";refine ⟨⟨by decide,by decide⟩,?_⟩;refine aW (fun k e=>iD [some (.dat (WB L)),some (.dat (.list (ns.map Nd.enc))),some (.dat a.enc),none,none,none] e) (by walk_at "L") ?_ ?_
    ·rintro k d e hd _;walk_at "l";obtain ⟨rfl,hk⟩:=lM hd;have hk:k < 3:=hk;walk_at "f";walk_at "pp";refine oh (d:=.str (["number", "said", "thing"].getD k "")) rfl (by rcases (show k=0\/k=1\/k=2 by omega) with rfl | rfl | rfl <;> rfl) ?_;walk_at "pp";refine af (ds:=[a.enc]) (is:=[]) rfl rfl (mY ⟨rfl,?_⟩);unfold uQ;walk_at "pp";refine af (ds:=[WB L,.tuple [.str (["number", "said", "thing"].getD k "")],a.enc,.list [],.bool (PyData.eqv (.int a.key.1) (.int k))]) (is:=[]) rfl rfl (eU (G:=[]) (xq (n:=1) hk) rfl ⟨rfl,?_⟩);walk_at "pp";walk_at "L"
    ·rintro e _;walk_at "l";walk_at "pp";refine af (ds:=[WB L,.tuple [.str "any"],a.enc,.list [],.bool true]) (is:=[]) rfl rfl (eU (G:=[]) (vA (n:=1)) rfl ⟨rfl,?_⟩);walk_at "pp";walk_at "L"
   have nn:(∃ i,a=.num i)\/(om "int").f [a.enc]=some (.dat (.bool false))/\∀ {w:Str} {m:Int},w = "from" \/ w = "upto" -> ou 2 L [.str w,.int m] a [] false:=by
    cases a with
    | num i=>exact .inl ⟨_,rfl⟩
    | gC x=>refine .inr ⟨rfl,?_⟩;intro w m hw;exact fK (n:=1) (a:=.gC x) hw
    | ax x=>refine .inr ⟨rfl,?_⟩;intro w m hw;exact fK (n:=1) (a:=.ax x) hw
   walk_at "n";rcases nn with ⟨i,rfl⟩ | ⟨ni,nn⟩
   ·walk_at "pp";exact rest _ _ _ (by assumption) (by assumption) (by assumption)
   ·walk_at "pp";refine dJ (fun c=>?_) fun c=>absurd ((nf c).symm.trans (PyData.bool.inj (PR.dat.inj (HV (show some (PR.dat (PyData.bool _))=some (PR.dat (PyData.bool false)) from ni))))) (by decide);walk_at "pp";refine af (ds:=[WB L,.tuple [.str "from", .int (-5)],a.enc,.list [],.bool false]) (is:=[]) rfl rfl (eU (G:=[]) (nn (.inl rfl)) rfl ⟨rfl,?_⟩);walk_at "pp";refine af (ds:=[WB L,.tuple [.str "upto", .int 5],a.enc,.list [],.bool false]) (is:=[]) rfl rfl (eU (G:=[]) (nn (.inr rfl)) rfl ⟨rfl,?_⟩);walk_at "pp";exact rest _ _ _ (by assumption) (by assumption) (by assumption)
 ·rintro e _;walk_at "l";walk_at "pp";exact q
end
theorem A2 {U:List Fc} {a:Fc} (h:a∈U):putD (kvs U) a.enc (.bool true)=kvs U:=by
 unfold putD;rw [Hv (by rw [JR];exact ⟨_,HW.mpr ⟨a,h,rfl⟩,qU a⟩),Ij];refine List.map_congr_left fun b _=>?_;show (if PyData.eqv b.enc a.enc=true then (b.enc,PyData.bool true) else (b.enc,PyData.bool true))=_;split <;> rfl
theorem wR {U:List Fc} {a:Fc} (h:a ∉ U):putD (kvs U) a.enc (.bool true)=kvs (U++[a]):=by
 unfold putD;rw [Hz (fun z=>?_)]
 ·unfold kvs;rw [HX];rfl
 ·rw [JR] at z;obtain ⟨x,hx,e⟩:=z;obtain ⟨b,hb,rfl⟩:=HW.mp hx;exact h (sJ e▸hb)
theorem lh:∀ (F acc:List Fc),acc.Nodup->∃ U:List Fc,jm (kvs acc) (kvs F)=kvs U/\U.Nodup/\(∀ f,f∈U↔f∈acc\/f∈F)/\U.length<=acc.length+F.length
 | [],acc,h=>⟨acc,rfl,h,fun f=>by simp,Hn _⟩
 | a :: F,acc,h=>by
  by_cases z:a∈acc
  ·obtain ⟨U,h1,h2,h3,h4⟩:=lh F acc h;refine ⟨U,?_,h2,fun f=>?_,by rw [HA];omega⟩
   ·rw [<- h1];show jm (putD (kvs acc) a.enc (.bool true)) (kvs F)=_;rw [A2 z]
   ·rw [h3,HB];exact ⟨fun q=>q.elim .inl fun q=>.inr (.inr q),fun q=>q.elim .inl fun q=>q.elim (fun e=>.inl (e▸z)) .inr⟩
  ·obtain ⟨U,h1,h2,h3,h4⟩:=lh F (acc++[a]) (List.nodup_append.mpr ⟨h,by simp,fun x hx y hy e=>z (Hw.mp hy▸e▸hx)⟩);refine ⟨U,?_,h2,fun f=>?_,by rw [Ho] at h4;rw [HA];simp at h4;omega⟩
   ·rw [<- h1];show jm (putD (kvs acc) a.enc (.bool true)) (kvs F)=_;rw [wR z]
   ·rw [h3,Ir,Hw,HB];exact or_assoc
theorem pW:∀ F:List Fc,k6 (F.map fun a=>.tuple [a.enc,.bool true])=some (kvs F)
 | []=>rfl
 | a :: F=>by
  show (if hk6 a.enc=true then (match k6 (F.map fun a=>.tuple [a.enc,.bool true]) with | some ps=>some ((a.enc,PyData.bool true) :: ps) | none=>none) else none)=_;rw [Hv (vM a),pW F];rfl
theorem wt {e:En} {x:AV} {F:List Fc} {Q:RV->En->Prop} (h1:aQ e [x]=some [.list (F.map fun a=>.tuple [a.enc,.bool true])]) (hl:F.length<=1000) (q:∀ U:List Fc,U.Nodup->(∀ f,f∈U↔f∈F)->U.length<=F.length->Q (.frs (.dict (kvs U))) e):WPr m5 [x] e Q:=by
 obtain ⟨U,h2,h3,h4,h5⟩:=lh F [] List.nodup_nil;refine ⟨_,.frs (.dict (kvs U)),h1,?_,q U h3 (fun f=>by rw [h4];simp) (by simpa using h5)⟩;show (match k6 (F.map fun a=>.tuple [a.enc,.bool true]) with | some ps=>if ps.length<=1000 then some (PR.frs (.dict (jm [] ps))) else none | none=>none)=_;rw [pW];show (if (kvs F).length<=1000 then _ else _)=_;rw [Hv (by rw [Hf];exact hl),<-h2];rfl
theorem kU {L U F0:List Fc} {T:List Nd} {p:Fc->Bool} {mk:Nd->Fc} {sel:Fc->Nd} (hL:L.Perm U) (hU:U.Nodup) (hM:∀ f,f∈U↔f∈F0++T.map mk) (h0:∀ f∈F0,p f=false) (h1:∀ n∈T,p (mk n)=true/\sel (mk n)=n) (h2:∀ f,p f=true->mk (sel f)=f) (hT:T.Nodup):((L.filter p).map sel).Perm T:=by
 refine (List.perm_ext_iff_of_nodup ?_ hT).mpr fun n=>?_
 ·refine Jm.mpr (List.Pairwise.imp_of_mem (fun {f g} hf hg hn e=>hn ?_) ((hL.nodup_iff.mpr hU).filter p));rw [<- h2 f (IC.mp hf).2,<-h2 g (IC.mp hg).2,e]
 ·constructor
  ·intro h;obtain ⟨f,hf,rfl⟩:=HW.mp h;obtain ⟨hf,pf⟩:=IC.mp hf;rcases Ir.mp ((hM f).mp (hL.mem_iff.mp hf)) with z | z
   ·rw [h0 f z] at pf;cases pf
   ·obtain ⟨m,hm,rfl⟩:=HW.mp z;rw [(h1 m hm).2];exact hm
  ·intro h;exact HW.mpr ⟨mk n,IC.mpr ⟨hL.mem_iff.mpr ((hM _).mpr (HD _ (HW.mpr ⟨n,h,rfl⟩))),(h1 n h).1⟩,(h1 n h).2⟩
theorem xY {G:List Nd} {b:Nd}:inG G b=true↔b∈G:=fI fX cb
theorem tN {E T G:List Nd} (hE:E.Perm T) (hT:T.Nodup) (hG:G.Sublist T):(E.filter (inG G)).length=G.length:=by
 rw [(hE.filter _).length_eq];refine List.Perm.length_eq ((List.perm_ext_iff_of_nodup (hT.filter _) (hG.nodup hT)).mpr fun n=>?_);rw [IC,xY];exact ⟨fun h=>h.2,fun h=>⟨hG.subset h,h⟩⟩
theorem DD {xs:List Str} (h:(xs.length:Int)=3):∃ a b c,xs=[a,b,c]:=by
 match xs,h with
 | [a,b,c],_=>exact ⟨a,b,c,rfl⟩
 | [],h=>simp at h
 | [_],h=>simp at h
 | [_,_],h=>simp at h
 | _ :: _ :: _ :: _ :: _,h=>simp at h;omega
theorem Ai {xs:List Str} {v:Int} (h8:(xs.length:Int)=8) (h0:0<=v) (h1:v < 8):∃ x∈xs,atI (xs.map PyData.str) v=some (.str x):=by
 obtain ⟨d,hd,ed⟩:=atV (xs:=xs.map PyData.str) h0 (by rw [Hf];omega);obtain ⟨x,hx,rfl⟩:=HW.mp hd;exact ⟨x,hx,ed⟩
noncomputable def isT (a:Nd):Bool:=match a with | .ax _=>true | _=>false
noncomputable def mkF (bk:Bool) (nd b0:Str) (a:Nd):Fc:=if bk=true then ⟨match a with | .ax x=>x | _ => "", b0,.ax nd⟩ else ⟨nd,b0,a⟩
theorem wJ (x:Str):Str.ofString "" ++ x=x:=qp (by rw [fW];rfl)
theorem vY {L U F0:List Fc} {T:List Nd} {bk:Bool} {nd b0:Str} (hb:Ltr b0) (hL:L.Perm U) (hU:U.Nodup) (hM:∀ f,f∈U↔f∈F0++T.map (mkF bk nd b0)) (h0:∀ f∈F0,f.b≠b0) (ht:bk=true->∀ a∈T,∃ x,a=.ax x) (hT:T.Nodup):∃ E:List Nd,E.Perm T/\ju L (.ax nd) (.str ((if bk=true then Str.ofString "^" else Str.ofString "")++b0)) E:=by
 cases bk with
 | true =>
  refine ⟨_,kU (p:=pB (.ax nd) b0) (sel:=fun f=>.ax f.t) hL hU hM (fun f hf=>?_) (fun n hn=>?_) (fun f hf=>?_) hT,fun q=>s8 q⟩
  ·cases z:pB (.ax nd) b0 f with
   | false=>rfl
   | true=>exact absurd (eqS (Iu.mp z).1) (h0 f hf)
  ·obtain ⟨x,rfl⟩:=ht rfl n hn;exact ⟨Iu.mpr ⟨cb (.ax b0),cb (.ax nd)⟩,rfl⟩
  ·obtain ⟨h1,h2⟩:=Iu.mp hf;obtain ⟨t,b,n⟩:=f;have h1:b=b0:=eqS h1;have h2:n=.ax nd:=fX h2;subst h1 h2;rfl
 | false =>
  refine ⟨_,kU (p:=pF (.ax nd) b0) (sel:=(·.n)) hL hU hM (fun f hf=>?_) (fun n hn=>?_) (fun f hf=>?_) hT,fun {Q} q=>?_⟩
  ·cases z:pF (.ax nd) b0 f with
   | false=>rfl
   | true=>exact absurd (eqS (Iu.mp z).2) (h0 f hf)
  ·exact ⟨Iu.mpr ⟨cb (.ax nd),cb (.ax b0)⟩,rfl⟩
  ·obtain ⟨h1,h2⟩:=Iu.mp hf;obtain ⟨t,b,n⟩:=f;have h1:t=nd:=eqS h1;have h2:b=b0:=eqS h2;subst h1 h2;rfl
  ·have:=uh hb q;rw [<- wJ b0] at this;exact this
theorem tU {ns:List Int} (hl:ns.length<=63):WF vF [.list (ns.map .int)] fun pr outs=>pr=.dat (.bool true)/\outs=[]:=by
 refine d4 rfl ?_;unfold uY;walk_at "pp";refine af (is:=[]) rfl rfl (Bc ⟨rfl,?_⟩);have hP0:bR (ns.take 63) (vn (ns.take 63) 0 0):=⟨0,0,rfl,by decide,by decide⟩;generalize vn (ns.take 63) 0 0=pn0 at hP0;generalize ns.take 63=cs at hP0;walk_at "n";walk_at "pp";refine af (is:=[1]) rfl rfl (nj hP0 (by decide) (by decide) fun xs pn1 hP1 h8 xnd xnm=>⟨rfl,?_⟩);walk_at "n";walk_at "pp";refine af (is:=[1]) rfl rfl (nj hP1 (by decide) (by decide) fun bs pn2 hP2 h3 bnd bnm=>⟨rfl,?_⟩);obtain ⟨b0,b1,b2,rfl⟩:=DD h3;have hb01:b0≠b1:=by rw [Ih] at bnd;exact fun e=>bnd.1 (by rw [e];simp)
 have hb0:Ltr b0:=(bnm b0 (by simp)).1;have hb8:b0.length<=8:=(bnm b0 (by simp)).2.1;clear h3 bnd bnm;walk_at "n";walk_at "d";intro v3 pn3 hP3 v30 v31;walk_at "n";walk_at "pp";obtain ⟨nd,hnd,e3⟩:=Ai h8 v30 v31;refine oh rfl e3 ?_;clear e3;walk_at "d";intro v4 pn4 hP4 v40 v41;walk_at "n";walk_at "pp";refine af (is:=[1]) rfl rfl (qc hP4 (by decide) (by decide) fun vs pn5 hP5 vl vnd vnt=>⟨rfl,?_⟩);walk_at "n";walk_at "pp";generalize (if false=true then !PyData.eqv (.int v4) (.int 0) else PyData.eqv (.int v4) (.int 0))=bk;have eAL:xs.map PyData.str++vs.map Nd.enc=(xs.map Nd.ax++vs).map Nd.enc:=by rw [HX,Ij];rfl
 refine rC rfl (by rw [Hf,Hf];show _<=2 ^ 24;omega) ?_;rw [eAL];have and_:(xs.map Nd.ax++vs).Nodup:=by
  refine List.nodup_append.mpr ⟨Jm.mpr (xnd.imp fun h e=>h (Nd.ax.inj e)),vnd,fun a ha b hb e=>?_⟩;obtain ⟨x,_,rfl⟩:=HW.mp ha;exact vnt b hb x e.symm
 clear eAL vl vnd vnt;generalize xs.map Nd.ax++vs=AL at and_;walk_at "pp";refine fh rfl (eZ (fun i ys ec=>∃ (T:List Nd) (pn':PyData),ys=T.map Nd.enc/\T.Sublist (AL.take i)/\bR cs pn'/\ec=[.ino pn']) ⟨[],pn5,rfl,List.nil_sublist _,hP5,rfl⟩ ?_ ?_)
 ·rintro i d ys ec hd ⟨T,pn',rfl,hT,hP',rfl⟩;rw [Hq] at hd;obtain ⟨a,ha,rfl⟩:=HC.mp hd;refine bY ?_;walk_at "d";intro v pn6 hP6 v0 v1;walk_at "n";walk_at "pp";refine dJ (fun c=>?_) fun c=>?_
  ·walk_at "pp";exact ⟨T++[a],pn6,by rw [HX];rfl,by rw [<- take_snoc ha];exact hT.append (.refl _),hP6,rfl⟩
  ·exact ⟨T,pn6,Iw _,hT.trans (List.take_sublist_take_left (JK _)),hP6,rfl⟩
 rintro ys ec ⟨T,pn6,rfl,hT,hP6,rfl⟩;walk_at "n";walk_at "pz";rw [i8 (by decide),<-List.map_take];have hT6:(T.take (6:Int).toNat).length<=6:=by rw [IE];exact Nat.min_le_left ..
 have hTn:(T.take (6:Int).toNat).Nodup:=((List.take_sublist ..).trans (hT.trans (List.take_sublist ..))).nodup and_;generalize T.take (6:Int).toNat=T at hT6 hTn;walk_at "n";with_reducible refine dG fun N eN=>?_
 have rest:∀ T:List Nd,T.length<=6->T.Nodup->(bk=true->∀ a∈T,∃ x,a=.ax x)->N ([.dat (.list (ns.map .int)),.own pn6,.dat (.list (xs.map .str)),.dat (.list ([b0,b1,b2].map .str)),.dat (.str nd),.dat (.bool bk),.dat (.list (T.map Nd.enc)),.un,.un,.un,.un,.un]:En):=by
  intro T hT6 hTn hTt;rw [eN];walk_at "pp";refine ⟨⟨by decide,by decide⟩,?_⟩;refine eZ (fun i ys ec=>∃ (F:List Fc) (pn':PyData),ys=F.map Fc.enc/\F.length=i/\(∀ f∈F,f.b=b1)/\bR cs pn'/\ec=[.dat (.list (xs.map .str)),.dat (.list ([b0,b1,b2].map .str)),.ino pn']) ⟨[],pn6,rfl,rfl,fun f h=>(by cases h),hP6,rfl⟩ ?_ ?_
  ·rintro i d ys ec hd ⟨F,pn',rfl,hF,hFb,hP',rfl⟩;refine bY ?_;walk_at "d";intro v7 pn7 hP7 v70 v71;walk_at "n";walk_at "pp";obtain ⟨x1,_,e1⟩:=Ai h8 v70 v71;refine oh rfl e1 ?_;clear e1;walk_at "d";intro v8 pn8 hP8 v80 v81;walk_at "n";walk_at "pp";obtain ⟨x2,_,e2⟩:=Ai h8 v80 v81;refine oh rfl e2 ?_;clear e2;walk_at "pp";refine ⟨F++[⟨x1,b1,.ax x2⟩],pn8,by rw [HX];rfl,by rw [Ho,hF];rfl,fun f hf=>?_,hP8,rfl⟩;rcases Ir.mp hf with hf | hf
   ·exact hFb f hf
   ·rw [Hw.mp hf]
  rintro ys ec ⟨F,pn7,rfl,hF,hFb,hP7,rfl⟩;have hF5:F.length<=5:=by rw [hF];exact Hn 5
  clear hF;walk_at "n";walk_at "q";show WS _ _ _ _;with_reducible refine dG fun N2 eN2=>?_
  have rest2:∀ (T:List Nd) (F:List Fc) (pn':PyData),T.Nodup->T.length+F.length<=60->(bk=true->∀ a∈T,∃ x,a=.ax x)->(∀ f∈F,f.b≠b0)->bR cs pn'->N2 ([.dat (.list (ns.map .int)),.own pn',.dat (.list (xs.map .str)),.dat (.list ([b0,b1,b2].map .str)),.dat (.str nd),.dat (.bool bk),.dat (.list (T.map Nd.enc)),.own (.list (F.map Fc.enc)),.un,.un,.un,.un]:En):=by
   clear hFb hF5 hT6 hTn hTt hP7;intro T F pn8 hTn hTF hTt hFb hP8;rw [eN2];walk_at "pp";refine fh rfl (aW (fun i e=>iD [some (.dat (.list (ns.map .int))),some (.own pn8),some (.dat (.list (xs.map .str))),some (.dat (.list ([b0,b1,b2].map .str))),some (.dat (.str nd)),some (.dat (.bool bk)),some (.dat (.list (T.map Nd.enc))),some (.own (.list ((F++(T.take i).map (mkF bk nd b0)).map Fc.enc))),none,none,none,none] e) (by rw [List.take_zero,List.map_nil,Iw];walk_at "L") ?_ ?_)
   ·rintro i d e hd _;walk_at "l";rw [Hq] at hd;obtain ⟨a,ha,rfl⟩:=HC.mp hd;clear hd;walk_at "f";walk_at "pp";have esn:(F++(T.take (i+1)).map (mkF bk nd b0)).map Fc.enc=(F++(T.take i).map (mkF bk nd b0)).map Fc.enc++[(mkF bk nd b0 a).enc]:=by
     rw [<- take_snoc ha];simp
    have hlen:((F++(T.take i).map (mkF bk nd b0)).map Fc.enc).length < 2 ^ 24:=by
     rw [Hf,Ho,Hf,IE];omega
    refine dJ (fun c=>?_) fun c=>?_
    ·obtain ⟨x,rfl⟩:=hTt c a (HG ha);have c:bk=true:=c;subst c;walk_at "pp";refine ny rfl hlen rfl ?_;rw [esn];walk_at "L"
    ·have c:bk=false:=c;subst c;walk_at "pp";refine ny rfl hlen rfl ?_;rw [esn];walk_at "L"
   rintro e _;walk_at "l";rw [Hf,List.take_length];walk_at "n";walk_at "pp";have hFl:(F++T.map (mkF bk nd b0)).length<=60:=by rw [Ho,Hf];omega
   generalize eFF:F++T.map (mkF bk nd b0)=FF at hFl;refine Di rfl rfl (pP FF Fc.enc (fun f=>.tuple [f.enc,.bool true]) (fun f hf=>?_) ?_)
   ·refine bY ?_;walk_at "pp";exact ⟨rfl,rfl⟩
   walk_at "pp";refine wt rfl (by omega) fun U und um ul=>?_;walk_at "pp";refine af (ds:=[.dict (kvs U)]) (is:=[]) rfl rfl (tS und (by omega) fun L hL=>⟨rfl,?_⟩);obtain ⟨E,hE,hends⟩:=vY (F0:=F) (T:=T) hb0 hL und (fun f=>by rw [eFF];exact um f) hFb hTt hTn;have hL60:L.length<=60:=by rw [hL.length_eq];omega
   walk_at "n";walk_at "pp";refine fh rfl (eZ (fun i ys ec=>∃ (G:List Nd) (pn':PyData),ys=G.map Nd.enc/\G.Sublist (T.take i)/\bR cs pn'/\ec=[.ino pn']) ⟨[],pn8,rfl,List.nil_sublist _,hP8,rfl⟩ ?_ ?_)
   ·rintro i d ys ec hd ⟨G,pn',rfl,hG,hP',rfl⟩;rw [Hq] at hd;obtain ⟨a,ha,rfl⟩:=HC.mp hd;refine bY ?_;walk_at "d";intro v pn6 hP6 v0 v1;walk_at "n";walk_at "pp";refine dJ (fun c=>?_) fun c=>?_
    ·walk_at "pp";exact ⟨G++[a],pn6,by rw [HX];rfl,by rw [<- take_snoc ha];exact hG.append (.refl _),hP6,rfl⟩
    ·exact ⟨G,pn6,Iw _,hG.trans (List.take_sublist_take_left (JK _)),hP6,rfl⟩
   rintro ys ec ⟨G,pn9,rfl,hG,hP9,rfl⟩;have hGl:=tN hE hTn (hG.trans (List.take_sublist ..));have et:(((T.map Nd.enc).length:Nat):Int)=E.length:=by rw [Hf,hE.length_eq]
   clear hG;walk_at "n";walk_at "pp";refine oh (d:=.str (if bk=true then Str.ofString "^" else Str.ofString "")) rfl (by cases bk <;> rfl) ?_;walk_at "pp";refine AD rfl (by have:(if bk=true then Str.ofString "^" else Str.ofString "").length<=1:=(by cases bk <;> decide);show _<=2 ^ 24;omega) ?_;generalize (if bk=true then Str.ofString "^" else Str.ofString "")++b0=st at hends;walk_at "pp";rw [et];refine af (ds:=[WB L,(Nd.ax nd).enc,.str st,.list (G.map Nd.enc),.int E.length]) (is:=[]) rfl rfl (nQ hends hGl ⟨rfl,?_⟩);walk_at "pp";refine fh rfl (aW (fun i e=>iD [none,some (.own pn9),some (.dat (.list (xs.map .str))),some (.dat (.list ([b0,b1,b2].map .str))),none,none,none,none,none,some (.dat (WB L)),none,none] e) (by walk_at "L") ?_ ?_)
   ·rintro i d e hd _;walk_at "l";rw [Hq] at hd;obtain ⟨x,hx,rfl⟩:=HC.mp hd;clear hd;walk_at "f";walk_at "pp";refine af (ds:=[WB L,(Nd.ax x).enc,.list ([b0,b1,b2].map .str)]) (is:=[]) rfl rfl (rY hL60 (Hn 3) ⟨rfl,?_⟩);walk_at "pp";walk_at "L"
   rintro e _;walk_at "l";walk_at "pp";refine af (is:=[1]) rfl rfl (fZ hP9 fun m pnA hPA=>⟨rfl,?_⟩);walk_at "n";walk_at "pp";refine af (ds:=[WB L,.int _]) (is:=[]) rfl rfl (rg hL60 ⟨rfl,?_⟩);walk_at "pp";obtain ⟨x0,_,e0⟩:=Ai (v:=0) h8 (by decide) (by decide);obtain ⟨x1,_,e1⟩:=Ai (v:=1) h8 (by decide) (by decide);refine oh rfl e0 ?_;walk_at "pp";refine oh rfl e0 ?_;walk_at "pp";refine af (is:=[1]) rfl rfl (fZ hPA fun m2 pnB hPB=>⟨rfl,?_⟩);walk_at "n";walk_at "pp";refine oh rfl e1 ?_;walk_at "pp";refine af (ds:=[WB L,.list (([.ax x0,.gC x0,.num m2,.gC "", .ax x1]:List Nd).map Nd.enc)]) (is:=[]) rfl rfl (wo ⟨rfl,?_⟩);walk_at "pp";exact ⟨rfl,rfl⟩
  have hFb':∀ f∈F,f.b≠b0:=fun f hf e=>hb01 (e.symm.trans (hFb f hf));walk_at "n";cases bk with
  | true =>
   walk_at "pp";exact rest2 T F pn7 hTn (by omega) hTt hFb' hP7
  | false =>
   walk_at "d";intro va pna hPa va0 va1;walk_at "n";walk_at "pp";refine dJ (fun c=>?_) fun c=>?_
   ·walk_at "d";intro vb pnb hPb vb0 vb1;walk_at "n";walk_at "pp";refine ⟨_,_,rfl,Hv ⟨by omega,by omega⟩,?_⟩;have hr:(rgI (57+vb).toNat).length<=60:=by rw [rgI,Hf,HP];omega
    have hrn:(rgI (57+vb).toNat).Nodup:=Jm.mpr (List.nodup_range.imp fun h e=>h (Int.ofNat.inj e));generalize rgI (57+vb).toNat=R at hr hrn;walk_at "pp";have:=rest2 (R.map .num) [] pnb (Jm.mpr (hrn.imp fun h e=>h (Nd.num.inj e))) (by rw [Hf];exact hr) (fun z=>nomatch z) (fun f h=>nomatch h) hPb;rw [Ij] at this;exact this
   ·walk_at "pp";exact rest2 T F pna hTn (by omega) (fun z=>nomatch z) hFb' hPa
 cases bk with
 | false =>
  walk_at "pp";exact rest T hT6 hTn fun z=>nomatch z
 | true =>
  walk_at "pp";refine fh rfl (dW T Nd.enc isT Nd.enc (fun a ha=>?_) ?_)
  ·refine bY ?_;cases a <;> (walk_at "pp"; exact ⟨rfl,rfl⟩)
  ·walk_at "n";walk_at "pp";refine rest (T.filter isT) (HJ (List.length_filter_le ..) hT6) (hTn.filter _) fun _ a ha=>?_;have:=(IC.mp ha).2;cases a with
   | ax x=>exact ⟨x,rfl⟩
   | num _=>cases this
   | gC _=>cases this
end K34
end
namespace PySem.W.Fast
noncomputable def tw4736167901738793388:=()
noncomputable def tw10660178221869890632:=()
noncomputable def tw7243414029846855523:=()
noncomputable def tw14683615725563877749:=()
noncomputable def tw17503732055919642744:=()
noncomputable def tw12149081421473622631:=()
noncomputable def tw13968063350283277105:=()
noncomputable def tw9426138972808573969:=()
noncomputable def tw18118970120625770272:=()
noncomputable def tw2573627227412030367:=()
noncomputable def tw8244553202318068436:=()
noncomputable def tw6654909611756607947:=()
noncomputable def tw6757416025805124817:=()
noncomputable def tw5021745167121189272:=()
noncomputable def tw3321785138589991427:=()
noncomputable def tw13601344020242125186:=()
noncomputable def tw10778677226767877264:=()
noncomputable def tw1953619030398575842:=()
noncomputable def tw12119777469672719984:=()
noncomputable def tw11550233646567200993:=()
noncomputable def tw10286196169166446268:=()
noncomputable def tw10939347318190253548:=()
noncomputable def tw11826058950150343575:=()
noncomputable def tw13169978291539894159:=()
noncomputable def tw13428635376832366104:=()
noncomputable def tw17012249432834357635:=()
noncomputable def tw3216343977692713342:=()
noncomputable def tw16352316957305561033:=()
noncomputable def tw3015305677712682316:=()
noncomputable def tw3875168577335004853:=()
noncomputable def tw1085976145882882917:=()
noncomputable def tw13333641427043630286:=()
noncomputable def tw2739101357647103301:=()
noncomputable def tw16569385330553605822:=()
noncomputable def tw15318279914847670271:=()
noncomputable def tw8947005087328949865:=()
noncomputable def tw16103796459229938061:=()
noncomputable def tw12713351380992920218:=()
noncomputable def tw16756485321651758591:=()
noncomputable def tw1460891166843853466:=()
noncomputable def tw16019633449825845643:=()
noncomputable def tw16924522172403700596:=()
noncomputable def tw6733902066744235790:=()
noncomputable def tw6959117755578306763:=()
noncomputable def tw17685990122758898284:=()
noncomputable def tw1588881078162488653:=()
noncomputable def tw5448164933273115321:=()
noncomputable def tw18329207710112156284:=()
noncomputable def tw16806428409621720118:=()
noncomputable def tw11366856362577777916:=()
noncomputable def tw15428909936369424595:=()
noncomputable def tw17817007480667712821:=()
noncomputable def tw12522456569622129280:=()
noncomputable def tw1128637275306904605:=()
noncomputable def tw12793907115996585702:=()
noncomputable def tw16155028557395134368:=()
noncomputable def tw8746589755353965369:=()
noncomputable def tw11067762491160689804:=()
noncomputable def tw11143745899515365310:=()
noncomputable def tw13543332086588648532:=()
noncomputable def tw14440308831414114366:=()
noncomputable def tw3074600073055239584:=()
noncomputable def tw18217716987997892698:=()
noncomputable def tw255840953043016332:=()
noncomputable def tw1245971951775353587:=()
noncomputable def tw2492100296881053747:=()
noncomputable def tw5575428004812093068:=()
noncomputable def tw3115589460999765900:=()
noncomputable def tw4198289353791869074:=()
noncomputable def tw10568141058028471817:=()
noncomputable def tw1849712828126198216:=()
noncomputable def tw2805940594325721439:=()
noncomputable def tw13776225673439394429:=()
noncomputable def tw3691372641463238599:=()
noncomputable def tw14023401856372011650:=()
noncomputable def tw3101916702285362106:=()
noncomputable def tw4958986888546729479:=()
noncomputable def tw10375186813425481216:=()
noncomputable def tw11069174441281088628:=()
noncomputable def tw5368894375923802087:=()
noncomputable def tw2679134156702260060:=()
noncomputable def tw2564575950534241714:=()
noncomputable def tw16470582907274449491:=()
noncomputable def tw6544836311951336228:=()
noncomputable def tw16226581646561135133:=()
noncomputable def tw7885950870408851038:=()
noncomputable def tw2880761071919962462:=()
noncomputable def tw14779763860253298601:=()
noncomputable def tw564743885941630041:=()
noncomputable def tw4902332768841687805:=()
noncomputable def tw2199746115038282373:=()
noncomputable def tw3517475670440028522:=()
noncomputable def tw3508377606857878128:=()
noncomputable def tw4385663674322042243:=()
noncomputable def tw213495299747692051:=()
noncomputable def tw16061521847061250305:=()
noncomputable def tw15863539280331697883:=()
noncomputable def tw7080684490245529035:=()
noncomputable def tw8624320002882298961:=()
noncomputable def tw8234008726296388415:=()
noncomputable def tw2119955781504455431:=()
noncomputable def tw17025671791016110285:=()
noncomputable def tw13024550013789061144:=()
noncomputable def tw12226791512400845110:=()
noncomputable def tw14322306106497374777:=()
noncomputable def tw14999589496775835140:=()
noncomputable def tw8159233947628640059:=()
noncomputable def tw7369878557102390669:=()
noncomputable def tw9462901264043821452:=()
noncomputable def tw13376959589455724368:=()
noncomputable def tw3943567368059032182:=()
noncomputable def tw16129744731973899212:=()
noncomputable def tw7349429909087350021:=()
noncomputable def tw9471279871873786849:=()
noncomputable def tw13996364517630170604:=()
noncomputable def tw10711934773817169394:=()
end PySem.W.Fast
open PySem PySem.W PyProof.Rows
set_option maxRecDepth 100000 in
set_option maxHeartbeats 0 in
theorem PySem.Challenge.cw_webshapes_k34_bounds_and_ends_holds : PySem.Challenge.rw_webshapes_k34_bounds_and_ends.Holds := by
  w_on; (refine holds_law L2.ws fun gC => ?_); k_head; (case hw => w_witness2)
  k_fill
  refine L2.tT (l := PySem.Challenge.rw_webshapes_k34_bounds_and_ends) (n := 63) (k := 13) (x := "_law_script") (CX := L2.CX0) (sp := K34.p0) rfl (by decide) rfl ⟨rfl, by decide, by decide, rfl⟩ (fun w h Y => PySem.W.km_in_of Y) ?T ?TK ?TH ?F ?S ?C
  case T => exact fun w h Y => List.forall_mem_cons.mpr ⟨⟨codeHd_of_K (km_in_of Y) (by kernel_rfl), km_tabs_of Y 151 (by k_mem)⟩, List.forall_mem_cons.mpr ⟨⟨codeHd_of_K (km_in_of Y) (by kernel_rfl), km_tabs_of Y 125 (by k_mem)⟩, fun _ h => nomatch h⟩⟩
  case TK => exact fun w => List.forall_mem_cons.mpr ⟨by first | k_is | kernel_rfl, List.forall_mem_cons.mpr ⟨by first | k_is | kernel_rfl, fun _ h => nomatch h⟩⟩
  case TH => exact List.forall_mem_cons.mpr ⟨rfl, List.forall_mem_cons.mpr ⟨rfl, fun _ h => nomatch h⟩⟩
  case F =>
    intro w mg fa h KX G hmg;have TT : ∃ t : K34.Adr, (∀ (s : Shared) (u : Value), BindsTo s (t.f 24).2 ⟨[u], []⟩ [("_law_script", u)]) ∧ K34.Txt (L2.KOf KX) mg t := by
      dsimp only [L2.KOf];refine' K34.Ay KX G ?D ?n_so ?l_so ?c_so ?n_facts_sorted ?l_facts_sorted ?c_facts_sorted ?z_abs ?z_all ?z_bool ?z_dict ?z_int ?z_isinstance ?z_len ?z_list ?z_max ?z_min ?z_range ?z_set ?z_sorted ?z_str ?z_tuple ?g_BACK ?g_KINDS ?s_KINDS ?g_LISTS ?s_LISTS
      (case D => (iterate 25 refine L2.Fm KX G (by k_is) (by k_is) (by k_is) (by k_is) (by first | exact fun _ _ _ _ _ _ => L2.us1 fun _ => rfl | exact fun _ _ _ _ _ _ => L2.us2 fun _ _ => rfl | exact fun _ _ _ _ _ _ => L2.us3 fun _ _ _ => rfl | exact fun _ _ _ _ _ _ => L2.us4 fun _ _ _ _ => rfl | exact fun _ _ _ _ _ _ => L2.us5 fun _ _ _ _ _ => rfl | exact fun _ _ _ _ _ _ => L2.us6 fun _ _ _ _ _ _ => rfl) ?_); exact True.intro)
      (case n_so => k_is)
      (case l_so => k_is)
      (case c_so => exact rfl)
      (case n_facts_sorted => k_is)
      (case l_facts_sorted => k_is)
      (case c_facts_sorted => exact rfl)
      (case z_abs => k_is)
      (case z_all => k_is)
      (case z_bool => k_is)
      (case z_dict => k_is)
      (case z_int => k_is)
      (case z_isinstance => k_is)
      (case z_len => k_is)
      (case z_list => k_is)
      (case z_max => k_is)
      (case z_min => k_is)
      (case z_range => k_is)
      (case z_set => k_is)
      (case z_sorted => k_is)
      (case z_str => k_is)
      (case z_tuple => k_is)
      (case g_BACK => k_is)
      (case g_KINDS => k_is)
      (case s_KINDS => k_is)
      (case g_LISTS => k_is)
      (case s_LISTS => k_is)
    obtain ⟨t, hb, T⟩ := TT;have e : some (Value.ref fa) = some (Value.ref (t.f 24).1) := hmg.symm.trans (T.d 24 rfl).m;have e' : fa = (t.f 24).1 := by injection e with e; injection e
    subst e';exact ⟨(t.f 24).2, hb, fun base _ _ => K34.AO T⟩
  case S => exact fun K H a ns hl _ hS => L2.Bp rfl hl hS (by obtain ⟨pr, outs, h, rfl, rfl⟩ := K34.tU hl; exact h)
  case C => exact fun _ _ _ _ z => z

