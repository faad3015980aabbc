import PyProof.Rows.All
import Wide.All
import OpenK.AllK
import Wide.FinOn
import Lean
import PyProof.EqAt
import PyProof.EqKinds
import PyProof.TupleCall
import PyProof.ConsumeWalk
import PyProof.EqLayable
import PyProof.ReprRoads
import PyProof.StrWalks
import PyProof.SliceStr2
import PyProof.StrLawsIn
import PyProof.StrLawsRepr
import PyProof.SliceList
import PyProof.Rows.FStr
import PyProof.CallStr
import PyProof.Rows.SeqMore
import PyProof.ListStr
import PyProof.Claim2Refuses
import PyProof.Rows.SetFrom
import PyProof.Rows.StrMeet
import PyProof.WalksMore
import PyProof.StrCalls
import PyProof.ListMulRoad
import PyProof.MaxThree
import PyProof.Rows.SumAny
import PyProof.AutoSeq1
import PyProof.StrBlock2
import OpenK.KOwn
import KE.KIsAll
import PyProof.InstStoreFacts
import PyProof.FString2
import PySem.Challenge.RW_webshapes_k72_not_simple
set_option compiler.extract_closed false
set_option bootstrap.genMatcherCode false
set_option Elab.async false
set_option linter.all false
set_option maxRecDepth 100000
set_option maxHeartbeats 4000000
section
open PySem PySem.Spec PyProof.Rows PySem.W
theorem He:type_of% @wpAny_bind:=@wpAny_bind
theorem Hf:type_of% @List.length_map:=@List.length_map
theorem Hg:type_of% @wpAny_pure:=@wpAny_pure
theorem Hh:type_of% @List.getElem?_set_ne:=@List.getElem?_set_ne
theorem Hi:type_of% @List.getElem?_eq_some_iff:=@List.getElem?_eq_some_iff
theorem Hj:type_of% @Heap.get?_push_of_some:=@Heap.get?_push_of_some
theorem Hk:type_of% @List.mem_cons_of_mem:=@List.mem_cons_of_mem
theorem Hl:type_of% @List.getElem?_map:=@List.getElem?_map
theorem Hm:type_of% @List.mem_singleton:=@List.mem_singleton
theorem Hn:type_of% @List.getElem?_eq_getElem:=@List.getElem?_eq_getElem
theorem Ho:type_of% @List.length_append:=@List.length_append
theorem Hq:type_of% @List.getElem?_set_self:=@List.getElem?_set_self
theorem Hr:type_of% @List.getElem?_append_right:=@List.getElem?_append_right
theorem Hs:type_of% @List.mem_cons:=@List.mem_cons
theorem Ht:type_of% @Heap.lt_size:=@Heap.lt_size
theorem Hu:type_of% @Nat.le_refl:=@Nat.le_refl
theorem Hv:type_of% @Option.map_eq_some_iff:=@Option.map_eq_some_iff
theorem Hw:type_of% @List.mem_cons_self:=@List.mem_cons_self
theorem Hx:type_of% @Nat.lt_of_lt_of_le:=@Nat.lt_of_lt_of_le
theorem Hy:type_of% @if_pos:=@if_pos
theorem Hz:type_of% @List.mem_append_right:=@List.mem_append_right
theorem HA:type_of% @Nat.le_trans:=@Nat.le_trans
theorem HB:type_of% @List.size_toArray:=@List.size_toArray
theorem HC:type_of% @if_neg:=@if_neg
theorem HD:type_of% @List.length_cons:=@List.length_cons
theorem HE:type_of% @Heap.get?_push_size:=@Heap.get?_push_size
theorem HF:type_of% @List.mem_of_getElem?:=@List.mem_of_getElem?
theorem HG:type_of% @List.getElem?_append_left:=@List.getElem?_append_left
theorem HH:type_of% @Nat.ne_of_lt:=@Nat.ne_of_lt
theorem HI:type_of% @List.length_set:=@List.length_set
theorem HJ:type_of% @PySem.W.mg_of:=@PySem.W.mg_of
theorem HK:type_of% @Bool.and_eq_true:=@Bool.and_eq_true
theorem HL:type_of% @List.map_append:=@List.map_append
theorem HM:type_of% @List.mem_map:=@List.mem_map
theorem HN:type_of% @Nat.lt_irrefl:=@Nat.lt_irrefl
theorem HP:type_of% @wpAny_mono:=@wpAny_mono
theorem HQ:type_of% @Option.some.inj:=@Option.some.inj
theorem HR:type_of% @Heap.get?_update_self:=@Heap.get?_update_self
theorem HS:type_of% @decide_eq_false:=@decide_eq_false
theorem HU:type_of% @Heap.get?_update_other:=@Heap.get?_update_other
theorem HV:type_of% @List.mem_nil_iff:=@List.mem_nil_iff
theorem HW:type_of% @List.length_take:=@List.length_take
theorem HX:type_of% @wpAny_loadPart_at:=@wpAny_loadPart_at
theorem HY:type_of% @wpAny_holding:=@wpAny_holding
theorem HZ:type_of% @Array.length_toList:=@Array.length_toList
theorem H9:type_of% @wpAny_newObj_type:=@wpAny_newObj_type
theorem Ia:type_of% @List.nodup_cons:=@List.nodup_cons
theorem Ib:type_of% @PySem.F.type_list_append:=@PySem.F.type_list_append
theorem Ic:type_of% @PySem.F.slot_list_append:=@PySem.F.slot_list_append
theorem Ie:type_of% @List.append_nil:=@List.append_nil
theorem Ig:type_of% @PySem.W.mg_none_of:=@PySem.W.mg_none_of
theorem Ih:type_of% @PySem.F.plainAttrs_list:=@PySem.F.plainAttrs_list
theorem Ii:type_of% @decide_eq_true:=@decide_eq_true
theorem Ij:type_of% @wpAny_setField_rec:=@wpAny_setField_rec
theorem Ik:type_of% @List.length_drop:=@List.length_drop
theorem Il:type_of% @Bool.false_ne_true:=@Bool.false_ne_true
theorem Im:type_of% @List.set_set:=@List.set_set
theorem Io:type_of% @List.take_of_length_le:=@List.take_of_length_le
theorem Ip:type_of% @wpAny_call_entry:=@wpAny_call_entry
theorem Iq:type_of% @List.take_length:=@List.take_length
theorem Ir:type_of% @List.mem_iff_getElem?:=@List.mem_iff_getElem?
theorem Iu:type_of% @Array.getElem?_eq_getElem:=@Array.getElem?_eq_getElem
theorem Iv:type_of% @or_false:=@or_false
theorem Iw:type_of% @Nat.zero_le:=@Nat.zero_le
theorem Iy:type_of% @List.length_range:=@List.length_range
theorem Iz:type_of% @PySem.mem_of_lookup:=@PySem.mem_of_lookup
theorem IC:type_of% @List.filterMap_cons:=@List.filterMap_cons
theorem ID:type_of% @take_snoc:=@take_snoc
theorem IE:type_of% @List.lookup_cons:=@List.lookup_cons
theorem IF:type_of% @beq_iff_eq:=@beq_iff_eq
theorem IG:type_of% @List.pairwise_cons:=@List.pairwise_cons
theorem IH:type_of% @List.mem_append:=@List.mem_append
theorem II:type_of% @Array.getElem?_toList:=@Array.getElem?_toList
theorem IJ:type_of% @Nat.lt_succ_of_lt:=@Nat.lt_succ_of_lt
theorem IK:type_of% @wpAny_rule:=@wpAny_rule
theorem IL:type_of% @codeAny_call_builtin:=@codeAny_call_builtin
theorem IM:type_of% @PySem.W.looks_findIn:=@PySem.W.looks_findIn
theorem IP:type_of% @Nat.le_succ:=@Nat.le_succ
theorem IQ:type_of% @Array.getElem?_eq_some_iff:=@Array.getElem?_eq_some_iff
theorem IU:type_of% @wpAny_execs_cons:=@wpAny_execs_cons
theorem IV:type_of% @Nat.lt_or_ge:=@Nat.lt_or_ge
theorem IW:type_of% @wpAny_isSubtype_exc:=@wpAny_isSubtype_exc
theorem IX:type_of% @codeAny_builtin:=@codeAny_builtin
theorem IY:type_of% @PassesOwn.never:=@PassesOwn.never
theorem IZ:type_of% @wpAny_callSpecial?_slot:=@wpAny_callSpecial?_slot
theorem Ja:type_of% @wpAny_truthy_bool:=@wpAny_truthy_bool
theorem Jb:type_of% @wpAny_setState_of:=@wpAny_setState_of
theorem Jc:type_of% @of_decide_eq_true:=@of_decide_eq_true
theorem Jd:type_of% @Array.toList_push:=@Array.toList_push
theorem Je:type_of% @List.getElem?_eq_none:=@List.getElem?_eq_none
theorem Jf:type_of% @Nat.lt_succ_self:=@Nat.lt_succ_self
theorem Jg:type_of% @sizeLine_eq:=@sizeLine_eq
theorem Jh:type_of% @List.mem_of_mem_take:=@List.mem_of_mem_take
theorem Ji:type_of% @List.mem_append_left:=@List.mem_append_left
theorem Jj:type_of% @Array.toArray_toList:=@Array.toArray_toList
theorem Jk:type_of% @Around.under_plainId:=@Around.under_plainId
theorem Jl:type_of% @wpAny_execs_nil:=@wpAny_execs_nil
theorem Jm:type_of% @wpAny_dictEpoch:=@wpAny_dictEpoch
theorem Jn:type_of% @codeAny_mono:=@codeAny_mono
theorem Jo:type_of% @Nat.le_of_lt:=@Nat.le_of_lt
theorem Jp:type_of% @wpAny_Call_Name_kw:=@wpAny_Call_Name_kw
theorem Jq:type_of% @List.contains_cons:=@List.contains_cons
theorem Jr:type_of% @List.drop_eq_getElem_cons:=@List.drop_eq_getElem_cons
theorem Js:type_of% @wpAny_field:=@wpAny_field
theorem Jt:type_of% @if_true:=@if_true
theorem Ju:type_of% @decide_eq_true_eq:=@decide_eq_true_eq
theorem Jv:type_of% @Int.toNat_natCast:=@Int.toNat_natCast
theorem Jw:type_of% @List.any_cons:=@List.any_cons
theorem Jx:type_of% @wpAny_forIn_list:=@wpAny_forIn_list
theorem Jy:type_of% @Nat.ne_of_gt:=@Nat.ne_of_gt
theorem Jz:type_of% @List.map_map:=@List.map_map
theorem JB:type_of% @wpAny_specialOf:=@wpAny_specialOf
theorem JD:type_of% @wpAny_passesOwn:=@wpAny_passesOwn
theorem JH:type_of% @List.length_replicate:=@List.length_replicate
end
section
namespace L2
abbrev Fg:=PySem.W.Frag
set_option maxRecDepth 100000 in
set_option maxHeartbeats 0 in
theorem ws:PySem.W.OpenLaw.wellSaid PySem.Challenge.rw_webshapes_k72_not_simple=true:=by decide +kernel
open PySem PySem.Spec PyProof.Rows
abbrev Key:=Sum Int Str
noncomputable def nW:Key->Value->Bool
 | .inl k,v=>Value.isInt k v
 | .inr x,v=>Value.isStrOf x v
noncomputable def FZ (w:World):Key->Int
 | .inl k=>hashInt k
 | .inr x=>hashStr w x
theorem bp:∀ {k:Key} {v:Value},nW k v=true->(∃ i t,k=Sum.inl i/\v=Value.int i t)\/(∃ x t,k=Sum.inr x/\v=Value.str x t)
 | .inl i,v,h=>by
  obtain ⟨t,e⟩:=Value.isInt_shape (k:=i) (v:=v) h;exact .inl ⟨i,t,rfl,e⟩
 | .inr x,v,h=>by
  obtain ⟨t,e⟩:=Value.isStrOf_shape (x:=x) (v:=v) h;exact .inr ⟨x,t,rfl,e⟩
theorem ue (i:Int) (t:Tok):nW (.inl i) (.int i t)=true:=by simp [nW,Value.isInt]
theorem uz (x:Str) (t:Tok):nW (.inr x) (.str x t)=true:=by simp [nW,Value.isStrOf]
theorem Cw (a b:Int):decide ((Sum.inl a:Key)=Sum.inl b)=(a==b):=by
 by_cases e:a=b
 ·subst e;simp
 ·have h:¬(Sum.inl a:Key)=Sum.inl b:=fun q=>e (Sum.inl.inj q);rw [HS h];exact (beq_eq_false_iff_ne.mpr e).symm
theorem Co (a b:Str):decide ((Sum.inr a:Key)=Sum.inr b)=decide (a=b):=by
 by_cases e:a=b
 ·subst e;simp
 ·have h:¬(Sum.inr a:Key)=Sum.inr b:=fun q=>e (Sum.inr.inj q);rw [HS h,HS e]
theorem BW (a:Int) (b:Str):decide ((Sum.inl a:Key)=Sum.inr b)=false:=HS (fun q=>nomatch q)
theorem A3 (a:Str) (b:Int):decide ((Sum.inr a:Key)=Sum.inl b)=false:=HS (fun q=>nomatch q)
noncomputable def b5 (prog:Program) (w:World):PySem.KeyKind prog w Key where
 is:=nW
 hash:=FZ w
 inj:=fun v a b ha hb=>by
  rcases bp ha with ⟨i,t,rfl,rfl⟩ | ⟨x,t,rfl,rfl⟩
  ·rcases bp hb with ⟨j,u,rfl,e⟩ | ⟨y,u,rfl,e⟩
   ·injection e with e1 _;rw [e1]
   ·exact nomatch e
  ·rcases bp hb with ⟨j,u,rfl,e⟩ | ⟨y,u,rfl,e⟩
   ·exact nomatch e
   ·injection e with e1 _;rw [e1]
 byValue:=fun k v h=>by
  rcases bp h with ⟨i,t,rfl,rfl⟩ | ⟨x,t,rfl,rfl⟩ <;> rfl
 pyHash:=fun hv h=>by
  rcases bp hv with ⟨i,t,rfl,rfl⟩ | ⟨x,t,rfl,rfl⟩
  ·exact wpAny_pyHash_int h
  ·exact wpAny_pyHash_str h
 eqBool:=fun hu hv h=>by
  rcases bp hu with ⟨i,t,rfl,rfl⟩ | ⟨x,t,rfl,rfl⟩
  ·rcases bp hv with ⟨j,u,rfl,rfl⟩ | ⟨y,u,rfl,rfl⟩
   ·rw [Cw] at h;exact wpAny_eqBool_int h
   ·rw [BW] at h;exact SeqAt.EqAt.int_str i t y u _ _ _ _ h
  ·rcases bp hv with ⟨j,u,rfl,rfl⟩ | ⟨y,u,rfl,rfl⟩
   ·rw [A3] at h;exact SeqAt.EqAt.str_int x t j u _ _ _ _ h
   ·rw [Co] at h;exact wpAny_eqBool_str h
 «strs»:=fun k x t v h=>by
  rcases bp h with ⟨i,u,rfl,e⟩ | ⟨y,u,rfl,e⟩
  ·exact nomatch e
  ·injection e with e1 _;subst e1;cases v <;> rfl
theorem ng (prog:Program) (w:World) (i:Int) (t:Tok):(b5 prog w).is (.inl i) (.int i t)=true:=ue i t
theorem oh (prog:Program) (w:World) (x:Str) (t:Tok):(b5 prog w).is (.inr x) (.str x t)=true:=uz x t
end L2
namespace L2
open PySem PySem.Spec PyProof.Rows
inductive V where
 | non | bl (b:Bool) | int (i:Int) | str (x:Str) | byt (b:Array UInt8) | flt (b:UInt64) | ref (a:Addr) | ty (n:String)
 deriving DecidableEq
def RelV:V->Value->Prop
 | .non,u=>u=Value.none
 | .bl b,u=>u=Value.bool b
 | .int i,u=>∃ t,u=Value.int i t
 | .str x,u=>∃ t,u=Value.str x t
 | .byt b,u=>∃ t,u=Value.bytes b t
 | .flt b,u=>∃ t,u=Value.float b t
 | .ref a,u=>u=Value.ref a
 | .ty n,u=>u=Value.type n
abbrev Vals:List V->List Value->Prop:=Paired RelV
theorem Vals.length {xs:List V} {us:List Value} (r:Vals xs us):xs.length=us.length:=Paired.length r
theorem Vals.get:∀ {xs:List V} {us:List Value} {i:Nat} {x:V},Vals xs us->xs[i]?=some x->∃ u,us[i]?=some u/\RelV x u
 | _,_,_,_,.nil,e=>by simp at e
 | _,_,0,_,.cons r _,e=>by simp at e;subst e;exact ⟨_,rfl,r⟩
 | _,_,i+1,x,.cons _ t,e=>by
  obtain ⟨u,h1,h2⟩:=Vals.get (i:=i) (x:=x) t (by simpa using e);exact ⟨u,by simpa using h1,h2⟩
theorem Vals.set {x:V} {u:Value} (r:RelV x u):∀ {xs:List V} {us:List Value} (i:Nat),Vals xs us->Vals (xs.set i x) (us.set i u)
 | _,_,_,.nil=>.nil
 | _,_,0,.cons _ t=>.cons r t
 | _,_,i+1,.cons q t=>.cons q (Vals.set r i t)
theorem Vals.append:∀ {xs ys:List V} {us ws:List Value},Vals xs us->Vals ys ws->Vals (xs++ys) (us++ws)
 | _,_,_,_,.nil,s=>s
 | _,_,_,_,.cons r t,s=>.cons r (Vals.append t s)
theorem Vals.take:∀ {xs:List V} {us:List Value} (n:Nat),Vals xs us->Vals (xs.take n) (us.take n)
 | _,_,0,_=>.nil
 | _,_,_+1,.nil=>.nil
 | _,_,n+1,.cons r t=>.cons r (Vals.take n t)
theorem Vals.drop:∀ {xs:List V} {us:List Value} (n:Nat),Vals xs us->Vals (xs.drop n) (us.drop n)
 | _,_,0,r=>r
 | _,_,_+1,.nil=>.nil
 | _,_,n+1,.cons _ t=>Vals.drop n t
def Aw:Option V->Option Value->Prop
 | some v,some u=>RelV v u
 | none,none=>True
 | _,_=>False
def KV {κ:Type}:List (κ×V)->List (κ×Value)->Prop:=Paired fun (p:κ×V) (q:κ×Value)=>p.1=q.1/\RelV p.2 q.2
noncomputable def kV:Key->V
 | .inl i=>.int i
 | .inr x=>.str x
mutual
noncomputable def cQ (w:World):PyData->Int
 | .int i=>hashInt i
 | .str x=>hashStr w x
 | .tuple ds=>reduceHash (Builtin.Tuple.tupleHashOf (df w ds))
 | _=>0
noncomputable def df (w:World):List PyData->List Int
 | []=>[]
 | d :: ds=>cQ w d :: df w ds
end
def yR (w:World) (x:PyData×V×V) (e:DictEntry):Prop:=e.hash=cQ w x.1/\RelV x.2.1 e.key/\RelV x.2.2 e.val
inductive HO where
 /-- a list -/
 | lst (xs:List V)
 /-- a tuple (never changes) -/
 | tup (xs:List V)
 /-- a dict whose keys are ints and texts;one whose keys are tuples of ints and texts (the empty one is both) -/
 | dK (kvs:List (Key×V)) | dT (kvs:List (List Key×V))
 /-- a dict by any hashable data: its epoch;the keys as data and as values,what they hold -/
 | dD (ep:Nat) (xs:List (PyData×V×V))
 /-- a set of ints: its members,its size -/
 | set (S:Int->Bool) (n:Nat)
 /-- an instance of the class at C,its dict at dx,its attributes -/
 | ins (C dx:Addr) (fs:List (Str×V))
 /-- the dict of the instance at x -/
 | own (x:Addr)
 /-- the dict of an exception -/
 | xd (fs:List (Str×V))
 /-- a bound method,f of x -/
 | met (f x:Addr)
 /-- a range object lo,lo+1,.. below hi -/
 | rng (lo hi:Int)
 /-- a thing that is known to the object (the script;a dict while a loop walks it): read,never written while it is so -/
 | frz (o:Obj) (u:HO)
 /-- a code object's table -/
 | tbl (ps:Array Value)
 /-- any other thing,by what is true of its one object (a def of one's own: CW a S n:=HO.ext fun h=>..) -/
 | ext (φ:Heap->Prop)
abbrev Hp:=Addr->Option HO
noncomputable def upd (H:Hp) (a:Addr) (o:HO):Hp:=fun b=>if b=a then some o else H b
theorem ay {H:Hp} {a:Addr} {o:HO}:upd H a o a=some o:=by unfold upd;rw [Hy rfl]
theorem aC {H:Hp} {a b:Addr} {o:HO} (h:b≠a):upd H a o b=H b:=by unfold upd;rw [HC h]
theorem zr {H:Hp} {a:Addr} {o u:HO}:upd (upd H a o) a u=upd H a u:=by
 funext b;unfold upd;split <;> rfl
theorem aG {H:Hp} {a b:Addr} {o:HO} (h:H a=some o) (h':H b=none):a≠b:=by
 intro e;subst e;rw [h] at h';cases h'
section
variable (P:Program) (w:World)
def bY (H:Hp) (h:Heap) (a:Addr):HO->Prop
 | .lst xs=>xs.length<=sizeLine/\∃ (its:List Value) (n:Nat),Vals xs its/\h.get? a=some { cls:=.type "list", data:=.seq its.toArray n }
 | .tup xs=>xs.length<=sizeLine/\∃ its:List Value,Vals xs its/\IsTup h a its.toArray
 | .dK kvs=>kvs.length<=sizeLine/\(a==sysModules)=false/\∃ vs,KV kvs vs/\h.DictOf (b5 P w) a vs
 | .dT kvs=>kvs.length<=sizeLine/\(a==sysModules)=false/\∃ xs:List (List Key×Addr×Value),
   Paired (fun (p:List Key×V) (q:List Key×Addr×Value)=>p.1=q.1/\H q.2.1=some (.tup (p.1.map kV))/\RelV p.2 q.2.2) kvs xs /\
   ∃ o es ep,h.get? a=some o/\o.ExactDict/\o.data=.dict es ep/\es.toList=xs.map (entryOfKey (tupleKind (b5 P w)))/\(xs.map (·.1)).Nodup
 | .dD ep xs=>xs.length<=sizeLine/\(a==sysModules)=false/\(xs.map (·.1)).Nodup/\∃ o es,h.get? a=some o/\o.ExactDict/\o.data=.dict es ep/\Paired (yR w) xs es.toList
 | .set S n=>h.SetOf (intKind P w) a S n
 | .ins C dx fs=>H dx=some (.own a)/\fs.length<=1000/\dx≠a/\h.get? a=some (PySem.W.instObj C dx) /\
   ∃ mA,h.Ns1 dx mA/\(∀ f,Aw (fs.lookup f) (mA f))/\PySem.Within mA (fs.map (·.1))
 | .own _=>∃ o,h.get? a=some o
 | .xd fs=>∃ mA,h.Ns1 a mA/\∀ f,Aw (fs.lookup f) (mA f)
 | .rng lo hi=>∃ t u v,h.get? a=some { cls:=.type "range", data:=.fields #[.int lo t,.int hi u,.int 1 v] }
 | .frz o u=>h.get? a=some o/\bY H h a u
 | .tbl ps=>h.get? a=some { cls:=.none,data:=.fields ps }
 | .met f x=>h.get? a=some (PySem.W.methodObj (.ref f) (.ref x))
 | .ext φ=>φ h/\(∃ o,h.get? a=some o)/\∀ h1 h2:Heap,φ h1->(∀ o,h1.get? a=some o->h2.get? a=some o)->φ h2
def HOk (H:Hp) (h:Heap):Prop:=∀ a o,H a=some o->bY P w H h a o
end
section
variable {P:Program} {w:World} {H H':Hp} {h h':Heap} {a:Addr} {o:HO}
theorem bY.lt (x:bY P w H h a o):a < h.objs.size:=by
 cases o with
 | lst xs=>obtain ⟨_,_,_,_,e⟩:=x;exact Ht e
 | tup xs=>obtain ⟨_,_,_,p⟩:=x;exact p.lt
 | dK kvs=>obtain ⟨_,_,_,_,o,_,_,e,_⟩:=x;exact Ht e
 | dT kvs=>obtain ⟨_,_,_,_,o,_,_,e,_⟩:=x;exact Ht e
 | dD ep xs=>obtain ⟨_,_,_,o,_,e,_⟩:=x;exact Ht e
 | set S n=>obtain ⟨o,_,_,_,e,_⟩:=x;exact Ht e
 | ins C dx fs=>obtain ⟨_,_,_,e,_⟩:=x;exact Ht e
 | own y=>obtain ⟨_,e⟩:=x;exact Ht e
 | xd fs=>obtain ⟨_,⟨_,_,_,e,_⟩,_⟩:=x;exact Ht e
 | rng lo hi=>obtain ⟨_,_,_,e⟩:=x;exact Ht e
 | frz ob u=>obtain ⟨e,_⟩:=x;exact Ht e
 | tbl ps=>exact Ht (show h.get? a=some _ from x)
 | met f y=>exact Ht (show h.get? a=some _ from x)
 | ext φ=>obtain ⟨_,⟨_,e⟩,_⟩:=x;exact Ht e
theorem Paired.Gh {α β:Type} {F G:α->β->Prop}:∀ {l₁:List α} {l₂:List β},Paired F l₁ l₂->(∀ a b,F a b->G a b)->Paired G l₁ l₂
 | _,_,.nil,_=>.nil
 | _,_,.cons r t,f=>.cons (f _ _ r) (Paired.Gh t f)
theorem bY.jL (x:bY P w H h a o) (k:∀ b u,(b=a\/H b=some (.own a))->h.get? b=some u->h'.get? b=some u)
  (ho:∀ b,H b=some (.own a)->H' b=some (.own a)) (ht:∀ b xs,H b=some (.tup xs)->H' b=some (.tup xs)):bY P w H' h' a o:=by
 induction o with
 | lst xs=>obtain ⟨z,its,n,r,e⟩:=x;exact ⟨z,its,n,r,k _ _ (.inl rfl) e⟩
 | tup xs=>obtain ⟨z,its,r,ob,e,c⟩:=x;exact ⟨z,its,r,ob,k _ _ (.inl rfl) e,c⟩
 | dK kvs=>obtain ⟨z,y,vs,r,ob,es,ep,e,c⟩:=x;exact ⟨z,y,vs,r,ob,es,ep,k _ _ (.inl rfl) e,c⟩
 | dT kvs =>
  obtain ⟨z,y,xs,r,ob,es,ep,e,c⟩:=x;exact ⟨z,y,xs,Paired.Gh r fun p q z=>⟨z.1,ht _ _ z.2.1,z.2.2⟩,ob,es,ep,k _ _ (.inl rfl) e,c⟩
 | dD ep xs=>obtain ⟨z,y,nd,ob,es,e,c⟩:=x;exact ⟨z,y,nd,ob,es,k _ _ (.inl rfl) e,c⟩
 | set S n=>obtain ⟨ob,es,ep,t,e,c⟩:=x;exact ⟨ob,es,ep,t,k _ _ (.inl rfl) e,c⟩
 | ins C dx fs =>
  obtain ⟨d,z,ne,e,mA,⟨od,es,ep,e2,c⟩,r⟩:=x;exact ⟨ho _ d,z,ne,k _ _ (.inl rfl) e,mA,⟨od,es,ep,k _ _ (.inr d) e2,c⟩,r⟩
 | own y=>obtain ⟨ob,e⟩:=x;exact ⟨ob,k _ _ (.inl rfl) e⟩
 | xd fs=>obtain ⟨mA,⟨od,es,ep,e,c⟩,r⟩:=x;exact ⟨mA,⟨od,es,ep,k _ _ (.inl rfl) e,c⟩,r⟩
 | rng lo hi=>obtain ⟨t,u,v,e⟩:=x;exact ⟨t,u,v,k _ _ (.inl rfl) e⟩
 | frz ob u ih=>obtain ⟨e,q⟩:=x;exact ⟨k _ _ (.inl rfl) e,ih q⟩
 | tbl ps =>
  have e:h.get? a=some { cls:=.none,data:=.fields ps }:=x;show h'.get? a=some { cls:=.none,data:=.fields ps };exact k a _ (.inl rfl) e
 | met f y =>
  have e:h.get? a=some (PySem.W.methodObj (.ref f) (.ref y)):=x;show h'.get? a=some (PySem.W.methodObj (.ref f) (.ref y));exact k a _ (.inl rfl) e
 | ext φ=>obtain ⟨p,⟨o,e⟩,st⟩:=x;exact ⟨st _ _ p fun o q=>k _ _ (.inl rfl) q,⟨o,k _ _ (.inl rfl) e⟩,st⟩
theorem HOk.lt (x:HOk P w H h) (e:H a=some o):a < h.objs.size:=(x a o e).lt
theorem HOk.fresh (x:HOk P w H h) (e:h.objs.size<=a):H a=none:=by
 cases q:H a with
 | none=>rfl
 | some u=>exact absurd (Hx (x.lt q) e) (HN _)
theorem HOk.kept (x:HOk P w H h) (k:∀ b u,h.get? b=some u->h'.get? b=some u):HOk P w H h':=fun a o e =>
 (x a o e).jL (fun b u _ q=>k b u q) (fun _ q=>q) fun _ _ q=>q
theorem HOk.laid (x:HOk P w H h) (k:∀ b u,h.get? b=some u->h'.get? b=some u) (hp:h.objs.size<=a) (new:bY P w (upd H a o) h' a o):HOk P w (upd H a o) h':=fun b u e=>by
 have hn:=x.fresh hp;by_cases hb:b=a
 ·subst hb;rw [ay] at e;cases e;exact new
 ·rw [aC hb] at e;exact (x b u e).jL (fun c v _ q=>k c v q) (fun c q=>by rw [aC (aG q hn)];exact q) fun c xs q=>by rw [aC (aG q hn)];exact q
end
def Rd (H:Hp) (a:Addr) (u:HO):Prop:=H a=some u\/∃ o,H a=some (.frz o u)
theorem Rd.ok {P:Program} {w:World} {H:Hp} {h:Heap} {a:Addr} {u:HO} (r:Rd H a u) (x:HOk P w H h):bY P w H h a u:=by
 rcases r with r | ⟨o,r⟩
 ·exact x a u r
 ·obtain ⟨_,q⟩:=x a _ r;exact q
def Mut:Option HO->Prop
 | some (.lst _)=>True
 | some (.dK _)=>True
 | some (.dT _)=>True
 | some (.dD _ _)=>True
 | some (.set _ _)=>True
 | some (.ins _ _ _)=>True
 | some (.ext _)=>True
 | _=>False
section
variable {P:Program} {w:World} {H:Hp} {h h':Heap} {x e:Addr} {o':HO}
theorem HOk.write (ok:HOk P w H h) (mu:Mut (H x)) (he:e=x\/H e=some (.own x)) (k:∀ b u,b≠e->h.get? b=some u->h'.get? b=some u) (heo:∃ u,h'.get? e=some u)
  (new:bY P w (upd H x o') h' x o'):HOk P w (upd H x o') h':=fun b u q=>by
 have nown:∀ c y,H c=some (.own y)->c≠x:=fun c y r z=>by subst z;rw [r] at mu;exact mu
 have ntup:∀ c xs,H c=some (.tup xs)->c≠x:=fun c xs r z=>by subst z;rw [r] at mu;exact mu
 by_cases hb:b=x
 ·subst hb;rw [ay] at q;cases q;exact new
 ·rw [aC hb] at q;by_cases hbe:b=e
  ·have q':H b=some (.own x):=by
    rcases he with z | z
    ·exact absurd (hbe.trans z) hb
    ·rw [hbe];exact z
   rw [q] at q';cases q';obtain ⟨v,hv⟩:=heo;exact ⟨v,by rw [hbe];exact hv⟩
  ·refine (ok b u q).jL (fun c v hc r=>k c v ?_ r) (fun c r=>by rw [aC (nown c b r)];exact r) fun c xs r=>by rw [aC (ntup c xs r)];exact r
   rcases hc with rfl | hc
   ·exact hbe
   ·rintro rfl;rcases he with z | z
    ·exact nown c b hc z
    ·rw [hc] at z;cases z;exact hb rfl
end
structure Un (fs ex:List Addr) (H H':Hp) (h h':Heap):Prop where
 keep:∀ b o,h.get? b=some o->H b=none->b ∉ fs->b ∉ ex->h'.get? b=some o
 slot:∀ b o,h.get? b=some o->H b=none->b∈fs->b ∉ ex->∃ sl,h'.get? b=some { o with slots:=sl }
 free:∀ b o,h.get? b=some o->H b=none->b ∉ ex->H' b=none
 there:∀ b o,h.get? b=some o->b ∉ ex->∃ o',h'.get? b=some o'
 m4:∀ b xs,H b=some (.tup xs)->H' b=some (.tup xs)
 lz:∀ b o u,H b=some (.frz o u)->H' b=some (.frz o u)
 pZ:∀ b ps,H b=some (.tbl ps)->∃ more,H' b=some (.tbl (ps++more))
section
variable {fs fs' ex ex':List Addr} {H H1 H2:Hp} {h h1 h2 h':Heap} {a x e:Addr} {o:HO}
theorem Un.any (u:Un fs ex H H1 h h1) {b:Addr} {ob:Obj} (q:h.get? b=some ob) (n:H b=none) (hx:b ∉ ex):∃ sl,h1.get? b=some { ob with slots:=sl }:=by
 by_cases hb:b∈fs
 ·exact u.slot b ob q n hb hx
 ·exact ⟨ob.slots,u.keep b ob q n hb hx⟩
theorem Un.kept (k:∀ b u,h.get? b=some u->h'.get? b=some u):Un fs ex H H h h' :=
 ⟨fun b ob q _ _ _=>k b ob q,fun b ob q _ _ _=>⟨ob.slots,k b ob q⟩,fun _ _ _ n _=>n,fun b ob q _=>⟨ob,k b ob q⟩,fun _ _ q=>q,fun _ _ _ q=>q,fun _ ps q=>⟨#[],by rw [q];simp⟩⟩
theorem Un.refl:Un fs ex H H h h:=Un.kept fun _ _ q=>q
theorem Un.laid (k:∀ b u,h.get? b=some u->h'.get? b=some u) (hp:h.objs.size<=a) (hn:H a=none):Un fs ex H (upd H a o) h h' where
 keep:=fun b u q _ _ _=>k b u q
 slot:=fun b u q _ _ _=>⟨u.slots,k b u q⟩
 free:=fun b u q n _=>by rw [aC (HH (Hx (Ht q) hp))];exact n
 there:=fun b u q _=>⟨u,k b u q⟩
 m4:=fun b xs q=>by rw [aC (aG q hn)];exact q
 lz:=fun b u xs q=>by rw [aC (aG q hn)];exact q
 pZ:=fun b ps q=>⟨#[],by rw [aC (aG q hn),q];simp⟩
theorem Un.write (mu:Mut (H x)) (he:e=x\/H e=some (.own x)) (k:∀ b u,b≠e->h.get? b=some u->h'.get? b=some u) (heo:∃ u,h'.get? e=some u):Un fs ex H (upd H x o) h h':=by
 have hx:∀ b,H b=none->b≠x:=fun b n z=>by subst z;rw [n] at mu;exact mu
 have hb:∀ b,H b=none->b≠e:=fun b n z=>by
  subst z;rcases he with r | r
  ·exact hx b n r
  ·rw [n] at r;cases r
 have hm:∀ b u,H b=some u->¬Mut (some u)->b≠x:=fun b u q nm z=>by subst z;rw [q] at mu;exact nm mu
 refine ⟨fun b u q n _ _=>k b u (hb b n) q,fun b u q n _ _=>⟨u.slots,k b u (hb b n) q⟩,fun b u q n _=>by rw [aC (hx b n)];exact n,fun b u q _=>?_,
  fun b xs q=>by rw [aC (hm b _ q fun z=>z)];exact q,fun b u xs q=>by rw [aC (hm b _ q fun z=>z)];exact q,fun b ps q=>⟨#[],by rw [aC (hm b _ q fun z=>z),q];simp⟩⟩
 by_cases hbe:b=e
 ·subst hbe;exact heo
 ·exact ⟨u,k b u hbe q⟩
end
noncomputable def trk (h:Heap) (H:Hp):List Addr:=(List.range h.objs.size).filter fun a=>(H a).isSome
noncomputable def vU (h:Heap) (H:Hp):Heap:=PySem.W.hideAll h (trk h H)
theorem sH (h:Heap) (H:Hp):(vU h H).objs.size=h.objs.size:=PySem.W.hideAll_size _ _
theorem ve {h:Heap} {H:Hp} {b:Addr} {o:Obj} (e:h.get? b=some o) (n:H b=none):(vU h H).get? b=some o :=
 PySem.W.hideAll_get _ e fun hm=>by
  have q:(H b).isSome=true:=(List.mem_filter.mp hm).2;rw [n] at q;simp at q
theorem yP {h:Heap} {H:Hp} {b:Addr} {o:Obj} (e:(vU h H).get? b=some o):h.get? b=some o/\H b=none:=by
 have e':h.get? b=some o:=PySem.W.of_hideAll (trk h H) e;refine ⟨e',?_⟩;cases q:H b with
 | none=>rfl
 | some x =>
  have hm:b∈trk h H:=List.mem_filter.mpr ⟨List.mem_range.mpr (Ht e'),by simp [q]⟩;have z:(vU h H).get? b=none:=PySem.W.hideAll_none (trk h H) hm;rw [z] at e;cases e
noncomputable def yh (g h:Heap) (L:Addr):List (Addr×Obj):=(List.range h.objs.size).filterMap fun a=>if a=L\/(g.get? a).isSome=true then none else (h.get? a).map fun o=>(a,o)
noncomputable def rest (g h:Heap) (L d:Addr):List (Addr×Obj):=(yh g h L).filter fun p=>decide (p.1≠d)
end L2
namespace L2
open PySem PySem.Spec PyProof.Rows
structure Mod (K:Fg) (mg:Str->Option Value) (base:Heap):Prop where
 kin:K.In base
 glob:base.Ns mainGlobals mg
 blt:∃ mb,base.Ns builtinsNs mb/\∀ x:Str,x ≠ "__name__" -> mb x=bootBuiltins x
 nolimit:base.NoLimit
structure Cx where
 prog:Program
 w:World
 K:Fg
 mg:Str->Option Value
 base:Heap
 A:Around
 N:List Str
 s₀:Shared
 H₀:Hp
 env:Env
 outer:List Env
 stack:List Env
 ex:List Addr
 fn:Str->Bool
 calm:Bool
 pn:List (Addr×Obj)
 xe:Value->Shared->Prop
noncomputable def frs (l:List Env):List Addr:=l.filterMap (·.frame)
noncomputable abbrev Cx.fs (X:Cx):List Addr:=frs X.outer
def Vis (sc:Scope) (x:Str):Prop:=sc.names.lookup x=some .local\/sc.names.lookup x=some .cell\/sc.names.lookup x=some .free
def Loc (sc:Scope) (x:Str):Prop:=sc.names.lookup x=some .local\/sc.names.lookup x=some .cell
def Look (env:Env) (h:Heap) (m:Str->Option Value) (x:Str) (u:Value):Prop :=
 (env.kindOf x=some .local/\m x=some u)\/((env.kindOf x=some .cell\/env.kindOf x=some .free)/\∃ c,env.cells.lookup x=some c/\h.IsCell c (some u))
structure Cx.Ok (X:Cx):Prop where
 mod:Mod X.K X.mg X.base
 kind:X.env.scope.kind=.function
 glob:X.env.globals=mainGlobals
 blt:X.env.builtins=builtinsNs
 above:X.s₀.heap.objs.size<=X.env.locals
 inj:∀ x y c,X.env.cells.lookup x=some c->X.env.cells.lookup y=some c->x=y
 has:∀ x,(X.env.kindOf x=some .cell\/X.env.kindOf x=some .free)->∃ c,X.env.cells.lookup x=some c
 cab:∀ x c,X.fn x=true->X.env.cells.lookup x=some c->X.s₀.heap.objs.size<=c
 hd:X.calm=true->X.A.handled=none
 frames:X.A.frames=some X.stack
 stk:X.stack=X.outer\/(X.stack=X.env :: X.outer/\X.env.frame=some X.env.locals)
 exf:∀ b∈X.ex,b≠X.env.locals/\∀ x c,X.env.cells.lookup x=some c->c≠b
 bs:∀ b o,X.base.get? b=some o->X.s₀.heap.get? b=some o/\X.H₀ b=none
 bsz:X.base.objs.size<=X.s₀.heap.objs.size
 wI:∀ b o,X.base.get? b=some o->b ∉ X.ex
 zK:∀ b∈X.ex,b ∉ X.fs
 nX:X.s₀.heap.FunFrames X.base X.outer
 frf:∀ b∈X.fs,X.H₀ b=none
structure Inv (X:Cx) (pins:List (Addr×Obj)) (σ:List (Option V)) (H:Hp) (s:Shared):Prop where
 ok:X.Ok
 os:s.os=X.s₀.os
 bare:AllBare s.gens
 base:Un X.fs X.ex X.H₀ H X.s₀.heap s.heap
 loc:∃ m,s.heap.Ns X.env.locals m/\∀ (i:Nat) (x:Str) (v:V),X.N[i]?=some x->σ[i]?=some (some v)->Vis X.env.scope x->∃ u,RelV v u/\Look X.env s.heap m x u
 cell:∀ x c,X.env.cells.lookup x=some c->∃ v,s.heap.IsCell c v
 free:H X.env.locals=none
 fq:∀ x c,X.env.cells.lookup x=some c->H c=none
 pin:∀ p∈X.pn++pins,s.heap.get? p.1=some p.2/\H p.1=none/\p.1≠X.env.locals/\p.1 ∉ X.fs/\∀ v,p.2.data≠.cell v
 hok:HOk X.prog X.w H s.heap
 len:σ.length=X.N.length
section
variable {X:Cx} {pins:List (Addr×Obj)} {σ:List (Option V)} {H H':Hp} {s:Shared} {h':Heap}
theorem Cx.Ok.Gm (ok:X.Ok) {b:Addr} {o:Obj} (e:X.base.get? b=some o):b ∉ X.fs:=fun hb=>by
 have:=(ok.nX.mem hb).1;rw [e] at this;cases this
theorem Inv.bs (I:Inv X pins σ H s):∀ b o,X.base.get? b=some o->s.heap.get? b=some o/\H b=none:=fun b o e =>
 ⟨I.base.keep b o (I.ok.bs b o e).1 (I.ok.bs b o e).2 (I.ok.Gm e) (I.ok.wI b o e),I.base.free b o (I.ok.bs b o e).1 (I.ok.bs b o e).2 (I.ok.wI b o e)⟩
theorem Inv.bk (I:Inv X pins σ H s):∀ b o,X.base.get? b=some o->s.heap.get? b=some o:=fun b o e=>(I.bs b o e).1
theorem Inv.mod (I:Inv X pins σ H s):Mod X.K X.mg X.base:=I.ok.mod
theorem Inv.kIn (I:Inv X pins σ H s):X.K.In s.heap:=I.ok.mod.kin.keeps I.bk
theorem Inv.lt (I:Inv X pins σ H s):X.env.locals < s.heap.objs.size:=let ⟨_,hn,_⟩:=I.loc;hn.lt
theorem Inv.sz (I:Inv X pins σ H s):X.s₀.heap.objs.size<=s.heap.objs.size:=HA I.ok.above (Jo I.lt)
theorem Inv.CQ (I:Inv X pins σ H s) {a:Addr} (h:s.heap.objs.size<=a):a ∉ X.fs:=fun hb=>by
 obtain ⟨_,o,ho,_⟩:=I.ok.nX.mem hb;exact absurd (Hx (Ht ho) (HA I.sz h)) (HN _)
theorem Inv.cne (I:Inv X pins σ H s):∀ x c,X.env.cells.lookup x=some c->c≠X.env.locals:=fun x c e z=>by
 obtain ⟨v,o,ho,hd⟩:=I.cell x c e;obtain ⟨m,⟨o',es,ep,ho',hd',_⟩,_⟩:=I.loc;rw [z,ho'] at ho;cases ho;rw [hd'] at hd;cases hd
theorem Inv.nX (I:Inv X pins σ H s):s.heap.FunFrames X.base X.outer:=by
 have all:∀ (l:List Env),(∀ b∈frs l,b∈X.fs)->X.s₀.heap.FunFrames X.base l->s.heap.FunFrames X.base l:=by
  intro l;induction l with
  | nil=>intro _ _;trivial
  | cons env r ih =>
   intro hs hl;obtain ⟨hk,⟨L,o,hf,hn,ho,hd⟩,hr⟩:=hl;have hL:L∈X.fs:=hs L (by unfold frs;rw [IC,hf];exact Hw);obtain ⟨sl,e⟩:=I.base.slot L o ho (I.ok.frf L hL) hL fun z=>I.ok.zK L z hL;exact ⟨hk,⟨L,_,hf,hn,e,hd⟩,ih (fun b hb=>hs b (by unfold frs;rw [IC,hf];exact Hk _ hb)) hr⟩
 exact all X.outer (fun _ hb=>hb) I.ok.nX
theorem Inv.stack (I:Inv X pins σ H s):s.heap.FunFrames X.base X.stack:=by
 rcases I.ok.stk with e | ⟨e,hf⟩
 ·rw [e];exact I.nX
 ·rw [e];obtain ⟨m,hn,_⟩:=I.loc;refine .cons (by rw [I.ok.kind];decide) hf hn ?_ I.nX;exact Heap.get?_none_of_le (HA I.ok.bsz I.ok.above)
theorem Inv.mC (I:Inv X pins σ H s):∀ b∈frs X.stack,b∈X.env.locals :: X.fs:=fun b hb=>by
 rcases I.ok.stk with e | ⟨e,hf⟩
 ·rw [e] at hb;exact Hk _ hb
 ·rw [e] at hb;unfold frs at hb;rw [IC,hf] at hb;exact hb
theorem Inv.jB (I:Inv X pins σ H s):∀ b∈frs X.stack,H b=none:=fun b hb=>by
 rcases Hs.mp (I.mC b hb) with e | hb
 ·rw [e];exact I.free
 ·obtain ⟨_,o,ho,_⟩:=I.ok.nX.mem hb;exact I.base.free b o ho (I.ok.frf b hb) fun z=>I.ok.zK b z hb
theorem Inv.step {g':Array GenState} {t':Nat} {d':Drawn} {ch:List Addr} (I:Inv X pins σ H s)
  (hch:∀ b∈ch,(b∈X.ex\/X.s₀.heap.objs.size<=b)/\b≠X.env.locals/\(∀ x c,X.env.cells.lookup x=some c->c≠b)/\∀ p∈X.pn++pins,p.1≠b)
  (keep:∀ b o,b≠X.env.locals->b ∉ X.fs->b ∉ ch->s.heap.get? b=some o->H b=none->h'.get? b=some o)
  (slot:∀ b o,b≠X.env.locals->b∈X.fs->b ∉ ch->s.heap.get? b=some o->H b=none->∃ sl,h'.get? b=some { o with slots:=sl }) (free:∀ b o,b ∉ ch->s.heap.get? b=some o->H b=none->H' b=none)
  (there:∀ b o,b ∉ ch->s.heap.get? b=some o->∃ o',h'.get? b=some o')
  (m4:∀ b xs,H b=some (.tup xs)->H' b=some (.tup xs)) (lz:∀ b o u,H b=some (.frz o u)->H' b=some (.frz o u)) (pZ:∀ b ps,H b=some (.tbl ps)->∃ more,H' b=some (.tbl (ps++more)))
  (ns:∀ m,s.heap.Ns X.env.locals m->h'.Ns X.env.locals m) (hok:HOk X.prog X.w H' h') (hg:AllBare g') :
  Inv X pins σ H' { s with heap:=h',gens:=g',drawn:=d',toks:=t' }:=by
 have neL:∀ b o,X.s₀.heap.get? b=some o->b≠X.env.locals:=fun b o e=>HH (Hx (Ht e) I.ok.above);have neC:∀ b o,X.s₀.heap.get? b=some o->b ∉ X.ex->b ∉ ch:=fun b o e hx hb=>by
  rcases (hch b hb).1 with z | z
  ·exact hx z
  ·exact absurd (Hx (Ht e) z) (HN _)
 have cellK:∀ x c,X.env.cells.lookup x=some c->∀ v,s.heap.IsCell c v->h'.IsCell c v:=fun x c e v ⟨o,ho,hd⟩=>by
  have nch:c ∉ ch:=fun z=>(hch c z).2.2.1 x c e rfl;by_cases hc:c∈X.fs
  ·obtain ⟨sl,q⟩:=slot c o (I.cne x c e) hc nch ho (I.fq x c e);exact ⟨_,q,hd⟩
  ·exact ⟨o,keep c o (I.cne x c e) hc nch ho (I.fq x c e),hd⟩
 refine ⟨I.ok,I.os,hg,⟨fun b o e n hb hx=>?_,fun b o e n hb hx=>?_,fun b o e n hx=>?_,fun b o e hx=>?_,fun b xs e=>m4 b xs (I.base.m4 b xs e),fun b o xs e=>lz b o xs (I.base.lz b o xs e),fun b ps e=>?_⟩,?_,fun x c e=>?_,?_,fun x c e=>?_,fun p hp=>?_,hok,I.len⟩
 ·exact keep b o (neL b o e) hb (neC b o e hx) (I.base.keep b o e n hb hx) (I.base.free b o e n hx)
 ·obtain ⟨sl,e1⟩:=I.base.slot b o e n hb hx;obtain ⟨sl',e2⟩:=slot b _ (neL b o e) hb (neC b o e hx) e1 (I.base.free b o e n hx);exact ⟨sl',e2⟩
 ·obtain ⟨o',e1⟩:=I.base.there b o e hx;exact free b o' (neC b o e hx) e1 (I.base.free b o e n hx)
 ·obtain ⟨o',e1⟩:=I.base.there b o e hx;exact there b o' (neC b o e hx) e1
 ·obtain ⟨m1,e1⟩:=I.base.pZ b ps e;obtain ⟨m2,e2⟩:=pZ b _ e1;exact ⟨m1++m2,by rw [e2,Array.append_assoc]⟩
 ·obtain ⟨m,hn,hl⟩:=I.loc;refine ⟨m,ns m hn,fun i x v e1 e2 e3=>?_⟩;obtain ⟨u,r,l⟩:=hl i x v e1 e2 e3;refine ⟨u,r,?_⟩;rcases l with l | ⟨k,c,e,z⟩
  ·exact .inl l
  ·exact .inr ⟨k,c,e,cellK x c e _ z⟩
 ·obtain ⟨v,z⟩:=I.cell x c e;exact ⟨v,cellK x c e v z⟩
 ·obtain ⟨m,⟨o,_,_,ho,_⟩,_⟩:=I.loc;exact free _ o (fun z=>(hch _ z).2.1 rfl) ho I.free
 ·obtain ⟨v,o,ho,hd⟩:=I.cell x c e;exact free c o (fun z=>(hch c z).2.2.1 x c e rfl) ho (I.fq x c e)
 ·obtain ⟨e,n,ne,nf,d⟩:=I.pin p hp;have nch:p.1 ∉ ch:=fun z=>(hch p.1 z).2.2.2 p hp rfl;exact ⟨keep p.1 p.2 ne nf nch e n,free p.1 p.2 nch e n,ne,nf,d⟩
theorem Inv.un {t':Nat} (I:Inv X pins σ H s) (u:Un X.fs [] H H' s.heap h') (hok:HOk X.prog X.w H' h'):Inv X pins σ H' { s with heap:=h',toks:=t' }:=by
 obtain ⟨m,⟨o,es,ep,ho,r⟩,_⟩:=id I.loc;obtain ⟨sl,hL⟩:=u.any ho I.free (by simp)
 exact I.step (g':=s.gens) (d':=s.drawn) (ch:=[]) (fun _ z=>nomatch z) (fun b o _ hb _ e n=>u.keep b o e n hb (by simp)) (fun b o _ hb _ e n=>u.slot b o e n hb (by simp)) (fun b o _ e n=>u.free b o e n (by simp)) (fun b o _ e=>u.there b o e (by simp)) u.m4 u.lz u.pZ (fun m' hm=>by
  obtain ⟨o',es',ep',ho',r'⟩:=hm;rw [ho] at ho';cases ho'
  exact ⟨_,es',ep',hL,r'⟩) hok I.bare
theorem Inv.call {g':Array GenState} {t':Nat} {d':Drawn} {ch:List Addr} (I:Inv X pins σ H s) (u:Un (frs X.stack) ch H H' s.heap h') (hok:HOk X.prog X.w H' h') (hg:AllBare g')
  (hch:∀ b∈ch,(b∈X.ex\/X.s₀.heap.objs.size<=b)/\b≠X.env.locals/\(∀ x c,X.env.cells.lookup x=some c->c≠b)/\∀ p∈X.pn++pins,p.1≠b) :
  Inv X pins σ H' { s with heap:=h',gens:=g',drawn:=d',toks:=t' }:=by
 obtain ⟨m,⟨o,es,ep,ho,r⟩,_⟩:=id I.loc;obtain ⟨sl,hL⟩:=u.any ho I.free fun z=>(hch _ z).2.1 rfl
 exact I.step (ch:=ch) hch (fun b o hL hb hc e n=>u.keep b o e n (fun z=>(Hs.mp (I.mC b z)).elim hL hb) hc) (fun b o _ _ hc e n=>u.any e n hc) (fun b o hc e n=>u.free b o e n hc) (fun b o hc e=>u.there b o e hc) u.m4 u.lz u.pZ (fun m' hm=>by
  obtain ⟨o',es',ep',ho',r'⟩:=hm;rw [ho] at ho';cases ho'
  exact ⟨_,es',ep',hL,r'⟩) hok hg
theorem Inv.turned {t':Nat} {it:Addr} (I:Inv X pins σ H s) (k:∀ b o,b≠it->s.heap.get? b=some o->h'.get? b=some o) (hn:H it=none) (hL:it≠X.env.locals)
  (h1:it∈X.ex\/X.s₀.heap.objs.size<=it) (h2:∀ x c,X.env.cells.lookup x=some c->c≠it) (h3:∀ p∈X.pn++pins,p.1≠it):Inv X pins σ H { s with heap:=h',toks:=t' }:=by
 have nit:∀ b u,H b=some u->b≠it:=fun b u e z=>by rw [z,hn] at e;cases e
 refine I.step (g':=s.gens) (d':=s.drawn) (ch:=[it]) (fun b hb=>?_) (fun b o _ _ hc e _=>k b o (fun z=>hc (by simp [z])) e) (fun b o _ _ hc e _=>⟨o.slots,k b o (fun z=>hc (by simp [z])) e⟩) (fun _ _ _ _ n=>n)
  (fun b o hc e=>⟨o,k b o (fun z=>hc (by simp [z])) e⟩) (fun _ _ e=>e) (fun _ _ _ e=>e) (fun b ps e=>⟨#[],by rw [e];simp⟩) (fun m hm=>?_) (fun b u e=>?_) I.bare
 ·have e:b=it:=by simpa using hb
  subst e;exact ⟨h1,hL,h2,h3⟩
 ·obtain ⟨o,es,ep,ho,r⟩:=hm;exact ⟨o,es,ep,k _ o (Ne.symm hL) ho,r⟩
 ·refine (I.hok b u e).jL (fun c v hc q=>k c v ?_ q) (fun _ q=>q) fun _ _ q=>q;rcases hc with z | z
  ·rw [z];exact nit b u e
  ·exact nit c _ z
theorem Inv.tok (I:Inv X pins σ H s) (t:Nat):Inv X pins σ H { s with toks:=t }:=I.un (h':=s.heap) (t':=t) Un.refl I.hok
theorem Inv.kept {t':Nat} (I:Inv X pins σ H s) (k:∀ b u,s.heap.get? b=some u->h'.get? b=some u):Inv X pins σ H { s with heap:=h',toks:=t' }:=I.un (Un.kept k) (I.hok.kept k)
theorem Inv.laid {a:Addr} {o:HO} {t':Nat} (I:Inv X pins σ H s) (k:∀ b u,s.heap.get? b=some u->h'.get? b=some u) (hp:s.heap.objs.size<=a) (new:bY X.prog X.w (upd H a o) h' a o) :
  Inv X pins σ (upd H a o) { s with heap:=h',toks:=t' }:=I.un (Un.laid k hp (I.hok.fresh hp)) (I.hok.laid k hp new)
theorem Inv.write {x e:Addr} {o:HO} {t':Nat} (I:Inv X pins σ H s) (mu:Mut (H x)) (he:e=x\/H e=some (.own x)) (k:∀ b u,b≠e->s.heap.get? b=some u->h'.get? b=some u) (heo:∃ u,h'.get? e=some u)
  (new:bY X.prog X.w (upd H x o) h' x o):Inv X pins σ (upd H x o) { s with heap:=h',toks:=t' }:=I.un (Un.write mu he k heo) (I.hok.write mu he k heo new)
theorem Inv.dU {pins':List (Addr×Obj)} (I:Inv X pins σ H s) (h:∀ p∈pins',s.heap.get? p.1=some p.2/\H p.1=none/\p.1≠X.env.locals/\p.1 ∉ X.fs/\∀ v,p.2.data≠.cell v):Inv X pins' σ H s :=
 ⟨I.ok,I.os,I.bare,I.base,I.loc,I.cell,I.free,I.fq,fun p hp=>(IH.mp hp).elim (fun z=>I.pin p (Ji _ z)) (h p),I.hok,I.len⟩
theorem o3 {N:List Str} (hN:N.Nodup) {i j:Nat} {x:Str} (a:N[i]?=some x) (b:N[j]?=some x):i=j:=by
 obtain ⟨h1,e1⟩:=Hi.mp a;obtain ⟨h2,e2⟩:=Hi.mp b;exact (List.getElem_inj hN).mp (e1.trans e2.symm)
theorem sy {M:Model} {A:Around} {E:Value->Shared->Prop} {i:Nat} {x:Str} {v:V} {u:Value} {Q:Unit->Shared->Prop} (I:Inv X pins σ H s) (hN:X.N.Nodup) (hi:X.N[i]?=some x) (hx:Loc X.env.scope x) (r:RelV v u)
  (h:∀ s',Inv X pins (σ.set i (some v)) H s'->(∃ a,Heap.SameBut a s.heap s'.heap/\(a=X.env.locals\/X.env.cells.lookup x=some a))->Q () s') (hf:X.fn x=true\/X.env.scope.names.lookup x=some .local:=by first | exact .inl rfl | exact .inr rfl | assumption):wpAny M A (storeName X.env x u) Q E s:=by
 obtain ⟨m,hn,hl⟩:=id I.loc;have hcls:(X.env.scope.kind==.class||(X.env.scope.kind==.module&&X.env.locals != X.env.globals))=false:=by rw [I.ok.kind];rfl
 have hiσ:i < σ.length:=by rw [I.len];exact (Hi.mp hi).1
 have cne:=I.cne;have tracked:∀ {a:Addr} {h':Heap},(∃ o,s.heap.get? a=some o/\H a=none)->Heap.SameBut a s.heap h'->HOk X.prog X.w H h':=fun {a h'} ha hs b ob e=>by
  obtain ⟨_,_,hfree⟩:=ha;refine (I.hok b ob e).jL (fun c w' hc q=>(hs.2 c ?_).trans q) (fun _ q=>q) fun _ _ q=>q;rintro rfl;rcases hc with rfl | hc
  ·rw [hfree] at e;cases e
  ·rw [hfree] at hc;cases hc
 rcases hx with hk | hk
 ·refine wpAny_storeName_local hk hn (fun h' hn' hs=>?_) hcls;obtain ⟨oL,_,_,hoL,_⟩:=id hn;refine h _ ⟨I.ok,I.os,I.bare,⟨fun b o e n hb hx=>?_,fun b o e n hb hx=>?_,I.base.free,fun b o e hx=>?_,I.base.m4,I.base.lz,I.base.pZ⟩,⟨_,hn',fun j y v' e1 e2 e3=>?_⟩,fun y c e=>?_,I.free,I.fq,fun p hp=>?_,tracked ⟨oL,hoL,I.free⟩ hs,by simpa using I.len⟩ ⟨_,hs,.inl rfl⟩
  ·exact (hs.2 b (HH (Hx (Ht e) I.ok.above))).trans (I.base.keep b o e n hb hx)
  ·obtain ⟨sl,e1⟩:=I.base.slot b o e n hb hx;exact ⟨sl,(hs.2 b (HH (Hx (Ht e) I.ok.above))).trans e1⟩
  ·obtain ⟨o',e1⟩:=I.base.there b o e hx;exact ⟨o',(hs.2 b (HH (Hx (Ht e) I.ok.above))).trans e1⟩
  ·by_cases hj:j=i
   ·subst hj;rw [hi] at e1;cases e1;rw [Hq hiσ] at e2;cases e2;exact ⟨u,r,.inl ⟨hk,by simp⟩⟩
   ·rw [Hh (Ne.symm hj)] at e2;obtain ⟨u',r',q⟩:=hl j y v' e1 e2 e3;refine ⟨u',r',?_⟩;rcases q with ⟨k,e⟩ | ⟨k,c,e,z⟩
    ·refine .inl ⟨k,?_⟩;have:y≠x:=fun e=>hj (o3 hN e1 (e▸hi));simp [this,e]
    ·exact .inr ⟨k,c,e,z.sameBut hs (cne y c e)⟩
  ·obtain ⟨w',z⟩:=I.cell y c e;exact ⟨w',z.sameBut hs (cne y c e)⟩
  ·obtain ⟨e,n,ne,nf,d⟩:=I.pin p hp;exact ⟨(hs.2 p.1 ne).trans e,n,ne,nf,d⟩
 ·have hfn:X.fn x=true:=by
   rcases hf with z | z
   ·exact z
   ·rw [z] at hk;cases hk
  obtain ⟨c,hc⟩:=I.ok.has x (.inl hk);obtain ⟨w',z⟩:=I.cell x c hc;refine wpAny_storeName_cell I.ok.kind hk hc z (fun h' hc' hs=>?_);obtain ⟨oc,hoc,hocd⟩:=id z;refine h { s with heap:=h' } ⟨I.ok,I.os,I.bare,⟨fun b o e n hb hx=>?_,fun b o e n hb hx=>?_,I.base.free,fun b o e hx=>?_,I.base.m4,I.base.lz,I.base.pZ⟩,⟨m,hn.sameBut hs (Ne.symm (cne x c hc)),fun j y v' e1 e2 e3=>?_⟩,fun y c' e=>?_,I.free,I.fq,fun p hp=>?_,tracked ⟨oc,hoc,I.fq x c hc⟩ hs,by simpa using I.len⟩ ⟨c,hs,.inr hc⟩
  ·exact (hs.2 b (HH (Hx (Ht e) (I.ok.cab x c hfn hc)))).trans (I.base.keep b o e n hb hx)
  ·obtain ⟨sl,e1⟩:=I.base.slot b o e n hb hx;exact ⟨sl,(hs.2 b (HH (Hx (Ht e) (I.ok.cab x c hfn hc)))).trans e1⟩
  ·obtain ⟨o',e1⟩:=I.base.there b o e hx;exact ⟨o',(hs.2 b (HH (Hx (Ht e) (I.ok.cab x c hfn hc)))).trans e1⟩
  ·by_cases hj:j=i
   ·subst hj;rw [hi] at e1;cases e1;rw [Hq hiσ] at e2;cases e2;exact ⟨u,r,.inr ⟨.inl hk,c,hc,hc'⟩⟩
   ·rw [Hh (Ne.symm hj)] at e2;obtain ⟨u',r',q⟩:=hl j y v' e1 e2 e3;refine ⟨u',r',?_⟩;rcases q with q | ⟨k,c',e,z'⟩
    ·exact .inl q
    ·refine .inr ⟨k,c',e,z'.sameBut hs ?_⟩;rintro rfl;exact hj (o3 hN e1 (I.ok.inj _ _ _ e hc▸hi))
  ·by_cases hcc:c'=c
   ·subst hcc;exact ⟨_,hc'⟩
   ·obtain ⟨w2,z2⟩:=I.cell y c' e;exact ⟨w2,z2.sameBut hs hcc⟩
  ·obtain ⟨e,n,ne,nf,d⟩:=I.pin p hp;refine ⟨(hs.2 p.1 ?_).trans e,n,ne,nf,d⟩;intro q;rw [q,hoc] at e;have q':oc=p.2:=HQ e;exact d w' (by rw [<- q'];exact hocd)
theorem lh {M:Model} {A:Around} {E:Value->Shared->Prop} {i:Nat} {x:Str} {v:V} {u:Value} {Q:Unit->Shared->Prop} (I:Inv X pins σ H s) (hN:X.N.Nodup) (hi:X.N[i]?=some x) (hx:Loc X.env.scope x) (r:RelV v u)
  (h:∀ s',Inv X pins (σ.set i (some v)) H s'->Q () s') (hf:X.fn x=true\/X.env.scope.names.lookup x=some .local:=by first | exact .inl rfl | exact .inr rfl | assumption):wpAny M A (storeName X.env x u) Q E s :=
 sy I hN hi hx r (fun s' I' _=>h s' I') hf
theorem Inv.DT {s':Shared} {ch:List Addr} (I:Inv X pins σ H s) (ho:s'.os=s.os) (u:Un (frs X.stack) ch H H' s.heap s'.heap) (hok:HOk X.prog X.w H' s'.heap) (hg:AllBare s'.gens)
  (hch:∀ b∈ch,(b∈X.ex\/X.s₀.heap.objs.size<=b)/\b≠X.env.locals/\(∀ x c,X.env.cells.lookup x=some c->c≠b)/\∀ p∈X.pn++pins,p.1≠b):Inv X pins σ H' s':=by
 obtain ⟨h',g',d',t',o'⟩:=s';have e:o'=s.os:=ho;subst e;exact I.call (g':=g') (t':=t') (d':=d') u hok hg hch
end
abbrev XK:=Value->Option Addr->Hp->Prop
abbrev St:=List (Option V)
abbrev VK:=V->Hp->Prop
abbrev TE:=St->Hp->VK->Prop
abbrev TT:=St->Hp->(Bool->Hp->Prop)->Prop
abbrev TA:=St->Hp->(List V->Hp->Prop)->Prop
structure Ends where
 nx:St->Hp->Prop
 rt:VK
 bk:St->Hp->Prop:=fun _ _=>False
 ct:St->Hp->Prop:=fun _ _=>False
abbrev TS:=Ends->St->Hp->Prop
def EP (X:Cx) (pins:List (Addr×Obj)) (σ:St) (Q:VK) (u:Value) (s':Shared):Prop:=∃ v H',Inv X pins σ H' s'/\RelV v u/\Q v H'
def TP (X:Cx) (pins:List (Addr×Obj)) (σ:St) (Q:Bool->Hp->Prop) (b:Bool) (s':Shared):Prop:=∃ H',Inv X pins σ H' s'/\Q b H'
def AP (X:Cx) (pins:List (Addr×Obj)) (σ:St) (Q:List V->Hp->Prop) (us:List Value) (s':Shared):Prop:=∃ vs H',Inv X pins σ H' s'/\Vals vs us/\Q vs H'
def SP (X:Cx) (pins:List (Addr×Obj)) (D:Ends) (f:Flow) (s':Shared):Prop :=
 match f with
 | .next=>∃ σ' H',Inv X pins σ' H' s'/\D.nx σ' H'
 | .brk=>∃ σ' H',Inv X pins σ' H' s'/\D.bk σ' H'
 | .cont=>∃ σ' H',Inv X pins σ' H' s'/\D.ct σ' H'
 | .ret u=>∃ v σ' H',Inv X pins σ' H' s'/\RelV v u/\D.rt v H'
def PE (X:Cx) (e:Expr) (t:TE):Prop :=
 ∀ (pins:List (Addr×Obj)) (s:Shared) (σ:St) (H:Hp) (Q:VK),Inv X pins σ H s->t σ H Q->wpAny (model X.prog X.w) X.A (eval e X.env) (EP X pins σ Q) X.xe s
def PT (X:Cx) (e:Expr) (t:TT):Prop :=
 ∀ (pins:List (Addr×Obj)) (s:Shared) (σ:St) (H:Hp) (Q:Bool->Hp->Prop),Inv X pins σ H s->t σ H Q->wpAny (model X.prog X.w) X.A (isTrue e X.env (eval e X.env)) (TP X pins σ Q) X.xe s
def PW (X:Cx) (e:Expr) (t:TT):Prop :=
 ∀ (whole:Sem Value) (pins:List (Addr×Obj)) (s:Shared) (σ:St) (H:Hp) (Q:Bool->Hp->Prop),Inv X pins σ H s->t σ H Q->wpAny (model X.prog X.w) X.A (isTrue e X.env whole) (TP X pins σ Q) X.xe s
theorem PW.pt {X:Cx} {e:Expr} {t:TT} (h:PW X e t):PT X e t:=h _
def PA (X:Cx) (es:List Expr) (t:TA):Prop :=
 ∀ (pos:Pos) (pins:List (Addr×Obj)) (s:Shared) (σ:St) (H:Hp) (Q:List V->Hp->Prop),Inv X pins σ H s->t σ H Q->wpAny (model X.prog X.w) X.A (spliced (backTo pos (starEach es X.env))) (AP X pins σ Q) X.xe s
def PS (X:Cx) (st:Stmt) (t:TS):Prop :=
 ∀ (pins:List (Addr×Obj)) (s:Shared) (σ:St) (H:Hp) (D:Ends),Inv X pins σ H s->t D σ H->wpAny (model X.prog X.w) X.A (exec st X.env) (SP X pins D) X.xe s
def PSs (X:Cx) (st:List Stmt) (t:TS):Prop :=
 ∀ (pins:List (Addr×Obj)) (s:Shared) (σ:St) (H:Hp) (D:Ends),Inv X pins σ H s->t D σ H->wpAny (model X.prog X.w) X.A (execs st X.env) (SP X pins D) X.xe s
theorem thn {α:Type} {t:Sem α} {Q Q':α->Shared->Prop} {M:Model} {A:Around} {E:Value->Shared->Prop} {s:Shared} (h:wpAny M A t Q E s) (hQ:∀ a s,Q a s->Q' a s):wpAny M A t Q' E s:=HP h hQ fun _ _ x=>x
end L2
namespace L2
open PySem PySem.Spec PyProof.Rows
section
variable {X:Cx}
theorem bin {a b:Expr} {ta tb:TE} (ha:PE X a ta) (hb:PE X b tb) {pins:List (Addr×Obj)} {s:Shared} {σ:St} {H:Hp} {R:V->V->Hp->Prop} (I:Inv X pins σ H s) (h:ta σ H fun x H1=>tb σ H1 fun y H2=>R x y H2)
  {α:Type} {Q:α->Shared->Prop} {f:Value->Value->Sem α}
  (hf:∀ v u s2 x y H2,Inv X pins σ H2 s2->RelV x v->RelV y u->R x y H2->wpAny (model X.prog X.w) X.A (f v u) Q X.xe s2) :
  wpAny (model X.prog X.w) X.A (eval a X.env) (fun v s₁=>wpAny (model X.prog X.w) X.A (eval b X.env) (fun u s₂=>wpAny (model X.prog X.w) X.A (f v u) Q X.xe s₂) X.xe s₁) X.xe s:=by
 refine thn (ha pins s σ H _ I h) fun v s1 ⟨x,H1,I1,r1,q1⟩=>?_;refine thn (hb pins s1 σ H1 _ I1 q1) fun u s2 ⟨y,H2,I2,r2,q2⟩=>?_;exact hf v u s2 x y H2 I2 r1 r2 q2
def ag (i:Nat):TE:=fun σ H Q=>∃ v,σ[i]?=some (some v)/\Q v H
def tC (v:V):TE:=fun _ H Q=>Q v H
theorem gS {i:Nat} {x:Str} {pos:Pos} (hN:X.N[i]?=some x) (hv:Vis X.env.scope x) (hd:(x==("__debug__" : Str))=false:=by decide) (hcd:(x==("__classdict__" : Str))=false:=by decide):PE X (.Name x pos) (ag i):=by
 intro pins s σ H Q I h;obtain ⟨v,e,h⟩:=h;obtain ⟨m,hn,hl⟩:=I.loc;obtain ⟨u,r,l⟩:=hl i x v hN e hv;have fin:EP X pins σ Q u s:=⟨v,H,I,r,h⟩;rcases l with ⟨hk,hm⟩ | ⟨hk,c,hc,hcell⟩
 ·exact wpAny_Name (wpAny_loadName_local I.ok.kind hk hn hm fin) hd
 ·rcases hk with hk | hk
  ·exact wpAny_Name (wpAny_loadName_cell I.ok.kind hk hc hcell fin) hd
  ·exact wpAny_Name (wpAny_loadName_free I.ok.kind hk hc hcell fin hcd) hd
theorem z8 {i j pos}:PE X (.Constant (.int i) j pos) (tC (.int i)):=fun _ _ _ H _ I h=>wpAny_Constant_int ⟨.int i,H,I.tok _,⟨_,rfl⟩,h⟩
theorem FE {b j pos}:PE X (.Constant (.bool b) j pos) (tC (.bl b)):=fun _ _ _ H _ I h=>Constant_bool ⟨.bl b,H,I,rfl,h⟩
theorem AL {j pos}:PE X (.Constant .none j pos) (tC .non):=fun _ _ _ H _ I h=>Constant_none ⟨.non,H,I,rfl,h⟩
theorem Ai {x j pos}:PE X (.Constant (.str x) j pos) (tC (.str x)):=fun _ _ _ H _ I h=>Calls.Constant_str ⟨.str x,H,I.tok _,⟨_,rfl⟩,h⟩
def Gl (X:Cx) (x:Str):Prop:=X.env.kindOf x=some .globalImplicit
theorem jD {E:Value->Shared->Prop} {pins:List (Addr×Obj)} {s:Shared} {σ:St} {H:Hp} {x:Str} {u:Value} {pos:Pos} {Q:Value->Shared->Prop} (I:Inv X pins σ H s) (hg:Gl X x) (hm:X.mg x=some u) (h:Q u s)
  (hd:(x==("__debug__" : Str))=false:=by decide):wpAny (model X.prog X.w) X.A (eval (.Name x pos) X.env) Q E s :=
 Calls.Name_function_global I.ok.kind hg (Calls.loadGlobal_global (by rw [I.ok.glob];exact I.mod.glob.keeps I.bk) hm h) hd
theorem pT {E:Value->Shared->Prop} {pins:List (Addr×Obj)} {s:Shared} {σ:St} {H:Hp} {x:Str} {u:Value} {pos:Pos} {Q:Value->Shared->Prop} (I:Inv X pins σ H s) (hg:Gl X x) (hm:X.mg x=none) (hv:bootBuiltins x=some u) (h:Q u s)
  (hn:x ≠ "__name__" := by decide) (hd:(x==("__debug__" : Str))=false:=by decide):wpAny (model X.prog X.w) X.A (eval (.Name x pos) X.env) Q E s:=by
 obtain ⟨mb,h1,h2⟩:=I.mod.blt;exact Calls.Name_function_global I.ok.kind hg (Calls.loadGlobal_builtin (by rw [I.ok.glob];exact I.mod.glob.keeps I.bk) hm (by rw [I.ok.blt];exact h1.keeps I.bk) ((h2 x hn).trans hv) h) hd
theorem yM {x:Str} {v:V} {u:Value} {pos:Pos} (hg:Gl X x) (hm:X.mg x=some u) (r:RelV v u) (hd:(x==("__debug__" : Str))=false:=by decide):PE X (.Name x pos) (tC v) :=
 fun _ _ _ H _ I h=>jD I hg hm ⟨v,H,I,r,h⟩ hd
theorem zl {x:Str} {v:V} {u:Value} {pos:Pos} (hg:Gl X x) (hm:X.mg x=none) (hv:bootBuiltins x=some u) (r:RelV v u) (hn:x ≠ "__name__" := by decide) (hd:(x==("__debug__" : Str))=false:=by decide):PE X (.Name x pos) (tC v) :=
 fun _ _ _ H _ I h=>pT I hg hm hv ⟨v,H,I,r,h⟩ hn hd
variable {a b:Expr} {ta tb:TE} {pos:Pos}
def PC (X:Cx) (op:CmpOp) (a b:Expr) (t:TE):Prop :=
 ∀ (pins:List (Addr×Obj)) (s:Shared) (σ:St) (H:Hp) (Q:VK),Inv X pins σ H s->t σ H Q ->
  wpAny (model X.prog X.w) X.A (eval a X.env) (fun v s₁=>wpAny (model X.prog X.w) X.A (eval b X.env) (fun u s₂=>wpAny (model X.prog X.w) X.A (compareOp op v u) (EP X pins σ Q) X.xe s₂) X.xe s₁) X.xe s
theorem vT (b:Expr) {op:CmpOp} (h:op≠.In) (h2:op≠.NotIn):behindInMarks op b=false:=by
 have e1:(op==CmpOp.In)=false:=by cases op <;> first | rfl | exact absurd rfl h
 have e2:(op==CmpOp.NotIn)=false:=by cases op <;> first | rfl | exact absurd rfl h2
 cases b <;> simp [behindInMarks,e1,e2]
def tB (t:TE):TT:=fun σ H Q=>t σ H fun x H1=>∃ c,x=.bl c/\Q c H1
theorem Gf {op:CmpOp} {t:TE} (h:PC X op a b t) (h1:behindInMarks op b=false:=by first | exact vT _ (by decide) (by decide) | rfl):PT X (.Compare a [op] [b] pos) (tB t):=by
 intro pins s σ H Q I hw;refine wpAny_isTrue_Compare1 (thn (h pins s σ H _ I hw) fun v s1 h1=>thn h1 fun u s2 h2=>thn h2 fun c s3 ⟨x,H1,I1,r1,q1⟩=>?_) h1;obtain ⟨d,rfl,q⟩:=q1;cases r1;exact Ja ⟨H1,I1,q⟩
theorem Bd {e:Expr} {t:TE} (h:PE X e t) (he:∀ whole,isTrue e X.env whole=(do let v<-whole;standAt e.pos;holding [v] (truthy v)):=by intro _;rfl):PT X e (tB t):=by
 intro pins s σ H Q I hw;refine isTrue_plain (thn (h pins s σ H _ I hw) fun v s1 ⟨x,H1,I1,r1,q1⟩=>?_) (he _);obtain ⟨d,rfl,q⟩:=q1;cases r1;exact Ja ⟨H1,I1,q⟩
variable {tA tB':TT} {rest:List Expr}
def yB (t u:TT):TT:=fun σ H Q=>t σ H fun c H1=>if c=true then u σ H1 Q else Q false H1
def tOr (t u:TT):TT:=fun σ H Q=>t σ H fun c H1=>if c=true then Q true H1 else u σ H1 Q
def xa (t:TT):TT:=fun σ H Q=>t σ H fun c H1=>Q (!c) H1
theorem pw_and1 (ha:PT X a tA):PW X (.BoolOp .And [a] pos) tA:=by
 intro wh pins s σ H Q I h;refine isTrue_and (thn (ha pins s σ H Q I h) fun c s1 e=>?_);cases c with
 | true=>exact isTrue_and_nil e
 | false=>exact e
theorem pw_or1 (ha:PT X a tA):PW X (.BoolOp .Or [a] pos) tA:=by
 intro wh pins s σ H Q I h;refine isTrue_or (thn (ha pins s σ H Q I h) fun c s1 e=>?_);cases c with
 | false=>exact isTrue_or_nil e
 | true=>exact e
theorem pw_and (ha:PT X a tA) (hb:PW X (.BoolOp .And (b :: rest) pos) tB'):PW X (.BoolOp .And (a :: b :: rest) pos) (yB tA tB'):=by
 intro wh pins s σ H Q I h;refine isTrue_and (thn (ha pins s σ H _ I h) fun c s1 ⟨H1,I1,q1⟩=>?_);cases c with
 | true=>exact hb wh pins s1 σ H1 Q I1 q1
 | false=>exact ⟨H1,I1,q1⟩
theorem pw_or (ha:PT X a tA) (hb:PW X (.BoolOp .Or (b :: rest) pos) tB'):PW X (.BoolOp .Or (a :: b :: rest) pos) (tOr tA tB'):=by
 intro wh pins s σ H Q I h;refine isTrue_or (thn (ha pins s σ H _ I h) fun c s1 ⟨H1,I1,q1⟩=>?_);cases c with
 | true=>exact ⟨H1,I1,q1⟩
 | false=>exact hb wh pins s1 σ H1 Q I1 q1
theorem Ad (ha:PT X a tA):PT X (.UnaryOp .Not a pos) (xa tA):=by
 intro pins s σ H Q I h;exact isTrue_not (ha pins s σ H (fun c H1=>Q (!c) H1) I h)
def DG (ta tb:TE):TE:=fun σ H Q=>ta σ H fun x H1=>∃ c,x=.bl c/\if c=true then tb σ H1 Q else Q (.bl false) H1
def Gk (ta tb:TE):TE:=fun σ H Q=>ta σ H fun x H1=>∃ c,x=.bl c/\if c=true then Q (.bl true) H1 else tb σ H1 Q
def E8 (ta:TE):TE:=fun σ H Q=>ta σ H fun x H1=>∃ c,x=.bl c/\Q (.bl (!c)) H1
def tIf (t:TT) (ta tb:TE):TE:=fun σ H Q=>t σ H fun c H1=>if c=true then ta σ H1 Q else tb σ H1 Q
theorem u9 {c:Expr} (hc:PT X c tA) (ha:PE X a ta) (hb:PE X b tb):PE X (.IfExp c a b pos) (tIf tA ta tb):=by
 intro pins s σ H Q I h;refine wpAny_IfExp (thn (hc pins s σ H _ I h) fun d s1 ⟨H1,I1,q1⟩=>?_);cases d with
 | true=>exact ha pins s1 σ H1 Q I1 q1
 | false=>exact hb pins s1 σ H1 Q I1 q1
end
end L2
namespace L2
open PySem PySem.Spec PyProof.Rows
def SqL (K:Fg) (H:Hp) (a:Addr) (xs:List V):Prop :=
 Rd H a (.lst xs) \/
  ∃ (o:Obj) (its:Array Value) (n:Nat),K.lookup a=some o/\o.cls=.type "list" /\ o.dict=none/\o.data=.seq its n/\its.size<=sizeLine/\Vals xs its.toList
def SqT (K:Fg) (H:Hp) (a:Addr) (xs:List V):Prop :=
 Rd H a (.tup xs) \/
  ∃ (o:Obj) (its:Array Value) (n:Nat),K.lookup a=some o/\o.cls=.type "tuple" /\ o.data=.seq its n/\its.size<=sizeLine/\Vals xs its.toList
noncomputable def Gx:Value->Option V
 | .none=>some .non
 | .bool b=>some (.bl b)
 | .int i _=>some (.int i)
 | .str x _=>some (.str x)
 | .bytes b _=>some (.byt b)
 | .float b _=>some (.flt b)
 | .ref a=>some (.ref a)
 | .type n=>some (.ty n)
 | _=>none
theorem RelV.abs {x:V} {u:Value} (r:RelV x u):Gx u=some x:=by
 cases x with
 | non=>cases r;rfl
 | bl _=>cases r;rfl
 | int _=>obtain ⟨t,rfl⟩:=r;rfl
 | str _=>obtain ⟨t,rfl⟩:=r;rfl
 | byt _=>obtain ⟨t,rfl⟩:=r;rfl
 | flt _=>obtain ⟨t,rfl⟩:=r;rfl
 | ref _=>cases r;rfl
 | ty _=>cases r;rfl
theorem RelV.inj {x y:V} {u:Value} (r:RelV x u) (q:RelV y u):x=y:=HQ (r.abs.symm.trans q.abs)
theorem Vals.inj:∀ {xs ys:List V} {us:List Value},Vals xs us->Vals ys us->xs=ys
 | _,_,_,.nil,.nil=>rfl
 | _,_,_,.cons r t,.cons r' t'=>by rw [r.inj r',Vals.inj t t']
section
variable {X:Cx} {pins:List (Addr×Obj)} {σ:St} {H:Hp} {s:Shared} {a:Addr} {xs ys:List V}
theorem SqT.of {K:Fg} (h:H a=some (.tup xs)):SqT K H a xs:=.inl (.inl h)
theorem Inv.list (I:Inv X pins σ H s) (h:SqL X.K H a xs):∃ its:List Value,Vals xs its/\PlainL s.heap a its.toArray/\xs.length<=sizeLine:=by
 rcases h with h | ⟨o,its,n,hk,hc,hd,hs,hz,r⟩
 ·obtain ⟨z,its,n,r,e⟩:=h.ok I.hok;exact ⟨its,r,⟨_,n,e,rfl,rfl,rfl⟩,z⟩
 ·refine ⟨its.toList,r,⟨o,n,I.kIn a o hk,hc,hd,by simpa using hs⟩,?_⟩;have e:=r.length;simp only [HZ] at e;omega
theorem Inv.tuple (I:Inv X pins σ H s) (h:SqT X.K H a xs):∃ its:List Value,Vals xs its/\IsTup s.heap a its.toArray/\xs.length<=sizeLine:=by
 rcases h with h | ⟨o,its,n,hk,hc,hs,hz,r⟩
 ·obtain ⟨z,its,r,p⟩:=h.ok I.hok;exact ⟨its,r,p,z⟩
 ·refine ⟨its.toList,r,⟨o,I.kIn a o hk,hc,n,by simpa using hs⟩,?_⟩;have e:=r.length;simp only [HZ] at e;omega
theorem Inv.vh (I:Inv X pins σ H s) (h:SqL X.K H a xs) (h':SqL X.K H a ys):xs=ys:=by
 obtain ⟨its,r,⟨o,n,e,_,_,d⟩,_⟩:=I.list h;obtain ⟨its',r',⟨o',n',e',_,_,d'⟩,_⟩:=I.list h';rw [e] at e';cases e';rw [d] at d';injection d' with d1 _;have:its=its':=by simpa using congrArg Array.toList d1
 subst this;exact r.inj r'
theorem Inv.sR (I:Inv X pins σ H s) (h:SqT X.K H a xs) (h':SqT X.K H a ys):xs=ys:=by
 obtain ⟨its,r,⟨o,e,_,n,d⟩,_⟩:=I.tuple h;obtain ⟨its',r',⟨o',e',_,n',d'⟩,_⟩:=I.tuple h';rw [e] at e';cases e';rw [d] at d';injection d' with d1 _;have:its=its':=by simpa using congrArg Array.toList d1
 subst this;exact r.inj r'
end
abbrev Cx.uE (X:Cx) (E:Value->Shared->Prop):Cx:={ X with xe:=E }
abbrev Cx.nox (X:Cx):Cx:=X.uE fun _ _=>False
theorem Cx.Ok.uE {X:Cx} (ok:X.Ok) (E:Value->Shared->Prop):(X.uE E).Ok :=
 ⟨ok.mod,ok.kind,ok.glob,ok.blt,ok.above,ok.inj,ok.has,ok.cab,ok.hd,ok.frames,ok.stk,ok.exf,ok.bs,ok.bsz,ok.wI,ok.zK,ok.nX,ok.frf⟩
theorem Cx.Ok.gZ {X:Cx} {E:Value->Shared->Prop} (ok:(X.uE E).Ok):X.Ok :=
 ⟨ok.mod,ok.kind,ok.glob,ok.blt,ok.above,ok.inj,ok.has,ok.cab,ok.hd,ok.frames,ok.stk,ok.exf,ok.bs,ok.bsz,ok.wI,ok.zK,ok.nX,ok.frf⟩
section
variable {X:Cx} {pins:List (Addr×Obj)} {σ:St} {H:Hp} {s:Shared} {E:Value->Shared->Prop}
theorem Inv.uE (I:Inv X pins σ H s) (E:Value->Shared->Prop):Inv (X.uE E) pins σ H s:=⟨I.ok.uE E,I.os,I.bare,I.base,I.loc,I.cell,I.free,I.fq,I.pin,I.hok,I.len⟩
theorem Inv.gZ (I:Inv (X.uE E) pins σ H s):Inv X pins σ H s:=⟨I.ok.gZ,I.os,I.bare,I.base,I.loc,I.cell,I.free,I.fq,I.pin,I.hok,I.len⟩
theorem SP.gZ {D:Ends} {f:Flow} {s':Shared} (h:SP (X.uE E) pins D f s'):SP X pins D f s':=by
 cases f with
 | next=>obtain ⟨σ',H',I,q⟩:=h;exact ⟨σ',H',I.gZ,q⟩
 | brk=>obtain ⟨σ',H',I,q⟩:=h;exact ⟨σ',H',I.gZ,q⟩
 | cont=>obtain ⟨σ',H',I,q⟩:=h;exact ⟨σ',H',I.gZ,q⟩
 | ret u=>obtain ⟨v,σ',H',I,r,q⟩:=h;exact ⟨v,σ',H',I.gZ,r,q⟩
theorem PSs.nox {st:List Stmt} {t:TS} (h:PSs X.nox st t):PSs X st t:=fun pins s σ H D I hw =>
 HP (h pins s σ H D (I.uE _) hw) (fun _ _ q=>q.gZ) fun _ _ z=>False.elim z
end
section
variable {X:Cx} {st:Stmt} {rest:List Stmt} {t u:TS} {e:Expr} {te:TE} {pos:Pos}
def bB:TS:=fun D σ H=>D.nx σ H
def aT (t u:TS):TS:=fun D σ H=>t { D with nx:=u D } σ H
theorem zC:PSs X [] bB:=fun _ _ σ H _ I h=>Jl ⟨σ,H,I,h⟩
theorem vV (h1:PS X st t) (h2:PSs X rest u):PSs X (st :: rest) (aT t u):=by
 intro pins s σ H D I h;refine IU (thn (h1 pins s σ H { D with nx:=u D } I h) fun f s1 q=>?_);cases f with
 | next =>
  obtain ⟨σ',H',I',q⟩:=q;exact h2 pins s1 σ' H' D I' q
 | ret v=>exact q
 | brk=>exact q
 | cont=>exact q
theorem tW (h1:PS X st t):PSs X [st] t:=by
 intro pins s σ H D I h;refine IU (thn (h1 pins s σ H D I h) fun f s1 q=>?_);cases f with
 | next=>exact Jl q
 | ret v=>exact q
 | brk=>exact q
 | cont=>exact q
def Cp:TS:=fun D σ H=>D.bk σ H
def Dj:TS:=fun D σ H=>D.ct σ H
theorem Inv.quiet {pins:List (Addr×Obj)} {σ:St} {H:Hp} {s:Shared} (I:Inv X pins σ H s):interactive X.env=false:=by simp [interactive,I.ok.kind]
def gM (te:TE):TS:=fun D σ H=>te σ H fun _ H1=>D.nx σ H1
theorem yJ (he:PE X e te) (hs:swapsWith e none pos.line X.env=pure false:=by rfl):PS X (.Expr e pos) (gM te):=by
 intro pins s σ H D I h;exact wpAny_Expr_any (thn (he pins s σ H _ I h) fun v s1 ⟨x,H1,I1,r1,q1⟩=>⟨σ,H1,I1,q1⟩) I.quiet hs
def cC (te:TE):TS:=fun D σ H=>te σ H D.rt
theorem Bg (he:PE X e te):PS X (.Return (some e) pos) (cC te):=by
 intro pins s σ H D I h;exact wpAny_Return_some (thn (he pins s σ H _ I h) fun v s1 ⟨x,H1,I1,r1,q1⟩=>⟨x,σ,H1,I1,r1,q1⟩)
def Eg:TS:=fun D _ H=>D.rt .non H
def dQ (c:TT) (t u:TS):TS:=fun D σ H=>c σ H fun b H1=>if b=true then t D σ H1 else u D σ H1
theorem Eb {c:Expr} {a b:List Stmt} {tc:TT} (hc:PT X c tc) (ha:PSs X a t) (hb:PSs X b u):PS X (.If c a b pos) (dQ tc t u):=by
 intro pins s σ H D I h;refine wpAny_If (thn (hc pins s σ H _ I h) fun d s1 ⟨H1,I1,q1⟩=>?_);cases d with
 | true=>exact ha pins s1 σ H1 D I1 q1
 | false=>exact hb pins s1 σ H1 D I1 q1
def oW:TS:=fun _ _ _=>False
end
abbrev TG:=V->St->Hp->(St->Hp->Prop)->Prop
abbrev TGs:=List V->St->Hp->(St->Hp->Prop)->Prop
def PG (X:Cx) (target:Expr) (t:TG):Prop :=
 ∀ (pins:List (Addr×Obj)) (s:Shared) (σ:St) (H:Hp) (v:V) (u:Value) (Q:St->Hp->Prop),Inv X pins σ H s->RelV v u->t v σ H Q ->
  wpAny (model X.prog X.w) X.A (assign target X.env u) (fun _ s'=>∃ σ' H',Inv X pins σ' H' s'/\Q σ' H') X.xe s
def PGs (X:Cx) (ts:List Expr) (t:TGs):Prop :=
 ∀ (pins:List (Addr×Obj)) (s:Shared) (σ:St) (H:Hp) (vs:List V) (us:List Value) (Q:St->Hp->Prop),Inv X pins σ H s->Vals vs us->t vs σ H Q ->
  wpAny (model X.prog X.w) X.A (assignInOrder ((assignEach ts X.env).map (·.2)) us) (fun _ s'=>∃ σ' H',Inv X pins σ' H' s'/\Q σ' H') X.xe s
abbrev C8:=V->V->V->Hp->(Hp->Prop)->Prop
def EC (X:Cx) (t:C8):Prop :=
 ∀ (pins:List (Addr×Obj)) (s:Shared) (σ:St) (H:Hp) (o i v:V) (ov iv u:Value) (Q:Hp->Prop),Inv X pins σ H s->RelV o ov->RelV i iv->RelV v u->t o i v H Q ->
  wpAny (model X.prog X.w) X.A (setItem ov iv u) (fun _ s'=>∃ H',Inv X pins σ H' s'/\Q H') X.xe s
section
variable {X:Cx} {pos:Pos}
def ar (i:Nat):TG:=fun v σ H Q=>Q (σ.set i (some v)) H
theorem je {i:Nat} {x:Str} (hN:X.N.Nodup) (hi:X.N[i]?=some x) (hx:Loc X.env.scope x) (hf:X.fn x=true\/X.env.scope.names.lookup x=some .local:=by first | exact .inl rfl | exact .inr rfl | assumption):PG X (.Name x pos) (ar i):=by
 intro pins s σ H v u Q I r h;exact wpAny_assign_Name (lh I hN hi hx r (fun s' I'=>⟨_,H,I',h⟩) hf)
def yV:TGs:=fun vs σ H Q=>vs=[]/\Q σ H
def fv (t:TG) (u:TGs):TGs:=fun vs σ H Q=>∃ v r,vs=v :: r/\t v σ H fun σ' H'=>u r σ' H' Q
theorem rK:PGs X [] yV:=by
 intro pins s σ H vs us Q I r h;obtain ⟨e,h⟩:=h;subst e;cases r;exact assignInOrder_nil ⟨σ,H,I,h⟩
theorem pX {e:Expr} {es:List Expr} {t:TG} {u:TGs} (h1:PG X e t) (h2:PGs X es u)
  (hs:(assignEach (e :: es) X.env).map (·.2)=assign e X.env :: (assignEach es X.env).map (·.2):=by rfl):PGs X (e :: es) (fv t u):=by
 intro pins s σ H vs us Q I r h;obtain ⟨v,vr,e1,h⟩:=h;subst e1;cases r with
 | cons r rr =>
  rw [hs];refine assignInOrder_cons (thn (h1 pins s σ H _ _ _ I r h) fun _ s1 ⟨σ1,H1,I1,q1⟩=>?_);exact h2 pins s1 σ1 H1 _ _ Q I1 rr q1
def yC (K:Fg) (n:Nat) (t:TGs):TG:=fun v σ H Q=>∃ a xs,v=.ref a/\SqT K H a xs/\xs.length=n/\t xs σ H Q
theorem xc {es:List Expr} {k:Nat} {t:TGs} {n:Nat} (hc:X.calm=true) (h:PGs X es t)
  (hn:(assignEach es X.env).length=n:=by rfl) (hst:(assignEach es X.env).findIdx? (·.1)=none:=by rfl):PG X (.Tuple es k pos) (yC X.K n t):=by
 intro pins s σ H v u Q I r hw;obtain ⟨a,xs,e1,hq,hl,hw⟩:=hw;subst e1;cases r;obtain ⟨its,rv,ht,hz⟩:=I.tuple hq;refine assign_Tuple_tuple (I.ok.hd hc) ht (by simp [hn,<-hl,rv.length]) hst fun h' hx=>?_;have I1:Inv X pins σ H { s with heap:=h' }:=I.kept (t':=s.toks) fun b o e=>hx b o (HH (Ht e)) e;exact h pins _ σ H xs _ Q I1 (by simpa using rv) hw
def CF (to ti:TE) (t:C8):TG:=fun v σ H Q=>to σ H fun o H1=>ti σ H1 fun i H2=>t o i v H2 fun H3=>Q σ H3
theorem Az {o i:Expr} {to ti:TE} {t:C8} (ho:PE X o to) (hi:PE X i ti) (hs:EC X t)
  (ha:∀ v,assign (.Subscript o i pos) X.env v=(do
   let ov<-holding [v] (eval o X.env)
   let iv<-holding [v,ov] (eval i X.env)
   standAt pos
   holding [v,ov,iv] (setItem ov iv v)
   release [v,ov,iv] []):=by intro _;rfl):PG X (.Subscript o i pos) (CF to ti t):=by
 intro pins s σ H v u Q I r h;rw [ha];refine He (HY (thn (ho pins s σ H _ I h) fun ov s1 ⟨x,H1,I1,r1,q1⟩=>?_));refine He (HY (thn (hi pins s1 σ H1 _ I1 q1) fun iv s2 ⟨y,H2,I2,r2,q2⟩=>?_));refine He (wpAny_standAt (He (HY (thn (hs pins s2 σ H2 x y v ov iv u _ I2 r1 r2 r q2) fun _ s3 ⟨H3,I3,q3⟩=>?_))));exact wpAny_release ⟨σ,H3,I3,q3⟩
def bF (te:TE) (g:TG):TS:=fun D σ H=>te σ H fun x H1=>g x σ H1 D.nx
theorem Ba {tg e:Expr} {te:TE} {g:TG} (he:PE X e te) (hg:PG X tg g) (hs:swapsWithSole [tg] e pos.line X.env=pure false:=by rfl) (hw:swappedStores [tg] e X.env=pure none:=by rfl)
  (h1:(assignEach [tg] X.env).map (·.2)=[assign tg X.env]:=by rfl):PS X (.Assign [tg] e pos) (bF te g):=by
 intro pins s σ H D I h;refine wpAny_Assign_stores (thn (he pins s σ H _ I h) fun v s1 ⟨x,H1,I1,r1,q1⟩=>?_) hs hw;rw [h1];exact thn (hg pins s1 σ H1 x v _ I1 r1 q1) fun _ s2 q=>q
theorem wb {i:Nat} {x:Str} {e:Expr} {te:TE} {pos':Pos} (hN:X.N.Nodup) (hi:X.N[i]?=some x) (hx:Loc X.env.scope x) (he:PE X e te) (hs:swapsWith e (some (.Name x pos')) pos.line X.env=pure false:=by rfl) (hf:X.fn x=true\/X.env.scope.names.lookup x=some .local:=by first | exact .inl rfl | exact .inr rfl | assumption) :
  PS X (.Assign [.Name x pos'] e pos) (bF te (ar i)):=by
 intro pins s σ H D I h;refine wpAny_Assign_Name (thn (he pins s σ H _ I h) fun v s1 ⟨y,H1,I1,r1,q1⟩=>?_) hs;exact lh I1 hN hi hx r1 (fun s2 I2=>⟨_,H1,I2,q1⟩) hf
end
section
variable {X:Cx} {pos:Pos}
def BX (c:TT) (tb:TS):TS:=fun D σ H=>∃ W:Nat->St->Hp->Prop,(∃ m,W m σ H)/\∀ m σ H,W m σ H ->
 c σ H fun b H1=>if b=true then ∃ N:St->Hp->Prop,(∀ σ' H',N σ' H'->∃ m',m' < m/\W m' σ' H')/\tb { D with nx:=N,ct:=N,bk:=D.nx } σ H1 else D.nx σ H1
end
structure It where
 go:Nat->Hp->Prop
 yld:Nat->Hp->V->Hp->Prop
 stop:Nat->Hp->Prop
def uK (X:Cx) (pins:List (Addr×Obj)) (H:Hp) (b:Addr):Prop :=
 H b=none/\b≠X.env.locals/\b ∉ X.fs/\(b∈X.ex\/X.s₀.heap.objs.size<=b)/\(∀ x c,X.env.cells.lookup x=some c->c≠b)/\∀ p∈X.pn++pins,p.1≠b
theorem Inv.Fl {X:Cx} {pins:List (Addr×Obj)} {σ:St} {H H':Hp} {s:Shared} {b:Addr} (I:Inv X pins σ H s) (hb:s.heap.objs.size<=b) (hn:H' b=none):uK X pins H' b:=by
 refine ⟨hn,Jy (Hx I.lt hb),I.CQ hb,.inr (HA I.sz hb),fun x c e z=>?_,fun p hp z=>?_⟩
 ·obtain ⟨v,q⟩:=I.cell x c e;exact absurd (Hx q.lt (by rw [z];exact hb)) (HN _)
 ·exact absurd (Hx (Ht (I.pin p hp).1) (by rw [z];exact hb)) (HN _)
structure Turn (P:Program) (w:World) (K:Fg) (tg:Expr) (J:It) (fp:List Addr) (it:Addr) (tn:Nat->Heap->Prop):Prop where
 mem:it∈fp
 obj:∀ i h,tn i h->∀ b∈fp,∃ o,h.get? b=some o/\∀ v,o.data≠.cell v
 keep:∀ i h h',tn i h->(∀ b∈fp,∀ o,h.get? b=some o->h'.get? b=some o)->tn i h'
 item:∀ (X:Cx),X.prog=P->X.w=w->X.K=K->X.calm=true->∀ (i:Nat) (pins:List (Addr×Obj)) (s:Shared) (σ:St) (H:Hp) (E:Value->Shared->Prop),Inv X pins σ H s->(∀ b∈fp,uK X pins H b)->tn i s.heap->J.go i H ->
  wpAny (model P w) X.A (pyNext (.ref it)) (fun r s1=>∃ u,r=some u /\
   wpAny (model P w) X.A (letOwnedTupleGo tg (.ref it) u) (fun _ s2=>∃ x H',Inv X pins σ H' s2/\RelV x u/\J.yld i H x H'/\tn (i+1) s2.heap/\∀ b∈fp,H' b=none) E s1) E s
 done:∀ (X:Cx),X.prog=P->X.w=w->X.K=K->X.calm=true->∀ (i:Nat) (pins:List (Addr×Obj)) (s:Shared) (σ:St) (H:Hp) (E:Value->Shared->Prop),Inv X pins σ H s->(∀ b∈fp,uK X pins H b)->tn i s.heap->J.stop i H ->
  wpAny (model P w) X.A (pyNext (.ref it)) (fun r s1=>r=none/\Inv X pins σ H s1) E s
 self:∀ (A:Around) (i:Nat) (s:Shared) (Q:Value->Shared->Prop) (E:Value->Shared->Prop),tn i s.heap->Q (.ref it) s->wpAny (model P w) A (pyIter (.ref it)) Q E s
abbrev TI:=St->Hp->(It->Hp->Prop)->Prop
def PIE (X:Cx) (pins:List (Addr×Obj)) (σ:St) (tg:Expr) (R:It->Hp->Prop) (itv:Value) (s2:Shared):Prop :=
 ∃ (it:Addr) (fp:List Addr) (tn:Nat->Heap->Prop) (J:It) (H':Hp),itv=.ref it/\Inv X pins σ H' s2/\Turn X.prog X.w X.K tg J fp it tn/\tn 0 s2.heap/\(∀ b∈fp,uK X pins H' b)/\R J H'
def PI (X:Cx) (tg iter:Expr) (wi:TI):Prop :=
 ∀ (pins:List (Addr×Obj)) (s:Shared) (σ:St) (H:Hp) (R:It->Hp->Prop),Inv X pins σ H s->wi σ H R ->
  wpAny (model X.prog X.w) X.A (eval iter X.env) (fun v s1=>wpAny (model X.prog X.w) X.A (pyIter v) (PIE X pins σ tg R) X.xe s1) X.xe s
theorem yU {M:Model} {A:Around} {E:Value->Shared->Prop} {s:Shared} {tg:Expr} {it:Addr} {u:Value} {o:Obj} {n:String} {vs:Array Value} {Q:Unit->Shared->Prop} (ho:s.heap.get? it=some o) (hc:o.cls=.type n) (hd:o.data=.fields vs)
    (hn:["enumerate", "zip", "dict_itemiterator", "dict_reverseitemiterator", "odict_iterator", "itertools.zip_longest", "itertools.pairwise"].contains n=false) (hQ:Q () s):wpAny M A (letOwnedTupleGo tg (.ref it) u) Q E s:=by
  unfold letOwnedTupleGo;cases tg <;> first
    | exact Hg hQ
    | (cases u <;> first
        | exact Hg hQ
        | (refine He (wpAny_load ho ?_)
           rw [hc,hd];show wpAny M A (if (["enumerate", "zip", "dict_itemiterator", "dict_reverseitemiterator", "odict_iterator", "itertools.zip_longest", "itertools.pairwise"].contains n&&vs[0]?==some (rawInt _))=true then _ else _) Q E s;rw [HC (by intro h;rw [hn,Bool.false_and] at h;cases h)]
           exact Hg hQ))
def Itl (K:Fg) (a:Addr):It :=
 ⟨fun i H=>∃ xs x,SqL K H a xs/\xs[i]?=some x,fun i H x H'=>H'=H/\∀ xs,SqL K H a xs->xs[i]?=some x,fun i H=>∃ xs,SqL K H a xs/\xs.length<=i⟩
def Itt (K:Fg) (a:Addr):It :=
 ⟨fun i H=>∃ xs x,SqT K H a xs/\xs[i]?=some x,fun i H x H'=>H'=H/\∀ xs,SqT K H a xs->xs[i]?=some x,fun i H=>∃ xs,SqT K H a xs/\xs.length<=i⟩
def Itr (lo:Int) (n:Nat):It:=⟨fun i _=>i < n,fun i H x H'=>H'=H/\x=.int (lo+i),fun i _=>n<=i⟩
theorem se {P:Program} {w:World} {K:Fg} {tg:Expr} (a it:Addr):Turn P w K tg (Itl K a) [it] it (fun i h=>h.IsListIter it a i) where
 mem:=by simp
 obj:=fun i h st b hb=>by
  have e:b=it:=by simpa using hb
  subst e;obtain ⟨o,e,c,d⟩:=st;exact ⟨o,e,fun v z=>by rw [d] at z;cases z⟩
 keep:=fun i h h' st k=>st.at fun o e=>k it (by simp) o e
 item:=by
  intro X hP hw hK hc i pins s σ H E I hf st hg;subst hP hw hK;obtain ⟨xs,x,hq,hx⟩:=hg;obtain ⟨its,rv,p,hz⟩:=I.list hq;obtain ⟨u,hu,ru⟩:=rv.get hx;obtain ⟨f0,f1,f2,f3,f4,f5⟩:=hf it (by simp);refine wpAny_pyNext_list_item st p.isList (x:=u) (by simpa using hu) fun h' st' sb=>?_;have I1:Inv X pins σ H { s with heap:=h' }:=I.turned (t':=s.toks) (fun b o hb e=>(sb.2 b hb).trans e) f0 f1 f3 f4 f5;obtain ⟨o,e,c,d⟩:=id st';exact ⟨u,rfl,yU (s:={ s with heap:=h' }) e c d (by decide) ⟨x,H,I1,ru,⟨rfl,fun ys hy=>by rw [I.vh hy hq];exact hx⟩,st',fun b hb=>(hf b hb).1⟩⟩
 done:=by
  intro X hP hw hK hc i pins s σ H E I hf st hg;subst hP hw hK;obtain ⟨xs,hq,hx⟩:=hg;obtain ⟨its,rv,p,hz⟩:=I.list hq;obtain ⟨f0,f1,f2,f3,f4,f5⟩:=hf it (by simp);have hl:=rv.length;exact wpAny_pyNext_list_end (I.ok.hd hc) st p.isList (by simp;omega) fun h' eb=>⟨rfl,I.turned (t':=s.toks) (fun b o hb e=>eb b o hb e) f0 f1 f3 f4 f5⟩
 self:=fun _ _ _ _ _ st h=>wpAny_pyIter_listiter st h
theorem qE {P:Program} {w:World} {K:Fg} {tg:Expr} (a it:Addr):Turn P w K tg (Itt K a) [it] it (fun i h=>h.IsTupleIter it a i) where
 mem:=by simp
 obj:=fun i h st b hb=>by
  have e:b=it:=by simpa using hb
  subst e;obtain ⟨o,e,c,d⟩:=st;exact ⟨o,e,fun v z=>by rw [d] at z;cases z⟩
 keep:=fun i h h' st k=>st.at fun o e=>k it (by simp) o e
 item:=by
  intro X hP hw hK hc i pins s σ H E I hf st hg;subst hP hw hK;obtain ⟨xs,x,hq,hx⟩:=hg;obtain ⟨its,rv,p,hz⟩:=I.tuple hq;obtain ⟨u,hu,ru⟩:=rv.get hx;obtain ⟨f0,f1,f2,f3,f4,f5⟩:=hf it (by simp);refine wpAny_pyNext_tuple_item st (show s.heap.IsTuple a its.toArray from p) (x:=u) (by simpa using hu) fun h' st' sb=>?_;have I1:Inv X pins σ H { s with heap:=h' }:=I.turned (t':=s.toks) (fun b o hb e=>(sb.2 b hb).trans e) f0 f1 f3 f4 f5;obtain ⟨o,e,c,d⟩:=id st';exact ⟨u,rfl,yU (s:={ s with heap:=h' }) e c d (by decide) ⟨x,H,I1,ru,⟨rfl,fun ys hy=>by rw [I.sR hy hq];exact hx⟩,st',fun b hb=>(hf b hb).1⟩⟩
 done:=by
  intro X hP hw hK hc i pins s σ H E I hf st hg;subst hP hw hK;obtain ⟨xs,hq,hx⟩:=hg;obtain ⟨its,rv,p,hz⟩:=I.tuple hq;obtain ⟨f0,f1,f2,f3,f4,f5⟩:=hf it (by simp);have hl:=rv.length;exact wpAny_pyNext_tuple_end (I.ok.hd hc) st (show s.heap.IsTuple a its.toArray from p) (by simp;omega) fun h' eb=>⟨rfl,I.turned (t':=s.toks) (fun b o hb e=>eb b o hb e) f0 f1 f3 f4 f5⟩
 self:=fun _ _ _ _ _ st h=>wpAny_pyIter_tupleiter st h
theorem qj {P:Program} {w:World} {K:Fg} {tg:Expr} (it:Addr) (lo:Int) (n:Nat):Turn P w K tg (Itr lo n) [it] it (fun i h=>IsRangeIter h it (lo+(i:Nat)*1) ((n:Int) - (i:Nat)) 1) where
 mem:=by simp
 obj:=fun i h st b hb=>by
  have e:b=it:=by simpa using hb
  subst e
  exact ⟨_,st,fun v z=>by
   have z':Data.fields _=Data.cell v:=z
   cases z'⟩
 keep:=fun i h h' st k=>k it (by simp) _ st
 item:=by
  intro X hP hw hK hc i pins s σ H E I hf st hg;subst hP hw hK;obtain ⟨f0,f1,f2,f3,f4,f5⟩:=hf it (by simp);have W:=Walks.range (prog:=X.prog) (w:=X.w) (I.ok.hd hc) it lo 1 n;refine W.item i s _ _ hg st fun v h' tk hv st' kk=>?_;obtain ⟨t,rfl⟩:=hv;have I1:Inv X pins σ H { s with heap:=h',toks:=tk }:=I.turned (fun b o hb e=>kk b o (by simpa using hb) e) f0 f1 f3 f4 f5;refine ⟨_,rfl,yU (s:={ s with heap:=h',toks:=tk }) (n := "range_iterator") st' rfl rfl (by decide) ⟨.int (lo+i),H,I1,⟨t,?_⟩,⟨rfl,rfl⟩,st',fun b hb=>(hf b hb).1⟩⟩;rw [Int.mul_one]
 done:=by
  intro X hP hw hK hc i pins s σ H E I hf st hg;subst hP hw hK;obtain ⟨f0,f1,f2,f3,f4,f5⟩:=hf it (by simp);exact wpAny_pyNext_range_end (I.ok.hd hc) st (by have:n<=i:=hg;omega) fun h' eb=>⟨rfl,I.turned (t':=s.toks) (fun b o hb e=>eb b o hb e) f0 f1 f3 f4 f5⟩
 self:=fun _ _ _ _ _ st h=>wpAny_pyIter_rangeiter st h
end L2
namespace L2
open PySem PySem.Spec PyProof.Rows
section
variable {X:Cx} {tg:Expr}
def ij (K:Fg) (tl:TE):TI:=fun σ H R=>tl σ H fun x H1=>∃ a,x=.ref a/\(∃ xs,SqL K H1 a xs)/\R (Itl K a) H1
def xu (K:Fg) (tl:TE):TI:=fun σ H R=>tl σ H fun x H1=>∃ a,x=.ref a/\(∃ xs,SqT K H1 a xs)/\R (Itt K a) H1
theorem xP {l:Expr} {tl:TE} (hl:PE X l tl):PI X tg l (ij X.K tl):=by
 intro pins s σ H R I h;refine thn (hl pins s σ H _ I h) fun v s1 ⟨x,H1,I1,r1,q1⟩=>?_;obtain ⟨a,e,⟨xs,hq⟩,q⟩:=q1;subst e;cases r1;obtain ⟨its,rv,p,hz⟩:=I1.list hq;refine wpAny_pyIter_list p.isList ?_;refine ⟨s1.heap.objs.size,[s1.heap.objs.size],_,_,H1,rfl,I1.kept (t':=s1.toks) fun b o e=>Hj _ e,se a _,⟨_,HE _ rfl,rfl,rfl⟩,fun b hb=>?_,q⟩;have e:b=s1.heap.objs.size:=by simpa using hb
 subst e;exact I1.Fl (Hu _) (I1.hok.fresh (Hu _))
theorem zQ {l:Expr} {tl:TE} (hl:PE X l tl):PI X tg l (xu X.K tl):=by
 intro pins s σ H R I h;refine thn (hl pins s σ H _ I h) fun v s1 ⟨x,H1,I1,r1,q1⟩=>?_;obtain ⟨a,e,⟨xs,hq⟩,q⟩:=q1;subst e;cases r1;obtain ⟨its,rv,p,hz⟩:=I1.tuple hq;refine wpAny_pyIter_tuple (show s1.heap.IsTuple a its.toArray from p) ?_;refine ⟨s1.heap.objs.size,[s1.heap.objs.size],_,_,H1,rfl,I1.kept (t':=s1.toks) fun b o e=>Hj _ e,qE a _,⟨_,HE _ rfl,rfl,rfl⟩,fun b hb=>?_,q⟩;have e:b=s1.heap.objs.size:=by simpa using hb
 subst e;exact I1.Fl (Hu _) (I1.hok.fresh (Hu _))
theorem vH {pins:List (Addr×Obj)} {σ:St} {H:Hp} {s:Shared} {R:It->Hp->Prop} {E:Value->Shared->Prop} {lo hi:Int} {t u v:Tok} {tk:Nat} (I:Inv X pins σ H s) (h1:-(2 ^ 62)<=lo) (h2:lo < 2 ^ 62) (h3:-(2 ^ 62)<=hi) (h4:hi < 2 ^ 62)
  (q:R (Itr lo (hi - lo).toNat) H):wpAny (model X.prog X.w) X.A (pyIter (.ref s.heap.objs.size)) (PIE X pins σ tg R) E { s with heap:=s.heap.push { cls:=.type "range", data:=.fields #[.int lo t,.int hi u,.int 1 v] },toks:=tk }:=by
 refine wpAny_pyIter_range (IsRange.new ..) (small_one h1 h2 h3 h4) ?_;have I1:Inv X pins σ H { s with heap:=s.heap.push { cls:=.type "range", data:=.fields #[.int lo t,.int hi u,.int 1 v] },toks:=tk }:=I.kept fun b o e=>Hj _ e
 refine ⟨(s.heap.push { cls:=.type "range", data:=.fields #[.int lo t,.int hi u,.int 1 v] }).objs.size,[(s.heap.push { cls:=.type "range", data:=.fields #[.int lo t,.int hi u,.int 1 v] }).objs.size],_,_,H,rfl,
  I1.kept (t':=tk) fun b o e=>Hj _ e,qj _ lo (hi - lo).toNat,?_,fun b hb=>?_,q⟩
 ·have e1:lo+((0:Nat):Int)*1=lo:=by simp
  have e2:(((hi - lo).toNat:Nat):Int) - ((0:Nat):Int)=Builtin.Range.rangeSize lo hi 1:=by rw [rangeSize_one];split <;> omega
  show IsRangeIter _ _ (lo+((0:Nat):Int)*1) ((((hi - lo).toNat:Nat):Int) - ((0:Nat):Int)) 1;rw [e1,e2];exact HE _ rfl
 ·have e:b=(s.heap.push { cls:=.type "range", data:=.fields #[.int lo t,.int hi u,.int 1 v] }).objs.size:=by simpa using hb
  subst e;exact I1.Fl (Hu _) (I1.hok.fresh (Hu _))
def qp (ta:TA):TI:=fun σ H R=>ta σ H fun vs H1=>∃ j:Int,vs=[.int j]/\-(2 ^ 62)<=j/\j < 2 ^ 62/\R (Itr 0 j.toNat) H1
def Ds (ta:TA):TI:=fun σ H R=>ta σ H fun vs H1=>∃ i j:Int,vs=[.int i,.int j]/\(-(2 ^ 62)<=i/\i < 2 ^ 62/\-(2 ^ 62)<=j/\j < 2 ^ 62)/\R (Itr i (j - i).toNat) H1
theorem rJ {a:Expr} {ta:TA} {p pos:Pos} (hg:Gl X "range") (hm:X.mg "range" = none) (ha:PA X [a] ta) (hs:starEach [a] X.env=[(false,eval a X.env)]:=by rfl):PI X tg (.Call (.Name "range" p) [a] [] pos) (qp ta):=by
 intro pins s σ H R I h;refine Call_ (pT I hg hm boot_range (PyProof.Rows.callWith_type1 (thn (ha pos pins s σ H _ I h) fun us s1 ⟨vs,H1,I1,r1,q1⟩=>?_) hs rfl));obtain ⟨j,e,q1,q2,q⟩:=q1;subst e;cases r1 with
 | cons r rr =>
  cases rr;obtain ⟨t,rfl⟩:=r;exact call_range_1 (vH I1 (by omega) (by omega) q1 q2 (by simpa using q))
def qh (wi:TI) (g:TG) (tb:TS):TS:=fun D σ H=>wi σ H fun J H1=>∃ W:Nat->Nat->St->Hp->Prop,(∃ m,W 0 m σ H1)/\∀ i m σ H,W i m σ H ->
 (J.stop i H/\D.nx σ H)\/(J.go i H/\∃ N:St->Hp->Prop,(∀ σ' H',N σ' H'->∃ m',m' < m/\W (i+1) m' σ' H')/\∀ x H',J.yld i H x H'->g x σ H' fun σ2 H2=>tb { D with nx:=N,ct:=N,bk:=D.nx } σ2 H2)
noncomputable def jT (fp:List Addr) (h:Heap):List (Addr×Obj):=fp.filterMap fun b=>(h.get? b).map fun o=>(b,o)
theorem cF {fp:List Addr} {h:Heap} {b:Addr} {o:Obj} (hb:b∈fp) (e:h.get? b=some o):(b,o)∈jT fp h:=List.mem_filterMap.mpr ⟨b,hb,by rw [e];rfl⟩
theorem uc {fp:List Addr} {h:Heap} {p:Addr×Obj} (hp:p∈jT fp h):p.1∈fp/\h.get? p.1=some p.2:=by
 obtain ⟨b,hb,e⟩:=List.mem_filterMap.mp hp;cases q:h.get? b with
 | none=>rw [q] at e;cases e
 | some o =>
  rw [q] at e;have e':(b,o)=p:=HQ e;subst e';exact ⟨hb,q⟩
theorem Inv.pinned {pins:List (Addr×Obj)} {σ:St} {H:Hp} {s:Shared} {fp:List Addr} (I:Inv X pins σ H s) (hf:∀ b∈fp,uK X pins H b) (ho:∀ b∈fp,∃ o,s.heap.get? b=some o/\∀ v,o.data≠.cell v):Inv X (pins++jT fp s.heap) σ H s :=
 I.dU fun p hp=>(IH.mp hp).elim (fun z=>I.pin p (Hz _ z)) fun z=>by
  obtain ⟨hb,e⟩:=uc z;obtain ⟨f0,f1,f2,_⟩:=hf p.1 hb;obtain ⟨o,e',d⟩:=ho p.1 hb;rw [e] at e';cases e';exact ⟨e,f0,f1,f2,d⟩
theorem Inv.iG {pins pl:List (Addr×Obj)} {σ:St} {H:Hp} {s:Shared} (I:Inv X (pins++pl) σ H s):Inv X pins σ H s:=I.dU fun p hp=>I.pin p (Hz _ (Ji _ hp))
theorem AS {iter:Expr} {body:List Stmt} {wi:TI} {g:TG} {tb:TS} {pos:Pos} (hp:PassesOwn (model X.prog X.w) X.A X.env X.xe) (hc:X.calm=true) (hi:PI X tg iter wi) (hg:PG X tg g) (hb:PSs X body tb)
  (hs:∀ x,foldedSetIterable iter X.env x=pure x:=by intro _;rfl):PS X (.For tg iter body [] pos) (qh wi g tb):=by
 intro pins s σ H D I h;refine wpAny_For (thn (hi pins s σ H _ I h) fun v s1 h1=>thn h1 fun itv s2 h2=>?_) hs;obtain ⟨it,fp,tn,J,H2,e,I2,T,st2,f2,W,⟨m0,w0⟩,turn⟩:=h2;subst e;have stat:∀ {H':Hp},(∀ b∈fp,H' b=none)->∀ b∈fp,uK X pins H' b:=fun hn b hb=>⟨hn b hb,(f2 b hb).2⟩;refine codeAny_forLoop_any (fun n s'=>∃ i σ' H',Inv X pins σ' H' s'/\tn i s'.heap/\(∀ b∈fp,H' b=none)/\W i n σ' H') ?_ m0 ⟨0,σ,H2,I2,st2,fun b hb=>(f2 b hb).1,w0⟩;rintro n s3 ⟨i,σ3,H3,I3,st3,fr3,w3⟩;rcases turn i n σ3 H3 w3 with ⟨stop,qn⟩ | ⟨go,N,hN,step⟩
 ·refine JD hp (thn (T.done X rfl rfl rfl hc i pins s3 σ3 H3 X.xe I3 (stat fr3) st3 stop) fun r s4 ⟨hr,I4⟩=>?_);subst hr;exact Jl ⟨σ3,H3,I4,qn⟩
 ·refine JD hp (thn (T.item X rfl rfl rfl hc i pins s3 σ3 H3 X.xe I3 (stat fr3) st3 go) fun r s4 ⟨u,hr,h4⟩=>?_);subst hr;refine JD hp (thn h4 fun _ s5 ⟨x,H5,I5,r5,y5,st5,fr5⟩=>?_);have I5':=I5.pinned (stat fr5) (T.obj _ _ st5);refine JD hp (thn (hg _ s5 σ3 H5 x u _ I5' r5 (step x H5 y5)) fun _ s6 ⟨σ6,H6,I6,q6⟩=>?_);refine JD hp (thn (hb _ s6 σ6 H6 _ I6 q6) fun f s7 q7=>?_);have again:∀ {σ7:St} {H7:Hp},Inv X (pins++jT fp s5.heap) σ7 H7 s7->N σ7 H7->∃ m,m < n/\∃ i σ' H',Inv X pins σ' H' s7/\tn i s7.heap/\(∀ b∈fp,H' b=none)/\W i m σ' H':=fun {σ7 H7} I7 n7=>by
   obtain ⟨m',hm,w7⟩:=hN σ7 H7 n7;refine ⟨m',hm,i+1,σ7,H7,I7.iG,T.keep _ _ _ st5 fun b hb o e=>(I7.pin (b,o) (Hz _ (Hz _ (cF hb e)))).1,fun b hb=>?_,w7⟩;obtain ⟨o,e,d⟩:=T.obj _ _ st5 b hb;exact (I7.pin (b,o) (Hz _ (Hz _ (cF hb e)))).2.1
  cases f with
  | next=>obtain ⟨σ7,H7,I7,n7⟩:=q7;exact again I7 n7
  | cont=>obtain ⟨σ7,H7,I7,n7⟩:=q7;exact again I7 n7
  | brk=>obtain ⟨σ7,H7,I7,q7⟩:=q7;exact ⟨σ7,H7,I7.iG,q7⟩
  | ret v=>obtain ⟨x7,σ7,H7,I7,r7,q7⟩:=q7;exact ⟨x7,σ7,H7,I7.iG,r7,q7⟩
end
end L2
namespace L2
open PySem PySem.Spec PyProof.Rows
abbrev R2:=V->V->Hp->VK->Prop
def OpR (X:Cx) (f:Value->Value->Sem Value) (r:R2):Prop :=
 ∀ (pins:List (Addr×Obj)) (s:Shared) (σ:St) (H:Hp) (x y:V) (v u:Value) (Q:VK),Inv X pins σ H s->RelV x v->RelV y u->r x y H Q ->
  wpAny (model X.prog X.w) X.A (f v u) (EP X pins σ Q) X.xe s
def UnR (X:Cx) (f:Value->Sem Value) (r:V->Hp->VK->Prop):Prop :=
 ∀ (pins:List (Addr×Obj)) (s:Shared) (σ:St) (H:Hp) (x:V) (v:Value) (Q:VK),Inv X pins σ H s->RelV x v->r x H Q ->
  wpAny (model X.prog X.w) X.A (f v) (EP X pins σ Q) X.xe s
def bN (X:Cx) (f:Value) (r:List V->Hp->VK->Prop):Prop :=
 ∀ (pins:List (Addr×Obj)) (s:Shared) (σ:St) (H:Hp) (xs:List V) (us:List Value) (Q:VK),Inv X pins σ H s->Vals xs us->r xs H Q ->
  wpAny (model X.prog X.w) X.A (call f us) (EP X pins σ Q) X.xe s
def GY (X:Cx) (r:V->Hp->(Bool->Hp->Prop)->Prop):Prop :=
 ∀ (pins:List (Addr×Obj)) (s:Shared) (σ:St) (H:Hp) (x:V) (v:Value) (Q:Bool->Hp->Prop),Inv X pins σ H s->RelV x v->r x H Q ->
  wpAny (model X.prog X.w) X.A (truthy v) (TP X pins σ Q) X.xe s
def tOp (r:R2) (ta tb:TE):TE:=fun σ H Q=>ta σ H fun x H1=>tb σ H1 fun y H2=>r x y H2 Q
def tUn (r:V->Hp->VK->Prop) (ta:TE):TE:=fun σ H Q=>ta σ H fun x H1=>r x H1 Q
def rI (C:Int->Int->Prop) (g:Int->Int->V):R2:=fun x y H Q=>∃ i j,x=.int i/\y=.int j/\C i j/\Q (g i j) H
def rI0 (g:Int->Int->V):R2:=fun x y H Q=>∃ i j,x=.int i/\y=.int j/\Q (g i j) H
def rU (g:Int->V):V->Hp->VK->Prop:=fun x H Q=>∃ i,x=.int i/\Q (g i) H
section
variable {X:Cx} {a b c:Expr} {ta tb tc:TE} {pos:Pos}
theorem DC (ha:PE X a ta) (hb:PE X b tb) {pins:List (Addr×Obj)} {s:Shared} {σ:St} {H:Hp} {R:V->V->Hp->Prop} (I:Inv X pins σ H s)
  (h:ta σ H fun x H1=>tb σ H1 fun y H2=>R x y H2) {Q:Value->Shared->Prop} {f:Value->Value->Sem Value}
  (hf:∀ v u s2 x y H2,Inv X pins σ H2 s2->RelV x v->RelV y u->R x y H2->wpAny (model X.prog X.w) X.A (f v u) Q X.xe s2) :
  wpAny (model X.prog X.w) X.A (eval a X.env) (fun v s₁=>wpAny (model X.prog X.w) X.A (eval b X.env) (fun u s₂=>wpAny (model X.prog X.w) X.A (f v u) Q X.xe s₂) X.xe s₁) X.xe s:=by
 refine thn (ha pins s σ H _ I h) fun v s1 ⟨x,H1,I1,r1,q1⟩=>?_;refine thn (hb pins s1 σ H1 _ I1 q1) fun u s2 ⟨y,H2,I2,r2,q2⟩=>?_;exact hf v u s2 x y H2 I2 r1 r2 q2
theorem Ek {op:Operator} {r:R2} (ho:OpR X (binaryOp op) r) (ha:PE X a ta) (hb:PE X b tb):PE X (.BinOp a op b pos) (tOp r ta tb):=by
 intro pins s σ H Q I h;exact wpAny_BinOp (DC ha hb I h fun v u s2 x y H2 I2 rx ry q=>ho pins s2 σ H2 x y v u Q I2 rx ry q)
theorem DW {op:UnaryOp} {r:V->Hp->VK->Prop} (ho:UnR X (unaryOp op) r) (ha:PE X a ta):PE X (.UnaryOp op a pos) (tUn r ta):=by
 intro pins s σ H Q I h;exact UnaryOp_ (thn (ha pins s σ H _ I h) fun v s1 ⟨x,H1,I1,r1,q1⟩=>ho pins s1 σ H1 x v Q I1 r1 q1)
theorem opI {f:Value->Value->Sem Value} {C:Int->Int->Prop} {g:Int->Int->Int}
  (rule:∀ (i j:Int) (t u:Tok) (s:Shared) (Q:Value->Shared->Prop) (E:Value->Shared->Prop),C i j->Q (.int (g i j) s.toks) { s with toks:=s.toks+1 }->wpAny (model X.prog X.w) X.A (f (.int i t) (.int j u)) Q E s) :
  OpR X f (rI C fun i j=>.int (g i j)):=by
 intro pins s σ H x y v u Q I rx ry h;obtain ⟨i,j,rfl,rfl,hc,q⟩:=h;obtain ⟨t,rfl⟩:=rx;obtain ⟨t',rfl⟩:=ry;exact rule i j t t' s _ _ hc ⟨.int (g i j),H,I.tok _,⟨_,rfl⟩,q⟩
theorem FV {f:Value->Value->Sem Value} {g:Int->Int->Int}
  (rule:∀ (i j:Int) (t u:Tok) (s:Shared) (Q:Value->Shared->Prop) (E:Value->Shared->Prop),Q (.int (g i j) s.toks) { s with toks:=s.toks+1 }->wpAny (model X.prog X.w) X.A (f (.int i t) (.int j u)) Q E s) :
  OpR X f (rI0 fun i j=>.int (g i j)):=by
 intro pins s σ H x y v u Q I rx ry h;obtain ⟨i,j,rfl,rfl,q⟩:=h;obtain ⟨t,rfl⟩:=rx;obtain ⟨t',rfl⟩:=ry;exact rule i j t t' s _ _ ⟨.int (g i j),H,I.tok _,⟨_,rfl⟩,q⟩
theorem CU {f:Value->Value->Sem Value} {g:Int->Int->Bool}
  (rule:∀ (i j:Int) (t u:Tok) (s:Shared) (Q:Value->Shared->Prop) (E:Value->Shared->Prop),Q (.bool (g i j)) s->wpAny (model X.prog X.w) X.A (f (.int i t) (.int j u)) Q E s) :
  OpR X f (rI0 fun i j=>.bl (g i j)):=by
 intro pins s σ H x y v u Q I rx ry h;obtain ⟨i,j,rfl,rfl,q⟩:=h;obtain ⟨t,rfl⟩:=rx;obtain ⟨t',rfl⟩:=ry;exact rule i j t t' s _ _ ⟨.bl (g i j),H,I,rfl,q⟩
def Ge (i j:Int):Prop:=0<=j/\j<=1000000/\i.natAbs < 2 ^ 64
def CG (i j:Int):Prop:=(-(2 ^ 64) < i/\i < 2 ^ 64)\/(-(2 ^ 64) < j/\j < 2 ^ 64)
theorem CG.ok {i j:Int} (h:CG i j):IntMulOk i j:=by
 rcases h with ⟨h1,h2⟩ | ⟨h1,h2⟩
 ·exact .of_left (intBits_le_64 h1 h2)
 ·exact .of_right (intBits_le_64 h1 h2)
theorem CN:OpR X (binaryOp .Add) (rI0 fun i j=>.int (i+j)):=FV fun _ _ _ _ _ _ _ q=>add_int q
theorem AI:OpR X (binaryOp .Sub) (rI0 fun i j=>.int (i - j)):=FV fun _ _ _ _ _ _ _ q=>sub_int q
theorem Br:OpR X (binaryOp .Mult) (rI CG fun i j=>.int (i*j)):=opI fun _ _ _ _ _ _ _ hc q=>mul_int q hc.ok
theorem B8:OpR X (binaryOp .Mod) (rI (fun _ j=>0 < j) fun i j=>.int (i % j)):=opI fun i j _ _ _ _ _ hc q=>by
 have h1:(0:Int) < j:=hc;exact mod_int' (by omega) (by rw [Int.fmod_eq_emod_of_nonneg i (by omega)];exact q)
theorem Ar:OpR X (binaryOp .Pow) (rI Ge fun i j=>.int (i ^ j.toNat)):=opI fun _ _ _ _ _ _ _ hc q=>pow_int_small hc.1 hc.2.1 hc.2.2 q
theorem unI {f:Value->Sem Value} {g:Int->Int}
  (rule:∀ (i:Int) (t:Tok) (s:Shared) (Q:Value->Shared->Prop) (E:Value->Shared->Prop),Q (.int (g i) s.toks) { s with toks:=s.toks+1 }->wpAny (model X.prog X.w) X.A (f (.int i t)) Q E s) :
  UnR X f (rU fun i=>.int (g i)):=by
 intro pins s σ H x v Q I rx h;obtain ⟨i,rfl,q⟩:=h;obtain ⟨t,rfl⟩:=rx;exact rule i t s _ _ ⟨.int (g i),H,I.tok _,⟨_,rfl⟩,q⟩
theorem jP:UnR X (unaryOp .USub) (rU fun i=>.int (-i)):=unI fun _ _ _ _ _ q=>neg_int q
end
section
variable {X:Cx} {a b c:Expr} {ta tb tc:TE} {pos:Pos}
theorem pP {pins:List (Addr×Obj)} {σ:St} {H:Hp} {s:Shared} {Q:VK} {k k':Bool} (I:Inv X pins σ H s) (q:Q (.bl k) H) (e:k=k'):EP X pins σ Q (.bool k') s:=by
 subst e;exact ⟨.bl k,H,I,rfl,q⟩
theorem Fb:OpR X (compareOp .Lt) (rI0 fun i j=>.bl (decide (i < j))):=CU fun _ _ _ _ _ _ _ q=>lt_int q
theorem Ez:OpR X (compareOp .LtE) (rI0 fun i j=>.bl (decide (i<=j))):=CU fun _ _ _ _ _ _ _ q=>le_int q
theorem ES:OpR X (compareOp .Gt) (rI0 fun i j=>.bl (decide (j < i))):=CU fun _ _ _ _ _ _ _ q=>gt_int q
theorem DN:OpR X (compareOp .GtE) (rI0 fun i j=>.bl (decide (j<=i))):=CU fun _ _ _ _ _ _ _ q=>ge_int q
theorem uh:OpR X (compareOp .Lt) (fun x y H Q=>∃ i j,x=.str i/\y=.str j/\Q (.bl (decide (i.cps.toList < j.cps.toList))) H):=by
 intro pins s σ H x y v u Q I rx ry h;obtain ⟨i,j,rfl,rfl,q⟩:=h;obtain ⟨t,rfl⟩:=rx;obtain ⟨t',rfl⟩:=ry;exact lt_str (pP I q rfl)
theorem tH:OpR X (compareOp .In) (fun x y H Q=>∃ i j,x=.str i/\y=.str j/\Q (.bl (!(Builtin.Str.occurrences j i 0 j.length 1).isEmpty)) H):=by
 intro pins s σ H x y v u Q I rx ry h;obtain ⟨i,j,rfl,rfl,q⟩:=h;obtain ⟨t,rfl⟩:=rx;obtain ⟨t',rfl⟩:=ry;exact in_str (pP I q rfl)
theorem AR:OpR X (compareOp .Is) (fun x y H Q=>y=.non/\Q (.bl (decide (x=.non))) H):=by
 intro pins s σ H x y v u Q I rx ry h;obtain ⟨rfl,q⟩:=h;cases ry;refine is_none_gen (pP I q ?_);cases x <;> first
  | (cases rx;rfl)
  | (obtain ⟨t,rfl⟩:=rx;rfl)
theorem ym:OpR X (compareOp .IsNot) (fun x y H Q=>y=.non/\Q (.bl (!decide (x=.non))) H):=by
 intro pins s σ H x y v u Q I rx ry h;obtain ⟨rfl,q⟩:=h;cases ry;refine isnot_none_gen (pP I q ?_);cases x <;> first
  | (cases rx;rfl)
  | (obtain ⟨t,rfl⟩:=rx;rfl)
theorem aK (b:Expr) {op:CmpOp} (h:op≠.In:=by decide) (h2:op≠.NotIn:=by decide):behindInMarks op b=false:=by
 have e1:(op==CmpOp.In)=false:=by cases op <;> first | rfl | exact absurd rfl h
 have e2:(op==CmpOp.NotIn)=false:=by cases op <;> first | rfl | exact absurd rfl h2
 cases b <;> simp [behindInMarks,e1,e2]
theorem xZ {op:CmpOp} {r:R2} (ho:OpR X (compareOp op) r) (ha:PE X a ta) (hb:PE X b tb) (hm:behindInMarks op b=false):PE X (.Compare a [op] [b] pos) (tOp r ta tb):=by
 intro pins s σ H Q I h;exact wpAny_Compare1 (DC ha hb I h fun v u s2 x y H2 I2 rx ry q=>ho pins s2 σ H2 x y v u Q I2 rx ry q) hm
def bf (t:TE):TT:=fun σ H Q=>t σ H fun x H'=>∃ k,x=.bl k/\Q k H'
theorem yf {op:CmpOp} {r:R2} (ho:OpR X (compareOp op) r) (ha:PE X a ta) (hb:PE X b tb) (hm:behindInMarks op b=false):PT X (.Compare a [op] [b] pos) (bf (tOp r ta tb)):=by
 intro pins s σ H Q I h
 refine wpAny_isTrue_Compare1 (thn (ha pins s σ H _ I h) fun v s1 ⟨x,H1,I1,r1,q1⟩=>thn (hb pins s1 σ H1 _ I1 q1) fun u s2 ⟨y,H2,I2,r2,q2⟩ =>
  thn (ho pins s2 σ H2 x y v u _ I2 r1 r2 q2) fun c s3 ⟨z,H3,I3,r3,k,e,q3⟩=>?_) hm
 subst e;cases r3;exact Ja ⟨H3,I3,q3⟩
def oZ (r r':R2) (ta tb tc:TE):TE:=fun σ H Q=>ta σ H fun x H1=>tb σ H1 fun y H2=>r x y H2 fun z H3=>∃ k,z=.bl k /\
 (if k=true then tc σ H3 fun w' H4=>r' y w' H4 Q else Q (.bl false) H3)
theorem vo {op op':CmpOp} {r r':R2} (ho:OpR X (compareOp op) r) (ho':OpR X (compareOp op') r') (ha:PE X a ta) (hb:PE X b tb) (hc:PE X c tc)
  (hm:lastMarks [op,op'] [b,c]=false:=by with_unfolding_all rfl):PT X (.Compare a [op,op'] [b,c] pos) (bf (oZ r r' ta tb tc)):=by
 intro pins s σ H Q I h
 refine isTrue_chain (thn (ha pins s σ H _ I h) fun v s1 ⟨x,H1,I1,r1,q1⟩=>test_link (thn (hb pins s1 σ H1 _ I1 q1) fun u s2 ⟨y,H2,I2,r2,q2⟩ =>
  thn (ho pins s2 σ H2 x y v u _ I2 r1 r2 q2) fun d s3 ⟨z,H3,I3,r3,k,e,q3⟩=>?_)) hm
 subst e;cases r3;refine Ja ?_;cases k with
 | false =>
  obtain ⟨k',e',q'⟩:=q3;cases e';exact ite_ff ⟨H3,I3,q'⟩
 | true =>
  refine ite_tt (test_last (thn (hc pins s3 σ H3 _ I3 q3) fun w' s4 ⟨z',H4,I4,r4,q4⟩=>thn (ho' pins s4 σ H4 y z' u w' _ I4 r2 r4 q4) fun d' s5 ⟨z2,H5,I5,r5,k2,e2,q5⟩=>?_));subst e2;cases r5;exact Ja ⟨H5,I5,q5⟩
def DE (K:Fg) (x:V) (H:Hp) (k:Bool):Prop :=
 match x with
 | .non=>k=false
 | .bl b=>k=b
 | .int i=>k=(i != 0)
 | .str y=>y.length<=sizeLine/\k=((y.length:Int) != 0)
 | .byt y=>y.size<=sizeLine/\k=((y.size:Int) != 0)
 | .ref p=>(∃ xs,SqL K H p xs/\k=!xs.isEmpty)\/(∃ xs,SqT K H p xs/\k=!xs.isEmpty)\/∃ kvs,H p=some (.dK kvs)/\k=!kvs.isEmpty
 | _=>False
theorem qk {κ:Type} {kvs:List (κ×V)} {vs:List (κ×Value)} (r:KV kvs vs):(!vs.isEmpty)=!kvs.isEmpty:=by
 cases r <;> rfl
theorem jR {xs:List V} {its:List Value} (r:Vals xs its):(!its.toArray.isEmpty)=!xs.isEmpty:=by
 cases r <;> simp
theorem kf:(sizeLine:Nat) < 2 ^ 63:=by rw [Jg];decide
theorem FQ:GY X (fun x H Q=>∃ k,DE X.K x H k/\Q k H):=by
 intro pins s σ H x v Q I rx h;obtain ⟨k,e,q⟩:=h;have hl:=kf;have hs:sizeLine=16777216:=Jg;cases x with
 | non =>
  cases rx;have e':k=false:=e;subst e';exact truthy_none ⟨H,I,q⟩
 | bl b =>
  cases rx;have e':k=b:=e;subst e';exact Ja ⟨H,I,q⟩
 | int i =>
  obtain ⟨t,rfl⟩:=rx;have e':k=(i != 0):=e;subst e';exact PySem.P.truthy_int ⟨H,I,q⟩
 | str y =>
  obtain ⟨t,rfl⟩:=rx;obtain ⟨hy,e'⟩:y.length<=sizeLine/\k=((y.length:Int) != 0):=e;subst e';exact PySem.P.truthy_str (by omega) ⟨H,I.tok _,q⟩
 | byt y =>
  obtain ⟨t,rfl⟩:=rx;obtain ⟨hy,e'⟩:y.size<=sizeLine/\k=((y.size:Int) != 0):=e;subst e';exact PySem.W.truthy_bytes (by omega) ⟨H,I.tok _,q⟩
 | ref p =>
  cases rx;have e':(∃ xs,SqL X.K H p xs/\k=!xs.isEmpty)\/(∃ xs,SqT X.K H p xs/\k=!xs.isEmpty)\/∃ kvs,H p=some (.dK kvs)/\k=!kvs.isEmpty:=e;rcases e' with ⟨xs,hx,e'⟩ | ⟨xs,hx,e'⟩ | ⟨kvs,hx,e'⟩
  ·subst e';obtain ⟨its,r,pl,hz⟩:=I.list hx;have hlen:=r.length;exact wpAny_truthy_list pl.isList (by simp only [HB];omega) ⟨H,I.tok _,by rw [jR r];exact q⟩
  ·subst e';obtain ⟨its,r,pl,hz⟩:=I.tuple hx;have hlen:=r.length;exact truthy_tuple pl (by simp only [HB];omega) ⟨H,I.tok _,by rw [jR r];exact q⟩
  ·subst e';obtain ⟨hz,hS,vs,r,m⟩:kvs.length<=sizeLine/\(p==sysModules)=false/\∃ vs,KV kvs vs/\s.heap.DictOf (b5 X.prog X.w) p vs:=I.hok p _ hx;have hlen:kvs.length=vs.length:=Paired.length r;exact wpAny_truthy_dict hS m (by omega) ⟨H,I.tok _,by rw [qk r];exact q⟩
 | _=>exact (show False from e).elim
theorem qD:OpR X (binaryOp .Add) (fun x y H Q=>∃ i j,x=.str i/\y=.str j/\i.length+j.length<=sizeLine/\Q (.str (i++j)) H):=by
 intro pins s σ H x y v u Q I rx ry h;obtain ⟨i,j,rfl,rfl,hz,q⟩:=h;obtain ⟨t,rfl⟩:=rx;obtain ⟨t',rfl⟩:=ry;exact add_str (fun t' tk=>⟨.str (i++j),H,I.tok _,⟨_,rfl⟩,q⟩) hz
theorem vals1 {x:V} {us:List Value} (r:Vals [x] us):∃ u,us=[u]/\RelV x u:=by
 cases r with
 | cons r1 r2=>cases r2;exact ⟨_,rfl,r1⟩
theorem vals2 {x y:V} {us:List Value} (r:Vals [x,y] us):∃ u w',us=[u,w']/\RelV x u/\RelV y w':=by
 cases r with
 | cons r1 r2 =>
  cases r2 with
  | cons r3 r4=>cases r4;exact ⟨_,_,rfl,r1,r3⟩
theorem vz:bN X (.builtin "abs") (fun xs H Q=>∃ i,xs=[.int i]/\Q (.int (if i < 0 then -i else i)) H):=by
 intro pins s σ H xs us Q I r h;obtain ⟨i,rfl,q⟩:=h;obtain ⟨u,rfl,t,rfl⟩:=vals1 r;exact call_abs_int fun u tk=>⟨.int (if i < 0 then -i else i),H,I.tok _,⟨_,rfl⟩,q⟩
theorem tJ (hc:X.calm=true):bN X (.builtin "min") (fun xs H Q=>∃ i j,xs=[.int i,.int j]/\Q (.int (if j < i then j else i)) H):=by
 intro pins s σ H xs us Q I r h;obtain ⟨i,j,rfl,q⟩:=h;obtain ⟨u,w',rfl,⟨t,rfl⟩,⟨t',rfl⟩⟩:=vals2 r;refine min_two_ints (I.ok.hd hc) fun h' tk k=>⟨_,H,I.kept k,?_,q⟩;by_cases hj:j < i
 ·rw [Hy hj,Hy hj];exact ⟨_,rfl⟩
 ·rw [HC hj,HC hj];exact ⟨_,rfl⟩
def FP (K:Fg) (x:V) (H:Hp) (n:Nat):Prop :=
 match x with
 | .str y=>y.length<=sizeLine/\n=y.length
 | .byt y=>y.size<=sizeLine/\n=y.size
 | .ref p=>(∃ xs,SqL K H p xs/\n=xs.length)\/∃ xs,SqT K H p xs/\n=xs.length
 | _=>False
theorem vI:bN X (.builtin "len") (fun xs H Q=>∃ x n,xs=[x]/\FP X.K x H n/\Q (.int n) H):=by
 intro pins s σ H xs us Q I r h;obtain ⟨x,n,rfl,e,q⟩:=h;obtain ⟨u,rfl,rx⟩:=vals1 r;have hl:=kf;have hs:sizeLine=16777216:=Jg;cases x with
 | str y =>
  obtain ⟨t,rfl⟩:=rx;obtain ⟨hy,e'⟩:y.length<=sizeLine/\n=y.length:=e;subst e';exact len_str (by omega) ⟨.int _,H,I.tok _,⟨_,rfl⟩,q⟩
 | byt y =>
  obtain ⟨t,rfl⟩:=rx;obtain ⟨hy,e'⟩:y.size<=sizeLine/\n=y.size:=e;subst e';exact PySem.W.len_bytes (by omega) ⟨.int _,H,I.tok _,⟨_,rfl⟩,q⟩
 | ref p =>
  cases rx;have e':(∃ xs,SqL X.K H p xs/\n=xs.length)\/∃ xs,SqT X.K H p xs/\n=xs.length:=e;rcases e' with ⟨xs,hx,e'⟩ | ⟨xs,hx,e'⟩
  ·subst e';obtain ⟨its,r',pl,hz⟩:=I.list hx;have hlen:=r'.length;exact Calls.call_len_list pl.isList (by simp only [HB];omega) ⟨.int xs.length,H,I.tok _,⟨_,by simp only [HB];rw [hlen]⟩,q⟩
  ·subst e';obtain ⟨its,r',pl,hz⟩:=I.tuple hx;have hlen:=r'.length;exact len_tuple pl (by simp only [HB];omega) ⟨.int xs.length,H,I.tok _,⟨_,by simp only [HB];rw [hlen]⟩,q⟩
 | _=>exact (show False from e).elim
end
end L2
namespace L2
open PySem PySem.Spec PyProof.Rows
section
variable {X:Cx} {pins:List (Addr×Obj)} {σ:St} {H:Hp} {s:Shared} {a C dx:Addr} {fs:List (Str×V)} {f:Str} {v:V} {A:Around} {E:Value->Shared->Prop}
theorem yt {prog:Program} {w:World} {env:Env} {e:Expr} {f:Str} {pos:Pos} {s:Shared} {Q:Value->Shared->Prop} (hb:attributeBase e f env (eval e env)=eval e env)
  (h:wpAny (model prog w) A (eval e env) (fun o s₁=>wpAny (model prog w) A (getAttr o f true) Q E s₁) E s):wpAny (model prog w) A (eval (.Attribute e f pos) env) Q E s :=
 Attribute_any_ h (by rw [arm_eval_Attribute,hb])
end
end L2
namespace L2
open PySem PySem.Spec PyProof.Rows
structure cP (k:Nat) (A:Around):Prop where
 hd:A.handled=none
 dp:A.depth+3*k+5 < recursionLimit
 un:A.units+16*k+200 < cLine
 gd:A.guards=some []
theorem cP.mono {j k:Nat} {A:Around} (r:cP k A) (h:j<=k):cP j A:=⟨r.hd,by have:=r.dp;omega,by have:=r.un;omega,r.gd⟩
theorem cP.deeper {k:Nat} {A:Around} (r:cP (k+1) A) (env:Env):cP k (A.deeper env) :=
 ⟨r.hd,by have:=r.dp;show A.depth+1+3*k+5 < _;omega,by have:=r.un;show A.units+3+16*k+200 < _;omega,r.gd⟩
theorem qr {A:Around} {C:Addr} {us:List Value} {kw:List (Str×Value)}:(A.under (.builtin "type.__call__" ⟨.ref C :: us,kw⟩)).depth=A.depth+1:=by
 first | rfl | simp [Around.under,Code.weight,Code.isCreation,Code.isGuard,Code.isCaller,Code.frames,Code.isFrame,guardIds]
theorem qi {A:Around} {C:Addr} {us:List Value} {kw:List (Str×Value)}:(A.under (.builtin "type.__call__" ⟨.ref C :: us,kw⟩)).units=A.units+1:=by
 first | rfl | simp [Around.under,Code.cUnits,Code.frames,Code.isFrame]
theorem nh {A:Around} {C:Addr} {us:List Value} {kw:List (Str×Value)} (h:A.guards=some []):(A.under (.builtin "type.__call__" ⟨.ref C :: us,kw⟩)).guards=some []:=by
 first | simp [Around.under,Code.guards,Code.isGuard,guardIds,pushGuards,h]
theorem cP.make {k:Nat} {A:Around} (r:cP (k+1) A) (C:Addr) (us:List Value) (kw:List (Str×Value)):cP k (A.under (.builtin "type.__call__" ⟨.ref C :: us,kw⟩)) :=
 ⟨r.hd,by have:=r.dp;rw [qr];omega,by have:=r.un;rw [qi];omega,nh r.gd⟩
theorem cP.depth {k:Nat} {A:Around} (r:cP k A):A.depth < recursionLimit:=by have:=r.dp;omega
theorem cP.units {k:Nat} {A:Around} (r:cP k A):A.units+64 < cLine:=by have:=r.un;omega
def aj:TA:=fun _ H Q=>Q [] H
def aa (ta:TE) (tr:TA):TA:=fun σ H Q=>ta σ H fun x H1=>tr σ H1 fun xs H2=>Q (x :: xs) H2
section
variable {X:Cx} {e:Expr} {es:List Expr} {te:TE} {t:TA} {pos:Pos}
theorem rH:PA X [] aj:=fun _ _ _ _ H Q I h=>Calls.spliced_nil ⟨[],H,I,.nil,h⟩
theorem kY (ha:PE X e te) (hr:PA X es t) (hs:starEach (e :: es) X.env=(false,eval e X.env) :: starEach es X.env:=by rfl):PA X (e :: es) (aa te t):=by
 intro pos pins s σ H Q I h;rw [hs];show wpAny _ _ (spliced ((false,eval e X.env) :: backTo pos (starEach es X.env))) _ _ s;refine Calls.spliced_cons (thn (ha pins s σ H _ I h) fun u s1 ⟨x,H1,I1,r1,q1⟩=>?_);exact thn (hr pos pins s1 σ H1 _ I1 q1) fun us s2 ⟨xs,H2,I2,r2,q2⟩=>⟨x :: xs,H2,I2,.cons r1 r2,q2⟩
def br (t:TA):TE:=fun σ H Q=>t σ H fun xs H1=>xs.length<=sizeLine/\∀ p,H1 p=none->Q (.ref p) (upd H1 p (.tup xs))
def eJ (t:TA):TE:=fun σ H Q=>t σ H fun xs H1=>xs.length<=sizeLine/\∀ p,H1 p=none->Q (.ref p) (upd H1 p (.lst xs))
theorem Ap {x1} (h:PA X es t):PE X (.Tuple es x1 pos) (br t):=by
 intro pins s σ H Q I hq;refine wpAny_Tuple_spliced (thn (h pos pins s σ H _ I hq) fun us s1 ⟨xs,H1,I1,r,z,q⟩=>⟨by rw [<- r.length];exact z,?_⟩);have hf:H1 s1.heap.objs.size=none:=I1.hok.fresh (Hu _);refine ⟨.ref s1.heap.objs.size,upd H1 s1.heap.objs.size (.tup xs),I1.laid (t':=s1.toks) (fun b u e=>Hj _ e) (Hu _) ?_,rfl,q _ hf⟩;exact ⟨z,us,r,⟨_,HE _ rfl,rfl,_,rfl⟩⟩
theorem BE (h:PA X es t):PE X (.List es pos) (eJ t):=by
 intro pins s σ H Q I hq;refine wpAny_List_spliced (thn (h pos pins s σ H _ I hq) fun us s1 ⟨xs,H1,I1,r,z,q⟩=>⟨by rw [<- r.length];exact z,?_⟩);have hf:H1 s1.heap.objs.size=none:=I1.hok.fresh (Hu _);refine ⟨.ref s1.heap.objs.size,upd H1 s1.heap.objs.size (.lst xs),I1.laid (t':=s1.toks) (fun b u e=>Hj _ e) (Hu _) ?_,rfl,q _ hf⟩;exact ⟨z,us,0,r,HE _ rfl⟩
end
abbrev Sp:=List V->Hp->VK->XK->Prop
abbrev CXT:=List Env->Hp->Shared->XK->Value->Shared->Prop
structure yr (P:Program) (w:World) (K:Fg) (mg:Str->Option Value) (base:Heap) (A:Around) (outer:List Env) (s:Shared) (H:Hp):Prop where
 frames:A.frames=some outer
 mod:Mod K mg base
 bs:∀ b o,base.get? b=some o->s.heap.get? b=some o/\H b=none
 bsz:base.objs.size<=s.heap.objs.size
 nX:s.heap.FunFrames base outer
 frf:∀ b∈frs outer,H b=none
 hok:HOk P w H s.heap
 bare:AllBare s.gens
def CE (outer:List Env) (P:Program) (w:World) (H:Hp) (s:Shared) (Q:VK) (u:Value) (s':Shared):Prop :=
 ∃ v H',s'.os=s.os/\AllBare s'.gens/\Un (frs outer) [] H H' s.heap s'.heap/\HOk P w H' s'.heap/\RelV v u/\Q v H'
def CR (CX:CXT) (outer:List Env) (P:Program) (w:World) (H:Hp) (s:Shared) (Q:VK) (E:XK) (r:Result) (s':Shared):Prop :=
 match r with
 | .ok (.ret u)=>CE outer P w H s Q u s'
 | .ok _=>False
 | .error e=>CX outer H s E e s'
structure fK (P:Program) (w:World) (K:Fg) (mg:Str->Option Value) (base:Heap) (CX:CXT) (k:Nat) (f:Addr) (fd:FuncData) (ps:List Str) (sp:Sp):Prop where
 len:∀ vs H Q E,sp vs H Q E->vs.length=ps.length
 run:∀ (A:Around) (outer:List Env) (s:Shared) (H:Hp) (args:Args) (us:List Value) (vs:List V) (Q:VK) (E:XK),cP k A->yr P w K mg base A outer s H->BindsTo s fd args (ps.zip us)->Vals vs us->sp vs H Q E ->
  codeAny (model P w) A (.call (.ref f) args) (CR CX outer P w H s Q E) s
theorem yr.make {P:Program} {w:World} {K:Fg} {mg:Str->Option Value} {base:Heap} {A:Around} {outer:List Env} {s:Shared} {H:Hp} (e:yr P w K mg base A outer s H) (C:Addr) (us:List Value) (kw:List (Str×Value)) :
  yr P w K mg base (A.under (.builtin "type.__call__" ⟨.ref C :: us,kw⟩)) outer s H:=⟨by first | exact e.frames | (simpa [Around.under,Code.envs,Code.isFrame,pushEnvs] using e.frames),e.mod,e.bs,e.bsz,e.nX,e.frf,e.hok,e.bare⟩
section
variable {X:Cx} {pins:List (Addr×Obj)} {σ:St} {H:Hp} {s s':Shared}
theorem Inv.zO (I:Inv X pins σ H s):yr X.prog X.w X.K X.mg X.base X.A X.stack s H :=
 ⟨I.ok.frames,I.ok.mod,I.bs,HA I.ok.bsz I.sz,I.stack,I.jB,I.hok,I.bare⟩
theorem Inv.after {Q:VK} {u:Value} (I:Inv X pins σ H s) (h:CE X.stack X.prog X.w H s Q u s'):EP X pins σ Q u s':=by
 obtain ⟨v,H',os,bare,un,hok,r,q⟩:=h;obtain ⟨hh,g,d,t,os'⟩:=s';obtain rfl:os'=s.os:=os;exact ⟨v,H',I.call (h':=hh) (g':=g) (d':=d) (t':=t) (ch:=[]) un hok bare (fun b z=>absurd z (by simp)),r,q⟩
end
def aJ (sp:Sp) (dvs:List V) (E:XK) (t:TA):TE:=fun σ H Q=>t σ H fun vs H1=>sp (vs++dvs) H1 Q E
def Binds (K:Fg) (fd:FuncData) (ps:List Str) (ds:List Value):Prop :=
 ∀ (s:Shared) (us:List Value),K.In s.heap->(us++ds).length=ps.length->BindsTo s fd ⟨us,[]⟩ (ps.zip (us++ds))
theorem Binds.all {K:Fg} {fd:FuncData} {ps:List Str} (h:∀ us:List Value,us.length=ps.length->bindArgs fd ⟨us,[]⟩=pure (ps.zip us)):Binds K fd ps []:=fun s us _ hl=>by
 rw [Ie] at hl ⊢;exact .of_eq (h us hl)
def Passes (CX:CXT) (X:Cx) (E:XK):Prop:=∀ (pins:List (Addr×Obj)) (σ:St) (H:Hp) (s:Shared) (e:Value) (s':Shared),Inv X pins σ H s->CX X.stack H s E e s'->X.xe e s'
section
variable {X:Cx} {CX:CXT} {k:Nat} {f C:Addr} {fd:FuncData} {ps:List Str} {sp:Sp} {dvs:List V} {ds:List Value} {E:XK} {x m:Str} {p pos apos:Pos} {e o:Expr} {es:List Expr} {ta:TE} {t:TA}
theorem AG {pins:List (Addr×Obj)} {σ:St} {H:Hp} {s:Shared} {Q:VK} {us:List Value} {vs:List V} (F:fK X.prog X.w X.K X.mg X.base CX k f fd ps sp) (hr:cP k X.A) (hb:Binds X.K fd ps ds) (hd:Vals dvs ds) (hx:Passes CX X E)
  (I:Inv X pins σ H s) (r:Vals vs us) (h:sp (vs++dvs) H Q E):wpAny (model X.prog X.w) X.A (call (.ref f) us) (EP X pins σ Q) X.xe s:=by
 have r2:Vals (vs++dvs) (us++ds):=r.append hd;have hl:(us++ds).length=ps.length:=by rw [<- r2.length];exact F.len _ _ _ _ h
 refine wpAny_call (Jn (F.run X.A X.stack s H ⟨us,[]⟩ (us++ds) (vs++dvs) Q E hr I.zO (hb s us I.kIn hl) r2 h) fun r s' hq=>?_);cases r with
 | error e=>exact hx pins σ H s e s' I hq
 | ok fl =>
  cases fl with
  | ret u=>exact I.after hq
  | next=>exact False.elim hq
  | brk=>exact False.elim hq
  | cont=>exact False.elim hq
theorem xO (F:fK X.prog X.w X.K X.mg X.base CX k f fd ps sp) (hr:cP k X.A) (hg:Gl X x) (hm:X.mg x=some (.ref f)) (hk:PySem.W.keepIn X.K (.ref f)=true) (hb:Binds X.K fd ps ds) (hd:Vals dvs ds) (hx:Passes CX X E)
  (ha:PA X (e :: es) t) (hdb:(x==("__debug__" : Str))=false:=by decide) (he:starEach (e :: es) X.env=(false,eval e X.env) :: starEach es X.env:=by rfl) (hpl:(backTo pos (starEach es X.env)).any (·.1)=false:=by rfl) :
  PE X (.Call (.Name x p) (e :: es) [] pos) (aJ sp dvs E t):=by
 intro pins s σ H Q I h;refine Jp (jD I hg hm ?_ hdb);refine PySem.W.callWith_K (h₀:=X.base) I.ok.mod.kin hk (thn (ha pos pins s σ H _ I h) fun us s1 ⟨vs,H1,I1,r,q⟩=>⟨I1.kIn,?_⟩) he hpl;exact AG F hr hb hd hx I1 r q
end
structure bj (N P:List Str) (sc:Scope):Prop where
 kind:sc.kind=.function
 co:sc.isCoroutine=false
 gen:sc.isGenerator=false
 nd:N.Nodup
 pre:N.take P.length=P
 par:∀ x∈P,sc.names.lookup x=some .local\/sc.names.lookup x=some .cell
 Bq:∀ y∈sc.names,y.2≠.free
theorem lM {kindOf:Str->Option NameKind} {x:Str}:∀ {binds:List (Str×Value)} {m:Str->Option Value},(∀ v,(x,v) ∉ binds)->bindL kindOf binds m x=m x
 | [],_,_=>rfl
 | (n,v) :: r,m,h=>by
  unfold bindL;rw [lM fun w hw=>h w (Hk _ hw)];split
  ·have:x≠n:=by rintro rfl;exact h v Hw
   simp [this]
  ·rfl
theorem mB {kindOf:Str->Option NameKind} {x:Str}:∀ {binds:List (Str×Value)} {m:Str->Option Value},(∀ v,(x,v) ∉ binds)->bindC kindOf binds m x=m x
 | [],_,_=>rfl
 | (n,v) :: r,m,h=>by
  unfold bindC;rw [mB fun w hw=>h w (Hk _ hw)];split
  ·rfl
  ·have:x≠n:=by rintro rfl;exact h v Hw
   simp [this]
theorem lA {kindOf:Str->Option NameKind} {x:Str} {v:Value}:∀ {P:List Str} {vs:List Value} {i:Nat} {m:Str->Option Value},P.Nodup->P[i]?=some x->vs[i]?=some v->kindOf x=some .local ->
  bindL kindOf (P.zip vs) m x=some v
 | [],_,_,_,_,h,_,_=>by simp at h
 | _ :: _,[],_,_,_,_,h,_=>by simp at h
 | p :: P,w :: vs,0,m,nd,h1,h2,hk=>by
  simp at h1 h2;subst h1;subst h2;show bindL kindOf ((p,w) :: P.zip vs) m p=_;unfold bindL;rw [lM fun v hv=>(Ia.mp nd).1 (List.of_mem_zip hv).1,Hy hk];simp
 | p :: P,w :: vs,i+1,m,nd,h1,h2,hk=>by
  show bindL kindOf ((p,w) :: P.zip vs) m x=_;unfold bindL;exact lA (i:=i) (Ia.mp nd).2 (by simpa using h1) (by simpa using h2) hk
theorem mx {kindOf:Str->Option NameKind} {x:Str} {v:Value}:∀ {P:List Str} {vs:List Value} {i:Nat} {m:Str->Option Value},P.Nodup->P[i]?=some x->vs[i]?=some v->kindOf x≠some .local ->
  bindC kindOf (P.zip vs) m x=some v
 | [],_,_,_,_,h,_,_=>by simp at h
 | _ :: _,[],_,_,_,_,h,_=>by simp at h
 | p :: P,w :: vs,0,m,nd,h1,h2,hk=>by
  simp at h1 h2;subst h1;subst h2;show bindC kindOf ((p,w) :: P.zip vs) m p=_;unfold bindC;rw [mB fun v hv=>(Ia.mp nd).1 (List.of_mem_zip hv).1,HC hk];simp
 | p :: P,w :: vs,i+1,m,nd,h1,h2,hk=>by
  show bindC kindOf ((p,w) :: P.zip vs) m x=_;unfold bindC;exact mx (i:=i) (Ia.mp nd).2 (by simpa using h1) (by simpa using h2) hk
noncomputable def start (N:List Str) (vs:List V):St:=vs.map some++List.replicate (N.length - vs.length) none
noncomputable def iu (CX:CXT) (P:Program) (w:World) (K:Fg) (mg:Str->Option Value) (base:Heap) (N:List Str) (qual:Str) (scope:Scope) (f:Addr) (cd:Value) (A:Around) (outer:List Env) (s:Shared) (H:Hp) (E:XK):Cx where
 prog:=P
 w:=w
 K:=K
 mg:=mg
 base:=base
 A:=A.deeper (envOfC qual scope s.heap.objs.size f cd)
 N:=N
 s₀:=s
 H₀:=H
 env:=envOfC qual scope s.heap.objs.size f cd
 outer:=outer
 stack:=envOfC qual scope s.heap.objs.size f cd :: outer
 ex:=[]
 calm:=true
 fn:=fun _=>true
 pn:=[]
 xe:=fun e s'=>wpAny (model P w) (A.deeper (envOfC qual scope s.heap.objs.size f cd)) (leaving (envOfC qual scope s.heap.objs.size f cd) e) (fun _ s''=>CX outer H s E e s'') (fun e' s''=>CX outer H s E e' s'') s'
theorem ph {sc:Scope} {n:Nat} {x:Str} (h:sc.names.lookup x=some .cell):∃ c,(cellsFrom n sc.names []).lookup x=some c:=by
 have q:=PySem.W.cellsFrom_some sc.names n [] (.inl h);exact Option.isSome_iff_exists.mp q
theorem sD {CX:CXT} {P:Program} {w:World} {K:Fg} {mg:Str->Option Value} {base:Heap} {N ps:List Str} {qual:Str} {scope:Scope} {f:Addr} {cd:Value} {A:Around} {outer:List Env} {s s1:Shared} {H:Hp} {E:XK} {us:List Value} {vs:List V}
  (S:bj N ps scope) (hd:A.handled=none) (e0:yr P w K mg base A outer s H) (hl:vs.length=ps.length) (r:Vals vs us)
  (x:InCallC s s.heap.objs.size (bindL (envOfC qual scope s.heap.objs.size f cd).kindOf (ps.zip us) fun _=>none) (cellsFrom (s.heap.objs.size+1) scope.names []) (bindC (envOfC qual scope s.heap.objs.size f cd).kindOf (ps.zip us) fun _=>none) s1) :
  Inv (iu CX P w K mg base N qual scope f cd A outer s H E) [] (start N vs) H s1:=by
 have hpl:ps.length<=N.length:=by have:=congrArg List.length S.pre;rw [HW] at this;omega
 obtain ⟨h1,tk,rfl,hk⟩:=x.done;have noA:∀ b:Addr,b ∉ (iu CX P w K mg base N qual scope f cd A outer s H E).ex:=fun b z=>absurd (show b∈([]:List Addr) from z) (by simp)
 refine ⟨⟨e0.mod,S.kind,rfl,rfl,Hu _,fun y z c h1 h2=>?_,fun y hy=>?_,fun y c _ h=>?_,fun _=>hd,Around.frames_deeper e0.frames,.inr ⟨rfl,rfl⟩,fun b z=>absurd z (noA b),e0.bs,e0.bsz,fun b _ _=>noA b,fun b z=>absurd z (noA b),e0.nX,e0.frf⟩,
  rfl,e0.bare,Un.kept hk,⟨_,x.toInCall.ns,fun i y v h1 h2 h3=>?_⟩,fun y c h=>⟨_,x.cell y c h⟩,e0.hok.fresh (Hu _),fun y c h=>?_,fun p hp=>absurd (show p∈([]:List (Addr×Obj)) from hp) (by simp),e0.hok.kept hk,?_⟩
 ·exact name_of_addr x.apart (Iz h1) (Iz h2)
 ·have hy:scope.names.lookup y=some .cell\/scope.names.lookup y=some .free:=hy;rcases hy with hy | hy
  ·exact ph hy
  ·exact absurd rfl (S.Bq _ (Iz hy))
 ·exact Jo (x.above y c (Iz h))
 ·have hi:i < vs.length:=by
   unfold start at h2;by_cases hi:i < vs.length
   ·exact hi
   ·rw [Hr (by simpa using hi)] at h2;rw [List.getElem?_replicate] at h2;split at h2 <;> cases h2
  have ha:vs[i]?=some v:=by
   unfold start at h2;rw [HG (by simpa using hi),Hl] at h2;cases e:vs[i]? with
   | none=>rw [e] at h2;cases h2
   | some a=>rw [e] at h2;cases h2;rfl
  obtain ⟨u,hu,rv⟩:=r.get ha;have hp:ps[i]?=some y:=by
   rw [<- S.pre,List.getElem?_take_of_lt (by omega)];exact h1
  have ndP:ps.Nodup:=by rw [<- S.pre];exact S.nd.sublist (List.take_sublist _ _)
  refine ⟨u,rv,?_⟩;rcases S.par y (HF hp) with k | k
  ·exact .inl ⟨k,lA ndP hp hu k⟩
  ·obtain ⟨c,e⟩:=ph (n:=s.heap.objs.size+1) k;refine .inr ⟨.inl k,c,e,?_⟩;have q:=x.cell y c e;rw [mx ndP hp hu (by show scope.names.lookup y≠_;rw [k];decide)] at q;exact q
 ·exact e0.hok.fresh (Jo (x.above y c (Iz h)))
 ·unfold start;show _=N.length;rw [Ho,Hf,JH];omega
theorem zT {CX:CXT} {P:Program} {w:World} {K:Fg} {mg:Str->Option Value} {base:Heap} {k:Nat} {f:Addr} {name qual:Str} {params:Arguments} {body:List Stmt} {scope:Scope} {dV kV doc pm cdv ct oc:Value} {an od:Option Addr}
  {osl:Array (Option Value)} {N ps:List Str} {sp:Sp} (lk:K.lookup f=some ⟨oc,od,.func (PySem.W.fnOf name qual params body scope dV kV doc pm an cdv ct),osl⟩) (hcd:PySem.W.codeIn K cdv qual=true) (S:bj N ps scope)
  (len:∀ vs H Q E,sp vs H Q E->vs.length=ps.length)
  (hbody:∀ (A:Around) (outer:List Env) (s:Shared) (H:Hp) (vs:List V) (Q:VK) (E:XK),cP k (A.deeper (envOfC qual scope s.heap.objs.size f cdv))->sp vs H Q E ->
   ∃ t,PSs (iu CX P w K mg base N qual scope f cdv A outer s H E) body t/\t { nx:=fun _ H'=>Q .non H',rt:=Q } (start N vs) H) :
  fK P w K mg base CX (k+1) f (PySem.W.fnOf name qual params body scope dV kV doc pm an cdv ct) ps sp:=by
 refine ⟨len,fun A outer s H args us vs Q E hr e0 hb r hsp=>?_⟩;have hl:=len _ _ _ _ hsp;have KX:K.In s.heap:=e0.mod.kin.keeps fun b o e=>(e0.bs b o e).1;have lim:s.heap.NoLimit:=e0.mod.nolimit.keeps fun b o e=>(e0.bs b o e).1;have hkind:∀ y∈ps.zip us,scope.names.lookup y.1=some .local\/(scope.names.lookup y.1=some .cell/\((cellsFrom (s.heap.objs.size+1) scope.names []).lookup y.1).isSome=true):=fun ⟨n,v⟩ hy=>by
  rcases S.par n (List.of_mem_zip hy).1 with q | q
  ·exact .inl q
  ·exact .inr ⟨q,PySem.W.cellsFrom_some _ _ _ (.inl q)⟩
 refine codeAny_call_function hr.depth (KX _ _ lk) rfl S.co S.gen rfl (PySem.W.codeRec_of KX hcd) (hb _ _ _ _ ?_);refine wpAny_newFunctionEnv_cells S.kind hkind fun env he s1 x=>?_;subst he;refine ⟨lim.keeps x.toInCall.keep,codeAny_func ?_⟩;obtain ⟨t,ht,hq⟩:=hbody A outer s H vs Q E (hr.deeper _) hsp;have I:Inv (iu CX P w K mg base N qual scope f cdv A outer s H E) [] (start N vs) H s1:=sD S hr.hd e0 hl r x;refine HP (ht [] s1 (start N vs) H _ I hq) (fun fl s' hs=>?_) fun e s' hs=>hs;have fin:∀ {σ':St} {H':Hp} {v:V} {u:Value},Inv (iu CX P w K mg base N qual scope f cdv A outer s H E) [] σ' H' s'->RelV v u->Q v H'->CE outer P w H s Q u s' :=
  fun {σ' H' v u} J rv q=>⟨v,H',J.os,J.bare,J.base,J.hok,rv,q⟩
 cases fl with
 | ret u =>
  obtain ⟨v,σ',H',J,rv,q⟩:=hs;exact fin J rv q
 | next =>
  obtain ⟨σ',H',J,q⟩:=hs;exact fin (v:=V.non) (u:=Value.none) J rfl q
 | brk =>
  obtain ⟨_,_,_,q⟩:=hs;exact False.elim q
 | cont =>
  obtain ⟨_,_,_,q⟩:=hs;exact False.elim q
end L2
namespace L2
open PySem PySem.Spec PyProof.Rows
section
variable {X:Cx} {x:Str} {p pos:Pos} {e:Expr} {es:List Expr} {t:TA} {id T:String} {r:List V->Hp->VK->Prop}
def tCB (r:List V->Hp->VK->Prop) (t:TA):TE:=fun σ H Q=>t σ H fun vs H1=>r vs H1 Q
theorem vv (hc:bN X (.builtin id) r) (hg:Gl X x) (hm:X.mg x=none) (hv:bootBuiltins x=some (.builtin id)) (ha:PA X (e :: es) t) (hn:x ≠ "__name__" := by decide) (hdb:(x==("__debug__" : Str))=false:=by decide)
  (he:starEach (e :: es) X.env=(false,eval e X.env) :: starEach es X.env:=by rfl) (hpl:(backTo pos (starEach es X.env)).any (·.1)=false:=by rfl):PE X (.Call (.Name x p) (e :: es) [] pos) (tCB r t):=by
 intro pins s σ H Q I h;refine Jp (pT I hg hm hv ?_ hn hdb);exact PyProof.Rows.callWith_builtin1 (thn (ha pos pins s σ H _ I h) fun us s1 ⟨vs,H1,I1,r1,q1⟩=>hc pins s1 σ H1 vs us Q I1 r1 q1) he hpl
theorem tF (hc:bN X (.type T) r) (hg:Gl X x) (hm:X.mg x=none) (hv:bootBuiltins x=some (.type T)) (ha:PA X (e :: es) t) (hn:x ≠ "__name__" := by decide) (hdb:(x==("__debug__" : Str))=false:=by decide)
  (he:starEach (e :: es) X.env=(false,eval e X.env) :: starEach es X.env:=by rfl) (hpl:(backTo pos (starEach es X.env)).any (·.1)=false:=by rfl):PE X (.Call (.Name x p) (e :: es) [] pos) (tCB r t):=by
 intro pins s σ H Q I h;refine Jp (pT I hg hm hv ?_ hn hdb);exact PyProof.Rows.callWith_type1 (thn (ha pos pins s σ H _ I h) fun us s1 ⟨vs,H1,I1,r1,q1⟩=>hc pins s1 σ H1 vs us Q I1 r1 q1) he hpl
end
end L2
namespace HT
open PySem PyProof.Rows
section
variable {prog:Program} {w:World} {A:Around} {E:Value->Shared->Prop} {s:Shared}
theorem ya {t b:Addr} {vs ws:List Value} {Q:Value->Shared->Prop} (ht:IsTup s.heap t vs.toArray) (hb:IsTup s.heap b ws.toArray) (hv:vs≠[])
  (h1:ws=[]->Q (.ref t) s) (h2:ws≠[]->Q (.ref s.heap.objs.size) { s with heap:=s.heap.push { cls:=.type "tuple", data:=.seq (vs++ws).toArray } })
  (hsz:vs.length+ws.length<=sizeLine):wpAny (model prog w) A (binaryOp .Add (.ref t) (.ref b)) Q E s:=by
 obtain ⟨⟨cls,dd,data,sl⟩,ho,hc,n,hd⟩:=id ht;obtain ⟨⟨cls2,dd2,data2,sl2⟩,ho2,hc2,n2,hd2⟩:=id hb;simp only at hc hd hc2 hd2;subst hc hd hc2 hd2;have e:vs.toArray++ws.toArray=(vs++ws).toArray:=by simp
 by_cases hw:ws=[]
 ·exact concat_meets ⟨_,ho,rfl⟩ ⟨_,ho2,rfl⟩ noFill_tuple_add seq_tuple_add PySem.F.slot_tuple_add PySem.F.entry_tuple_add (PySem.F.args_tuple_add_2 _ _)
   (tuple_addW1 t b vs.toArray ws.toArray n n2 dd dd2 sl sl2 (by simpa using hv) (by simp [hw])) ⟨ho,ho2,h1 hw⟩
 ·refine concat_meets ⟨_,ho,rfl⟩ ⟨_,ho2,rfl⟩ noFill_tuple_add seq_tuple_add PySem.F.slot_tuple_add PySem.F.entry_tuple_add (PySem.F.args_tuple_add_2 _ _)
   (tuple_addW2 t b vs.toArray ws.toArray n n2 dd dd2 sl sl2 (by simpa using hv) (by simpa using hw) (by rw [HB,HB];exact hsz)) ⟨ho,ho2,?_⟩
  rw [e];exact h2 hw
noncomputable def sIx (n d:Nat):Option Int->Nat
 | none=>d
 | some v=>if v < 0 then (v+(n:Int)).toNat else min v.toNat n
theorem o7 (n d:Nat) (hd:d<=n) (o:Option Int):sIx n d o<=n:=by
 cases o with
 | none=>exact hd
 | some v =>
  show (if v < 0 then (v+(n:Int)).toNat else min v.toNat n)<=n;by_cases hv:v < 0
  ·rw [Hy hv];omega
  ·rw [HC hv];exact Nat.min_le_right _ _
theorem sZ (v:Int) (n d:Nat):(if v < 0 then max (v+(n:Int)) 0 else min v (n:Int))=((sIx n d (some v):Nat):Int):=by
 show (if v < 0 then max (v+(n:Int)) 0 else min v (n:Int))=(((if v < 0 then (v+(n:Int)).toNat else min v.toNat n):Nat):Int);by_cases hv:v < 0
 ·simp only [Hy hv];omega
 ·simp only [HC hv];omega
theorem qq (lo hi:Option Int) (n:Nat):Builtin.Slice.sliceAdjust lo hi 1 (n:Int)=(((sIx n 0 lo:Nat):Int),((sIx n n hi:Nat):Int)):=by
 have h1:¬((1:Int) < 0):=by omega
 unfold Builtin.Slice.sliceAdjust;simp only [h1,if_false];refine Prod.ext ?_ ?_
 ·cases lo with
  | none=>rfl
  | some v=>exact sZ v n 0
 ·cases hi with
  | none=>rfl
  | some v=>exact sZ v n n
theorem qw (i j:Nat):Builtin.Slice.slicePlaces (i:Int) (j:Int) 1=j - i:=by
 unfold Builtin.Slice.slicePlaces;have h1:(1:Int) > 0:=by omega
 simp only [h1,Jt,Int.ediv_one];split <;> omega
theorem jM {v:Value} {o:Option Int} {Q:Option Int->Shared->Prop} (p:IsPart v o) (h:Q o s):wpAny (model prog w) A (Builtin.Slice.slicePartIndex v) Q E s:=by
 cases p with
 | none=>exact slicePart_none h
 | int i t=>exact slicePart_int h
theorem iw {sl:Addr} {vl vu:Value} {lo hi:Option Int} {n:Nat} {Q:Int×Int×Nat->Shared->Prop} (hs:s.heap.IsSliceOf sl vl vu .none) (pl:IsPart vl lo) (pu:IsPart vu hi)
  (h:Q (((sIx n 0 lo:Nat):Int),1,sIx n n hi - sIx n 0 lo) s):wpAny (model prog w) A (Builtin.Slice.sliceApplied (.ref sl) (pure (n:Int))) Q E s:=by
 obtain ⟨os,hos,hcs,hds⟩:=id hs;unfold Builtin.Slice.sliceApplied Builtin.Slice.sliceFields;refine He (He (Js hos hds (x:=vl) rfl (He (Js hos hds (x:=vu) rfl (He (Js hos hds (x:=.none) rfl (Hg ?_)))))));refine He (slicePart_none ?_);show wpAny _ _ (if ((1:Int)==0)=true then _ else _) _ _ s;rw [HC (by decide)];refine He (jM pl (He (jM pu (He (Hg ?_)))));show wpAny _ _ (match Builtin.Slice.sliceAdjust lo hi 1 (n:Int) with | (lo,hi)=>pure (lo,(1:Int),Builtin.Slice.slicePlaces lo hi 1)) _ _ s;rw [qq lo hi n];show wpAny _ _ (pure (((sIx n 0 lo:Nat):Int),(1:Int),Builtin.Slice.slicePlaces ((sIx n 0 lo:Nat):Int) ((sIx n n hi:Nat):Int) 1)) _ _ s;rw [qw];exact Hg h
theorem vX (xs:Array Value) (i k:Nat):((List.range k).filterMap fun (m:Nat)=>xs[((i:Int)+(m:Int)*1).toNat]?).toArray=((xs.toList.drop i).take k).toArray:=by
 have e:(fun (m:Nat)=>xs[((i:Int)+(m:Int)*1).toNat]?)=fun m=>xs[i+m]?:=by
  funext m;have:((i:Int)+(m:Int)*1).toNat=i+m:=by omega
  rw [this]
 rw [e];have:=pick_run xs i k;rw [List.filterMap_map] at this;have e2:((fun x=>xs[x]?)∘fun x=>i+x)=fun m=>xs[i+m]?:=rfl;rw [e2] at this;rw [this]
theorem gu {t sl:Addr} {items:Array Value} {vl vu:Value} {lo hi:Option Int} {Q:Value->Shared->Prop} (ht:IsTup s.heap t items) (hs:s.heap.IsSliceOf sl vl vu .none) (pl:IsPart vl lo) (pu:IsPart vu hi)
  (hw:¬(sIx items.size 0 lo=0/\sIx items.size items.size hi=items.size))
  (h:Q (.ref s.heap.objs.size) { s with heap:=s.heap.push { cls:=.type "tuple", data:=.seq ((items.toList.drop (sIx items.size 0 lo)).take (sIx items.size items.size hi - sIx items.size 0 lo)).toArray } })
  (hsz:items.size<=sizeLine):wpAny (model prog w) A (getItem (.ref t) (.ref sl)) Q E s:=by
 have htake:sizeOk (.seq ((items.toList.drop (sIx items.size 0 lo)).take (sIx items.size items.size hi - sIx items.size 0 lo)).toArray):=by
  show ((items.toList.drop (sIx items.size 0 lo)).take (sIx items.size items.size hi - sIx items.size 0 lo)).toArray.size<=sizeLine;rw [HB,HW,Ik,HZ];omega
 have hj:sIx items.size items.size hi<=items.size:=o7 _ _ (Hu _) hi;obtain ⟨os,hos,hcs,hds⟩:=id hs;have hTs:s.TypeIs (.ref sl) "slice" := ⟨os,hos,hcs⟩;unfold getItem;try with_reducible refine HY ?_
 first | refine He (Hg ?_) | skip
 refine He (wpAny_sequenceKey ht.typeIs (by decide) ?_)
 refine He (IZ (name:=Str.ofString "__getitem__") ht.typeIs PyProof.Rows.slot_tuple_getitem
  (Ip PyProof.Rows.slot_tuple_getitem ht.typeIs entry_tuple_getitem ?_ (args_tuple_getitem _ _)))
 show wpAny _ _ (Builtin.Tuple.tupleItemsOf (.ref t)>>=_) _ _ s;refine He (tupleItemsOf_ ht ?_);refine He (wpAny_typeOf hTs ?_);rw [Hy (by decide)];refine He (iw hs pl pu ?_);have hno:¬((((sIx items.size 0 lo:Nat):Int)==0&&(1:Int)==1&&(sIx items.size items.size hi - sIx items.size 0 lo)==items.size)=true):=by
  intro q;rw [HK,HK] at q;have q1:((sIx items.size 0 lo:Nat):Int)=0:=eq_of_beq q.1.1;have q2:sIx items.size items.size hi - sIx items.size 0 lo=items.size:=eq_of_beq q.2;exact hw ⟨by omega,by omega⟩
 show wpAny _ _ (if (((sIx items.size 0 lo:Nat):Int)==0&&(1:Int)==1&&(sIx items.size items.size hi - sIx items.size 0 lo)==items.size)=true then _ else _) _ _ s;rw [HC hno,vX];first
  | exact He (m:=Builtin.Tuple.tupleExact _) (H9 (Hg ⟨_,rfl,Hg h⟩) htake)
  | exact He (m:=Builtin.Tuple.tupleExact _) (H9 (He (Hg (Hg ⟨_,rfl,Hg h⟩))) htake)
  | exact He (He (m:=Builtin.Tuple.tupleExact _) (H9 (Hg (Hg ⟨_,rfl,Hg h⟩)) htake))
  | exact He (He (m:=Builtin.Tuple.tupleExact _) (H9 (Hg ⟨_,rfl,Hg h⟩) htake))
end
end HT
namespace L2
open PySem PySem.Spec PyProof.Rows
abbrev TO:=St->Hp->(Option Int->Hp->Prop)->Prop
def PO (X:Cx) (e:Option Expr) (t:TO):Prop :=
 ∀ (pins:List (Addr×Obj)) (s:Shared) (σ:St) (H:Hp) (Q:Option Int->Hp->Prop),Inv X pins σ H s->t σ H Q ->
  wpAny (model X.prog X.w) X.A (evalPart e X.env) (fun u s'=>∃ o H',Inv X pins σ H' s'/\IsPart u o/\Q o H') X.xe s
def bR:TO:=fun _ H Q=>Q none H
def eE (t:TE):TO:=fun σ H Q=>t σ H fun x H1=>∃ i,x=.int i/\Q (some i) H1
section
variable {X:Cx} {e:Expr} {te:TE} {lo hi:Option Expr} {tl th:TO} {pos p2:Pos}
theorem yj:PO X none bR:=by
 intro pins s σ H Q I h;rw [evalPart_none];exact Hg ⟨none,H,I,.none,h⟩
theorem zf (h:PE X e te):PO X (some e) (eE te):=by
 intro pins s σ H Q I hw;rw [evalPart_some];refine thn (h pins s σ H _ I hw) fun u s1 ⟨x,H1,I1,r1,q1⟩=>?_;obtain ⟨i,rfl,q⟩:=q1;obtain ⟨t,rfl⟩:=r1;exact ⟨some i,H1,I1,.int i t,q⟩
def SlR (X:Cx) (r:V->Option Int->Option Int->Hp->VK->Prop):Prop :=
 ∀ (pins:List (Addr×Obj)) (s:Shared) (σ:St) (H:Hp) (x:V) (v vl vu:Value) (lo hi:Option Int) (sl:Addr) (Q:VK),Inv X pins σ H s->RelV x v->s.heap.IsSliceOf sl vl vu .none->IsPart vl lo->IsPart vu hi->r x lo hi H Q ->
  ∃ T id,typeLookup (.type T) "__getitem__" = pure (some (.builtin id))/\s.TypeIs v T/\wpAny (model X.prog X.w) X.A (getItem v (.ref sl)) (EP X pins σ Q) X.xe s
theorem SlR.or {r r':V->Option Int->Option Int->Hp->VK->Prop} (h:SlR X r) (h':SlR X r'):SlR X (fun x lo hi H Q=>r x lo hi H Q\/r' x lo hi H Q):=by
 intro pins s σ H x v vl vu lo hi sl Q I rx hs pl pu q;rcases q with q | q
 ·exact h pins s σ H x v vl vu lo hi sl Q I rx hs pl pu q
 ·exact h' pins s σ H x v vl vu lo hi sl Q I rx hs pl pu q
def tSl (r:V->Option Int->Option Int->Hp->VK->Prop) (te:TE) (tl th:TO):TE:=fun σ H Q=>te σ H fun x H1=>tl σ H1 fun l H2=>th σ H2 fun u H3=>r x l u H3 Q
theorem vb {r:V->Option Int->Option Int->Hp->VK->Prop} (hr:SlR X r) (he:PE X e te) (hl:PO X lo tl) (hu:PO X hi th):PE X (.Subscript e (.Slice lo hi none p2) pos) (tSl r te tl th):=by
 intro pins s σ H Q I h;refine Subscript_ (thn (he pins s σ H _ I h) fun v s1 ⟨x,H1,I1,r1,q1⟩=>?_);refine wpAny_Slice (thn (hl pins s1 σ H1 _ I1 q1) fun vl s2 ⟨l,H2,I2,pl,q2⟩=>thn (hu pins s2 σ H2 _ I2 q2) fun vu s3 ⟨u,H3,I3,pu,q3⟩=>?_);rw [evalPart_none];refine Hg ?_;have I4:Inv X pins σ H3 { s3 with heap:=s3.heap.push { cls:=.type "slice", data:=.fields #[vl,vu,.none] } }:=I3.kept (t':=s3.toks) fun b ob q=>Hj _ q;obtain ⟨T,id,hT,ht,hg⟩:=hr pins { s3 with heap:=s3.heap.push { cls:=.type "slice", data:=.fields #[vl,vu,.none] } } σ H3 x v vl vu l u s3.heap.objs.size Q I4 r1 (Heap.IsSliceOf.new ..) pl pu q3;show wpAny (model X.prog X.w) X.A (subscriptTail e (.Slice lo hi none p2) v (.ref s3.heap.objs.size)) (EP X pins σ Q) X.xe { s3 with heap:=s3.heap.push { cls:=.type "slice", data:=.fields #[vl,vu,.none] } };exact tail_any (ops:=[.ref s3.heap.objs.size,v]) ht hT hg (by with_unfolding_all rfl)
noncomputable def uF (xs:List V) (lo hi:Option Int):List V:=(xs.drop (HT.sIx xs.length 0 lo)).take (HT.sIx xs.length xs.length hi - HT.sIx xs.length 0 lo)
theorem jd (xs:List V) (lo hi:Option Int):(uF xs lo hi).length<=xs.length:=by
 unfold uF;rw [HW,Ik];omega
def mr (K:Fg):V->Option Int->Option Int->Hp->VK->Prop:=fun x lo hi H Q=>∃ a xs,x=.ref a/\SqT K H a xs /\
 ¬(HT.sIx xs.length 0 lo=0/\HT.sIx xs.length xs.length hi=xs.length)/\∀ p,H p=none->Q (.ref p) (upd H p (.tup (uF xs lo hi)))
theorem cH:SlR X (mr X.K):=by
 intro pins s σ H x v vl vu lo hi sl Q I rx hs pl pu h;obtain ⟨a,xs,rfl,hx,hw,q⟩:=h;cases rx;obtain ⟨its,r,ht,hz⟩:=I.tuple hx;have hlen:its.toArray.size=xs.length:=by rw [HB];exact r.length.symm
 refine ⟨"tuple", _,PyProof.Rows.slot_tuple_getitem.lookup,ht.typeIs,?_⟩;refine HT.gu ht hs pl pu (by rw [hlen];exact hw) ?_ (by rw [hlen];exact hz);rw [hlen];refine ⟨.ref s.heap.objs.size,_,I.laid (t':=s.toks) (o:=.tup (uF xs lo hi)) (fun b ob q=>Hj _ q) (Hu _) ?_,rfl,q _ (I.hok.fresh (Hu _))⟩;exact ⟨HA (jd xs lo hi) hz,_,(r.drop (HT.sIx xs.length 0 lo)).take (HT.sIx xs.length xs.length hi - HT.sIx xs.length 0 lo),IsTup.new _ _⟩
def Am (K:Fg):R2:=fun x y H Q=>∃ a b xs ys,x=.ref a/\y=.ref b/\SqT K H a xs/\SqT K H b ys/\xs≠[]/\xs.length+ys.length<=sizeLine /\
 (ys=[]->Q (.ref a) H)/\(ys≠[]->∀ p,H p=none->Q (.ref p) (upd H p (.tup (xs++ys))))
theorem Vals.n3 {xs:List V} {us:List Value} (r:Vals xs us):us=[]↔xs=[]:=by
 cases r with
 | nil=>simp
 | cons _ _=>simp
theorem yE:OpR X (binaryOp .Add) (Am X.K):=by
 intro pins s σ H x y v u Q I rx ry h;obtain ⟨a,b,xs,ys,rfl,rfl,ha,hb,hx,hz,q1,q2⟩:=h;cases rx;cases ry;obtain ⟨its,r1,p1,_⟩:=I.tuple ha;obtain ⟨its2,r2,p2,_⟩:=I.tuple hb;refine HT.ya p1 p2 (fun z=>hx (r1.n3.mp z)) (fun z=>⟨.ref a,H,I,rfl,q1 (r2.n3.mp z)⟩) (fun z=>?_) (by rw [<- r1.length,<-r2.length];exact hz);refine ⟨.ref s.heap.objs.size,_,I.laid (t':=s.toks) (o:=.tup (xs++ys)) (fun b ob q=>Hj _ q) (Hu _) ?_,rfl,q2 (fun w=>z (r2.n3.mpr w)) _ (I.hok.fresh (Hu _))⟩;exact ⟨by rw [Ho];exact hz,_,r1.append r2,IsTup.new _ _⟩
end
end L2
namespace L2
open PySem PySem.Spec PyProof.Rows
noncomputable def ixN (n:Nat) (i:Int):Option Nat:=if 0<=i then (if i < n then some i.toNat else none) else if -(n:Int)<=i then some (i+n).toNat else none
noncomputable def atI {α:Type} (xs:List α) (i:Int):Option α:=(ixN xs.length i).bind fun j=>xs[j]?
theorem sx {n:Nat} {i:Int} {j:Nat} (h:ixN n i=some j):seqIndex? i n=some j/\j < n/\-(n:Int)<=i/\i < n:=by
 unfold ixN at h;by_cases h0:0<=i
 ·rw [Hy h0] at h;by_cases h1:i < n
  ·rw [Hy h1] at h;have e:i.toNat=j:=HQ h;exact ⟨by rw [seqIndex_of h0 h1,e],by omega,by omega,h1⟩
  ·rw [HC h1] at h;cases h
 ·rw [HC h0] at h;by_cases h1:-(n:Int)<=i
  ·rw [Hy h1] at h;have e:(i+n).toNat=j:=HQ h;exact ⟨by rw [seqIndex_neg (by omega) h1,e],by omega,h1,by omega⟩
  ·rw [HC h1] at h;cases h
theorem oR {α:Type} {xs:List α} {i:Int} {v:α} (h:atI xs i=some v):∃ j,seqIndex? i xs.length=some j/\xs[j]?=some v/\j < xs.length/\-(xs.length:Int)<=i/\i < xs.length:=by
 unfold atI at h;cases e:ixN xs.length i with
 | none=>rw [e] at h;cases h
 | some j =>
  rw [e] at h;obtain ⟨h1,h2,h3,h4⟩:=sx e;exact ⟨j,h1,h,h2,h3,h4⟩
theorem rN {α:Type} {xs:List α} {j:Nat} {v:α} (h:xs[j]?=some v):atI xs (j:Int)=some v:=by
 have hj:j < xs.length:=(Hi.mp h).1;have e:ixN xs.length (j:Int)=some j:=by
  unfold ixN;rw [Hy (by omega),Hy (by omega)];simp
 unfold atI;rw [e];exact h
def uq (b:Expr):Prop:=∀ o i,subscripted b false o i=operate [o,i] (getItem o i)
def IxR (X:Cx) (r:R2):Prop :=
 ∀ (value slice:Expr) (pins:List (Addr×Obj)) (s:Shared) (σ:St) (H:Hp) (x y:V) (v u:Value) (Q:VK),Inv X pins σ H s->RelV x v->RelV y u->r x y H Q ->
  subscripted slice false v u=operate [v,u] (getItem v u)->wpAny (model X.prog X.w) X.A (subscriptTail value slice v u) (EP X pins σ Q) X.xe s
def MtR (X:Cx) (id:String) (r:V->List V->Hp->VK->Prop):Prop :=
 ∀ (pins:List (Addr×Obj)) (s:Shared) (σ:St) (H:Hp) (x:V) (xs:List V) (v:Value) (us:List Value) (Q:VK),Inv X pins σ H s->RelV x v->Vals xs us->r x xs H Q ->
  wpAny (model X.prog X.w) X.A (call (.builtin id) (v :: us)) (EP X pins σ Q) X.xe s
section
variable {X:Cx} {a b:Expr} {ta tb:TE} {pos:Pos}
theorem IxR.or {r r':R2} (h:IxR X r) (h':IxR X r'):IxR X (fun x y H Q=>r x y H Q\/r' x y H Q):=by
 intro value slice pins s σ H x y v u Q I rx ry q hs;rcases q with q | q
 ·exact h value slice pins s σ H x y v u Q I rx ry q hs
 ·exact h' value slice pins s σ H x y v u Q I rx ry q hs
theorem Di {r:R2} (hr:IxR X r) (ha:PE X a ta) (hb:PE X b tb) (hs:uq b):PE X (.Subscript a b pos) (tOp r ta tb):=by
 intro pins s σ H Q I h;exact Subscript_ (DC ha hb I h fun v u s2 x y H2 I2 rx ry q=>hr a b pins s2 σ H2 x y v u Q I2 rx ry q (hs _ _))
def Ga (K:Fg):R2:=fun x y H Q=>∃ p xs i v,x=.ref p/\y=.int i/\SqL K H p xs/\atI xs i=some v/\Q v H
def Gb (K:Fg):R2:=fun x y H Q=>∃ p xs i v,x=.ref p/\y=.int i/\SqT K H p xs/\atI xs i=some v/\Q v H
def Gg:R2:=fun x y H Q=>∃ z i c,x=.str z/\y=.int i/\z.length<=sizeLine/\atI z.cps.toList i=some c/\Q (.str ⟨#[c]⟩) H
theorem yO:IxR X (Ga X.K):=by
 intro value slice pins s σ H x y v u Q I rx ry h hs;obtain ⟨p,xs,i,z,rfl,rfl,hq,he,q⟩:=h;cases rx;obtain ⟨t,rfl⟩:=ry;obtain ⟨its,r,pl,hz⟩:=I.list hq;obtain ⟨j,h1,h2,h3,h4,h5⟩:=oR he;obtain ⟨w,ew,rw'⟩:=r.get h2;have hl:=r.length;have hn:=kf;have fin:EP X pins σ Q w s:=⟨z,H,I,rw',q⟩;by_cases h0:0<=i
 ·have hj:i.toNat=j:=by
   rw [seqIndex_of h0 h5] at h1;exact HQ h1
  exact item_listR pl.isList h0 (by omega) (by rw [hj];simpa using ew) fin hs
 ·have hj:(i+(its.toArray.size:Int)).toNat=j:=by
   rw [seqIndex_neg (by omega) h4] at h1;rw [HB,<-hl];exact HQ h1
  exact subscriptTail_builtinR (x:=w) pl.isList.typeIs slot_list_getitem.lookup
   (wpAny_getItem_list_neg (Q:=fun r s'=>r=w/\EP X pins σ Q r s') pl.isList (by omega) (by rw [HB] <;> omega) (by omega) (by rw [hj];simpa using ew) ⟨rfl,fin⟩) hs
theorem CC:IxR X (Gb X.K):=by
 intro value slice pins s σ H x y v u Q I rx ry h hs;obtain ⟨p,xs,i,z,rfl,rfl,hq,he,q⟩:=h;cases rx;obtain ⟨t,rfl⟩:=ry;obtain ⟨its,r,pl,hz⟩:=I.tuple hq;obtain ⟨j,h1,h2,h3,h4,h5⟩:=oR he;obtain ⟨w,ew,rw'⟩:=r.get h2;have hl:=r.length;have hn:=kf;have fin:EP X pins σ Q w s:=⟨z,H,I,rw',q⟩;exact subscriptTail_builtinR (x:=w) pl.typeIs slot_tuple_getitem.lookup
  (getItem_tuple (j:=j) (Q:=fun r s'=>r=w/\EP X pins σ Q r s') pl (by omega) (by omega) (by rw [HB,<-hl];exact h1) (by simpa using ew) ⟨rfl,fin⟩) hs
theorem Cg:IxR X Gg:=by
 intro value slice pins s σ H x y v u Q I rx ry h hs;obtain ⟨z,i,c,rfl,rfl,hz,he,q⟩:=h;obtain ⟨t,rfl⟩:=rx;obtain ⟨t',rfl⟩:=ry;obtain ⟨j,h1,h2,h3,h4,h5⟩:=oR he;have hl:z.cps.toList.length=z.length:=by simp [Str.length]
 rw [hl] at h1 h4 h5;have hn:=kf
 exact tail_any (typeIs_str s z t) slot_str_getitem.lookup (getItem_str (c:=c) (by
  have e1:decide (i < -(2 ^ 63:Int))=false:=HS (by omega);have e2:decide (i>=2 ^ 63)=false:=HS (by omega)
  rw [e1,e2,Bool.or_false]) (by rw [h1];simpa using h2) ⟨.str ⟨#[c]⟩,H,I.tok _,⟨_,rfl⟩,q⟩) hs
def rIx (K:Fg):R2:=fun x y H Q=>Ga K x y H Q\/Gb K x y H Q\/Gg x y H Q
theorem Bf:IxR X (rIx X.K):=yO.or (CC.or Cg)
theorem qC (its:List Value) (n j:Nat) (u:Value):Obj.mapSeq (·.setIfInBounds j u) { cls:=.type "list", data:=.seq its.toArray n }={ cls:=.type "list", data:=.seq (its.set j u).toArray n }:=by
 simp [Obj.mapSeq]
theorem Inv.lst {pins:List (Addr×Obj)} {σ:St} {H:Hp} {s:Shared} {p:Addr} {xs:List V} (I:Inv X pins σ H s) (h:H p=some (.lst xs)) :
  ∃ (its:List Value) (n:Nat),Vals xs its/\s.heap.get? p=some { cls:=.type "list", data:=.seq its.toArray n }/\xs.length<=sizeLine:=by
 obtain ⟨z,its,n,r,e⟩:=I.hok p _ h;exact ⟨its,n,r,e,z⟩
theorem Inv.A8 {pins:List (Addr×Obj)} {σ:St} {H:Hp} {s:Shared} {p:Addr} {xs ys:List V} {its its':List Value} {n n':Nat} {f:Obj->Obj} (I:Inv X pins σ H s) (h:H p=some (.lst xs))
  (ho:s.heap.get? p=some { cls:=.type "list", data:=.seq its.toArray n }) (hf:f { cls:=.type "list", data:=.seq its.toArray n }={ cls:=.type "list", data:=.seq its'.toArray n' }) (r:Vals ys its') (hz:ys.length<=sizeLine) (t:Nat) :
  Inv X pins σ (upd H p (.lst ys)) { s with heap:=s.heap.update p f,toks:=t }:=by
 have e:(s.heap.update p f).get? p=some { cls:=.type "list", data:=.seq its'.toArray n' }:=by
  rw [HR f ho (by rw [hf] <;> rfl),hf]
 refine I.write (x:=p) (e:=p) (by rw [h];trivial) (.inl rfl) (fun b u hb q=>(HU _ _ (Ne.symm hb)).trans q) ⟨_,e⟩ ?_;exact ⟨hz,its',n',r,e⟩
def tS:V->V->V->Hp->(Hp->Prop)->Prop:=fun o i v H Q=>∃ p xs k j,o=.ref p/\i=.int k/\H p=some (.lst xs)/\ixN xs.length k=some j/\Q (upd H p (.lst (xs.set j v)))
theorem set_list:EC X tS:=by
 intro pins s σ H o i v ov iv u Q I ro ri rv h;obtain ⟨p,xs,k,j,rfl,rfl,hp,hj,q⟩:=h;cases ro;obtain ⟨t,rfl⟩:=ri;obtain ⟨its,n,r,ho,hz⟩:=I.lst hp;obtain ⟨h1,h2,h3,h4⟩:=sx hj;have hl:=r.length;have hn:=kf;have I':Inv X pins σ (upd H p (.lst (xs.set j v))) { s with heap:=s.heap.update p (Obj.mapSeq (·.setIfInBounds j u)) } :=
  I.A8 hp ho (qC its n j u) (r.set rv j) (by rw [HI];exact hz) s.toks
 by_cases h0:0<=k
 ·have hk:k.toNat=j:=by
   rw [seqIndex_of h0 h4] at h1;exact HQ h1
  exact PySem.W.ki_setAt ho h0 (by omega) (by rw [HB,<-hl];exact h4) (by rw [hk];exact ⟨_,I',q⟩)
 ·have hk:(k+(its.toArray.size:Int)).toNat=j:=by
   rw [seqIndex_neg (by omega) h3] at h1;rw [HB,<-hl];exact HQ h1
  exact PySem.W.ki_setBack ho (by omega) (by rw [HB,<-hl];exact h3) (by omega) (by rw [hk];exact ⟨_,I',q⟩)
theorem mP (lo hi:Option Int) (n:Nat):(sliceBounds lo hi none n).1=((HT.sIx n 0 lo:Nat):Int)/\(sliceBounds lo hi none n).2.1=((HT.sIx n n hi:Nat):Int)/\(sliceBounds lo hi none n).2.2=1:=by
 refine ⟨?_,?_,rfl⟩
 ·cases lo with
  | none=>simp [sliceBounds,HT.sIx]
  | some i =>
   simp only [sliceBounds,HT.sIx,Option.getD_none,show (1:Int) > 0 by decide,Jt];by_cases h:i < 0
   ·simp only [h,Jt] <;> omega
   ·simp only [h,if_false] <;> omega
 ·cases hi with
  | none=>simp [sliceBounds,HT.sIx]
  | some i =>
   simp only [sliceBounds,HT.sIx,Option.getD_none,show (1:Int) > 0 by decide,Jt];by_cases h:i < 0
   ·simp only [h,Jt] <;> omega
   ·simp only [h,if_false] <;> omega
theorem lg (its:List Value) (lo hi:Option Int):slicePick its.toArray lo hi none=((its.drop (HT.sIx its.length 0 lo)).take (HT.sIx its.length its.length hi - HT.sIx its.length 0 lo)).toArray:=by
 obtain ⟨h1,h2,h3⟩:=mP lo hi its.toArray.size;unfold slicePick;rw [h1,h2,h3];simp only [sliceRange_one,pick_run,HB] <;> rfl
def mI (K:Fg):V->Option Int->Option Int->Hp->VK->Prop:=fun x lo hi H Q=>∃ a xs,x=.ref a/\SqL K H a xs/\∀ p,H p=none->Q (.ref p) (upd H p (.lst (uF xs lo hi)))
theorem bW:SlR X (mI X.K):=by
 intro pins s σ H x v vl vu lo hi sl Q I rx hs pl pu h;obtain ⟨a,xs,rfl,hx,q⟩:=h;cases rx;obtain ⟨its,r,ht,hz⟩:=I.list hx;have hlen:=r.length;refine ⟨"list", _,slot_list_getitem.lookup,ht.isList.typeIs,?_⟩;refine wpAny_getItem_list_slice ht.isList hs pl pu .none (by simp) ?_ (by rw [HB] <;> omega);rw [lg,<-hlen];refine ⟨.ref s.heap.objs.size,_,I.laid (t':=s.toks) (o:=.lst (uF xs lo hi)) (fun b ob q=>Hj _ q) (Hu _) ?_,rfl,q _ (I.hok.fresh (Hu _))⟩;exact ⟨HA (jd xs lo hi) hz,_,0,(r.drop (HT.sIx xs.length 0 lo)).take (HT.sIx xs.length xs.length hi - HT.sIx xs.length 0 lo),HE _ rfl⟩
theorem lE:OpR X (compareOp .NotIn) (fun x y H Q=>∃ i j,x=.str i/\y=.str j/\Q (.bl (!(!(Builtin.Str.occurrences j i 0 j.length 1).isEmpty))) H):=by
 intro pins s σ H x y v u Q I rx ry h;obtain ⟨i,j,rfl,rfl,q⟩:=h;obtain ⟨t,rfl⟩:=rx;obtain ⟨t',rfl⟩:=ry;exact notIn_str ⟨.bl _,H,I,rfl,q⟩
theorem lP:bN X (.type "list") (fun xs H Q=>∃ p ys,xs=[.ref p]/\(SqL X.K H p ys\/SqT X.K H p ys)/\∀ l,H l=none->Q (.ref l) (upd H l (.lst ys))):=by
 intro pins s σ H xs us Q I r h;obtain ⟨p,ys,rfl,hq,q⟩:=h;obtain ⟨u,rfl,rx⟩:=vals1 r;cases rx;have fin:∀ (its:List Value),Vals ys its->ys.length<=sizeLine->∀ (h':Heap) (c':Nat),(∀ b o',s.heap.get? b=some o'->h'.get? b=some o') ->
   h'.get? s.heap.objs.size=some { cls:=.type "list", dict:=none,data:=.seq its.toArray c',slots:=#[] }->EP X pins σ Q (.ref s.heap.objs.size) { s with heap:=h' }:=fun its r' hz h' c' kp e =>
  ⟨.ref s.heap.objs.size,_,I.laid (t':=s.toks) kp (Hu _) (show bY X.prog X.w _ h' _ (.lst ys) from ⟨hz,its,c',r',e⟩),rfl,q _ (I.hok.fresh (Hu _))⟩
 rcases hq with hq | hq
 ·obtain ⟨its,r',pl,hz⟩:=I.list hq;have hlen:=r'.length;obtain ⟨o,ho,hc,n,hd⟩:=pl.isList;exact call_list_seq p (.inl rfl) ho hc hd (fun h' c' kp e=>fin its r' hz h' c' kp e) (by simp only [HB] <;> omega)
 ·obtain ⟨its,r',pl,hz⟩:=I.tuple hq;have hlen:=r'.length;obtain ⟨o,ho,hc,n,hd⟩:=pl;exact call_list_seq p (.inr rfl) ho hc hd (fun h' c' kp e=>fin its r' hz h' c' kp e) (by simp only [HB] <;> omega)
theorem kJ:bN X (.type "tuple") (fun xs H Q=>∃ p ys,xs=[.ref p]/\((SqL X.K H p ys/\∀ l,H l=none->Q (.ref l) (upd H l (.tup ys)))\/(SqT X.K H p ys/\Q (.ref p) H))):=by
 intro pins s σ H xs us Q I r h;obtain ⟨p,ys,rfl,h⟩:=h;obtain ⟨u,rfl,rx⟩:=vals1 r;cases rx;rcases h with ⟨hq,q⟩ | ⟨hq,q⟩
 ·obtain ⟨its,r',pl,hz⟩:=I.list hq;have hlen:=r'.length;refine call_tuple_list pl.isList (fun h' kp=>?_) (by simp only [HB] <;> omega);have I1:Inv X pins σ H { s with heap:=h' }:=I.kept (t':=s.toks) kp;have I2:Inv X pins σ (upd H h'.objs.size (.tup ys)) { s with heap:=h'.push { cls:=.type "tuple", data:=.seq its.toArray } } :=
   I1.laid (t':=s.toks) (fun b o e=>Hj _ e) (Hu _) (show bY X.prog X.w _ _ _ (.tup ys) from ⟨hz,its,r',IsTup.new _ _⟩)
  exact ⟨.ref h'.objs.size,_,I2,rfl,q _ (I1.hok.fresh (Hu _))⟩
 ·obtain ⟨its,r',pl,hz⟩:=I.tuple hq;exact call_tuple_same pl ⟨.ref p,H,I,rfl,q⟩
def tyV (K:Fg) (T:String) (x:V) (H:Hp):Prop:=match x with
 | .str _=>T = "str"
 | .int _=>T = "int"
 | .ref p=>(T = "list" /\ ∃ xs,SqL K H p xs)\/(T = "tuple" /\ ∃ o,K.lookup p=some o/\o.cls=.type "tuple" /\ o.dict=none) \/
   (T = "dict" /\ ((∃ kvs,H p=some (.dK kvs))\/(∃ kvs,H p=some (.dT kvs))\/∃ ep xs,H p=some (.dD ep xs)))\/(T = "set" /\ ∃ S n,H p=some (.set S n))
 | _=>False
theorem Be {pins:List (Addr×Obj)} {σ:St} {H:Hp} {s:Shared} {T:String} {x:V} {v:Value} (I:Inv X pins σ H s) (r:RelV x v) (ty:tyV X.K T x H) :
  s.TypeIs v T/\∀ a,v=.ref a->∃ ob,s.heap.get? a=some ob/\ob.dict=none:=by
 cases x with
 | str z =>
  obtain ⟨t,rfl⟩:=r;cases (show T = "str" from ty);exact ⟨typeIs_str s z t,fun _ e=>nomatch e⟩
 | int i =>
  obtain ⟨t,rfl⟩:=r;cases (show T = "int" from ty);exact ⟨typeIs_int s i t,fun _ e=>nomatch e⟩
 | ref p =>
  cases r;rcases ty with ⟨rfl,xs,hq⟩ | ⟨rfl,o,hk,hc,hd⟩ | ⟨rfl,hk⟩ | ⟨rfl,S,n,hk⟩
  ·obtain ⟨its,_,pl,_⟩:=I.list hq;refine ⟨pl.isList.typeIs,fun a e=>?_⟩;cases e;obtain ⟨o,n,e,c,hd,_⟩:=pl;exact ⟨o,e,hd⟩
  ·refine ⟨⟨o,I.kIn p o hk,hc⟩,fun a e=>?_⟩;cases e;exact ⟨o,I.kIn _ o hk,hd⟩
  ·have z:∃ o,s.heap.get? p=some o/\o.ExactDict:=by
    rcases hk with ⟨kvs,hk⟩ | ⟨kvs,hk⟩ | ⟨ep,xs,hk⟩
    ·obtain ⟨_,_,_,_,o,_,_,e,ex,_⟩:=I.hok p _ hk;exact ⟨o,e,ex⟩
    ·obtain ⟨_,_,_,_,o,_,_,e,ex,_⟩:=I.hok p _ hk;exact ⟨o,e,ex⟩
    ·obtain ⟨_,_,_,o,_,e,ex,_⟩:=I.hok p _ hk;exact ⟨o,e,ex⟩
   obtain ⟨o,e,ex⟩:=z;refine ⟨⟨o,e,ex.1⟩,fun a e2=>?_⟩;cases e2;exact ⟨o,e,ex.2.1⟩
  ·obtain ⟨o,_,_,_,e,ex,_⟩:=I.hok p _ hk;refine ⟨⟨o,e,ex.1⟩,fun a e2=>?_⟩;cases e2;exact ⟨o,e,ex.2.1⟩
 | _=>exact False.elim ty
def tBM (K:Fg) (T:String) (r:V->List V->Hp->VK->Prop) (to:TE) (t:TA):TE:=fun σ H Q=>to σ H fun x H1=>tyV K T x H1/\t σ H1 fun xs H2=>r x xs H2 Q
variable {o e:Expr} {es:List Expr} {to:TE} {t:TA} {name:Str} {apos cpos:Pos} {T id:String} {r:V->List V->Hp->VK->Prop}
theorem Eo (pa:PlainAttrs T) (slot:Slot T name id) (hty:typeOf (.builtin id)=pure (.type "method_descriptor")) (hm:MtR X id r) (ho:PE X o to) (ha:PA X (e :: es) t)
  (hbase:attributeBase o name X.env (eval o X.env)=eval o X.env:=by rfl)
  (hfew:((backTo cpos (starEach (e :: es) X.env)).all (fun x=>!x.1)&&(backToKw cpos (keywordEach [] X.env)).all (fun x=>x.1.isSome)
   && decide ((e :: es).length+([]:List Keyword).length+(if ([]:List Keyword).isEmpty then 0 else 1) < 30))=true:=by rfl)
  (hline:(apos.endLine==cpos.line)=true:=by rfl) (hs:starEach (e :: es) X.env=(false,eval e X.env) :: starEach es X.env:=by rfl) (hplain:(backTo cpos (starEach es X.env)).any (·.1)=false:=by rfl) :
  PE X (.Call (.Attribute o name apos) (e :: es) [] cpos) (tBM X.K T r to t):=by
 intro pins s σ H Q I h;refine wpAny_Call_method_late hbase hfew hline rfl (thn (ho pins s σ H _ I h) fun v s1 ⟨x,H1,I1,r1,ty,q1⟩=>?_);obtain ⟨h1,h2⟩:=Be I1 r1 ty;refine ⟨T,id,pa,slot,hty,h1,h2,?_⟩;have hA:=ha cpos pins s1 σ H1 _ I1 q1;rw [hs] at hA ⊢;refine Calls.callWith_builtin (by show (false||(backTo cpos (starEach es X.env)).any (·.1))=false;rw [hplain] <;> rfl) (Calls.evalArgs_plain ?_);exact thn hA fun us s2 ⟨vs,H2,I2,r2,q2⟩=>hm pins s2 σ H2 x vs v us Q I2 r1 r2 q2
end
end L2
namespace L2
open PySem PySem.Spec PyProof.Rows
def MtM (X:Cx) (id:String) (r:V->List V->Hp->VK->Prop):Prop :=
 ∀ (pins:List (Addr×Obj)) (s:Shared) (σ:St) (H:Hp) (x:V) (xs:List V) (v:Value) (us:List Value) (Q:VK),Inv X pins σ H s->RelV x v->Vals xs us->r x xs H Q ->
  wpAny (model X.prog X.w) X.A (call (.builtin id) (v :: us)) (EP X pins σ Q) X.xe s
theorem Vals.one:∀ {x:V} {us:List Value},Vals [x] us->∃ u,us=[u]/\RelV x u
 | _,_,.cons r .nil=>⟨_,rfl,r⟩
theorem Vals.dropLast {xs:List V} {us:List Value} (h:Vals xs us):Vals xs.dropLast us.dropLast:=by
 induction h with
 | nil=>exact .nil
 | cons r t ih =>
  cases t with
  | nil=>exact .nil
  | cons q t'=>exact .cons r ih
section
variable {X:Cx} {pins:List (Addr×Obj)} {σ:St} {H:Hp} {s:Shared} {l b:Addr} {xs ys zs:List V}
theorem Inv.Gv {its its':List Value} {n:Nat} {f:Array Value->Array Value} {t':Nat} (I:Inv X pins σ H s) (hH:H l=some (.lst xs))
  (e:s.heap.get? l=some { cls:=.type "list", data:=.seq its.toArray n }) (hf:f its.toArray=its'.toArray) (hv:Vals ys its') (hz:ys.length<=sizeLine) :
  Inv X pins σ (upd H l (.lst ys)) { s with heap:=s.heap.update l (Obj.mapSeq f),toks:=t' }:=by
 have q:=PySem.IsL.update e f;rw [hf] at q;refine I.write (x:=l) (e:=l) (by rw [hH];exact trivial) (.inl rfl) (fun b' u hb hu=>(HU s.heap (Obj.mapSeq f) (Ne.symm hb)).trans hu) ⟨_,q⟩ ?_;exact ⟨hz,its',_,hv,q⟩
theorem Inv.G7 {its:List Value} {t':Nat} (I:Inv X pins σ H s) (hv:Vals ys its) (hz:ys.length<=sizeLine) :
  Inv X pins σ (upd H s.heap.objs.size (.lst ys)) { s with heap:=s.heap.push { cls:=.type "list", data:=.seq its.toArray },toks:=t' } :=
 I.laid (fun _ _ q=>Hj _ q) (Hu _) ⟨hz,its,0,hv,HE _ rfl⟩
theorem Inv.fresh (I:Inv X pins σ H s):H s.heap.objs.size=none:=I.hok.fresh (Hu _)
theorem Inv.GQ (I:Inv X pins σ H s) (hH:H l=some (.lst xs)):xs.length<=sizeLine/\∃ (its:List Value) (n:Nat),Vals xs its/\xs.length=its.length/\s.heap.get? l=some { cls:=.type "list", data:=.seq its.toArray n }:=by
 obtain ⟨z,its,n,r,e⟩:=I.hok l _ hH;exact ⟨z,its,n,r,r.length,e⟩
end
section
variable {X:Cx}
def ux:V->List V->Hp->VK->Prop:=fun x vs H Q=>∃ l xs y,x=.ref l/\vs=[y]/\H l=some (.lst xs)/\xs.length < sizeLine/\Q .non (upd H l (.lst (xs++[y])))
theorem cw:MtM X "list.append" ux:=by
 intro pins s σ H x vs v us Q I rx rv h;obtain ⟨l,xs,y,rfl,rfl,hH,hz,q⟩:=h;cases rx;obtain ⟨u,rfl,ru⟩:=rv.one;obtain ⟨z,its,n,r,hl,e⟩:=I.GQ hH;refine call_meets F.slot_list_append ⟨_,e,rfl⟩ F.entry_list_append (F.args_list_append_2 _ _) (PySem.list_append l its.toArray n u (by rw [HB];omega)) ⟨e,?_⟩;refine ⟨.non,_,I.Gv (its':=its++[u]) hH e (by simp) (r.append (.cons ru .nil)) ?_,rfl,q⟩;rw [Ho,List.length_singleton];omega
end
end L2
namespace L2
open PySem PySem.Spec PyProof.Rows
section
variable {κ:Type} [DecidableEq κ]
noncomputable def putK (kvs:List (κ×V)) (k:κ) (v:V):List (κ×V) :=
 if (kvs.any fun kv=>decide (kv.1=k))=true then kvs.map (fun kv=>if kv.1=k then (kv.1,v) else kv) else kvs++[(k,v)]
theorem n8 (kvs:List (κ×V)) (k:κ) (v:V):(putK kvs k v).length<=kvs.length+1:=by
 unfold putK;split
 ·rw [Hf];omega
 ·rw [Ho,HD,List.length_nil];omega
theorem KV.any {kvs:List (κ×V)} {vs:List (κ×Value)} (r:KV kvs vs) (k:κ):(kvs.any fun kv=>decide (kv.1=k))=vs.any fun kv=>decide (kv.1=k):=by
 unfold KV at r;induction r with
 | nil=>rfl
 | cons h t ih=>rw [Jw,Jw,ih,h.1]
theorem KV.GD {kvs:List (κ×V)} {vs:List (κ×Value)} (r:KV kvs vs) (k:κ) {y:V} {u:Value} (ry:RelV y u) :
  KV (kvs.map fun kv=>if kv.1=k then (kv.1,y) else kv) (vs.map fun kv=>if kv.1=k then (kv.1,u) else kv):=by
 unfold KV at r ⊢;induction r with
 | nil=>exact .nil
 | @cons p q ps qs h t ih =>
  rw [List.map_cons,List.map_cons];refine .cons ?_ ih;obtain ⟨h1,h2⟩:=h;by_cases e:p.1=k
  ·rw [Hy e,Hy (h1.symm.trans e)];exact ⟨h1,ry⟩
  ·rw [HC e,HC (fun z=>e (h1.trans z))];exact ⟨h1,h2⟩
theorem KV.put {kvs:List (κ×V)} {vs:List (κ×Value)} (r:KV kvs vs) (k:κ) {y:V} {u:Value} (ry:RelV y u):KV (putK kvs k y) (stored vs k u):=by
 unfold putK stored;rw [r.any k];by_cases e:(vs.any fun kv=>decide (kv.1=k))=true
 ·rw [Hy e,Hy e];exact r.GD k ry
 ·rw [HC e,HC e];exact Paired.snoc r ⟨rfl,ry⟩
end
theorem Eh {P:Program} {w:World} {k:Key} {u:Value} (r:RelV (kV k) u):(b5 P w).is k u=true:=by
 cases k with
 | inl i=>obtain ⟨t,e⟩:=(show ∃ t,u=Value.int i t from r);subst e;exact ng P w i t
 | inr x=>obtain ⟨t,e⟩:=(show ∃ t,u=Value.str x t from r);subst e;exact oh P w x t
section
variable {X:Cx} {pins:List (Addr×Obj)} {σ:St} {H:Hp} {s:Shared} {a:Addr} {y v:V} {u r:Value} {o:Option V} {A:Around} {E:Value->Shared->Prop}
theorem Inv.big (I:Inv X pins σ H s):sysModules < s.heap.objs.size:=by
 have h:mainGlobals < s.heap.objs.size:=(I.mod.glob.keeps I.bk).lt;exact Nat.lt_trans (by decide) h
theorem oB {h':Heap} {t':Nat} {ob:HO} (I:Inv X pins σ H s) (mu:Mut (H a)) (hs:Heap.SameBut a s.heap h') (he:∃ q,h'.get? a=some q) (new:bY X.prog X.w (upd H a ob) h' a ob) :
  Inv X pins σ (upd H a ob) { s with heap:=h',toks:=t' } :=
 I.write (x:=a) (e:=a) mu (.inl rfl) (fun b q hb z=>(hs.2 b hb).trans z) he new
end
def F9 (i:Expr):Prop:=∀ ov iv,subscripted i false ov iv=operate [ov,iv] (getItem ov iv)
theorem zA {prog:Program} {w:World} {A:Around} {E:Value->Shared->Prop} {s:Shared} {env:Env} {value slice:Expr} {pos:Pos} {T id:String} {Q:Value->Shared->Prop}
  (hl:typeLookup (.type T) "__getitem__" = pure (some (.builtin id))) (hs:F9 slice)
  (h:wpAny (model prog w) A (eval value env) (fun o s₁=>wpAny (model prog w) A (eval slice env) (fun i s₂=>s₂.TypeIs o T/\wpAny (model prog w) A (getItem o i) Q E s₂) E s₁) E s) :
  wpAny (model prog w) A (eval (.Subscript value slice pos) env) Q E s:=by
 refine Subscript_ (HP h (fun o s₁ h₁=>HP h₁ (fun i s₂ h₂=>?_) fun _ _ x=>x) fun _ _ x=>x);obtain ⟨hT,h₂⟩:=h₂;unfold subscriptTail;refine He ?_;rw [getitemInPython_of_ne hT.not_modules];refine He (JB hT hl ?_);have fin:wpAny (model prog w) A (subscripted slice false o i) (fun r s₃=>wpAny (model prog w) A (letTemporaryGo value o r>>=fun _=>pure r) Q E s₃) E s₂:=by
  rw [hs o i];exact wpAny_operating (HP h₂ (fun r s₃ h₃=>He (wpAny_letTemporaryGo (Hg h₃))) fun _ _ x=>x)
 first
  | exact Hg (He fin)
  | exact He (Hg (He fin))
  | exact He fin
def pA:List (TE×TE)->St->Hp->(List (V×V)->Hp->Prop)->Prop
 | [],_,H,Q=>Q [] H
 | (tk,tv) :: r,σ,H,Q=>tk σ H fun x H1=>tv σ H1 fun y H2=>pA r σ H2 fun ps H3=>Q ((x,y) :: ps) H3
abbrev VV:List (V×V)->List (Value×Value)->Prop:=Paired fun p q=>RelV p.1 q.1/\RelV p.2 q.2
def PPs (X:Cx) (pos:Pos) (keys:List (Option Expr)) (values:List Expr) (trs:List (TE×TE)):Prop :=
 ∀ (pins:List (Addr×Obj)) (s:Shared) (σ:St) (H:Hp) (Q:List (V×V)->Hp->Prop),Inv X pins σ H s->pA trs σ H Q ->
  wpAny (model X.prog X.w) X.A (evalPairs (pairTrees keys values X.env pos)) (fun vs s'=>∃ ps H',Inv X pins σ H' s'/\VV ps vs/\Q ps H') X.xe s
theorem xY {X:Cx} {pos:Pos}:PPs X pos [] [] []:=fun pins s σ H Q I h=>pairTrees_nil_walk ⟨[],H,I,.nil,h⟩
theorem vy {X:Cx} {pos:Pos} {k v:Expr} {ks:List (Option Expr)} {vs:List Expr} {tk tv:TE} {trs:List (TE×TE)} (hk:PE X k tk) (hv:PE X v tv) (hr:PPs X pos ks vs trs) :
  PPs X pos (some k :: ks) (v :: vs) ((tk,tv) :: trs):=fun pins s σ H Q I h =>
 pairTrees_cons_walk (thn (hk pins s σ H _ I h) fun u s1 ⟨x,H1,I1,rx,q1⟩=>thn (hv pins s1 σ H1 _ I1 q1) fun w2 s2 ⟨y,H2,I2,ry,q2⟩ =>
  thn (hr pins s2 σ H2 _ I2 q2) fun ws s3 ⟨ps,H3,I3,rel,q3⟩=>⟨(x,y) :: ps,H3,I3,.cons ⟨rx,ry⟩ rel,q3⟩)
noncomputable def eQ (kvs more:List (Key×V)):List (Key×V):=more.foldl (fun acc kv=>putK acc kv.1 kv.2) kvs
theorem KV.merge:∀ {more:List (Key×V)} {rs:List (Key×Value)} {kvs:List (Key×V)} {vs:List (Key×Value)},KV more rs->KV kvs vs->KV (eQ kvs more) (merged vs rs):=by
 intro more rs kvs vs r;unfold KV at r;induction r generalizing kvs vs with
 | nil=>intro q;exact q
 | @cons p q ps qs h t ih =>
  intro r0;have e:KV (putK kvs p.1 p.2) (stored vs q.1 q.2):=by
   have:=r0.put p.1 h.2;rw [<- h.1];exact this
  exact ih e
theorem gc:∀ (more kvs:List (Key×V)),(eQ kvs more).length<=kvs.length+more.length
 | [],kvs=>by show kvs.length<=kvs.length+0;omega
 | p :: r,kvs=>by
  have h1:=gc r (putK kvs p.1 p.2);have h2:=n8 kvs p.1 p.2;show (eQ (putK kvs p.1 p.2) r).length<=_;rw [HD];omega
theorem jU {P:Program} {w:World}:∀ {kvs:List (Key×V)} {ws:List (Value×Value)},VV (kvs.map fun kv=>(kV kv.1,kv.2)) ws->∃ rs,Carries (b5 P w) ws rs/\KV kvs rs
 | [],_,r=>by rw [List.map_nil] at r;cases r;exact ⟨[],True.intro,.nil⟩
 | p :: kvs,_,r=>by
  rw [List.map_cons] at r;cases r with
  | @cons a b as bs h t =>
   obtain ⟨rs,c,q⟩:=jU (P:=P) (w:=w) t;obtain ⟨b1,b2⟩:=b;exact ⟨(p.1,b2) :: rs,⟨Eh h.1,rfl,c⟩,.cons ⟨rfl,h.2⟩ q⟩
end L2
namespace Att
open PySem PySem.W PySem.Calls PyProof.Rows
theorem jq {P:Params} {h:Heap}:∀ (ns:List Int) (vs:List Value),WellAll P h vs (ns.map WData.int)->IntsAre vs ns:=by
 intro ns;induction ns with
 | nil =>
  intro vs w;rw [List.map_nil] at w;cases w;exact .nil
 | cons n ns ih =>
  intro vs w;rw [List.map_cons] at w;cases w with
  | cons a b =>
   cases a;exact .cons _ _ (ih _ b)
theorem uv {l:OpenLaw} {n:Nat} (hn:l.most=some n) {P:Params} {h:Heap} {args:List WData} {vals:List Value}
  (hpre:l.row.toRowW.claim.pre args=true) (hwl:WellAll P h vals args) :
  ∃ a vs ns,vals=[Value.ref a]/\args=[WData.list (ns.map WData.int)]/\h.get? a=some { cls:=.type "list", data:=.seq vs.toArray }/\IntsAre vs ns/\ns.length<=n:=by
 have hsh:WShape.hasAll [] args [.list .int]=true:=(pre_splitW hpre).1;have hc:l.pre.holds [] { args:=args }=true:=(pre_splitW hpre).2;obtain ⟨d,r,rfl,h1,h2⟩:=hasAllW_cons hsh;obtain rfl:=hasAllW_nil h2;obtain ⟨xs,rfl,h3⟩:=hasW_list h1;obtain ⟨ns,rfl⟩:=items_int h3;have hlen:ns.length<=n:=by
  unfold OpenLaw.pre at hc;have h4:(WTm.not (.lt (.lit (.int (n:Int))) (.len (.arg 0)))).holds [] { args:=[.list (ns.map .int)] }=true:=by
   have h4:=(holds_andW hc).1;rw [hn] at h4;exact h4
  have h5:=condW_of h4 (w_not (w_lt w_lit (w_len_list (w_arg rfl))));rw [Hf] at h5;refine Nat.le_of_not_lt fun q=>?_;have q':(n:Int) < ((ns.length:Nat):Int):=by omega
  first
   | (rw [Ii q'] at h5;exact absurd h5 (by decide))
   | (simp at h5;omega)
 cases hwl with
 | cons w1 w2 =>
  cases w2;cases w1 with
  | list ho hall=>exact ⟨_,_,ns,rfl,rfl,ho,jq ns _ hall,hlen⟩
theorem uA (l:OpenLaw) (args:List WData):l.row.toRowW.claim.post args (.bool true) args=true :=
 postW_of (r:=l.row.toRowW) (X:=(true==true))
  (show WShape.has [] (.bool true) .bool=true by first | rfl | decide | simp [WShape.has,WShape.arms,WShape.armsAll])
  (show (WTm.eq .res (.lit (.bool true))).value [] { args:=args,res:=some (.bool true),after:=args }=some (.bool (true==true)) from w_eq_bool (w_res rfl) w_lit) rfl
theorem oo {l:OpenLaw} {n:Nat} {q:Program} {loose:List Str} {XP:(Str->Option Value)->Heap->Prop} {YP:World->Heap->Prop} {d:DefRec}
  (hn:l.most=some n) (hdf:d.params.defaults=[])
  (call:∀ (w:World) (s₀ s₁:Shared) (mg mb:Str->Option Value) (fa:Addr) (o:Obj) (pm cd doc:Value) (a:Addr) (vs:List Value) (ns:List Int),
   Ground q loose [] XP w s₀ mg mb s₁.heap->YP w s₁.heap ->
   s₁.heap.get? fa=some o->o.data=.func (docDef d.name d.params d.body d.scope pm cd doc)->s₁.heap.CodeRec cd d.name->mg d.name=some (.ref fa) ->
   s₁.heap.get? a=some { cls:=.type "list", data:=.seq vs.toArray }->IntsAre vs ns->ns.length<=n->s₁.gens=#[] ->
   codeAny (model l.prog w) callerA (.call (.ref fa) ⟨[.ref a],[]⟩) (fun r s'=>r=.ok (.ret (.bool true))/\OldK s₁.heap s'.heap/\s'.os=s₁.os/\AllBare s'.gens) s₁) :
  WalkO q loose XP YP l.row.toRowW d [] (fun f vs=>PySem.call f vs):=by
 intro w s₀ s₁ mg mb G Y fa o pm cd doc dV kV ho hd hcd hD hmg hg args vals as hpre hlay hrd hwl hlo;obtain rfl:dV=.none:=Dflts.none hD hdf;obtain rfl:kV=.none:=Dflts.noKw hD;obtain ⟨a,vs,ns,rfl,rfl,hobj,hints,hlen⟩:=uv hn hpre hwl;refine enter_call (Jn (call w s₀ s₁ mg mb fa o pm cd doc a vs ns G Y ho (fd_plain hd) hcd hmg hobj hints hlen hg) fun r s' hq=>?_);obtain ⟨rfl,h2,h3,h4⟩:=hq;exact ⟨.inl ⟨.bool true,.bool true,[],rfl,fun _=>rfl,.bool true,uA l _,fun _=>⟨List.Pairwise.nil,fun _ hm=>(nomatch hm)⟩⟩,h2,h3,h4⟩
end Att
namespace L2
open PySem PySem.Spec PyProof.Rows
theorem mE:∀ {vs:List Value} {ns:List Int},IntsAre vs ns->Vals (ns.map V.int) vs
 | _,_,.nil=>.nil
 | _,_,.cons n t h=>.cons ⟨t,rfl⟩ (mE h)
def CP (H:Hp):Prop:=∀ b,H b=none\/∃ o xs,H b=some (.frz o (.lst xs))
theorem vd {P:Program} {w:World} {K:Fg} {mg mb:Str->Option Value} {CX:CXT} {k:Nat} {fa a:Addr} {fd:FuncData} {x:Str} {sp:Sp} {s₁:Shared} {vs:List Value} {ns:List Int}
  (KX:K.In s₁.heap) (hns:s₁.heap.Ns mainGlobals mg) (hb:s₁.heap.Ns builtinsNs mb) (hbb:∀ x:Str,x ≠ "__name__" -> mb x=bootBuiltins x) (hlim:s₁.heap.NoLimit) (hg:s₁.gens=#[])
  (ha:s₁.heap.get? a=some { cls:=.type "list", data:=.seq vs.toArray }) (hi:IntsAre vs ns) (hl:ns.length<=sizeLine) (hr:cP k callerA)
  (F:∀ base:Heap,K.In base->base.Ns mainGlobals mg->fK P w K mg base CX k fa fd [x] sp) (hbind:∀ (s:Shared) (u:Value),BindsTo s fd ⟨[u],[]⟩ [(x,u)])
  (hsp:∀ H:Hp,CP H->SqL K H a (ns.map V.int)->sp [.ref a] H (fun v _=>v=.bl true) fun _ _ _=>False)
  (hCX:∀ H e s',CX [] H s₁ (fun _ _ _=>False) e s'->False) :
  codeAny (model P w) callerA (.call (.ref fa) ⟨[.ref a],[]⟩) (fun r s'=>r=.ok (.ret (.bool true))/\OldK s₁.heap s'.heap/\s'.os=s₁.os/\AllBare s'.gens) s₁:=by
 have rv:=mE hi;have lenV:=hi.length;have core:∀ H:Hp,CP H->SqL K H a (ns.map V.int)->HOk P w H s₁.heap->(∀ b,H b≠none->b=a)->(H a≠none->K.lookup a=none) ->
   codeAny (model P w) callerA (.call (.ref fa) ⟨[.ref a],[]⟩) (fun r s'=>r=.ok (.ret (.bool true))/\OldK s₁.heap s'.heap/\s'.os=s₁.os/\AllBare s'.gens) s₁:=by
  intro H hO hS hok hA hK;have base_of:∀ {b:Addr} {o:Obj},s₁.heap.get? b=some o->H b=none->(vU s₁.heap H).get? b=some o:=fun e n=>ve e n;have noA:∀ {b:Addr} {o:Obj} {es:Array DictEntry} {ep:Nat},s₁.heap.get? b=some o->o.data=.dict es ep->H b=none:=fun {b o es ep} e d=>by
   cases q:H b with
   | none=>rfl
   | some u =>
    have e':b=a:=hA b (by rw [q];simp);subst e';rw [ha] at e;cases e;have d':Data.seq vs.toArray _=Data.dict es ep:=d;cases d'
  have nsK:∀ {b:Addr} {m:Str->Option Value},s₁.heap.Ns b m->(vU s₁.heap H).Ns b m:=fun {b m} ⟨o,es,ep,e,d,r⟩=>⟨o,es,ep,base_of e (noA e d),d,r⟩
  have hKb:K.In (vU s₁.heap H):=fun b o e=>base_of (KX b o e) (by
   cases q:H b with
   | none=>rfl
   | some u =>
    have e':b=a:=hA b (by rw [q];simp);subst e'
    rw [hK (by rw [q];simp)] at e;cases e)
  have hM:Mod K mg (vU s₁.heap H):=⟨hKb,nsK hns,⟨mb,nsK hb,hbb⟩,let ⟨mc,h1,h2⟩:=hlim;⟨mc,nsK h1,h2⟩⟩;have e0:yr P w K mg (vU s₁.heap H) callerA [] s₁ H:=⟨rfl,hM,fun b o e=>yP e,Nat.le_of_eq (sH _ _),trivial,fun b hb=>absurd (show b∈([]:List Addr) from hb) (by simp),hok,.of_eq hg⟩;refine Jn ((F _ hKb (nsK hns)).run callerA [] s₁ H ⟨[.ref a],[]⟩ [.ref a] [.ref a] _ _ hr e0 (hbind s₁ (.ref a)) (.cons rfl .nil) (hsp H hO hS)) fun r s' h=>?_;cases r with
  | error e=>exact (hCX H e s' h).elim
  | ok fl =>
   cases fl with
   | next=>exact False.elim h
   | brk=>exact False.elim h
   | cont=>exact False.elim h
   | ret u =>
    obtain ⟨v,H',os,bare,un,hok',r',q⟩:=h;have q':v=.bl true:=q;subst q';obtain rfl:u=Value.bool true:=r';refine ⟨rfl,OldK.of_keep fun b o e=>?_,os,bare⟩;cases q:H b with
    | none=>exact un.keep b o e q (by intro z;exact absurd (show b∈([]:List Addr) from z) (by simp)) (by simp)
    | some u =>
     rcases hO b with z | ⟨ob,xs,z⟩
     ·rw [q] at z;cases z
     ·have z2:=un.lz b ob _ z;obtain ⟨e1,_⟩:=hok b _ z;obtain ⟨e2,_⟩:=hok' b _ z2;rw [e] at e1;cases e1;exact e2
 cases hk:K.lookup a with
 | some o =>
  have e:=KX a o hk;rw [ha] at e;cases e;refine core (fun _=>none) (fun _=>.inl rfl) (.inr ⟨_,vs.toArray,_,hk,rfl,rfl,rfl,by rw [HB,lenV];exact hl,by simpa using rv⟩) (fun b u z=>by have z':(none:Option HO)=some u:=z;cases z') (fun b z=>absurd rfl z) fun z=>absurd rfl z
 | none =>
  refine core (fun b=>if b=a then some (.frz { cls:=.type "list", data:=.seq vs.toArray } (.lst (ns.map V.int))) else none) (fun b=>?_) (.inl (.inr ⟨{ cls:=.type "list", data:=.seq vs.toArray },Hy rfl⟩)) (fun b u z=>?_) (fun b z=>?_) fun _=>hk
  ·by_cases hb:b=a
   ·exact .inr ⟨_,_,Hy hb⟩
   ·exact .inl (HC hb)
  ·by_cases hb:b=a
   ·have z':=(Hy hb).symm.trans z;cases z';subst hb;exact ⟨ha,by rw [Hf];exact hl,vs,_,rv,ha⟩
   ·have z':=(HC hb).symm.trans z;cases z'
  ·by_cases hb:b=a
   ·exact hb
   ·exact absurd (HC hb) z
end L2
namespace L2
open PySem PySem.Spec PyProof.Rows
abbrev KOf {K:Fg} {h:Heap} (_:K.In h):Fg:=K
theorem xM {l:PySem.W.OpenLaw} {n k:Nat} {q:Program} {loose:List Str} {XP:(Str->Option Value)->Heap->Prop} {YP:World->Heap->Prop} {d:DefRec} {K:Params->Fg} {CX:World->CXT} {sp:World->Sp} {x:Str}
  (hn:l.most=some n) (hn2:n<=sizeLine) (hdf:d.params.defaults=[]) (hr:cP k callerA)
  (hY:∀ (w:World) (h:Heap),YP w h->(K w.params).In h)
  (F:∀ (w:World) (mg:Str->Option Value) (fa:Addr) (h:Heap),(K w.params).In h->h.Ns mainGlobals mg->mg d.name=some (.ref fa) ->
   ∃ fd:FuncData,(∀ (s:Shared) (u:Value),BindsTo s fd ⟨[u],[]⟩ [(x,u)]) /\
    ∀ base:Heap,(K w.params).In base->base.Ns mainGlobals mg->fK l.prog w (K w.params) mg base (CX w) k fa fd [x] (sp w))
  (hsp:∀ (w:World) (H:Hp) (a:Addr) (ns:List Int),ns.length<=n->CP H->SqL (K w.params) H a (ns.map V.int)->sp w [.ref a] H (fun v _=>v=.bl true) fun _ _ _=>False)
  (hCX:∀ (w:World) (H:Hp) (s:Shared) (e:Value) (s':Shared),CX w [] H s (fun _ _ _=>False) e s'->False) :
  PySem.W.WalkO q loose XP YP l.row.toRowW d [] (fun f vs=>PySem.call f vs):=by
 refine Att.oo hn hdf fun w s₀ s₁ mg mb fa o pm cd doc a vs ns G Y ho hd hcd hmg hobj hints hlen hg=>?_;have KX:=hY w _ Y;obtain ⟨fd,hb,hF⟩:=F w mg fa _ KX G.T.g hmg;exact vd KX G.T.g G.T.b G.T.builtins G.T.nolimit hg hobj hints (HA hlen hn2) hr hF hb (fun H hO hS=>hsp w H a ns hlen hO hS) fun H e s'=>hCX w H s₁ e s'
theorem vc {l:PySem.W.OpenLaw} {n k:Nat} {q:Program} {loose:List Str} {XP:(Str->Option Value)->Heap->Prop} {YP:World->Heap->Prop} {d:DefRec} {K:Params->Fg} {CX:CXT} {sp:Fg->Sp} {x:Str}
  (hn:l.most=some n) (hn2:n<=sizeLine) (hdf:d.params.defaults=[]) (hr:cP k callerA)
  (hY:∀ (w:World) (h:Heap),YP w h->(K w.params).In h)
  (F:∀ (w:World) (mg:Str->Option Value) (fa:Addr) (h:Heap),(K w.params).In h->h.Ns mainGlobals mg->mg d.name=some (.ref fa) ->
   ∃ fd:FuncData,(∀ (s:Shared) (u:Value),BindsTo s fd ⟨[u],[]⟩ [(x,u)]) /\
    ∀ base:Heap,(K w.params).In base->base.Ns mainGlobals mg->fK l.prog w (K w.params) mg base CX k fa fd [x] (sp (K w.params)))
  (hsp:∀ (K:Fg) (H:Hp) (a:Addr) (ns:List Int),ns.length<=n->CP H->SqL K H a (ns.map V.int)->sp K [.ref a] H (fun v _=>v=.bl true) fun _ _ _=>False)
  (hCX:∀ (H:Hp) (s:Shared) (e:Value) (s':Shared),CX [] H s (fun _ _ _=>False) e s'->False) :
  PySem.W.WalkO q loose XP YP l.row.toRowW d [] (fun f vs=>PySem.call f vs) :=
 xM (K:=K) (CX:=fun _=>CX) (sp:=fun w=>sp (K w.params)) hn hn2 hdf hr hY F (fun w H a ns h1 h2 h3=>hsp (K w.params) H a ns h1 h2 h3) fun _ H s e s'=>hCX H s e s'
end L2
namespace L2
open PySem PySem.Spec PyProof.Rows
noncomputable def ax (s:Stmt):Arguments:=match s with
 | .FunctionDef _ a _ _ _ _ _ _ _ _=>a
 | _=>{ posonlyargs:=[],args:=[],vararg:=none,kwonlyargs:=[],kw_defaults:=[],kwarg:=none,defaults:=[] }
noncomputable def ak (s:Stmt):List Stmt:=match s with
 | .FunctionDef _ _ b _ _ _ _ _ _ _=>b
 | _=>[]
noncomputable def ae (s:Stmt):Scope:=match s with
 | .FunctionDef _ _ _ _ _ _ sc _ _ _=>sc
 | _=>{ kind:=.function,names:=[],isGenerator:=false,isCoroutine:=false }
abbrev CX0:CXT:=fun _ _ _ _ _ _=>False
abbrev E0:XK:=fun _ _ _=>False
theorem aQ {X:Cx}:Passes CX0 X E0:=fun _ _ _ _ _ _ _ h=>h.elim
structure Fun (K:Fg) (x qual:Str) (st:Stmt) (f:Addr) (fd:FuncData):Prop where
 ex:∃ (oc:Value) (od:Option Addr) (kV doc pm:Value) (an:Option Addr) (cdv ct:Value) (osl:Array (Option Value)),
  fd=PySem.W.fnOf x qual (ax st) (ak st) (ae st) .none kV doc pm an cdv ct/\K.lookup f=some ⟨oc,od,.func fd,osl⟩/\PySem.W.codeIn K cdv qual=true
 kp:PySem.W.keepIn K (.ref f)=true
section
variable {P:Program} {w:World} {K:Fg} {mg:Str->Option Value} {base:Heap}
theorem Fun.ok {x qual:Str} {st:Stmt} {f:Addr} {fd:FuncData} {N ps:List Str} {k:Nat} {sp:Sp} (F:Fun K x qual st f fd) (S:bj N ps (ae st)) (len:∀ vs H Q E,sp vs H Q E->vs.length=ps.length)
  (hbody:∀ (cdv:Value) (A:Around) (outer:List Env) (s:Shared) (H:Hp) (vs:List V) (Q:VK) (E:XK),cP k (A.deeper (envOfC qual (ae st) s.heap.objs.size f cdv))->sp vs H Q E ->
   ∃ t,PSs (iu CX0 P w K mg base N qual (ae st) f cdv A outer s H E).nox (ak st) t/\t { nx:=fun _ H'=>Q .non H',rt:=Q } (start N vs) H):fK P w K mg base CX0 (k+1) f fd ps sp:=by
 obtain ⟨oc,od,kV,doc,pm,an,cdv,ct,osl,rfl,lk,hcd⟩:=F.ex;refine zT lk hcd S len fun A outer s H vs Q E hr hsp=>?_;obtain ⟨t,h,q⟩:=hbody cdv A outer s H vs Q E hr hsp;exact ⟨t,h.nox,q⟩
theorem Fun.binds {x qual:Str} {st:Stmt} {f:Addr} {fd:FuncData} {ps:List Str} (F:Fun K x qual st f fd)
  (h:∀ (kV doc pm:Value) (an:Option Addr) (cdv ct:Value) (us:List Value),us.length=ps.length->bindArgs (PySem.W.fnOf x qual (ax st) (ak st) (ae st) .none kV doc pm an cdv ct) ⟨us,[]⟩=pure (ps.zip us)):Binds K fd ps []:=by
 obtain ⟨oc,od,kV,doc,pm,an,cdv,ct,osl,rfl,lk,hcd⟩:=F.ex;exact .all (h kV doc pm an cdv ct)
theorem aU {x qual:Str} {st:Stmt} {f:Addr} {oc:Value} {od an:Option Addr} {osl:Array (Option Value)} {kV doc pm cdv ct:Value} (l:K.lookup f=some ⟨oc,od,.func (PySem.W.fnOf x qual (ax st) (ak st) (ae st) .none kV doc pm an cdv ct),osl⟩)
  (c:PySem.W.codeIn K cdv qual=true) (k:PySem.W.keepIn K (.ref f)=true):Fun K x qual st f (PySem.W.fnOf x qual (ax st) (ak st) (ae st) .none kV doc pm an cdv ct):=⟨⟨oc,od,kV,doc,pm,an,cdv,ct,osl,rfl,l,c⟩,k⟩
end
section
variable {X:Cx}
theorem pv (i:Nat) {x:Str} {pos:Pos} (hN:X.N[i]?=some x:=by rfl) (hv:Vis X.env.scope x:=by first | exact Or.inl rfl | exact Or.inr (Or.inl rfl) | exact Or.inr (Or.inr rfl)) (hd:(x==("__debug__" : Str))=false:=by decide)
  (hcd:(x==("__classdict__" : Str))=false:=by decide):PE X (.Name x pos) (ag i):=gS hN hv hd hcd
end
def bq (H H':Hp):Prop:=∀ b o,H b=some o->H' b=some o
theorem bq.refl (H:Hp):bq H H:=fun _ _ h=>h
theorem bq.trans {H H1 H2:Hp} (a:bq H H1) (b:bq H1 H2):bq H H2:=fun c o h=>b c o (a c o h)
theorem bq.free {H H':Hp} (e:bq H H') {l:Addr} (h:H' l=Option.none):H l=Option.none:=by
 cases q:H l with
 | none=>rfl
 | some o =>
  rw [e l o q] at h;cases h
noncomputable def lx (env:Env):List (Str×NameKind)->List (Str×Addr)->List (Str×Addr)
 | [],cs=>cs
 | (n,k) :: r,cs=>lx env r (if k==.free then (n,(env.cells.lookup n).getD 0) :: cs else cs)
theorem eK {env:Env}:∀ (ns:List (Str×NameKind)) (cs:List (Str×Addr)),(∀ y∈ns,y.2=.free->∃ c,env.cells.lookup y.1=some c) ->
  (forIn ns cs (fun (x:Str×NameKind) (r:List (Str×Addr))=>if (x.2==NameKind.free)=true then (cellOf env x.1>>=fun a=>pure (ForInStep.yield ((x.1,a) :: r)):Sem _) else pure (ForInStep.yield r)):Sem (List (Str×Addr)))=pure (lx env ns cs)
 | [],_,_=>rfl
 | (n,k) :: r,cs,h=>by
  rw [List.forIn_cons];by_cases hk:k=.free
  ·subst hk;obtain ⟨c,e⟩:=h (n,.free) Hw rfl;have e':env.cells.lookup n=some c:=e;have q:=eK (env:=env) r ((n,c) :: cs) fun y hy=>h y (Hk _ hy);have z:lx env ((n,NameKind.free) :: r) cs=lx env r ((n,c) :: cs):=by
    show lx env r (if (NameKind.free==NameKind.free)=true then (n,(env.cells.lookup n).getD 0) :: cs else cs)=_;rw [Hy (by decide),e'];rfl
   have k:cellOf env n=pure c:=by
    unfold cellOf;rw [e']
   rw [z,<-q];dsimp only;rw [Hy (by decide),k];rfl
  ·have hb:(k==NameKind.free)=false:=by simpa using hk
   have q:=eK (env:=env) r cs fun y hy=>h y (Hk _ hy);have z:lx env ((n,k) :: r) cs=lx env r cs:=by
    show lx env r (if (k==NameKind.free)=true then (n,(env.cells.lookup n).getD 0) :: cs else cs)=_;rw [hb,HC Il]
   rw [z,<-q];dsimp only;rw [hb,HC Il];rfl
theorem gD {scope:Scope} {env:Env} (h:∀ y∈scope.names,y.2=.free->∃ c,env.cells.lookup y.1=some c):closureFor scope env=pure (lx env scope.names []):=by
 have q:=eK (env:=env) scope.names [] h;unfold closureFor;show (forIn scope.names [] _>>=_:Sem _)=_;refine Eq.trans (congrArg (fun m:Sem (List (Str×Addr))=>m>>=fun r=>pure r) (Eq.trans ?_ q)) rfl;rfl
theorem lq {env:Env}:∀ (ns:List (Str×NameKind)) (cs:List (Str×Addr)),(∀ y∈ns,y.2=.free->∃ c,env.cells.lookup y.1=some c)->(∀ y c,cs.lookup y=some c->env.cells.lookup y=some c) ->
  ∀ y c,(lx env ns cs).lookup y=some c->env.cells.lookup y=some c
 | [],_,_,g,y,c,e=>g y c e
 | (n,k) :: r,cs,h,g,y,c,e=>by
  refine lq r _ (fun z hz=>h z (Hk _ hz)) (fun z d e'=>?_) y c e;by_cases hk:(k==NameKind.free)=true
  ·rw [Hy hk] at e';rw [IE] at e';obtain ⟨c',ec⟩:=h (n,k) Hw (by simpa using hk);have ec':env.cells.lookup n=some c':=ec;cases hz:z==n with
   | true =>
    rw [hz] at e';have hzn:z=n:=by simpa using hz
    subst hzn;rw [ec'] at e' ⊢;exact e'
   | false=>rw [hz] at e';exact g z d e'
  ·rw [HC hk] at e';exact g z d e'
theorem mH {env:Env} {y:Str}:∀ (ns:List (Str×NameKind)) (cs:List (Str×Addr)),(∃ c,cs.lookup y=some c)->∃ c,(lx env ns cs).lookup y=some c
 | [],_,h=>h
 | (n,k) :: r,cs,h=>by
  refine mH r _ ?_;by_cases hk:(k==NameKind.free)=true
  ·rw [Hy hk,IE];cases y==n
   ·exact h
   ·exact ⟨_,rfl⟩
  ·rw [HC hk];exact h
theorem dM {env:Env} {y:Str}:∀ (ns:List (Str×NameKind)) (cs:List (Str×Addr)),(y,NameKind.free)∈ns->∃ c,(lx env ns cs).lookup y=some c
 | [],_,h=>by simp at h
 | (n,k) :: r,cs,h=>by
  rcases Hs.mp h with e | h
  ·cases e;show ∃ c,(lx env r (if (NameKind.free==NameKind.free)=true then (y,(env.cells.lookup y).getD 0) :: cs else cs)).lookup y=some c;refine mH r _ ⟨(env.cells.lookup y).getD 0,?_⟩;rw [Hy (by decide),IE,beq_self_eq_true]
  ·exact dM r _ h
theorem bJ {env:Env} {y:Str} {k:NameKind}:∀ (ns:List (Str×NameKind)),
  (ns.map fun (n,k)=>if (k==NameKind.free&&env.scope.kind==.function&&env.kindOf n==some .cell) then (n,NameKind.cell) else (n,k)).lookup y=some k->(y,k)∈ns\/(k=.cell/\(y,NameKind.free)∈ns)
 | [],h=>by simp at h
 | (n,k') :: r,h=>by
  have ih:=fun q=>bJ (env:=env) (y:=y) (k:=k) r q;rw [List.map_cons] at h;have h2:=h;have again:=fun q=>(ih q).elim (fun q=>Or.inl (Hk (n,k') q)) fun q=>(Or.inr ⟨q.1,Hk (n,k') q.2⟩:(y,k)∈(n,k') :: r\/(k=.cell/\(y,NameKind.free)∈(n,k') :: r));dsimp only at h2;clear h;by_cases hc:(k'==NameKind.free&&env.scope.kind==.function&&env.kindOf n==some .cell)=true
  ·rw [Hy hc,IE] at h2;cases hy:y==n with
   | true =>
    rw [hy] at h2;have e1:y=n:=by simpa using hy
    have hk:k'=.free:=by
     have:=hc;simp at this;exact this.1.1
    have e2:k=.cell:=(HQ h2).symm;exact .inr ⟨e2,by rw [e1,hk];exact Hw⟩
   | false=>rw [hy] at h2;exact again h2
  ·rw [HC hc,IE] at h2;cases hy:y==n with
   | true =>
    rw [hy] at h2;have e1:y=n:=by simpa using hy
    have e2:k'=k:=HQ h2;exact .inl (by rw [e1,e2];exact Hw)
   | false=>rw [hy] at h2;exact again h2
noncomputable def cxB (X:Cx) (N':List Str) (scope:Scope) (C:Addr) (s3:Shared) (H3:Hp) (ex:List Addr):Cx :=
  { prog:=X.prog,w:=X.w,K:=X.K,mg:=X.mg,base:=X.base,A:=X.A,N:=N',s₀:=s3,H₀:=H3,env:=compEnvC scope (lx X.env scope.names []) C X.env,outer:=X.stack,stack:=X.stack,ex:=ex,
    fn:=fun _=>false,calm:=true,pn:=[],xe:=fun _ _=>False }
def fe (X:Cx) (scope:Scope):List Str->List Nat->Prop
 | [],[]=>True
 | y :: ys,j :: js=>X.N[j]?=some y/\(X.env.scope.names.lookup y=some .cell/\scope.names.lookup y=some .free)/\fe X scope ys js
 | _,_=>False
theorem fe.get {X:Cx} {scope:Scope}:∀ {ys:List Str} {js:List Nat} {k:Nat} {y:Str},fe X scope ys js->ys[k]?=some y->∃ j,js[k]?=some j/\X.N[j]?=some y/\X.env.scope.names.lookup y=some .cell/\scope.names.lookup y=some .free
 | [],_,_,_,_,e=>by simp at e
 | _ :: _,[],_,_,h,_=>False.elim h
 | y :: ys,j :: js,0,z,h,e=>by simp at e;subst e;exact ⟨j,rfl,h.1,h.2.1⟩
 | y :: ys,j :: js,k+1,z,h,e=>by
  obtain ⟨j',e1,e2⟩:=fe.get (k:=k) h.2.2 (by simpa using e);exact ⟨j',by simpa using e1,e2⟩
theorem fe.len {X:Cx} {scope:Scope}:∀ {ys:List Str} {js:List Nat},fe X scope ys js->ys.length=js.length
 | [],[],_=>rfl
 | _ :: _,_ :: _,h=>by simp [fe.len h.2.2]
 | [],_ :: _,h=>False.elim h
 | _ :: _,[],h=>False.elim h
noncomputable def bX (js:List Nat) (σ:St):St:=js.map fun j=>(σ[j]?).getD none
structure jr (X:Cx) (scope:Scope) (x:Str):Prop where
 kind:scope.kind=.function
 cells:∀ y∈scope.names,y.2≠.cell
 locs:∀ y∈scope.names,y.2=.local->scope.names.lookup y.1=some .local
 var:scope.names.lookup x=some .local
 free:∀ y∈scope.names,y.2=.free->X.env.scope.names.lookup y.1=some .cell
def PTs (X:Cx) (ifs:List Expr) (t:TT):Prop :=
 ∀ (pins:List (Addr×Obj)) (s:Shared) (σ:St) (H:Hp) (Q:Bool->Hp->Prop),Inv X pins σ H s->t σ H Q ->
  wpAny (model X.prog X.w) X.A (forIn ifs true fun c r=>if r=true then do let ok<-isTrue c X.env (eval c X.env);pure (ForInStep.yield ok) else pure (ForInStep.yield r)) (TP X pins σ Q) X.xe s
def wL:TT:=fun _ H Q=>Q true H
theorem xA {X:Cx}:PTs X [] wL:=fun _ _ _ H _ I h=>wpAny_tests_nil ⟨H,I,h⟩
theorem yi {X:Cx} {c:Expr} {t:TT} (h:PT X c t):PTs X [c] t:=fun pins s σ H Q I q=>wpAny_tests_one (h pins s σ H Q I q)
theorem qY {X:Cx} {pins:List (Addr×Obj)} {σ:St} {H:Hp} {s3:Shared} {h1:Heap} {tk:Nat} {scope:Scope} {x:Str} {ys:List Str} {js:List Nat} {ex:List Addr} (I:Inv X pins σ H s3) (hc:X.calm=true) (B:jr X scope x) (cap:fe X scope ys js)
  (hns:h1.Ns s3.heap.objs.size (fun _=>none)) (hk:∀ b o,s3.heap.get? b=some o->h1.get? b=some o)
  (hex:∀ b∈ex,b ∉ frs X.stack/\b < s3.heap.objs.size/\(∀ y c,X.env.cells.lookup y=some c->c≠b)/\X.base.get? b=none) :
  Inv (cxB X (x :: ys) scope s3.heap.objs.size s3 H ex) [] (none :: bX js σ) H { s3 with heap:=h1,toks:=tk }:=by
 have hfree:∀ y∈scope.names,y.2=.free->∃ c,X.env.cells.lookup y.1=some c:=fun y hy hf=>I.ok.has y.1 (.inl (B.free y hy hf));have sub:=lq (env:=X.env) scope.names [] hfree (fun _ _ e=>by simp at e)
 refine ⟨⟨I.ok.mod,B.kind,I.ok.glob,I.ok.blt,Hu _,fun y z c h1 h2=>I.ok.inj y z c (sub _ _ h1) (sub _ _ h2),fun y hy=>?_,fun y c hf _=>?_,fun _=>I.ok.hd hc,I.ok.frames,.inl rfl,fun b hb=>?_,fun b o e=>I.bs b o e,HA I.ok.bsz I.sz,fun b o e hb=>?_,fun b hb=>(hex b hb).1,I.stack,I.jB⟩,
  rfl,I.bare,Un.kept hk,⟨_,hns,fun i y v e1 e2 e3=>?_⟩,fun y c e=>?_,I.hok.fresh (Hu _),fun y c e=>I.fq y c (sub _ _ e),fun p hp=>absurd (show p∈([]:List (Addr×Obj)) from hp) (by simp),I.hok.kept hk,?_⟩
 ·have hy:(relabel scope X.env).names.lookup y=some .cell\/(relabel scope X.env).names.lookup y=some .free:=hy;rcases hy with hy | hy
  ·rcases bJ _ hy with q | ⟨_,q⟩
   ·exact absurd rfl (B.cells _ q)
   ·exact dM _ _ q
  ·rcases bJ _ hy with q | ⟨q,_⟩
   ·exact dM _ _ q
   ·cases q
 ·exact absurd (show false=true from hf) (by simp)
 ·exact ⟨HH (hex b hb).2.1,fun y c e=>(hex b hb).2.2.1 y c (sub _ _ e)⟩
 ·have e':X.base.get? b=some o:=e;have:=(hex b hb).2.2.2;rw [e'] at this;cases this
 ·cases i with
  | zero=>simp at e2
  | succ i =>
   have e1':ys[i]?=some y:=by simpa [cxB] using e1
   have e2':(bX js σ)[i]?=some (some v):=by simpa using e2
   obtain ⟨j,ej,en,ec,ef⟩:=cap.get e1';have e4:σ[j]?=some (some v):=by
    unfold bX at e2';rw [Hl,ej] at e2';simp only [Option.map_some,Option.some.injEq] at e2';cases q:σ[j]? with
    | none=>rw [q] at e2';cases e2'
    | some w=>rw [q] at e2';simp at e2';rw [e2']
   obtain ⟨m,hn,hl⟩:=I.loc;obtain ⟨u,r,l⟩:=hl j y v en e4 (.inr (.inl ec));refine ⟨u,r,.inr ?_⟩;rcases l with ⟨kl,_⟩ | ⟨kc,c,ecl,cell⟩
   ·have kl:X.env.scope.names.lookup y=some .local:=kl;rw [ec] at kl;cases kl
   ·have e3:(relabel scope X.env).names.lookup y=some .local\/(relabel scope X.env).names.lookup y=some .cell\/(relabel scope X.env).names.lookup y=some .free:=e3;refine ⟨?_,?_⟩
    ·rcases e3 with q | q | q
     ·rcases bJ _ q with q | ⟨q,_⟩
      ·have:=B.locs _ q rfl;rw [ef] at this;cases this
      ·cases q
     ·exact .inl q
     ·exact .inr q
    ·have mem:(y,NameKind.free)∈scope.names:=Iz ef;obtain ⟨c',ec'⟩:=dM (env:=X.env) scope.names [] mem;have:=sub _ _ ec';rw [ecl] at this;cases this;obtain ⟨o,ho,hd⟩:=cell;exact ⟨c,ec',o,hk _ _ ho,hd⟩
 ·obtain ⟨v,o,ho,hd⟩:=I.cell y c (sub _ _ e);exact ⟨v,o,hk _ _ ho,hd⟩
 ·show (none :: bX js σ).length=(x :: ys).length;rw [HD,HD,cap.len];unfold bX;rw [Hf]
def i6 (js:List Nat) (wi:TI) (tt:TT) (te:TE):TE:=fun σ H Q=>wi σ H fun J H1=>∃ W:Nat->Nat->List V->Hp->Prop,(∃ m,W 0 m [] H1)/\∀ i m acc H,W i m acc H ->
 (J.stop i H/\acc.length<=sizeLine/\∀ p,H p=none->Q (.ref p) (upd H p (.lst acc)))\/(J.go i H/\acc.length < sizeLine/\∀ x H',J.yld i H x H' ->
  tt (some x :: bX js σ) H' fun b H2=>if b=true then te (some x :: bX js σ) H2 fun y H3=>∃ m',m' < m/\W (i+1) m' (acc++[y]) H3 else ∃ m',m' < m/\W (i+1) m' acc H2)
theorem vj {M:Model} {A:Around} {α β:Type} {E E':Value->Shared->Prop} {a:α} {t:Sem α} {u:Sem β} {Q:α->Shared->Prop} {R:β->Shared->Prop} {s s':Shared} (e:t=pure a) (h:wpAny M A t Q E s) (k:Q a s->wpAny M A u R E' s'):wpAny M A u R E' s':=by
 subst e;exact fun Γ p hΓ=>k (h Γ p hΓ) Γ p hΓ
theorem pe {X:Cx} {pins:List (Addr×Obj)} {σ:St} {H:Hp} {s2:Shared} {elt iter:Expr} {x:Str} {px pos:Pos} {ifs:List Expr} {scope:Scope} {tt:TT} {te:TE} {ys:List Str} {js:List Nat} {it:Addr} {fp:List Addr} {tn:Nat->Heap->Prop} {J:It}
    {Q:VK} {E:Value->Shared->Prop} {RR:Value->Addr->Result->Shared->Prop} (hc:X.calm=true) (B:jr X scope x) (nd:(x :: ys).Nodup) (cap:fe X scope ys js)
    (ht:∀ C s3 H3 ex,PTs (cxB X (x :: ys) scope C s3 H3 ex) ifs tt) (he:∀ C s3 H3 ex,PE (cxB X (x :: ys) scope C s3 H3 ex) elt te)
    (I:Inv X pins σ H s2) (T:Turn X.prog X.w X.K (.Name x px) J fp it tn) (h0:tn 0 s2.heap) (hf:∀ b∈fp,uK X pins H b)
    (W:Nat->Nat->List V->Hp->Prop) (w0:∃ m,W 0 m [] H)
    (turn:∀ i m acc H,W i m acc H->(J.stop i H/\acc.length<=sizeLine/\∀ p,H p=none->Q (.ref p) (upd H p (.lst acc)))\/(J.go i H/\acc.length < sizeLine/\∀ x H',J.yld i H x H' ->
      tt (some x :: bX js σ) H' fun b H2=>if b=true then te (some x :: bX js σ) H2 fun y H3=>∃ m',m' < m/\W (i+1) m' (acc++[y]) H3 else ∃ m',m' < m/\W (i+1) m' acc H2))
    (hRR:∀ (D C:Addr) (H':Hp) (s':Shared) (m':Str->Option Value),s'.heap.Ns C m'->s2.heap.objs.size<=C->C≠D->H' C=none->Inv X pins σ H' s'->Q (.ref D) H'->RR (.ref D) C (.ok .next) s') :
    wpAny (model X.prog X.w) X.A (newList []) (fun acc s₃=>wpAny (model X.prog X.w) X.A (newFunctionEnv scope X.env.globals (lx X.env scope.names []) [] X.env.qual none .none (some X.env)) (fun cenv s₄ =>
      codeAny (model X.prog X.w) X.A (.compStart (.ListComp elt [⟨.Name x px,iter,ifs,0⟩] scope pos) 0 (.ref it) acc { cenv with scope:=relabel scope X.env }) (RR acc cenv.locals) s₄) E s₃) E s2:=by
  refine H9 (wpAny_newFunctionEnv B.cells (by intro y hy;simp at hy) (fun h1 hns hsb=>?_) B.kind);dsimp only at hns hsb ⊢;have hD:H s2.heap.objs.size=none:=I.hok.fresh (Hu _);generalize hH2:s2.heap.push { cls:=.type "list", dict:=none,data:=.seq ([]:List Value).toArray }=P2 at hns hsb ⊢;have hgetD:P2.get? s2.heap.objs.size=some { cls:=.type "list", dict:=none,data:=.seq ([]:List Value).toArray }:=by rw [<- hH2];exact HE _ rfl
  have hold:∀ b o,s2.heap.get? b=some o->P2.get? b=some o:=fun b o e=>by rw [<- hH2];exact Hj _ e
  have hsz:P2.objs.size=s2.heap.objs.size+1:=by rw [<- hH2,Heap.size_push]
  have I3:Inv X pins σ H { s2 with heap:=P2,toks:=s2.toks }:=I.kept hold;generalize hDe:s2.heap.objs.size=D at *;have keep1:∀ b o,P2.get? b=some o->h1.get? b=some o:=fun b o e=>hsb.extBut b o (HH (Ht e)) (Hj _ e);have hfp:∀ b∈fp,b < D:=fun b hb=>by
    obtain ⟨o,e,_⟩:=T.obj _ _ h0 b hb;rw [<- hDe];exact Ht e
  have hstk:∀ b,b≠X.env.locals->b ∉ X.fs->b ∉ frs X.stack:=fun b h1 h2 z=>(Hs.mp (I.mC b z)).elim h1 h2;have hDl:D≠X.env.locals:=fun z=>absurd I.lt (by rw [hDe,z];exact HN _);have hDfs:D ∉ X.fs:=I.CQ (by rw [hDe];exact Hu _);have hDc:∀ y c,X.env.cells.lookup y=some c->c≠D:=fun y c e z=>by
    obtain ⟨v,q⟩:=I.cell y c e;have:=q.lt;rw [z,hDe] at this;exact absurd this (HN _)
  have hex:∀ b∈D :: fp,b ∉ frs X.stack/\b < ({ s2 with heap:=P2,toks:=s2.toks }:Shared).heap.objs.size/\(∀ y c,X.env.cells.lookup y=some c->c≠b)/\X.base.get? b=none:=fun b hb=>by
    rcases Hs.mp hb with rfl | hb
    · refine ⟨hstk _ hDl hDfs,by show _ < P2.objs.size;rw [hsz];exact Jf _,hDc,?_⟩;cases q:X.base.get? b with
      | none=>rfl
      | some o =>
        have:=Ht (I.bk b o q);rw [hDe] at this;exact absurd this (HN _)
    · obtain ⟨f0,f1,f2,f3,f4,f5⟩:=hf b hb;refine ⟨hstk _ f1 f2,by show _ < P2.objs.size;rw [hsz];exact IJ (hfp b hb),f4,?_⟩;cases q:X.base.get? b with
      | none=>rfl
      | some o =>
        rcases f3 with z | z
        · exact absurd z (I.ok.wI b o q)
        · exact absurd (Hx (Ht q) (HA I.ok.bsz z)) (HN _)
  have IB:=qY (tk:=s2.toks) (ex:=D :: fp) I3 hc B cap (h1:=h1) hns keep1 hex;have hCD:P2.objs.size≠D:=by rw [hsz];exact Nat.succ_ne_self _
  have start:codeAny (model X.prog X.w) X.A (.compLoop (.ListComp elt [⟨.Name x px,iter,ifs,0⟩] scope pos) 0 (.ref it) (.ref D) (compEnvC scope (lx X.env scope.names []) P2.objs.size X.env)) (RR (.ref D) P2.objs.size) { s2 with heap:=h1,toks:=s2.toks }:=by
    obtain ⟨m0,w0⟩:=w0;refine codeAny_compLoop_tests (fun n s=>∃ i v0 H' acc its k,Inv (cxB X (x :: ys) scope P2.objs.size { s2 with heap:=P2,toks:=s2.toks } H (D :: fp)) [] (v0 :: bX js σ) H' s/\tn i s.heap/\(∀ b∈D :: fp,H' b=none)/\s.heap.get? D=some { cls:=.type "list", data:=.seq its k }/\Vals acc its.toList/\acc.length<=sizeLine/\W i n acc H') ?_ m0 ?_
    · rintro n s ⟨i,v0,H3,acc,its,k,I4,t4,fr4,g4,va,hl4,w4⟩;have hDm:D∈D :: fp:=Hw;have exf:=I4.ok.exf;have fsub:∀ b∈D :: fp,b ∉ (cxB X (x :: ys) scope P2.objs.size { s2 with heap:=P2,toks:=s2.toks } H (D :: fp)).fs:=fun b hb=>(hex b hb).1;have stat:∀ {H':Hp} {ob:Obj},(∀ b∈fp,H' b=none)->∀ b∈fp,uK (cxB X (x :: ys) scope P2.objs.size { s2 with heap:=P2,toks:=s2.toks } H (D :: fp)) [(D,ob)] H' b:=fun {H' ob} hn b hb =>
        ⟨hn b hb,(exf b (Hk _ hb)).1,fsub b (Hk _ hb),.inl (Hk _ hb),(exf b (Hk _ hb)).2,fun p hp z=>by
          have hp':p∈[(D,ob)]:=hp;have e:=Hm.mp hp';rw [e] at z
          exact absurd (hfp b hb) (by rw [<- show D=b from z];exact HN _)⟩
      have frp:∀ b∈fp,H3 b=none:=fun b hb=>fr4 b (Hk _ hb);have I5:Inv (cxB X (x :: ys) scope P2.objs.size { s2 with heap:=P2,toks:=s2.toks } H (D :: fp)) [(D,{ cls:=.type "list", data:=.seq its k })] (v0 :: bX js σ) H3 s:=I4.dU fun p hp=>by
        rw [Hm.mp hp];exact ⟨g4,fr4 D hDm,(exf D hDm).1,fsub D hDm,fun v z=>nomatch z⟩
      rcases turn i n acc H3 w4 with ⟨stop,hacc,q⟩ | ⟨go,hacc,step⟩
      · refine HP (T.done (cxB X (x :: ys) scope P2.objs.size { s2 with heap:=P2,toks:=s2.toks } H (D :: fp)) rfl rfl rfl rfl i _ s _ H3 (fun _ _=>False) I5 (stat frp) t4 stop) (fun r s1 ⟨hr,I6⟩=>?_) (fun _ _ z=>z.elim);subst hr;obtain ⟨m',hn',_⟩:=id I6.loc;have pD:=(I6.pin (D,{ cls:=.type "list", data:=.seq its k }) (Hz _ (Hm.mpr rfl))).1;have nD:H3 D=none:=fr4 D hDm;have u:=I6.base;have uu:Un (frs X.stack) (D :: fp) H (upd H3 D (.lst acc)) P2 s1.heap :=
          ⟨u.keep,u.slot,fun b o q n hx=>by rw [aC fun z=>hx (by rw [z];exact hDm)];exact u.free b o q n hx,u.there,
           fun b xs q=>by rw [aC (aG (u.m4 b xs q) nD)];exact u.m4 b xs q,fun b o v q=>by rw [aC (aG (u.lz b o v q) nD)];exact u.lz b o v q,
           fun b ps q=>by
            obtain ⟨more,z⟩:=u.pZ b ps q
            exact ⟨more,by rw [aC (aG z nD)];exact z⟩⟩
        have hok:HOk X.prog X.w (upd H3 D (.lst acc)) s1.heap:=fun b o e=>by
          by_cases hb:b=D
          · subst hb;rw [ay] at e;cases e;exact ⟨hacc,its.toList,k,va,by rw [Jj];exact pD⟩
          · rw [aC hb] at e;exact (I6.hok b o e).jL (fun c v _ q=>q) (fun c q=>by rw [aC (aG q nD)];exact q) fun c xs q=>by rw [aC (aG q nD)];exact q
        have fin:=I3.call (g':=s1.gens) (t':=s1.toks) (d':=s1.drawn) uu hok I6.bare (fun b hb=>by
          rcases Hs.mp hb with z | hb
          · rw [z];refine ⟨.inr (by rw [<- hDe];exact I.sz),hDl,hDc,fun p hp z=>?_⟩;have:=Ht (I.pin p hp).1;rw [z,hDe] at this;exact HN _ this
          · exact ⟨(hf b hb).2.2.2.1,(hf b hb).2.1,(hf b hb).2.2.2.2.1,(hf b hb).2.2.2.2.2⟩)
        have es:({ heap:=s1.heap,gens:=s1.gens,drawn:=s1.drawn,toks:=s1.toks,os:=s2.os }:Shared)=s1:=by
          have:=I6.os;obtain ⟨a1,a2,a3,a4,a5⟩:=s1;have e5:a5=s2.os:=this;rw [e5]
        have fin':Inv X pins σ (upd H3 D (.lst acc)) s1:=es▸fin;exact hRR D P2.objs.size (upd H3 D (.lst acc)) s1 m' hn' (by rw [hsz];exact IP _) hCD (by rw [aC hCD];exact I6.free) fin' (q D nD)
      · refine HP (T.item (cxB X (x :: ys) scope P2.objs.size { s2 with heap:=P2,toks:=s2.toks } H (D :: fp)) rfl rfl rfl rfl i _ s _ H3 (fun _ _=>False) I5 (stat frp) t4 go) (fun r s1 ⟨u,hr,h4⟩=>?_) (fun _ _ z=>z.elim);subst hr;refine vj (a:=()) rfl h4 fun ⟨x',H5,I6,r6,y6,t6,fr6⟩=>?_;have I7:=I6.pinned (stat fr6) (T.obj _ _ t6);have kx:(relabel scope X.env).names.lookup x=some .local:=lookup_relabel_local B.var;have pg:PG (cxB X (x :: ys) scope P2.objs.size { s2 with heap:=P2,toks:=s2.toks } H (D :: fp)) (.Name x px) (ar 0):=je nd rfl (.inl kx) (.inr kx);refine HP (pg _ s1 _ H5 x' u (fun σ' H'=>σ'=some x' :: bX js σ/\H'=H5) I7 r6 ⟨rfl,rfl⟩) (fun _ s2' ⟨σ6,H6,I8,e1,e2⟩=>?_) (fun _ _ z=>z.elim);subst e1 e2;refine HP (ht _ _ _ _ _ s2' _ _ _ I8 (step x' H6 y6)) (fun b s3' ⟨H7,I9,q9⟩=>?_) (fun _ _ z=>z.elim);have pinsKeep:∀ {σ':St} {H':Hp} {s':Shared},Inv (cxB X (x :: ys) scope P2.objs.size { s2 with heap:=P2,toks:=s2.toks } H (D :: fp)) ([(D,{ cls:=.type "list", data:=.seq its k })]++jT fp s1.heap) σ' H' s' ->
            s'.heap.get? D=some { cls:=.type "list", data:=.seq its k }/\(∀ b∈D :: fp,H' b=none)/\∀ b∈fp,∀ o,s1.heap.get? b=some o->s'.heap.get? b=some o:=fun {σ' H' s'} J=>by
          have pd:=J.pin (D,{ cls:=.type "list", data:=.seq its k }) (Hz _ (Ji _ (Hm.mpr rfl)));refine ⟨pd.1,fun b hb=>?_,fun b hb o e=>(J.pin (b,o) (Hz _ (Hz _ (cF hb e)))).1⟩;rcases Hs.mp hb with rfl | hb
          · exact pd.2.1
          · obtain ⟨o,e,_⟩:=T.obj _ _ t6 b hb;exact (J.pin (b,o) (Hz _ (Hz _ (cF hb e)))).2.1
        cases b with
        | false =>
          rw [HC Il] at q9;obtain ⟨m',hm,w9⟩:=q9;obtain ⟨p1,p2,p3⟩:=pinsKeep I9;rw [HC Il];exact ⟨m',hm,i+1,some x',H7,acc,its,k,I9.dU (fun p hp=>absurd hp (by simp)),T.keep _ _ _ t6 p3,p2,p1,va,hl4,w9⟩
        | true =>
          rw [Hy rfl] at q9;rw [Hy rfl];refine HP (he _ _ _ _ _ s3' _ _ _ I9 q9) (fun y s4' ⟨yv,H8,I10,ry,m',hm,w10⟩=>?_) (fun _ _ z=>z.elim);obtain ⟨p1,p2,p3⟩:=pinsKeep I10;have hsize:its.size=acc.length:=by rw [va.length];simp
          have I11:=I10.dU (pins':=[]) (fun p hp=>absurd hp (by simp));refine wpAny_list_append_plain ⟨k,p1⟩ (fun h' hpl hsame=>?_) (by rw [hsize];exact Jo hacc);obtain ⟨k',e'⟩:=hpl;have neD:∀ {b:Addr} {o:HO},H8 b=some o->b≠D:=fun e z=>by rw [z,p2 D hDm] at e;cases e
          refine ⟨m',hm,i+1,some x',H8,acc++[yv],its.push y,k',?_,?_,p2,e',?_,?_,w10⟩
          · refine I11.step (g':=s4'.gens) (t':=s4'.toks) (d':=s4'.drawn) (ch:=[D]) (fun b hb=>?_) (fun b o _ _ hc' e _=>?_) (fun b o _ _ hc' e _=>⟨o.slots,?_⟩) (fun b o hc' e n=>n) (fun b o hc' e=>⟨o,?_⟩) (fun _ _ z=>z) (fun _ _ _ z=>z) (fun b ps z=>⟨#[],by rw [z];simp⟩) (fun m hn=>hn.sameBut hsame (Ne.symm (exf D hDm).1)) (fun b o e=>?_) I11.bare
            · rw [Hm.mp hb];exact ⟨.inl hDm,(exf D hDm).1,(exf D hDm).2,fun p hp=>absurd (show p∈([]:List (Addr×Obj)) from hp) (by simp)⟩
            · exact (hsame.2 b fun z=>hc' (Hm.mpr z)).trans e
            · exact (hsame.2 b fun z=>hc' (Hm.mpr z)).trans e
            · exact (hsame.2 b fun z=>hc' (Hm.mpr z)).trans e
            · refine (I11.hok b o e).jL (fun c v hc' q=>(hsame.2 c ?_).trans q) (fun _ q=>q) fun _ _ q=>q;rcases hc' with z | z
              · rw [z];exact neD e
              · exact neD z
          · refine T.keep _ _ _ t6 fun b hb o e=>(hsame.2 b ?_).trans (p3 b hb o e);exact HH (hfp b hb)
          · rw [Jd];exact va.append (.cons ry .nil)
          · rw [Ho,List.length_singleton];exact hacc
    · refine ⟨0,none,H,[],#[],_,IB,T.keep _ _ _ h0 (fun b hb o e=>keep1 b o (hold b o e)),fun b hb=>?_,keep1 _ _ hgetD,.nil,Iw _,w0⟩;rcases Hs.mp hb with rfl | hb
      · exact hD
      · exact (hf b hb).1
  exact codeAny_compStart_list start (T.self _ 0 _ _ _ (T.keep _ _ _ h0 (fun b hb o e=>keep1 b o (hold b o e))) start)
theorem zw {X:Cx} {elt iter:Expr} {x:Str} {px pos:Pos} {ifs:List Expr} {scope:Scope} {wi:TI} {tt:TT} {te:TE} {ys:List Str} {js:List Nat} (hc:X.calm=true) (hi:PI X (.Name x px) iter wi) (B:jr X scope x) (nd:(x :: ys).Nodup) (cap:fe X scope ys js)
  (ht:∀ C s3 H3 ex,PTs (cxB X (x :: ys) scope C s3 H3 ex) ifs tt) (he:∀ C s3 H3 ex,PE (cxB X (x :: ys) scope C s3 H3 ex) elt te) (hs:∀ x,foldedSetIterable iter X.env x=pure x:=by intro _;rfl) :
  PE X (.ListComp elt [⟨.Name x px,iter,ifs,0⟩] scope pos) (i6 js wi tt te):=by
 intro pins s σ H Q I h;have hcl:=gD (scope:=scope) (env:=X.env) fun y hy hf=>I.ok.has y.1 (.inl (B.free y hy hf));rw [eval_ListComp];refine wpAny_comprehension_free (use:=none) rfl hs hcl B.kind B.locs (HP (hi pins s σ H _ I h) (fun xv s1 h1=>HP h1 (fun itv s2 h2=>?_) fun _ _ e=>e) fun _ _ e=>e);obtain ⟨it,fp,tn,J,H2,e,I2,T,st2,f2,W,w0,turn⟩:=h2;subst e;refine pe (RR:=fun acc C=>compPost (model X.prog X.w) X.A X.xe none (EP X pins σ Q) acc C) hc B nd cap ht he I2 T st2 f2 W w0 turn ?_;intro D C H' s' m' hn hC hCD hCn I' q;refine ⟨m',hn,fun h' hs'=>⟨.ref D,H',?_,rfl,q⟩⟩;have hL:X.env.locals≠C:=HH (Hx I2.lt hC);have neC:∀ {b:Addr} {o:HO},H' b=some o->b≠C:=fun e z=>by rw [z,hCn] at e;cases e
 refine I'.step (g':=s'.gens) (t':=s'.toks) (d':=s'.drawn) (ch:=[C]) (fun b hb=>?_) (fun b o _ _ hc' e _=>?_) (fun b o _ _ hc' e _=>⟨o.slots,?_⟩) (fun b o hc' e n=>n) (fun b o hc' e=>⟨o,?_⟩) (fun _ _ z=>z) (fun _ _ _ z=>z) (fun b ps z=>⟨#[],by rw [z];simp⟩) (fun m hn=>hn.sameBut hs' hL) (fun b o e=>?_) I'.bare
 ·rw [Hm.mp hb];refine ⟨.inr (HA I2.sz hC),Ne.symm hL,fun y c e z=>?_,fun p hp z=>?_⟩
  ·obtain ⟨v,q⟩:=I2.cell y c e;have:=q.lt;rw [z] at this;exact absurd (Hx this hC) (HN _)
  ·have:=Ht (I2.pin p hp).1;rw [z] at this;exact absurd (Hx this hC) (HN _)
 ·exact (hs'.2 b fun z=>hc' (Hm.mpr z)).trans e
 ·exact (hs'.2 b fun z=>hc' (Hm.mpr z)).trans e
 ·exact (hs'.2 b fun z=>hc' (Hm.mpr z)).trans e
 ·refine (I'.hok b o e).jL (fun c v hc' q=>(hs'.2 c ?_).trans q) (fun _ q=>q) fun _ _ q=>q;rcases hc' with z | z
  ·rw [z];exact neC e
  ·exact neC z
theorem xU {X:Cx} {elt iter:Expr} {x y:Str} {px py pos spos:Pos} {ifs:List Expr} {scope:Scope} {wi:TI} {tt:TT} {te:TE} {ys:List Str} {js:List Nat} {i:Nat} (hN:X.N.Nodup) (hi':X.N[i]?=some y) (hy:X.env.scope.names.lookup y=some .local)
  (hsw:swapsWith (.ListComp elt [⟨.Name x px,iter,ifs,0⟩] scope pos) (some (.Name y py)) spos.line X.env=pure true) (hc:X.calm=true) (hi:PI X (.Name x px) iter wi) (B:jr X scope x) (nd:(x :: ys).Nodup) (cap:fe X scope ys js)
  (ht:∀ C s3 H3 ex,PTs (cxB X (x :: ys) scope C s3 H3 ex) ifs tt) (he:∀ C s3 H3 ex,PE (cxB X (x :: ys) scope C s3 H3 ex) elt te) (hs:∀ x,foldedSetIterable iter X.env x=pure x:=by intro _;rfl) :
  PS X (.Assign [.Name y py] (.ListComp elt [⟨.Name x px,iter,ifs,0⟩] scope pos) spos) (bF (i6 js wi tt te) (ar i)):=by
 intro pins s σ H Dn I h;have hcl:=gD (scope:=scope) (env:=X.env) fun y hy hf=>I.ok.has y.1 (.inl (B.free y hy hf));rw [exec_Assign_Name_used _ _ _ _ hsw];refine He (wpAny_standAt (He ?_));show wpAny _ X.A (do let _<-comprehension (.ListComp elt [⟨.Name x px,iter,ifs,0⟩] scope pos) scope X.env _ (newList []) false (eval iter X.env) (some (assign (.Name y py) X.env))) _ _ s
 refine He (HP (wpAny_comprehension_free (use:=some (assign (.Name y py) X.env)) (Q:=fun _ s'=>SP X pins Dn .next s') rfl hs hcl B.kind B.locs
  (HP (hi pins s σ H _ I h) (fun xv s1 h1=>HP h1 (fun itv s2 h2=>?_) fun _ _ e=>e) fun _ _ e=>e)) (fun _ s' hq=>Hg (Hg hq)) fun _ _ e=>e)
 obtain ⟨it,fp,tn,J,H2,e,I2,T,st2,f2,W,w0,turn⟩:=h2;subst e;refine pe (Q:=fun x H1=>ar i x σ H1 Dn.nx) (RR:=fun acc C=>compPost (model X.prog X.w) X.A X.xe (some (assign (.Name y py) X.env)) (fun _ s'=>SP X pins Dn .next s') acc C) hc B nd cap ht he I2 T st2 f2 W w0 turn ?_;intro D C H' s' m' hn hC hCD hCn I' q;have hL:X.env.locals≠C:=HH (Hx I2.lt hC);have hCfs:C ∉ X.fs:=I2.CQ hC;obtain ⟨oC,esC,epC,hoC,hdC,restC⟩:=id hn;have I'':Inv X (pins++[(C,oC)]) σ H' s':=I'.dU fun p hp=>by
  rcases IH.mp hp with z | z
  ·exact I'.pin p (Hz _ z)
  ·rw [Hm.mp z];exact ⟨hoC,hCn,Ne.symm hL,hCfs,fun v z=>by rw [hdC] at z;cases z⟩
 show wpAny _ X.A (assign (.Name y py) X.env (.ref D)) _ _ _;refine HP (je (pos:=py) hN hi' (.inl hy) (.inr hy) _ s' σ H' (.ref D) (.ref D) Dn.nx I'' rfl q) (fun _ s3 ⟨σ3,H3,I3,q3⟩=>?_) fun _ _ e=>e;have pC:=I3.pin (C,oC) (Hz _ (Hz _ (Hm.mpr rfl)));have hn3:s3.heap.Ns C m':=⟨oC,esC,epC,pC.1,hdC,restC⟩;have hCn3:H3 C=none:=pC.2.1;refine ⟨m',hn3,fun h' hs'=>⟨σ3,H3,?_,q3⟩⟩;have I4:=I3.iG;have neC:∀ {b:Addr} {o:HO},H3 b=some o->b≠C:=fun e z=>by rw [z,hCn3] at e;cases e
 refine I4.step (g':=s3.gens) (t':=s3.toks) (d':=s3.drawn) (ch:=[C]) (fun b hb=>?_) (fun b o _ _ hc' e _=>?_) (fun b o _ _ hc' e _=>⟨o.slots,?_⟩) (fun b o hc' e n=>n) (fun b o hc' e=>⟨o,?_⟩) (fun _ _ z=>z) (fun _ _ _ z=>z) (fun b ps z=>⟨#[],by rw [z];simp⟩) (fun m hn=>hn.sameBut hs' hL) (fun b o e=>?_) I4.bare
 ·rw [Hm.mp hb];refine ⟨.inr (HA I2.sz hC),Ne.symm hL,fun y c e z=>?_,fun p hp z=>?_⟩
  ·obtain ⟨v,q⟩:=I2.cell y c e;have:=q.lt;rw [z] at this;exact absurd (Hx this hC) (HN _)
  ·have:=Ht (I2.pin p hp).1;rw [z] at this;exact absurd (Hx this hC) (HN _)
 ·exact (hs'.2 b fun z=>hc' (Hm.mpr z)).trans e
 ·exact (hs'.2 b fun z=>hc' (Hm.mpr z)).trans e
 ·exact (hs'.2 b fun z=>hc' (Hm.mpr z)).trans e
 ·refine (I4.hok b o e).jL (fun c v hc' q=>(hs'.2 c ?_).trans q) (fun _ q=>q) fun _ _ q=>q;rcases hc' with z | z
  ·rw [z];exact neC e
  ·exact neC z
def Its (x:Str):It:=⟨fun i _=>i < x.length,fun i H v H'=>H'=H/\∃ c,x.cps[i]?=some c/\v=.str ⟨#[c]⟩,fun i _=>x.length<=i⟩
def G1 (tl:TE):TI:=fun σ H R=>tl σ H fun x H1=>∃ z,x=.str z/\R (Its z) H1
section
variable {X:Cx}
theorem rO:OpR X (compareOp .LtE) (fun x y H Q=>∃ i j,x=.str i/\y=.str j/\Q (.bl (!(decide (j.cps.toList < i.cps.toList)))) H):=by
 intro pins s σ H x y v u Q I rx ry h;obtain ⟨i,j,rfl,rfl,q⟩:=h;obtain ⟨t,rfl⟩:=rx;obtain ⟨t',rfl⟩:=ry;exact P.le_str ⟨.bl _,H,I,rfl,q⟩
theorem OpR.or' {f:Value->Value->Sem Value} {r r':R2} (h:OpR X f r) (h':OpR X f r'):OpR X f (fun x y H Q=>r x y H Q\/r' x y H Q):=by
 intro pins s σ H x y v u Q I rx ry q;rcases q with q | q
 ·exact h pins s σ H x y v u Q I rx ry q
 ·exact h' pins s σ H x y v u Q I rx ry q
theorem uP:OpR X (binaryOp .FloorDiv) (rI (fun _ j=>0 < j/\j.natAbs.log2 < 9000) fun i j=>.int (i / j)):=opI fun i j _ _ _ _ _ hc q=>by
 have h1:(0:Int) < j:=hc.1;exact floordiv_int (by omega) (by rw [Int.fdiv_eq_ediv_of_nonneg i (by omega)];exact q) (.inl (PyProof.noPylong_of_log2 hc.2))
noncomputable def ly (x:Str) (lo hi:Option Int):Str:=⟨((x.cps.toList.drop (HT.sIx x.length 0 lo)).take (HT.sIx x.length x.length hi - HT.sIx x.length 0 lo)).toArray⟩
theorem E4 (lo hi:Option Int) (n:Nat):Builtin.Str.strSliceIndices lo hi 1 n=(List.range (HT.sIx n n hi - HT.sIx n 0 lo)).map (HT.sIx n 0 lo+·):=by
 rw [<- sliceRange_one];unfold Builtin.Str.strSliceIndices;dsimp only;have h1:(1:Int) > 0:=by decide
 have e0:(match lo with | none=>(if (1:Int) > 0 then 0 else (n:Int) - 1) | some i=>if (1:Int) > 0 then max 0 (min (if i < 0 then i+(n:Int) else i) (n:Int)) else max (-1) (min (if i < 0 then i+(n:Int) else i) ((n:Int) - 1)))=((HT.sIx n 0 lo:Nat):Int):=by
  cases lo with
  | none=>simp [HT.sIx]
  | some i =>
   simp only [HT.sIx,h1,Jt];by_cases h:i < 0
   ·simp only [h,Jt] <;> omega
   ·simp only [h,if_false] <;> omega
 have e1:(match hi with | none=>(if (1:Int) > 0 then (n:Int) else -1) | some i=>if (1:Int) > 0 then max 0 (min (if i < 0 then i+(n:Int) else i) (n:Int)) else max (-1) (min (if i < 0 then i+(n:Int) else i) ((n:Int) - 1)))=((HT.sIx n n hi:Nat):Int):=by
  cases hi with
  | none=>simp [HT.sIx]
  | some i =>
   simp only [HT.sIx,h1,Jt];by_cases h:i < 0
   ·simp only [h,Jt] <;> omega
   ·simp only [h,if_false] <;> omega
 rw [<- e0,<-e1];cases lo <;> cases hi <;> rfl
theorem o7 (n:Nat) (v:Option Int):HT.sIx n n v<=n/\HT.sIx n 0 v<=n:=by
 cases v with
 | none=>simp [HT.sIx]
 | some i =>
  simp only [HT.sIx];split <;> omega
def mz:V->Option Int->Option Int->Hp->VK->Prop:=fun x lo hi H Q=>∃ z,x=.str z/\z.length<=sizeLine/\Q (.str (ly z lo hi)) H
theorem cN (x:Str) (lo hi:Option Int):(ly x lo hi).length<=x.length:=by
 have e:x.cps.toList.length=x.length:=by simp [Str.length]
 show (((x.cps.toList.drop _).take _).toArray).size<=x.length;rw [HB,HW,Ik,e];omega
theorem cG:SlR X mz:=by
 intro pins s σ H x v vl vu lo hi sl Q I rx hs pl pu h;obtain ⟨z,rfl,hz,q⟩:=h;obtain ⟨t,rfl⟩:=rx;refine ⟨"str", _,F.slot_str_getitem.lookup,typeIs_str _ _ _,?_⟩;obtain ⟨l,el,el'⟩:∃ l:Option (Int×Tok),l.map (·.1)=lo/\vl=partValue l:=by
  cases pl with
  | none=>exact ⟨none,rfl,rfl⟩
  | int i t=>exact ⟨some (i,t),rfl,rfl⟩
 obtain ⟨u,eu,eu'⟩:∃ l:Option (Int×Tok),l.map (·.1)=hi/\vu=partValue l:=by
  cases pu with
  | none=>exact ⟨none,rfl,rfl⟩
  | int i t=>exact ⟨some (i,t),rfl,rfl⟩
 subst el' eu';obtain ⟨o,h1,h2,h3⟩:=hs;refine wpAny_getItem_str_slice (l:=l) (u:=u) (st:=none) ⟨o,h1,h2,h3⟩ rfl ?_;have pk:slicePicked z l u none=(List.range (HT.sIx z.length z.length hi - HT.sIx z.length 0 lo)).map (HT.sIx z.length 0 lo+·):=by
  rw [<- E4,<-el,<-eu];rfl
 have ez:z.cps.toList.length=z.length:=by simp [Str.length]
 have cut:(⟨((slicePicked z l u none).filterMap (z.cps[·]?)).toArray⟩:Str)=ly z lo hi:=by
  rw [pk,pick_run];rfl
 unfold sliceMade;split
 ·rename_i hc;have hl:(slicePicked z l u none).length=z.length:=by
   have:=(Bool.and_eq_true_iff.mp hc).2;simpa using this
  rw [pk,Hf,Iy] at hl;have b1:=o7 z.length hi;have b2:=o7 z.length lo;have h0:HT.sIx z.length 0 lo=0\/z.length=0:=by omega
  have e:ly z lo hi=z:=by
   unfold ly;rcases h0 with h0 | h0
   ·rw [h0,List.drop_zero,Io (by omega)]
   ·have hn:z.cps.toList=[]:=List.eq_nil_of_length_eq_zero (by omega);rw [hn];have:z.cps=#[]:=by
     have:=congrArg List.toArray hn;simpa using this
    obtain ⟨c⟩:=z;simp only at this;subst this;simp
  rw [e] at q;exact ⟨.str z,H,I,⟨t,rfl⟩,q⟩
 ·rw [cut];exact ⟨HA (cN _ _ _) hz,⟨.str _,H,I.tok _,⟨_,rfl⟩,q⟩⟩
end
mutual
def Dn (p:Addr) (H:Hp):PyData->V->Prop
 | .none,v=>v=.non
 | .bool b,v=>v=.bl b
 | .int i,v=>v=.int i
 | .str x,v=>v=.str x
 | .list ds,v=>∃ a xs,v=.ref a/\a≠p/\H a=some (.lst xs)/\DnL p H ds xs
 | .tuple ds,v=>∃ a xs,v=.ref a/\a≠p/\H a=some (.tup xs)/\DnL p H ds xs
 | .dict kvs,v=>kvs=[]/\∃ a,v=.ref a/\a≠p/\H a=some (.dK [])
def DnL (p:Addr) (H:Hp):List PyData->List V->Prop
 | [],vs=>vs=[]
 | d :: ds,vs=>∃ v r,vs=v :: r/\Dn p H d v/\DnL p H ds r
end
open PySem PySem.Spec PyProof.Rows
def rOr (r r':R2):R2:=fun x y H Q=>r x y H Q\/r' x y H Q
def fo (r r':V->Option Int->Option Int->Hp->VK->Prop):V->Option Int->Option Int->Hp->VK->Prop:=fun x l u H Q=>r x l u H Q\/r' x l u H Q
def AB:R2:=fun x y H Q=>∃ i j,x=.str i/\y=.str j/\i.length+j.length<=sizeLine/\Q (.str (i++j)) H
def Gi:R2:=fun x y H Q=>∃ i j,x=.str i/\y=.str j/\Q (.bl (decide (i.cps.toList < j.cps.toList))) H
def F7:R2:=fun x y H Q=>∃ i j,x=.str i/\y=.str j/\Q (.bl (!(decide (j.cps.toList < i.cps.toList)))) H
def GZ:R2:=fun x y H Q=>∃ i j,x=.str i/\y=.str j/\Q (.bl (!(Builtin.Str.occurrences j i 0 j.length 1).isEmpty)) H
def yd:R2:=fun x y H Q=>∃ i j,x=.str i/\y=.str j/\Q (.bl (!(!(Builtin.Str.occurrences j i 0 j.length 1).isEmpty))) H
def BH (K:Fg):List V->Hp->VK->Prop:=fun xs H Q=>∃ x n,xs=[x]/\FP K x H n/\Q (.int n) H
def DF:List V->Hp->VK->Prop:=fun xs H Q=>∃ i,xs=[.int i]/\Q (.int (if i < 0 then -i else i)) H
section
variable {X:Cx}
theorem orR {f:Value->Value->Sem Value} {r r':R2} (h:OpR X f r) (h':OpR X f r'):OpR X f (rOr r r'):=OpR.or' h h'
theorem orS {r r':V->Option Int->Option Int->Hp->VK->Prop} (h:SlR X r) (h':SlR X r'):SlR X (fo r r'):=SlR.or h h'
theorem zm:OpR X (binaryOp .Add) AB:=qD
theorem BN:OpR X (compareOp .Lt) Gi:=uh
theorem CM:OpR X (compareOp .LtE) F7:=rO
theorem Bj:OpR X (compareOp .In) GZ:=tH
theorem sM:OpR X (compareOp .NotIn) yd:=lE
theorem q0:bN X (.builtin "len") (BH X.K):=vI
theorem sg:bN X (.builtin "abs") DF:=vz
end
end L2
namespace L2
open PySem
noncomputable def oY (sc scope:Scope) (x:Str):Bool :=
 (scope.kind==.function)&&scope.names.all (fun y=>y.2 != .cell)&&scope.names.all (fun y=>y.2 != .local||scope.names.lookup y.1==some .local)&&(scope.names.lookup x==some .local)&&scope.names.all (fun y=>y.2 != .free||sc.names.lookup y.1==some .cell)
theorem bsc {X:Cx} {sc scope:Scope} {x:Str} (e:X.env.scope=sc) (h:oY sc scope x=true):jr X scope x:=by
 unfold oY at h;simp only [HK,List.all_eq_true,Bool.or_eq_true,bne_iff_ne,IF,ne_eq] at h;obtain ⟨⟨⟨⟨h1,h2⟩,h3⟩,h4⟩,h5⟩:=h;exact ⟨h1,fun y hy=>h2 y hy,fun y hy e=>(h3 y hy).resolve_left fun z=>z e,h4,fun y hy e'=>by rw [e];exact (h5 y hy).resolve_left fun z=>z e'⟩
end L2
namespace L2
open PySem
theorem bT {e:Expr} {es:List Expr} {env:Env} (h:PySem.W.isStarred e=false):starEach (e :: es) env=(false,eval e env) :: starEach es env:=by
 cases e <;> first | rfl | exact absurd h (by simp [PySem.W.isStarred])
theorem cJ {pos:Pos} {env:Env}:∀ {es:List Expr},es.all (fun e=>!PySem.W.isStarred e)=true->(backTo pos (starEach es env)).any (·.1)=false
 | [],_=>rfl
 | e :: es,h=>by
  rw [List.all_cons,HK] at h;rw [bT (by simpa using h.1)];have ih:=cJ (pos:=pos) (env:=env) h.2;unfold backTo at ih ⊢;rw [List.map_cons,Jw,ih];rfl
structure JE (X:Cx) (e:Expr) (t:TE):Prop where
 h:PE X e t
structure JT (X:Cx) (e:Expr) (t:TT):Prop where
 h:PT X e t
structure JW (X:Cx) (e:Expr) (t:TT):Prop where
 h:PW X e t
structure JA (X:Cx) (es:List Expr) (t:TA):Prop where
 h:PA X es t
structure JS (X:Cx) (s:Stmt) (t:TS):Prop where
 h:PS X s t
structure JSs (X:Cx) (s:List Stmt) (t:TS):Prop where
 h:PSs X s t
structure JG (X:Cx) (e:Expr) (t:TG):Prop where
 h:PG X e t
structure JI (X:Cx) (tg e:Expr) (t:TI):Prop where
 h:PI X tg e t
structure JO (X:Cx) (e:Option Expr) (t:TO):Prop where
 h:PO X e t
structure JC (X:Cx) (N:List Str) (scope:Scope) (e:Expr) (t:TE):Prop where
 h:∀ C s3 H3 ex,PE (cxB X N scope C s3 H3 ex) e t
structure JTs (X:Cx) (N:List Str) (scope:Scope) (e:List Expr) (t:TT):Prop where
 h:∀ C s3 H3 ex,PTs (cxB X N scope C s3 H3 ex) e t
structure JP (X:Cx) (pos:Pos) (ks:List (Option Expr)) (vs:List Expr) (t:List (TE×TE)):Prop where
 h:PPs X pos ks vs t
section
variable {X:Cx} {e a b c:Expr} {es rest:List Expr} {te ta tb tc:TE} {tA tB':TT} {t:TA} {x:Str} {p pos:Pos} {id T:String} {r:List V->Hp->VK->Prop} {CX:CXT} {k:Nat} {f:Addr} {fd:FuncData} {ps:List Str} {sp:Sp} {ds:List Value} {dvs:List V} {E:XK}
theorem ah (i:Nat) (hN:X.N[i]?=some x) (hv:Vis X.env.scope x) (hd:(x==("__debug__" : Str))=false) (hcd:(x==("__classdict__" : Str))=false):JE X (.Name x pos) (ag i):=⟨gS hN hv hd hcd⟩
theorem aq {i j}:JE X (.Constant (.int i) j pos) (tC (.int i)):=⟨z8⟩
theorem eBl {b j}:JE X (.Constant (.bool b) j pos) (tC (.bl b)):=⟨FE⟩
theorem j6 {j}:JE X (.Constant .none j pos) (tC .non):=⟨AL⟩
theorem bh {x j}:JE X (.Constant (.str x) j pos) (tC (.str x)):=⟨Ai⟩
theorem ao:JA X [] aj:=⟨rH⟩
theorem eA (ha:JE X e te) (hr:JA X es t) (h:PySem.W.isStarred e=false):JA X (e :: es) (aa te t):=⟨kY ha.h hr.h (bT h)⟩
theorem aS (F:fK X.prog X.w X.K X.mg X.base CX k f fd ps sp) (hr:cP k X.A) (hg:Gl X x) (hm:X.mg x=some (.ref f)) (hk:PySem.W.keepIn X.K (.ref f)=true) (hb:Binds X.K fd ps ds) (hd:Vals dvs ds) (hx:Passes CX X E)
  (ha:JA X (e :: es) t) (h1:PySem.W.isStarred e=false) (h2:es.all (fun e=>!PySem.W.isStarred e)=true) (hdb:(x==("__debug__" : Str))=false):JE X (.Call (.Name x p) (e :: es) [] pos) (aJ sp dvs E t) :=
 ⟨xO F hr hg hm hk hb hd hx ha.h hdb (bT h1) (cJ h2)⟩
theorem eB (hc:bN X (.builtin id) r) (hg:Gl X x) (hm:X.mg x=none) (hv:bootBuiltins x=some (.builtin id)) (ha:JA X (e :: es) t) (h1:PySem.W.isStarred e=false) (h2:es.all (fun e=>!PySem.W.isStarred e)=true)
  (hn:x ≠ "__name__") (hdb:(x==("__debug__" : Str))=false):JE X (.Call (.Name x p) (e :: es) [] pos) (tCB r t):=⟨vv hc hg hm hv ha.h hn hdb (bT h1) (cJ h2)⟩
theorem eTy (hc:bN X (.type T) r) (hg:Gl X x) (hm:X.mg x=none) (hv:bootBuiltins x=some (.type T)) (ha:JA X (e :: es) t) (h1:PySem.W.isStarred e=false) (h2:es.all (fun e=>!PySem.W.isStarred e)=true)
  (hn:x ≠ "__name__") (hdb:(x==("__debug__" : Str))=false):JE X (.Call (.Name x p) (e :: es) [] pos) (tCB r t):=⟨tF hc hg hm hv ha.h hn hdb (bT h1) (cJ h2)⟩
theorem eR1 {tg a:Expr} {ta:TA} (hg:Gl X "range") (hm:X.mg "range" = none) (ha:JA X [a] ta) (h:PySem.W.isStarred a=false):JI X tg (.Call (.Name "range" p) [a] [] pos) (qp ta):=⟨rJ hg hm ha.h (bT h)⟩
theorem eIL {tg:Expr} (h:JE X e te):JI X tg e (ij X.K te):=⟨xP h.h⟩
theorem eIT {tg:Expr} (h:JE X e te):JI X tg e (xu X.K te):=⟨zQ h.h⟩
theorem fL {v:V} {u:Value} (hg:Gl X x) (hm:X.mg x=some u) (r:RelV v u) (hd:(x==("__debug__" : Str))=false):JE X (.Name x pos) (tC v):=⟨yM hg hm r hd⟩
theorem Gz {v:V} {u:Value} (hg:Gl X x) (hm:X.mg x=none) (hv:bootBuiltins x=some u) (r:RelV v u) (hn:x ≠ "__name__") (hd:(x==("__debug__" : Str))=false):JE X (.Name x pos) (tC v):=⟨zl hg hm hv r hn hd⟩
theorem eOp {op:Operator} {r:R2} (ho:OpR X (binaryOp op) r) (ha:JE X a ta) (hb:JE X b tb):JE X (.BinOp a op b pos) (tOp r ta tb):=⟨Ek ho ha.h hb.h⟩
theorem eUn {op:UnaryOp} {r:V->Hp->VK->Prop} (ho:UnR X (unaryOp op) r) (ha:JE X a ta):JE X (.UnaryOp op a pos) (tUn r ta):=⟨DW ho ha.h⟩
theorem eIf (hc:JT X c tA) (ha:JE X a ta) (hb:JE X b tb):JE X (.IfExp c a b pos) (tIf tA ta tb):=⟨u9 hc.h ha.h hb.h⟩
theorem Gd {op:CmpOp} {r:R2} (ho:OpR X (compareOp op) r) (ha:JE X a ta) (hb:JE X b tb) (hm:behindInMarks op b=false):JE X (.Compare a [op] [b] pos) (tOp r ta tb):=⟨xZ ho ha.h hb.h hm⟩
theorem bu {op:CmpOp} {r:R2} (ho:OpR X (compareOp op) r) (ha:JE X a ta) (hb:JE X b tb) (hm:behindInMarks op b=false):JT X (.Compare a [op] [b] pos) (bf (tOp r ta tb)):=⟨yf ho ha.h hb.h hm⟩
theorem yq {op op':CmpOp} {r r':R2} (ho:OpR X (compareOp op) r) (ho':OpR X (compareOp op') r') (ha:JE X a ta) (hb:JE X b tb) (hc:JE X c tc) (hm:lastMarks [op,op'] [b,c]=false):JT X (.Compare a [op,op'] [b,c] pos) (bf (oZ r r' ta tb tc)):=⟨vo ho ho' ha.h hb.h hc.h hm⟩
theorem wu (h:JE X e te) (he:∀ whole,isTrue e X.env whole=(do let v<-whole;standAt e.pos;holding [v] (truthy v))):JT X e (tB te):=⟨Bd h.h he⟩
theorem tG (ha:JT X a tA):JT X (.UnaryOp .Not a pos) (xa tA):=⟨Ad ha.h⟩
theorem pI (ha:JT X a tA):JW X (.BoolOp .And [a] pos) tA:=⟨pw_and1 ha.h⟩
theorem nY (ha:JT X a tA):JW X (.BoolOp .Or [a] pos) tA:=⟨pw_or1 ha.h⟩
theorem uU (ha:JT X a tA) (hb:JW X (.BoolOp .And (b :: rest) pos) tB'):JW X (.BoolOp .And (a :: b :: rest) pos) (yB tA tB'):=⟨pw_and ha.h hb.h⟩
theorem vZ (ha:JT X a tA) (hb:JW X (.BoolOp .Or (b :: rest) pos) tB'):JW X (.BoolOp .Or (a :: b :: rest) pos) (tOr tA tB'):=⟨pw_or ha.h hb.h⟩
theorem eW (h:JW X e tA):JT X e tA:=⟨PW.pt h.h⟩
theorem bw {x1} (h:JA X es t):JE X (.Tuple es x1 pos) (br t):=⟨Ap h.h⟩
theorem fB (h:JA X es t):JE X (.List es pos) (eJ t):=⟨BE h.h⟩
theorem eIx {r:R2} (hr:IxR X r) (ha:JE X a ta) (hb:JE X b tb) (hs:uq b):JE X (.Subscript a b pos) (tOp r ta tb):=⟨Di hr ha.h hb.h hs⟩
theorem o6:JO X none bR:=⟨yj⟩
theorem eP (h:JE X e te):JO X (some e) (eE te):=⟨zf h.h⟩
theorem eSl {p2:Pos} {lo hi:Option Expr} {tl th:TO} {r:V->Option Int->Option Int->Hp->VK->Prop} (hr:SlR X r) (he:JE X e te) (hl:JO X lo tl) (hu:JO X hi th):JE X (.Subscript e (.Slice lo hi none p2) pos) (tSl r te tl th):=⟨vb hr he.h hl.h hu.h⟩
theorem ePN:JP X pos [] [] []:=⟨xY⟩
theorem ePC {k v:Expr} {ks:List (Option Expr)} {vs:List Expr} {tk tv:TE} {trs:List (TE×TE)} (hk:JE X k tk) (hv:JE X v tv) (hr:JP X pos ks vs trs):JP X pos (some k :: ks) (v :: vs) ((tk,tv) :: trs):=⟨vy hk.h hv.h hr.h⟩
theorem b8 {i:Nat} {pos':Pos} (he:JE X e te) (hN:X.N.Nodup) (hi:X.N[i]?=some x) (hx:Loc X.env.scope x) (hs:swapsWith e (some (.Name x pos')) pos.line X.env=pure false) (hf:X.fn x=true\/X.env.scope.names.lookup x=some .local) :
  JS X (.Assign [.Name x pos'] e pos) (bF te (ar i)):=⟨wb hN hi hx he.h hs hf⟩
theorem DI {tg:Expr} {g:TG} (he:JE X e te) (hg:JG X tg g) (hs:swapsWithSole [tg] e pos.line X.env=pure false) (hw:swappedStores [tg] e X.env=pure none) (h1:(assignEach [tg] X.env).map (·.2)=[assign tg X.env]):JS X (.Assign [tg] e pos) (bF te g):=⟨Ba he.h hg.h hs hw h1⟩
theorem wJ {iter tg:Expr} {body:List Stmt} {wi:TI} {g:TG} {tb:TS} (hi:JI X tg iter wi) (hg:JG X tg g) (hb:JSs X body tb) (hp:PassesOwn (model X.prog X.w) X.A X.env X.xe) (hc:X.calm=true) (hs:∀ x,foldedSetIterable iter X.env x=pure x):JS X (.For tg iter body [] pos) (qh wi g tb):=⟨AS hp hc hi.h hg.h hb.h hs⟩
theorem fm {a b:List Stmt} {tc:TT} {t u:TS} (hc:JT X c tc) (ha:JSs X a t) (hb:JSs X b u):JS X (.If c a b pos) (dQ tc t u):=⟨Eb hc.h ha.h hb.h⟩
theorem dB (he:JE X e te):JS X (.Return (some e) pos) (cC te):=⟨Bg he.h⟩
theorem eGN {i:Nat} (hN:X.N.Nodup) (hi:X.N[i]?=some x) (hx:Loc X.env.scope x) (hf:X.fn x=true\/X.env.scope.names.lookup x=some .local):JG X (.Name x pos) (ar i):=⟨je hN hi hx hf⟩
theorem lR (he:JE X e te) (hs:swapsWith e none pos.line X.env=pure false):JS X (.Expr e pos) (gM te):=⟨yJ he.h hs⟩
theorem D8 {o i:Expr} {to ti:TE} {t:C8} (ho:JE X o to) (hi:JE X i ti) (hs:EC X t) (ha:∀ v,assign (.Subscript o i pos) X.env v=(do
   let ov<-holding [v] (eval o X.env)
   let iv<-holding [v,ov] (eval i X.env)
   standAt pos
   holding [v,ov,iv] (setItem ov iv v)
   release [v,ov,iv] [])):JG X (.Subscript o i pos) (CF to ti t):=⟨Az ho.h hi.h hs ha⟩
theorem fw:JSs X [] bB:=⟨zC⟩
theorem b7 {s:Stmt} {t:TS} (h:JS X s t):JSs X [s] t:=⟨tW h.h⟩
theorem ba {s:Stmt} {rest:List Stmt} {t u:TS} (h:JS X s t) (hr:JSs X rest u):JSs X (s :: rest) (aT t u):=⟨vV h.h hr.h⟩
theorem By {elt iter:Expr} {px:Pos} {ifs:List Expr} {scope:Scope} {wi:TI} {tt:TT} {js:List Nat} (ys:List Str) (hi:JI X (.Name x px) iter wi) (ht:JTs X (x :: ys) scope ifs tt) (he:JC X (x :: ys) scope elt te)
  (hc:X.calm=true) (B:jr X scope x) (nd:(x :: ys).Nodup) (cap:fe X scope ys js) (hs:∀ x,foldedSetIterable iter X.env x=pure x):JE X (.ListComp elt [⟨.Name x px,iter,ifs,0⟩] scope pos) (i6 js wi tt te):=⟨zw hc hi.h B nd cap ht.h he.h hs⟩
theorem u5 {elt iter:Expr} {y:Str} {px py spos:Pos} {ifs:List Expr} {scope:Scope} {wi:TI} {tt:TT} {js:List Nat} {i:Nat} (ys:List Str) (hi:JI X (.Name x px) iter wi) (ht:JTs X (x :: ys) scope ifs tt) (he:JC X (x :: ys) scope elt te)
  (hN:X.N.Nodup) (hi':X.N[i]?=some y) (hy:X.env.scope.names.lookup y=some .local) (hsw:swapsWith (.ListComp elt [⟨.Name x px,iter,ifs,0⟩] scope pos) (some (.Name y py)) spos.line X.env=pure true)
  (hc:X.calm=true) (B:jr X scope x) (nd:(x :: ys).Nodup) (cap:fe X scope ys js) (hs:∀ x,foldedSetIterable iter X.env x=pure x):JS X (.Assign [.Name y py] (.ListComp elt [⟨.Name x px,iter,ifs,0⟩] scope pos) spos) (bF (i6 js wi tt te) (ar i)):=⟨xU hN hi' hy hsw hc hi.h B nd cap ht.h he.h hs⟩
theorem eC {N:List Str} {scope:Scope} (h:∀ C s3 H3 ex,JE (cxB X N scope C s3 H3 ex) e te):JC X N scope e te:=⟨fun C s3 H3 ex=>(h C s3 H3 ex).h⟩
theorem eT0 {N:List Str} {scope:Scope}:JTs X N scope [] wL:=⟨fun _ _ _ _=>xA⟩
theorem eT1 {N:List Str} {scope:Scope} (h:∀ C s3 H3 ex,JT (cxB X N scope C s3 H3 ex) e tA):JTs X N scope [e] tA:=⟨fun C s3 H3 ex=>yi (h C s3 H3 ex).h⟩
theorem eBM {apos cpos:Pos} {o:Expr} {name:Str} {to:TE} {r:V->List V->Hp->VK->Prop} (ho:JE X o to) (ha:JA X (e :: es) t) (hm:MtR X id r) (pa:PlainAttrs T) (slot:Slot T name id) (hty:typeOf (.builtin id)=pure (.type "method_descriptor"))
  (hbase:attributeBase o name X.env (eval o X.env)=eval o X.env)
  (hfew:((backTo cpos (starEach (e :: es) X.env)).all (fun x=>!x.1)&&(backToKw cpos (keywordEach [] X.env)).all (fun x=>x.1.isSome)
   && decide ((e :: es).length+([]:List Keyword).length+(if ([]:List Keyword).isEmpty then 0 else 1) < 30))=true)
  (hline:(apos.endLine==cpos.line)=true) (h1:PySem.W.isStarred e=false) (h2:es.all (fun e=>!PySem.W.isStarred e)=true):JE X (.Call (.Attribute o name apos) (e :: es) [] cpos) (tBM X.K T r to t):=⟨Eo pa slot hty hm ho.h ha.h hbase hfew hline (bT h1) (cJ h2)⟩
end
open PySem.Spec PyProof.Rows
noncomputable def isS:PyData->Bool | .str _=>true | _=>false
noncomputable def isL:PyData->Bool | .list _=>true | _=>false
theorem jF {b:Bool} {A B:Prop} (e:b=true) (h:A):if b=true then A else B:=by rw [Hy e];exact h
theorem eG {b:Bool} {A B:Prop} (e:b=false) (h:B):if b=true then A else B:=by rw [HC (by rw [e];exact Il)];exact h
theorem ix {b:Bool} {A B:Prop} (h1:b=true->A) (h2:b=false->B):if b=true then A else B:=by
 cases b with
 | true=>rw [Hy rfl];exact h1 rfl
 | false=>rw [HC Il];exact h2 rfl
section
variable {r r':R2} {x y:V} {H:Hp} {Q:VK}
theorem B3 {K:Fg} {z:Str} (l:z.length<=sizeLine) (h:Q (.int z.length) H):BH K [.str z] H Q:=⟨_,_,rfl,⟨l,rfl⟩,h⟩
theorem AJ {K:Fg} {p:Addr} {xs:List V} (s:SqL K H p xs) (h:Q (.int xs.length) H):BH K [.ref p] H Q:=⟨_,_,rfl,.inl ⟨xs,s,rfl⟩,h⟩
theorem Cq {K:Fg} {p:Addr} {xs:List V} (s:SqT K H p xs) (h:Q (.int xs.length) H):BH K [.ref p] H Q:=⟨_,_,rfl,.inr ⟨xs,s,rfl⟩,h⟩
theorem Ea {i:Int} (h:Q (.int (if i < 0 then -i else i)) H):DF [.int i] H Q:=⟨i,rfl,h⟩
end
theorem Fun.okJ {P:Program} {w:World} {K:Fg} {mg:Str->Option Value} {base:Heap} {x qual:Str} {st:Stmt} {f:Addr} {fd:FuncData} {N ps:List Str} {k:Nat} {sp:Sp} (F:Fun K x qual st f fd) (S:bj N ps (ae st)) (len:∀ vs H Q E,sp vs H Q E->vs.length=ps.length)
  (hbody:∀ (cdv:Value) (A:Around) (outer:List Env) (s:Shared) (H:Hp) (vs:List V) (Q:VK) (E:XK),cP k (A.deeper (envOfC qual (ae st) s.heap.objs.size f cdv))->sp vs H Q E ->
   ∃ t,JSs (iu CX0 P w K mg base N qual (ae st) f cdv A outer s H E).nox (ak st) t/\t { nx:=fun _ H'=>Q .non H',rt:=Q } (start N vs) H):fK P w K mg base CX0 (k+1) f fd ps sp :=
 F.ok S len fun cdv A outer s H vs Q E hr h=>let ⟨t,j,q⟩:=hbody cdv A outer s H vs Q E hr h;⟨t,j.h,q⟩
theorem gH:∀ {ss:List Str} {us:List Value},Vals (ss.map V.str) us->StrsAre us ss
 | [],_,r=>by cases r;exact .nil
 | s :: ss,_,r=>by
  cases r with
  | cons r1 r2 =>
   obtain ⟨t,rfl⟩:=r1;exact .cons _ _ (gH r2)
theorem nE:∀ {ss:List Str} {us:List Value},StrsAre us ss->Vals (ss.map V.str) us
 | [],_,r=>by cases r;exact .nil
 | s :: ss,_,r=>by
  cases r with
  | cons _ _ r2=>exact .cons ⟨_,rfl⟩ (nE r2)
section
variable {X:Cx}
def wt (K:Fg):List V->Hp->VK->Prop:=fun xs H Q=>∃ (a:Addr) (ss:List Str),xs=[.ref a]/\SqL K H a (ss.map V.str)/\ss.length < 64/\∀ p ss',H p=none->ss'.Perm ss->sortedS ss'=true->Q (.ref p) (upd H p (.lst (ss'.map V.str)))
theorem lO:bN X (.builtin "sorted") (wt X.K):=by
 intro pins s σ H xs us Q I r h;obtain ⟨a,ss,rfl,hq,h64,q⟩:=h;obtain ⟨u,rfl,r1⟩:=vals1 r;cases (show u=Value.ref a from r1);obtain ⟨its,rv,p,hz⟩:=I.list hq;have hS:=gH rv;have hl:its.length=ss.length:=by rw [<- rv.length,Hf]
 refine sorted_strs p.isList hS (by omega) fun out ss' h1 h2 h3=>?_;obtain ⟨e,he⟩:=sortedAll_at s.heap its out;have hn:H (s.heap.objs.size+1)=none:=I.hok.fresh (IP _);have hl':ss'.length<=sizeLine:=by rw [h2.length_eq];exact HA (Jo h64) (by decide)
 refine ⟨.ref (s.heap.objs.size+1),_,I.laid (t':=s.toks) (o:=.lst (ss'.map V.str)) (fun b o hb=>sortedAll_old hb) (IP _) ?_,rfl,q _ ss' hn h2 h3⟩;exact ⟨by rw [Hf];exact hl',out.toList,e,nE h1,by rw [Jj];exact he⟩
def t5:V->List V->Hp->VK->Prop:=fun x vs H Q=>∃ z y:Str,x=.str z/\vs=[.str y]/\Q (.bl (decide (y.length<=z.length)&&Builtin.Str.subAt z y 0)) H
theorem tD:MtM X "str.startswith" t5:=by
 intro pins s σ H x vs v us Q I rx rv h;obtain ⟨z,y,rfl,rfl,q⟩:=h;obtain ⟨t,rfl⟩:=rx;obtain ⟨u,rfl,ru⟩:=rv.one;obtain ⟨t',rfl⟩:=ru;refine call_meets F.slot_str_startswith (typeIs_str _ _ _) F.entry_str_startswith (F.args_str_startswith_2 _ _) (gives_str_startswith z y t t').meets ?_;exact ⟨.bl _,H,I,by simp only [Nat.zero_add];rfl,q⟩
def BV (K:Fg):List V->Hp->VK->Prop:=fun xs H Q=>∃ p ys,xs=[.ref p]/\(SqL K H p ys\/SqT K H p ys)/\∀ l,H l=none->Q (.ref l) (upd H l (.lst ys))
def wk (K:Fg):List V->Hp->VK->Prop:=fun xs H Q=>∃ p ys,xs=[.ref p]/\((SqL K H p ys/\∀ l,H l=none->Q (.ref l) (upd H l (.tup ys)))\/(SqT K H p ys/\Q (.ref p) H))
def Bh:List V->Hp->VK->Prop:=fun xs H Q=>∃ i j,xs=[.int i,.int j]/\Q (.int (if j < i then j else i)) H
def F5:R2:=fun x y H Q=>y=.non/\Q (.bl (decide (x=.non))) H
def BF:R2:=fun x y H Q=>y=.non/\Q (.bl (!decide (x=.non))) H
theorem qK:bN X (.type "list") (BV X.K):=lP
theorem m6:bN X (.type "tuple") (wk X.K):=kJ
theorem qO (hc:X.calm=true):bN X (.builtin "min") Bh:=tJ hc
theorem zi:OpR X (compareOp .Is) F5:=AR
theorem vq:OpR X (compareOp .IsNot) BF:=ym
end
structure jc (X:Cx) (scope:Scope) (xs:List Str):Prop where
 kind:scope.kind=.function
 cells:∀ y∈scope.names,y.2≠.cell
 locs:∀ y∈scope.names,y.2=.local->scope.names.lookup y.1=some .local
 free:∀ y∈scope.names,y.2=.free->X.env.scope.names.lookup y.1=some .cell
noncomputable def gG (xs:List Str):St:=xs.map fun _=>none
theorem qx {X:Cx} {pins:List (Addr×Obj)} {σ:St} {H:Hp} {s3:Shared} {h1:Heap} {tk:Nat} {scope:Scope} {xs ys:List Str} {js:List Nat} {ex:List Addr} (I:Inv X pins σ H s3) (hc:X.calm=true) (B:jc X scope xs) (cap:fe X scope ys js)
  (hns:h1.Ns s3.heap.objs.size (fun _=>none)) (hk:∀ b o,s3.heap.get? b=some o->h1.get? b=some o)
  (hex:∀ b∈ex,b ∉ frs X.stack/\b < s3.heap.objs.size/\(∀ y c,X.env.cells.lookup y=some c->c≠b)/\X.base.get? b=none) :
  Inv (cxB X (xs++ys) scope s3.heap.objs.size s3 H ex) [] (gG xs++bX js σ) H { s3 with heap:=h1,toks:=tk }:=by
 have hfree:∀ y∈scope.names,y.2=.free->∃ c,X.env.cells.lookup y.1=some c:=fun y hy hf=>I.ok.has y.1 (.inl (B.free y hy hf));have sub:=lq (env:=X.env) scope.names [] hfree (fun _ _ e=>by simp at e)
 refine ⟨⟨I.ok.mod,B.kind,I.ok.glob,I.ok.blt,Hu _,fun y z c h1 h2=>I.ok.inj y z c (sub _ _ h1) (sub _ _ h2),fun y hy=>?_,fun y c hf _=>?_,fun _=>I.ok.hd hc,I.ok.frames,.inl rfl,fun b hb=>?_,fun b o e=>I.bs b o e,HA I.ok.bsz I.sz,fun b o e hb=>?_,fun b hb=>(hex b hb).1,I.stack,I.jB⟩,
  rfl,I.bare,Un.kept hk,⟨_,hns,fun i y v e1 e2 e3=>?_⟩,fun y c e=>?_,I.hok.fresh (Hu _),fun y c e=>I.fq y c (sub _ _ e),fun p hp=>absurd (show p∈([]:List (Addr×Obj)) from hp) (by simp),I.hok.kept hk,?_⟩
 ·have hy:(relabel scope X.env).names.lookup y=some .cell\/(relabel scope X.env).names.lookup y=some .free:=hy;rcases hy with hy | hy
  ·rcases bJ _ hy with q | ⟨_,q⟩
   ·exact absurd rfl (B.cells _ q)
   ·exact dM _ _ q
  ·rcases bJ _ hy with q | ⟨q,_⟩
   ·exact dM _ _ q
   ·cases q
 ·exact absurd (show false=true from hf) (by simp)
 ·exact ⟨HH (hex b hb).2.1,fun y c e=>(hex b hb).2.2.1 y c (sub _ _ e)⟩
 ·have e':X.base.get? b=some o:=e;have:=(hex b hb).2.2.2;rw [e'] at this;cases this
 ·have hnl:(gG xs).length=xs.length:=by unfold gG;rw [Hf]
  by_cases hi:i < xs.length
  ·rw [HG (by rw [hnl];exact hi)] at e2;unfold gG at e2;rw [Hl,Hn hi] at e2;cases e2
  ·have hi':xs.length<=i:=Nat.le_of_not_lt hi;have e1':ys[i - xs.length]?=some y:=by
    have e1:(xs++ys)[i]?=some y:=e1
    rwa [Hr hi'] at e1
   have e2':(bX js σ)[i - xs.length]?=some (some v):=by
    rwa [Hr (by rw [hnl];exact hi'),hnl] at e2
   obtain ⟨j,ej,en,ec,ef⟩:=cap.get e1';have e4:σ[j]?=some (some v):=by
    unfold bX at e2';rw [Hl,ej] at e2';simp only [Option.map_some,Option.some.injEq] at e2';cases q:σ[j]? with
    | none=>rw [q] at e2';cases e2'
    | some w=>rw [q] at e2';simp at e2';rw [e2']
   obtain ⟨m,hn,hl⟩:=I.loc;obtain ⟨u,r,l⟩:=hl j y v en e4 (.inr (.inl ec));refine ⟨u,r,.inr ?_⟩;rcases l with ⟨kl,_⟩ | ⟨kc,c,ecl,cell⟩
   ·have kl:X.env.scope.names.lookup y=some .local:=kl;rw [ec] at kl;cases kl
   ·have e3:(relabel scope X.env).names.lookup y=some .local\/(relabel scope X.env).names.lookup y=some .cell\/(relabel scope X.env).names.lookup y=some .free:=e3;refine ⟨?_,?_⟩
    ·rcases e3 with q | q | q
     ·rcases bJ _ q with q | ⟨q,_⟩
      ·have:=B.locs _ q rfl;rw [ef] at this;cases this
      ·cases q
     ·exact .inl q
     ·exact .inr q
    ·have mem:(y,NameKind.free)∈scope.names:=Iz ef;obtain ⟨c',ec'⟩:=dM (env:=X.env) scope.names [] mem;have:=sub _ _ ec';rw [ecl] at this;cases this;obtain ⟨o,ho,hd⟩:=cell;exact ⟨c,ec',o,hk _ _ ho,hd⟩
 ·obtain ⟨v,o,ho,hd⟩:=I.cell y c (sub _ _ e);exact ⟨v,o,hk _ _ ho,hd⟩
 ·show (gG xs++bX js σ).length=(xs++ys).length;rw [Ho,Ho,cap.len];unfold bX gG;rw [Hf,Hf]
def pK (n:List Str) (js:List Nat) (wi:TI) (g:TG) (te:TE):TE:=fun σ H Q=>wi σ H fun J H1=>∃ W:Nat->Nat->St->List V->Hp->Prop,(∃ m,W 0 m (gG n++bX js σ) [] H1)/\∀ i m σB acc H,W i m σB acc H ->
 (J.stop i H/\acc.length<=sizeLine/\∀ p,H p=none->Q (.ref p) (upd H p (.lst acc)))\/(J.go i H/\acc.length < sizeLine/\∀ x H',J.yld i H x H' ->
  g x σB H' fun σ2 H2=>te σ2 H2 fun y H3=>∃ m',m' < m/\W (i+1) m' σ2 (acc++[y]) H3)
theorem sv {X:Cx} {pins:List (Addr×Obj)} {σ:St} {H:Hp} {s2:Shared} {elt iter:Expr} {es:List Expr} {ek} {tp pos:Pos} {scope:Scope} {g:TG} {te:TE} {xs ys:List Str} {js:List Nat} {it:Addr} {fp:List Addr} {tn:Nat->Heap->Prop} {J:It}
    {Q:VK} {E:Value->Shared->Prop} {RR:Value->Addr->Result->Shared->Prop} (hc:X.calm=true) (B:jc X scope xs) (cap:fe X scope ys js)
    (hg:∀ C s3 H3 ex,PG (cxB X (xs++ys) scope C s3 H3 ex) (.Tuple es ek tp) g) (he:∀ C s3 H3 ex,PE (cxB X (xs++ys) scope C s3 H3 ex) elt te)
    (I:Inv X pins σ H s2) (T:Turn X.prog X.w X.K (.Tuple es ek tp) J fp it tn) (h0:tn 0 s2.heap) (hf:∀ b∈fp,uK X pins H b)
    (W:Nat->Nat->St->List V->Hp->Prop) (w0:∃ m,W 0 m (gG xs++bX js σ) [] H)
    (turn:∀ i m σB acc H,W i m σB acc H->(J.stop i H/\acc.length<=sizeLine/\∀ p,H p=none->Q (.ref p) (upd H p (.lst acc)))\/(J.go i H/\acc.length < sizeLine/\∀ x H',J.yld i H x H' ->
      g x σB H' fun σ2 H2=>te σ2 H2 fun y H3=>∃ m',m' < m/\W (i+1) m' σ2 (acc++[y]) H3))
    (hRR:∀ (D C:Addr) (H':Hp) (s':Shared) (m':Str->Option Value),s'.heap.Ns C m'->s2.heap.objs.size<=C->C≠D->H' C=none->Inv X pins σ H' s'->Q (.ref D) H'->RR (.ref D) C (.ok .next) s') :
    wpAny (model X.prog X.w) X.A (newList []) (fun acc s₃=>wpAny (model X.prog X.w) X.A (newFunctionEnv scope X.env.globals (lx X.env scope.names []) [] X.env.qual none .none (some X.env)) (fun cenv s₄ =>
      codeAny (model X.prog X.w) X.A (.compStart (.ListComp elt [⟨.Tuple es ek tp,iter,[],0⟩] scope pos) 0 (.ref it) acc { cenv with scope:=relabel scope X.env }) (RR acc cenv.locals) s₄) E s₃) E s2:=by
  refine H9 (wpAny_newFunctionEnv B.cells (by intro y hy;simp at hy) (fun h1 hns hsb=>?_) B.kind);dsimp only at hns hsb ⊢;have hD:H s2.heap.objs.size=none:=I.hok.fresh (Hu _);generalize hH2:s2.heap.push { cls:=.type "list", dict:=none,data:=.seq ([]:List Value).toArray }=P2 at hns hsb ⊢;have hgetD:P2.get? s2.heap.objs.size=some { cls:=.type "list", dict:=none,data:=.seq ([]:List Value).toArray }:=by rw [<- hH2];exact HE _ rfl
  have hold:∀ b o,s2.heap.get? b=some o->P2.get? b=some o:=fun b o e=>by rw [<- hH2];exact Hj _ e
  have hsz:P2.objs.size=s2.heap.objs.size+1:=by rw [<- hH2,Heap.size_push]
  have I3:Inv X pins σ H { s2 with heap:=P2,toks:=s2.toks }:=I.kept hold;generalize hDe:s2.heap.objs.size=D at *;have keep1:∀ b o,P2.get? b=some o->h1.get? b=some o:=fun b o e=>hsb.extBut b o (HH (Ht e)) (Hj _ e);have hfp:∀ b∈fp,b < D:=fun b hb=>by
    obtain ⟨o,e,_⟩:=T.obj _ _ h0 b hb;rw [<- hDe];exact Ht e
  have hstk:∀ b,b≠X.env.locals->b ∉ X.fs->b ∉ frs X.stack:=fun b h1 h2 z=>(Hs.mp (I.mC b z)).elim h1 h2;have hDl:D≠X.env.locals:=fun z=>absurd I.lt (by rw [hDe,z];exact HN _);have hDfs:D ∉ X.fs:=I.CQ (by rw [hDe];exact Hu _);have hDc:∀ y c,X.env.cells.lookup y=some c->c≠D:=fun y c e z=>by
    obtain ⟨v,q⟩:=I.cell y c e;have:=q.lt;rw [z,hDe] at this;exact absurd this (HN _)
  have hex:∀ b∈D :: fp,b ∉ frs X.stack/\b < ({ s2 with heap:=P2,toks:=s2.toks }:Shared).heap.objs.size/\(∀ y c,X.env.cells.lookup y=some c->c≠b)/\X.base.get? b=none:=fun b hb=>by
    rcases Hs.mp hb with rfl | hb
    · refine ⟨hstk _ hDl hDfs,by show _ < P2.objs.size;rw [hsz];exact Jf _,hDc,?_⟩;cases q:X.base.get? b with
      | none=>rfl
      | some o =>
        have:=Ht (I.bk b o q);rw [hDe] at this;exact absurd this (HN _)
    · obtain ⟨f0,f1,f2,f3,f4,f5⟩:=hf b hb;refine ⟨hstk _ f1 f2,by show _ < P2.objs.size;rw [hsz];exact IJ (hfp b hb),f4,?_⟩;cases q:X.base.get? b with
      | none=>rfl
      | some o =>
        rcases f3 with z | z
        · exact absurd z (I.ok.wI b o q)
        · exact absurd (Hx (Ht q) (HA I.ok.bsz z)) (HN _)
  have IB:=qx (tk:=s2.toks) (ex:=D :: fp) I3 hc B cap (h1:=h1) hns keep1 hex;have hCD:P2.objs.size≠D:=by rw [hsz];exact Nat.succ_ne_self _
  have start:codeAny (model X.prog X.w) X.A (.compLoop (.ListComp elt [⟨.Tuple es ek tp,iter,[],0⟩] scope pos) 0 (.ref it) (.ref D) (compEnvC scope (lx X.env scope.names []) P2.objs.size X.env)) (RR (.ref D) P2.objs.size) { s2 with heap:=h1,toks:=s2.toks }:=by
    obtain ⟨m0,w0⟩:=w0;refine LCp.codeAny_compLoop_pair (fun n s=>∃ i σB H' acc its k,Inv (cxB X (xs++ys) scope P2.objs.size { s2 with heap:=P2,toks:=s2.toks } H (D :: fp)) [] σB H' s/\tn i s.heap/\(∀ b∈D :: fp,H' b=none)/\s.heap.get? D=some { cls:=.type "list", data:=.seq its k }/\Vals acc its.toList/\acc.length<=sizeLine/\W i n σB acc H') ?_ m0 ?_
    · rintro n s ⟨i,σB,H3,acc,its,k,I4,t4,fr4,g4,va,hl4,w4⟩;have hDm:D∈D :: fp:=Hw;have exf:=I4.ok.exf;have fsub:∀ b∈D :: fp,b ∉ (cxB X (xs++ys) scope P2.objs.size { s2 with heap:=P2,toks:=s2.toks } H (D :: fp)).fs:=fun b hb=>(hex b hb).1;have stat:∀ {H':Hp} {ob:Obj},(∀ b∈fp,H' b=none)->∀ b∈fp,uK (cxB X (xs++ys) scope P2.objs.size { s2 with heap:=P2,toks:=s2.toks } H (D :: fp)) [(D,ob)] H' b:=fun {H' ob} hn b hb =>
        ⟨hn b hb,(exf b (Hk _ hb)).1,fsub b (Hk _ hb),.inl (Hk _ hb),(exf b (Hk _ hb)).2,fun p hp z=>by
          have hp':p∈[(D,ob)]:=hp;have e:=Hm.mp hp';rw [e] at z
          exact absurd (hfp b hb) (by rw [<- show D=b from z];exact HN _)⟩
      have frp:∀ b∈fp,H3 b=none:=fun b hb=>fr4 b (Hk _ hb);have I5:Inv (cxB X (xs++ys) scope P2.objs.size { s2 with heap:=P2,toks:=s2.toks } H (D :: fp)) [(D,{ cls:=.type "list", data:=.seq its k })] σB H3 s:=I4.dU fun p hp=>by
        rw [Hm.mp hp];exact ⟨g4,fr4 D hDm,(exf D hDm).1,fsub D hDm,fun v z=>nomatch z⟩
      rcases turn i n σB acc H3 w4 with ⟨stop,hacc,q⟩ | ⟨go,hacc,step⟩
      · refine HP (T.done (cxB X (xs++ys) scope P2.objs.size { s2 with heap:=P2,toks:=s2.toks } H (D :: fp)) rfl rfl rfl rfl i _ s _ H3 (fun _ _=>False) I5 (stat frp) t4 stop) (fun r s1 ⟨hr,I6⟩=>?_) (fun _ _ z=>z.elim);subst hr;obtain ⟨m',hn',_⟩:=id I6.loc;have pD:=(I6.pin (D,{ cls:=.type "list", data:=.seq its k }) (Hz _ (Hm.mpr rfl))).1;have nD:H3 D=none:=fr4 D hDm;have u:=I6.base;have uu:Un (frs X.stack) (D :: fp) H (upd H3 D (.lst acc)) P2 s1.heap :=
          ⟨u.keep,u.slot,fun b o q n hx=>by rw [aC fun z=>hx (by rw [z];exact hDm)];exact u.free b o q n hx,u.there,
           fun b xs q=>by rw [aC (aG (u.m4 b xs q) nD)];exact u.m4 b xs q,fun b o v q=>by rw [aC (aG (u.lz b o v q) nD)];exact u.lz b o v q,
           fun b ps q=>by
            obtain ⟨more,z⟩:=u.pZ b ps q
            exact ⟨more,by rw [aC (aG z nD)];exact z⟩⟩
        have hok:HOk X.prog X.w (upd H3 D (.lst acc)) s1.heap:=fun b o e=>by
          by_cases hb:b=D
          · subst hb;rw [ay] at e;cases e;exact ⟨hacc,its.toList,k,va,by rw [Jj];exact pD⟩
          · rw [aC hb] at e;exact (I6.hok b o e).jL (fun c v _ q=>q) (fun c q=>by rw [aC (aG q nD)];exact q) fun c xs q=>by rw [aC (aG q nD)];exact q
        have fin:=I3.call (g':=s1.gens) (t':=s1.toks) (d':=s1.drawn) uu hok I6.bare (fun b hb=>by
          rcases Hs.mp hb with z | hb
          · rw [z];refine ⟨.inr (by rw [<- hDe];exact I.sz),hDl,hDc,fun p hp z=>?_⟩;have:=Ht (I.pin p hp).1;rw [z,hDe] at this;exact HN _ this
          · exact ⟨(hf b hb).2.2.2.1,(hf b hb).2.1,(hf b hb).2.2.2.2.1,(hf b hb).2.2.2.2.2⟩)
        have es':({ heap:=s1.heap,gens:=s1.gens,drawn:=s1.drawn,toks:=s1.toks,os:=s2.os }:Shared)=s1:=by
          have:=I6.os;obtain ⟨a1,a2,a3,a4,a5⟩:=s1;have e5:a5=s2.os:=this;rw [e5]
        have fin':Inv X pins σ (upd H3 D (.lst acc)) s1:=es'▸fin;exact hRR D P2.objs.size (upd H3 D (.lst acc)) s1 m' hn' (by rw [hsz];exact IP _) hCD (by rw [aC hCD];exact I6.free) fin' (q D nD)
      · refine HP (T.item (cxB X (xs++ys) scope P2.objs.size { s2 with heap:=P2,toks:=s2.toks } H (D :: fp)) rfl rfl rfl rfl i _ s _ H3 (fun _ _=>False) I5 (stat frp) t4 go) (fun r s1 ⟨u,hr,h4⟩=>?_) (fun _ _ z=>z.elim);subst hr;refine HP h4 (fun _ s1' ⟨x',H5,I6,r6,y6,t6,fr6⟩=>?_) (fun _ _ z=>z.elim);have I7:=I6.pinned (stat fr6) (T.obj _ _ t6);refine HP (hg _ _ _ _ _ s1' _ H5 x' u _ I7 r6 (step x' H5 y6)) (fun _ s2' ⟨σ6,H6,I8,q8⟩=>?_) (fun _ _ z=>z.elim);have pinsKeep:∀ {σ':St} {H':Hp} {s':Shared},Inv (cxB X (xs++ys) scope P2.objs.size { s2 with heap:=P2,toks:=s2.toks } H (D :: fp)) ([(D,{ cls:=.type "list", data:=.seq its k })]++jT fp s1'.heap) σ' H' s' ->
            s'.heap.get? D=some { cls:=.type "list", data:=.seq its k }/\(∀ b∈D :: fp,H' b=none)/\∀ b∈fp,∀ o,s1'.heap.get? b=some o->s'.heap.get? b=some o:=fun {σ' H' s'} J=>by
          have pd:=J.pin (D,{ cls:=.type "list", data:=.seq its k }) (Hz _ (Ji _ (Hm.mpr rfl)));refine ⟨pd.1,fun b hb=>?_,fun b hb o e=>(J.pin (b,o) (Hz _ (Hz _ (cF hb e)))).1⟩;rcases Hs.mp hb with rfl | hb
          · exact pd.2.1
          · obtain ⟨o,e,_⟩:=T.obj _ _ t6 b hb;exact (J.pin (b,o) (Hz _ (Hz _ (cF hb e)))).2.1
        refine HP (he _ _ _ _ _ s2' _ _ _ I8 q8) (fun y s4' ⟨yv,H8,I10,ry,m',hm,w10⟩=>?_) (fun _ _ z=>z.elim);obtain ⟨p1,p2,p3⟩:=pinsKeep I10;have hsize:its.size=acc.length:=by rw [va.length];simp
        have I11:=I10.dU (pins':=[]) (fun p hp=>absurd hp (by simp));refine wpAny_list_append_plain ⟨k,p1⟩ (fun h' hpl hsame=>?_) (by rw [hsize];exact Jo hacc);obtain ⟨k',e'⟩:=hpl;have neD:∀ {b:Addr} {o:HO},H8 b=some o->b≠D:=fun e z=>by rw [z,p2 D hDm] at e;cases e
        refine ⟨m',hm,i+1,σ6,H8,acc++[yv],its.push y,k',?_,?_,p2,e',?_,?_,w10⟩
        · refine I11.step (g':=s4'.gens) (t':=s4'.toks) (d':=s4'.drawn) (ch:=[D]) (fun b hb=>?_) (fun b o _ _ hc' e _=>?_) (fun b o _ _ hc' e _=>⟨o.slots,?_⟩) (fun b o hc' e n=>n) (fun b o hc' e=>⟨o,?_⟩) (fun _ _ z=>z) (fun _ _ _ z=>z) (fun b ps z=>⟨#[],by rw [z];simp⟩) (fun m hn=>hn.sameBut hsame (Ne.symm (exf D hDm).1)) (fun b o e=>?_) I11.bare
          · rw [Hm.mp hb];exact ⟨.inl hDm,(exf D hDm).1,(exf D hDm).2,fun p hp=>absurd (show p∈([]:List (Addr×Obj)) from hp) (by simp)⟩
          · exact (hsame.2 b fun z=>hc' (Hm.mpr z)).trans e
          · exact (hsame.2 b fun z=>hc' (Hm.mpr z)).trans e
          · exact (hsame.2 b fun z=>hc' (Hm.mpr z)).trans e
          · refine (I11.hok b o e).jL (fun c v hc' q=>(hsame.2 c ?_).trans q) (fun _ q=>q) fun _ _ q=>q;rcases hc' with z | z
            · rw [z];exact neD e
            · exact neD z
        · refine T.keep _ _ _ t6 fun b hb o e=>(hsame.2 b ?_).trans (p3 b hb o e);exact HH (hfp b hb)
        · rw [Jd];exact va.append (.cons ry .nil)
        · rw [Ho,List.length_singleton];exact hacc
    · refine ⟨0,gG xs++bX js σ,H,[],#[],_,IB,T.keep _ _ _ h0 (fun b hb o e=>keep1 b o (hold b o e)),fun b hb=>?_,keep1 _ _ hgetD,.nil,Iw _,w0⟩;rcases Hs.mp hb with rfl | hb
      · exact hD
      · exact (hf b hb).1
  exact codeAny_compStart_list start (T.self _ 0 _ _ _ (T.keep _ _ _ h0 (fun b hb o e=>keep1 b o (hold b o e))) start)
theorem uW {X:Cx} {elt iter:Expr} {es:List Expr} {ek} {tp pos:Pos} {scope:Scope} {wi:TI} {g:TG} {te:TE} {xs ys:List Str} {js:List Nat} (hc:X.calm=true) (hi:PI X (.Tuple es ek tp) iter wi) (B:jc X scope xs) (cap:fe X scope ys js)
  (hg:∀ C s3 H3 ex,PG (cxB X (xs++ys) scope C s3 H3 ex) (.Tuple es ek tp) g) (he:∀ C s3 H3 ex,PE (cxB X (xs++ys) scope C s3 H3 ex) elt te) (hs:∀ x,foldedSetIterable iter X.env x=pure x) :
  PE X (.ListComp elt [⟨.Tuple es ek tp,iter,[],0⟩] scope pos) (pK xs js wi g te):=by
 intro pins s σ H Q I h;have hcl:=gD (scope:=scope) (env:=X.env) fun y hy hf=>I.ok.has y.1 (.inl (B.free y hy hf));rw [eval_ListComp];refine wpAny_comprehension_free (use:=none) rfl hs hcl B.kind B.locs (HP (hi pins s σ H _ I h) (fun xv s1 h1=>HP h1 (fun itv s2 h2=>?_) fun _ _ e=>e) fun _ _ e=>e);obtain ⟨it,fp,tn,J,H2,e,I2,T,st2,f2,W,w0,turn⟩:=h2;subst e;refine sv (RR:=fun acc C=>compPost (model X.prog X.w) X.A X.xe none (EP X pins σ Q) acc C) hc B cap hg he I2 T st2 f2 W w0 turn ?_;intro D C H' s' m' hn hC hCD hCn I' q;refine ⟨m',hn,fun h' hs'=>⟨.ref D,H',?_,rfl,q⟩⟩;have hL:X.env.locals≠C:=HH (Hx I2.lt hC);have neC:∀ {b:Addr} {o:HO},H' b=some o->b≠C:=fun e z=>by rw [z,hCn] at e;cases e
 refine I'.step (g':=s'.gens) (t':=s'.toks) (d':=s'.drawn) (ch:=[C]) (fun b hb=>?_) (fun b o _ _ hc' e _=>?_) (fun b o _ _ hc' e _=>⟨o.slots,?_⟩) (fun b o hc' e n=>n) (fun b o hc' e=>⟨o,?_⟩) (fun _ _ z=>z) (fun _ _ _ z=>z) (fun b ps z=>⟨#[],by rw [z];simp⟩) (fun m hn=>hn.sameBut hs' hL) (fun b o e=>?_) I'.bare
 ·rw [Hm.mp hb];refine ⟨.inr (HA I2.sz hC),Ne.symm hL,fun y c e z=>?_,fun p hp z=>?_⟩
  ·obtain ⟨v,q⟩:=I2.cell y c e;have:=q.lt;rw [z] at this;exact absurd (Hx this hC) (HN _)
  ·have:=Ht (I2.pin p hp).1;rw [z] at this;exact absurd (Hx this hC) (HN _)
 ·exact (hs'.2 b fun z=>hc' (Hm.mpr z)).trans e
 ·exact (hs'.2 b fun z=>hc' (Hm.mpr z)).trans e
 ·exact (hs'.2 b fun z=>hc' (Hm.mpr z)).trans e
 ·refine (I'.hok b o e).jL (fun c v hc' q=>(hs'.2 c ?_).trans q) (fun _ q=>q) fun _ _ q=>q;rcases hc' with z | z
  ·rw [z];exact neC e
  ·exact neC z
structure JGs (X:Cx) (N:List Str) (scope:Scope) (es:List Expr) (t:TGs):Prop where
 h:∀ C s3 H3 ex,PGs (cxB X N scope C s3 H3 ex) es t
theorem GW {X:Cx} {N:List Str} {scope:Scope}:JGs X N scope [] yV:=⟨fun _ _ _ _=>rK⟩
theorem C4 {X:Cx} {N:List Str} {scope:Scope} {es:List Expr} {u:TGs} {i:Nat} {x:Str} {px:Pos} (nd:N.Nodup) (hi:N[i]?=some x) (hv:scope.names.lookup x=some .local) (h:JGs X N scope es u):JGs X N scope (.Name x px :: es) (fv (ar i) u) :=
 ⟨fun C s3 H3 ex=>pX (je nd hi (.inl (lookup_relabel_local hv)) (.inr (lookup_relabel_local hv))) (h.h C s3 H3 ex) rfl⟩
theorem Aa {X:Cx} {elt iter:Expr} {es:List Expr} {ek} {tp pos:Pos} {scope:Scope} {wi:TI} {u:TGs} {te:TE} {js:List Nat} {n:Nat} (xs ys:List Str) (hi:JI X (.Tuple es ek tp) iter wi) (hg:JGs X (xs++ys) scope es u) (he:JC X (xs++ys) scope elt te) (hc:X.calm=true) (B:jc X scope xs) (cap:fe X scope ys js)
  (hn:∀ env,(assignEach es env).length=n) (hst:∀ env,(assignEach es env).findIdx? (·.1)=none) (hs:∀ x,foldedSetIterable iter X.env x=pure x) :
  JE X (.ListComp elt [⟨.Tuple es ek tp,iter,[],0⟩] scope pos) (pK xs js wi (yC X.K n u) te) :=
 ⟨uW hc hi.h B cap (fun C s3 H3 ex=>xc rfl (hg.h C s3 H3 ex) (hn _) (hst _)) he.h hs⟩
noncomputable def lQ (sc scope:Scope):Bool :=
 (scope.kind==.function)&&scope.names.all (fun y=>y.2 != .cell)&&scope.names.all (fun y=>y.2 != .local||scope.names.lookup y.1==some .local)&&scope.names.all (fun y=>y.2 != .free||sc.names.lookup y.1==some .cell)
theorem Gu {X:Cx} {sc scope:Scope} {xs:List Str} (e:X.env.scope=sc) (h:lQ sc scope=true):jc X scope xs:=by
 unfold lQ at h;simp only [HK,List.all_eq_true,Bool.or_eq_true,bne_iff_ne,IF,ne_eq] at h;obtain ⟨⟨⟨h1,h2⟩,h3⟩,h5⟩:=h;exact ⟨h1,fun y hy=>h2 y hy,fun y hy e=>(h3 y hy).resolve_left fun z=>z e,fun y hy e'=>by rw [e];exact (h5 y hy).resolve_left fun z=>z e'⟩
def GX (K:Fg) (te:TE):TT:=fun σ H Q=>te σ H fun x H'=>∃ k,DE K x H' k/\Q k H'
structure JGl (X:Cx) (es:List Expr) (t:TGs):Prop where
 h:PGs X es t
section
variable {X:Cx} {es:List Expr} {t:TGs} {pos:Pos} {x:Str} {i:Nat}
theorem FR:JGl X [] yV:=⟨rK⟩
theorem wK (hN:X.N.Nodup) (hi:X.N[i]?=some x) (hx:Loc X.env.scope x) (hf:X.fn x=true\/X.env.scope.names.lookup x=some .local) (h:JGl X es t):JGl X (.Name x pos :: es) (fv (ar i) t):=⟨pX (je hN hi hx hf) h.h rfl⟩
theorem eGT {n:Nat} {k} (hc:X.calm=true) (h:JGl X es t) (hn:(assignEach es X.env).length=n) (hst:(assignEach es X.env).findIdx? (·.1)=none):JG X (.Tuple es k pos) (yC X.K n t):=⟨xc hc h.h hn hst⟩
end
section
variable {X:Cx}
def tFs:List TE->Str->TE
 | [],out=>fun _ H Q=>out.length<=sizeLine/\Q (.str out) H
 | t :: ts,out=>fun σ H Q=>t σ H fun x H1=>∃ y,x=.str y/\(out++y).length<=sizeLine/\tFs ts (out++y) σ H1 Q
def PFs (X:Cx) (vs:List Expr) (ts:List TE):Prop :=
 ∀ (pins:List (Addr×Obj)) (s:Shared) (σ:St) (H:Hp) (Q:VK) (out:Str),Inv X pins σ H s->tFs ts out σ H Q->wpAny (model X.prog X.w) X.A (joinParts out (evalEach vs X.env)) (EP X pins σ Q) X.xe s
theorem yk:PFs X [] []:=by
 intro pins s σ H Q out I h;exact joinParts_nil ⟨.str out,H,I.tok _,⟨_,rfl⟩,h.2⟩ h.1
theorem vQ {v:Expr} {vs:List Expr} {t:TE} {ts:List TE} (hv:PE X v t) (hr:PFs X vs ts):PFs X (v :: vs) (t :: ts):=by
 intro pins s σ H Q out I h;show wpAny _ _ (joinParts out (eval v X.env :: evalEach vs X.env)) _ _ s;refine joinParts_cons (thn (hv pins s σ H _ I h) fun u s1 ⟨x,H1,I1,r1,y,ex,hz,q⟩=>?_);subst ex;obtain ⟨t',rfl⟩:=r1;exact ⟨hz,hr pins s1 σ H1 Q _ I1 q⟩
end
structure JF (X:Cx) (vs:List Expr) (ts:List TE):Prop where
 h:PFs X vs ts
section
variable {X:Cx}
theorem eF0:JF X [] []:=⟨yk⟩
theorem eFc {v:Expr} {vs:List Expr} {t:TE} {ts:List TE} (hv:JE X v t) (hr:JF X vs ts):JF X (v :: vs) (t :: ts):=⟨vQ hv.h hr.h⟩
end
section
variable {X:Cx}
def CA (K:Fg):R2:=fun x y H Q=>∃ l b xs zs,x=.ref l/\y=.ref b/\SqL K H l xs/\SqL K H b zs/\xs.length+zs.length<=sizeLine/\∀ p,H p=none->Q (.ref p) (upd H p (.lst (xs++zs)))
theorem yW:OpR X (binaryOp .Add) (CA X.K):=by
 intro pins s σ H x y v u Q I rx ry h;obtain ⟨l,b,xs,zs,rfl,rfl,hH,hB,hz,q⟩:=h;cases rx;cases ry;obtain ⟨its,r,p,_⟩:=I.list hH;obtain ⟨its2,r2,p2,_⟩:=I.list hB;obtain ⟨⟨cls,dd,data,sl⟩,n,ho,hc,hd0,hd⟩:=p;obtain ⟨⟨cls2,dd2,data2,sl2⟩,n2,ho2,hc2,hd02,hd2⟩:=p2;simp only at hc hd hc2 hd2;subst hc hd hc2 hd2;have e:its.toArray++its2.toArray=(its++its2).toArray:=by simp
 refine concat_meets ⟨_,ho,rfl⟩ ⟨_,ho2,rfl⟩ noFill_list_add seq_list_add PySem.F.slot_list_add PySem.F.entry_list_add (PySem.F.args_list_add_2 _ _) (list_addW l b its.toArray its2.toArray n n2 dd dd2 sl sl2 (by rw [HB,HB,<-r.length,<-r2.length];exact hz)) ⟨ho,ho2,?_⟩;rw [e];exact ⟨.ref _,_,I.G7 (t':=s.toks) (r.append r2) (by rw [Ho];omega),rfl,q _ I.fresh⟩
end
mutual
noncomputable def hkB:PyData->Bool
 | .int _=>true
 | .str _=>true
 | .tuple ds=>uH ds
 | _=>false
noncomputable def uH:List PyData->Bool
 | []=>true
 | d :: ds=>hkB d&&uH ds
end
theorem kZ:∀ {ds:List PyData},uH ds=true↔∀ d∈ds,hkB d=true
 | []=>by simp [uH]
 | d :: ds=>by simp [uH,kZ (ds:=ds)]
noncomputable def kyB (d:PyData):Bool:=hkB d&&d.canLay0&&decide (d.depth<=6)
noncomputable def hk6 (d:PyData):Bool:=hkB d&&decide (d.depth<=6)
mutual
theorem g7:∀ (d e:PyData),hkB d=true->hkB e=true->(PyData.eqv d e=true↔d=e)
 | .int i,e,_,h=>by
  cases e with
  | int j=>simp [PyData.eqv]
  | str y=>simp [PyData.eqv]
  | tuple es=>simp [PyData.eqv]
  | _=>cases h
 | .str x,e,_,h=>by
  cases e with
  | int j=>simp [PyData.eqv]
  | str y=>simp [PyData.eqv]
  | tuple es=>simp [PyData.eqv]
  | _=>cases h
 | .tuple ds,e,h1,h=>by
  cases e with
  | int j=>simp [PyData.eqv]
  | str y=>simp [PyData.eqv]
  | tuple es=>simp only [PyData.eqv,PyData.tuple.injEq];exact sC ds es h1 h
  | _=>cases h
 | .none,_,h,_=>by cases h
 | .bool _,_,h,_=>by cases h
 | .list _,_,h,_=>by cases h
 | .dict _,_,h,_=>by cases h
theorem sC:∀ (ds es:List PyData),uH ds=true->uH es=true->(PyData.eqvAll ds es=true↔ds=es)
 | [],[],_,_=>by simp [PyData.eqvAll]
 | [],_ :: _,_,_=>by simp [PyData.eqvAll]
 | _ :: _,[],_,_=>by simp [PyData.eqvAll]
 | d :: ds,e :: es,h1,h2=>by
  simp only [uH,HK] at h1 h2;rw [PyData.eqvAll,HK,g7 d e h1.1 h2.1,sC ds es h1.2 h2.2,List.cons.injEq]
end
theorem mK {d:PyData} {ds:List PyData} (h:d∈ds):d.depth+1<=(PyData.tuple ds).depth:=by
 have:∀ {ds:List PyData},d∈ds->d.depth<=PyData.depthAll ds:=by
  intro ds;induction ds with
  | nil=>intro h;cases h
  | cons x xs ih =>
   intro h;rw [PyData.depthAll];rcases Hs.mp h with rfl | h
   ·exact Nat.le_max_left _ _
   ·exact HA (ih h) (Nat.le_max_right _ _)
 rw [PyData.depth];have:=this h;omega
theorem iz {h:Heap}:∀ {vs:List Value} {ds:List PyData} {as:List Addr},ReadsAll h vs ds as->vs.length=ds.length/\∀ (i:Nat) (v:Value),vs[i]?=some v->∃ d bs,ds[i]?=some d/\Reads h v d bs
 | _,_,_,.nil=>⟨rfl,fun i v e=>by simp at e⟩
 | _,_,_,.cons r t=>by
  obtain ⟨l,f⟩:=iz t;refine ⟨by simp [l],fun i v e=>?_⟩;cases i with
  | zero=>simp at e;subst e;exact ⟨_,_,rfl,r⟩
  | succ i=>simpa using f i v (by simpa using e)
section
variable {P:Program} {w:World} {A:Around} {E:Value->Shared->Prop} {s:Shared}
theorem tM:∀ (n:Nat) {d:PyData} {v:Value} {as:List Addr} {Q:Bool->Shared->Prop},Reads s.heap v d as->hkB d=true->d.depth<=n->Q true s->wpAny (model P w) A (eqIsQuiet n v) Q E s:=by
 intro n;induction n with
 | zero =>
  intro d v as Q r h hd q;cases r with
  | int i t=>rw [eqIsQuiet_byValue _ rfl];exact Hg q
  | str x t=>rw [eqIsQuiet_byValue _ rfl];exact Hg q
  | tuple _ _ _ _=>rw [PyData.depth] at hd;omega
  | _=>cases h
 | succ n ih =>
  intro d v as Q r h hd q;cases r with
  | int i t=>rw [eqIsQuiet_byValue _ rfl];exact Hg q
  | str x t=>rw [eqIsQuiet_byValue _ rfl];exact Hg q
  | @tuple a o vs k xs as ho hc hdt ra =>
   have hT:s.TypeIs (.ref a) "tuple" := ⟨o,ho,hc⟩;unfold eqIsQuiet;refine He (JB hT F.slot_tuple_eq.lookup ?_);show wpAny _ _ (isInstance (.ref a) (.type "tuple")>>=_) _ _ s;refine He (wpAny_isInstance hT isSubtype_tuple_tuple ?_);simp only [Bool.not_true,Bool.false_eq_true,if_false];refine He (wpAny_seqItems ho hdt (He ?_));show wpAny _ _ (forIn vs _ _) _ _ s;rw [<- Array.forIn_toList];have hx:=kZ.mp h;refine Jx _ (fun rest r s'=>r.1=none/\s'=s/\∀ u∈rest,u∈vs.toList) _ ?_ ?_ _ _ ⟨rfl,rfl,fun _ z=>z⟩
   ·rintro u rest r s' ⟨hr,rfl,hall⟩;obtain ⟨i,hi⟩:=Ir.mp (hall u Hw);obtain ⟨d',bs,e1,r1⟩:=(iz ra).2 i u hi;have hm:=HF e1;refine He (ih r1 (hx d' hm) (by have:=mK hm;omega) ?_);simp only [Bool.not_true,Bool.false_eq_true,if_false];exact Hg ⟨rfl,rfl,fun y hy=>hall y (Hk _ hy)⟩
   ·rintro ⟨r1,r2⟩ s' ⟨hr,rfl,_⟩;simp only at hr;subst hr;exact Hg q
  | _=>cases h
theorem v9:∀ (n:Nat) {A:Around} {s:Shared} {E:Value->Shared->Prop} {d:PyData} {v:Value} {as:List Addr} {Q:Int->Shared->Prop},Reads s.heap v d as->hkB d=true->d.depth<=n->A.units+n < cLine ->
  (∀ t,Q (cQ w d) { s with toks:=t })->wpAny (model P w) A (pyHash v) Q E s:=by
 intro n;induction n with
 | zero =>
  intro A s E d v as Q r h hd hu q;cases r with
  | int i t=>exact wpAny_pyHash_int (q _)
  | str x t=>exact wpAny_pyHash_str (q _)
  | tuple _ _ _ _=>rw [PyData.depth] at hd;omega
  | _=>cases h
 | succ n ih =>
  intro A s E d v as Q r h hd hu q;cases r with
  | int i t=>exact wpAny_pyHash_int (q _)
  | str x t=>exact wpAny_pyHash_str (q _)
  | @tuple a o vs k xs as ho hc hdt ra =>
   have hT:s.TypeIs (.ref a) "tuple" := ⟨o,ho,hc⟩;have hx:=kZ.mp h;unfold pyHash;first | unfold pyHashByItsType | skip
   first | refine He (wpAny_cRoomFor_or (.inr (by omega)) ?_) | skip
   refine He (JB hT F.slot_tuple_hash.lookup ?_);show wpAny _ _ (if (some (Value.builtin "tuple.__hash__")==some Value.none)=true then _ else _) Q E s;rw [HC (by rw [beq_builtin_none];exact Il)];refine He (JB hT F.slot_tuple_hash.lookup ?_);show wpAny _ _ (callSpecialIfBoundUnlessNone? (.ref a) "__hash__" _>>=_) Q E s;refine He (wpAny_callSpecialIfBoundUnlessNone?_slot hT F.slot_tuple_hash (Ip F.slot_tuple_hash hT F.entry_tuple_hash ?_ (F.args_tuple_hash_1 _)));show wpAny _ _ (Builtin.Tuple.tupleItemsOf (.ref a)>>=_) _ _ s;refine He (wpAny_tupleItemsOf ho hdt (He ?_));rw [<- Array.forIn_toList];have hap:∀ (l m:List PyData),df w (l++m)=df w l++df w m:=by
    intro l m;induction l with
    | nil=>rfl
    | cons x l ihl=>rw [List.cons_append,df,df,ihl];rfl
   refine Jx _ (fun rest (b:Array Int) s'=>∃ i,rest=vs.toList.drop i/\b.toList=df w (xs.take i)/\∃ t,s'={ s with toks:=t }) _ ?_ ?_ _ _ ⟨0,rfl,rfl,_,rfl⟩
   ·rintro u rest b s' ⟨i,hr,hb,t,rfl⟩;have hi:vs.toList[i]?=some u:=by
     have:(vs.toList.drop i)[0]?=some u:=by rw [<- hr];rfl
     simpa using this
    obtain ⟨d',bs,e1,r1⟩:=(iz ra).2 i u hi;have hm:=HF e1;refine He (ih (s:={ s with toks:=t }) r1 (hx d' hm) (by have:=mK hm;omega) (by have:A.in1.units=A.units+1:=rfl;omega) fun t'=>?_);have nx:rest=vs.toList.drop (i+1)/\(b.push (cQ w d')).toList=df w (xs.take (i+1))/\∃ t'',({ s with toks:=t' }:Shared)={ s with toks:=t'' }:=by
     refine ⟨?_,?_,_,rfl⟩
     ·have:=congrArg List.tail hr;simpa [List.tail_drop] using this
     ·rw [List.take_add_one,e1,hap,Jd,hb];rfl
    first
     | exact Hg ⟨i+1,nx⟩
     | exact He (Hg (Hg ⟨i+1,nx⟩))
   ·rintro b s' ⟨i,hr,hb,t,rfl⟩;have hi:vs.toList.length<=i:=by
     have:=congrArg List.length hr;simp at this;simpa using (by omega:vs.size<=i)
    rw [Io (by rw [<- (iz ra).1];exact hi)] at hb;show wpAny _ _ (retInt (Builtin.Tuple.tupleHashOf b.toList)) _ _ _;rw [hb];refine wpAny_ret_mkInt ?_;have q':=q;rw [cQ] at q';unfold reduceHash at q';show wpAny _ _ (if (decide (-(2:Int) ^ 63<=Builtin.Tuple.tupleHashOf (df w xs))&&decide (Builtin.Tuple.tupleHashOf (df w xs) < 2 ^ 63))=true then _ else _) Q E _;by_cases hc:(decide (-(2:Int) ^ 63<=Builtin.Tuple.tupleHashOf (df w xs))&&decide (Builtin.Tuple.tupleHashOf (df w xs) < 2 ^ 63))=true
    ·rw [Hy hc];rw [Hy hc] at q';exact Hg (q' _)
    ·rw [HC hc];rw [HC hc] at q';exact He (IK (Hg (q' _)))
  | _=>cases h
end
open PySem PySem.Spec PyProof.Rows
theorem bc {d:PyData}:kyB d=true↔hkB d=true/\d.canLay0=true/\d.depth<=6:=by simp [kyB,and_assoc]
section
variable {P:Program} {w:World} {A:Around} {E:Value->Shared->Prop} {s:Shared}
structure zF (w:World) (h:Heap) (es:Array DictEntry) (ks:List PyData):Prop where
 len:es.size=ks.length
 nd:ks.Nodup
 at_:∀ (j:Nat) (k:PyData),ks[j]?=some k->kyB k=true/\∃ e bs,es[j]?=some e/\e.hash=cQ w k/\Reads h e.key k bs
theorem zF.at' {h:Heap} {es:Array DictEntry} {ks:List PyData} (N:zF w h es ks) {j:Nat} {e:DictEntry} (he:es[j]?=some e):∃ k bs,ks[j]?=some k/\kyB k=true/\e.hash=cQ w k/\Reads h e.key k bs:=by
 have hj:j < ks.length:=by rw [<- N.len];exact (IQ.mp he).1
 obtain ⟨a,e',bs,b,c,r⟩:=N.at_ j _ (Hn hj);rw [he] at b;cases b;exact ⟨_,bs,Hn hj,a,c,r⟩
theorem zF.one {h:Heap} {es:Array DictEntry} {ks:List PyData} (N:zF w h es ks) {i j:Nat} {k:PyData} (hi:ks[i]?=some k) (hj:ks[j]?=some k):i=j :=
 (List.getElem?_inj (Hi.mp hi).1 N.nd).mp (hi.trans hj.symm)
theorem yD {key key':Value} {k k':PyData} {as bs:List Addr} (hu:A.units+6 < cLine) (r:Reads s.heap key k as) (r':Reads s.heap key' k' bs) (h:kyB k=true) (h':kyB k'=true):SeqAt.EqAt A s key' key (PyData.eqv k' k):=by
 rw [bc] at h h';exact SeqAt.eqAt_reads k' k A s key' key bs as r' r h'.2.1 h.2.1 (by have:=Nat.min_le_right k'.depth k.depth;omega)
theorem B9 {key:Value} {k:PyData} {as:List Addr} {st:List Value} {Q:Bool->Shared->Prop} (r:Reads s.heap key k as) (h:kyB k=true) (hst:∀ v∈st,∃ k' bs,Reads s.heap v k' bs/\kyB k'=true) (q:Q false s) :
  wpAny (model P w) A (tableMayTell key st) Q E s:=by
 rw [bc] at h;unfold tableMayTell;split
 ·exact Hg q
 ·refine He (tM 8 r h.1 (by omega) ?_);rw [HC (by simp)];refine He (Jx _ (fun rest b s'=>s'=s/\b=(none,())/\∀ v∈rest,v∈st) _ ?_ ?_ _ _ ⟨rfl,rfl,fun _ z=>z⟩)
  ·rintro v rest b s' ⟨rfl,rfl,hr⟩;obtain ⟨k',bs,r',h'⟩:=hst v (hr v Hw);rw [bc] at h';refine He (tM 8 r' h'.1 (by omega) ?_);rw [HC (by simp)];exact Hg ⟨rfl,rfl,fun v hv=>hr v (Hk _ hv)⟩
  ·rintro b s' ⟨rfl,rfl,_⟩;exact Hg q
theorem uD {h:Heap} {v:Value} {x:Str} {as:List Addr} (r:Reads h v (.str x) as):∃ t,v=.str x t:=by cases r;exact ⟨_,rfl⟩
theorem nZ {h:Heap} {v:Value} {x:Str} {k:PyData} {as:List Addr} (r:Reads h v k as) (hk:hkB k=true) (hp:v.isStr x=true):k=.str x:=by
 cases r with
 | str y t=>simp [Value.isStr] at hp;simp [hp]
 | int i t=>simp [Value.isStr] at hp
 | tuple _ _ _ _=>simp [Value.isStr] at hp
 | _=>cases hk
theorem tY {α:Type} {c:Prop} [Decidable c] {x y:Sem α} {Q:α->Shared->Prop} (hx:wpAny (model P w) A x Q E s) (hy:wpAny (model P w) A y Q E s):wpAny (model P w) A (if c then x else y) Q E s:=by
 split
 ·exact hx
 ·exact hy
theorem AD {α:Type} {c:Prop} [Decidable c] {m:Sem Bool} {f:Bool->Sem α} {Q:α->Shared->Prop} (hm:∀ Q':Bool->Shared->Prop,Q' false s->wpAny (model P w) A m Q' E s) (h:wpAny (model P w) A (f false) Q E s) :
  wpAny (model P w) A (if c then (pure false:Sem Bool)>>=f else m>>=f) Q E s:=tY (He (Hg h)) (He (hm _ h))
theorem xh {w0:World} {d:Addr} {o:Obj} {es:Array DictEntry} {ep:Nat} {ks:List PyData} {k:PyData} {key:Value} {as:List Addr} {Q:Option Nat->Shared->Prop}
  (hu:A.units+6 < cLine) (hk:Reads s.heap key k as) (hky:kyB k=true) (ho:s.heap.get? d=some o) (hd:o.data=.dict es ep) (N:zF w0 s.heap es ks)
  (hnone:(∀ j:Nat,ks[j]?≠some k)->Q none s) (hsome:∀ j:Nat,ks[j]?=some k->Q (some j) s):wpAny (model P w) A (dictFind d key (cQ w0 k)) Q E s:=by
 have hk3:=bc.mp hky;have hsz:=N.len;have hash_at:∀ j:Nat,ks[j]?=some k->((es[j]?.map (·.hash))==some (cQ w0 k))=true:=fun j hj=>by
  obtain ⟨_,e,bs,he,hh,_⟩:=N.at_ j k hj;rw [he];simp [hh]
 have same:∀ {k'},kyB k'=true->(PyData.eqv k' k=true↔k'=k):=fun h'=>g7 _ _ (bc.mp h').1 hk3.1;have done:∀ i:Nat,i<=es.size->(∀ j:Nat,j < i->ks[j]?≠some k)->[]=(List.range' i (es.size - i)).filter (fun i=>(es[i]?.map (·.hash))==some (cQ w0 k))->∀ j:Nat,ks[j]?≠some k:=by
  intro i hi hno hr j hj;rcases IV j i with h | h
  ·exact hno j h hj
  ·have hjl:j < es.size:=by rw [hsz];exact (Hi.mp hj).1
   have:=List.filter_eq_nil_iff.mp hr.symm j (List.mem_range'_1.mpr ⟨h,by omega⟩);exact this (hash_at j hj)
 have skip:∀ {i x:Nat},(∀ j:Nat,j < i->ks[j]?≠some k)->(∀ j:Nat,i<=j->j < x->((es[j]?.map (·.hash))==some (cQ w0 k))=false)->∀ j:Nat,j < x->ks[j]?≠some k:=by
  intro i x hno hs j hjx hj;rcases IV j i with h | h
  ·exact hno j h hj
  ·have:=hs j h hjx;rw [hash_at j hj] at this;cases this
 have step:∀ {x:Nat} {k':PyData},ks[x]?=some k'->k'≠k->(∀ j:Nat,j < x->ks[j]?≠some k)->∀ j:Nat,j < x+1->ks[j]?≠some k:=by
  intro x k' hx hne hno j hj hjk;rcases IV j x with h | h
  ·exact hno j h hjk
  ·have:j=x:=by omega
   subst this;rw [hx] at hjk;cases hjk;exact hne rfl
 have plain:wpAny (model P w) A (dictWalkPlain d key (cQ w0 k) es (placesWithHash es.size (fun i=>es[i]?.map (·.hash)) (cQ w0 k))) Q E s:=by
  unfold dictWalkPlain
  refine He (Jx _ (fun rest b s'=>s'=s/\b=(none,())/\∃ i:Nat,rest=(List.range' i (es.size - i)).filter (fun i=>(es[i]?.map (·.hash))==some (cQ w0 k))/\i<=es.size/\∀ j:Nat,j < i->ks[j]?≠some k) _ ?_ ?_ _ _
   ⟨rfl,rfl,0,by rw [placesWithHash,List.range_eq_range',Nat.sub_zero],Iw _,fun _ h=>absurd h (Nat.not_lt_zero _)⟩)
  ·rintro x rest b s' ⟨rfl,rfl,i,hr,hi,hno⟩;obtain ⟨hix,hxn,hpx,hskip,hrest⟩:=filter_range'_cons _ _ _ _ _ hr.symm;have hlt:x < es.size:=by omega
   have hex:es[x]?=some es[x]:=Iu hlt;obtain ⟨k',bs,hkx,hk',hh,hr'⟩:=N.at' hex;have hno':=skip hno hskip;have hrest':rest=(List.range' (x+1) (es.size - (x+1))).filter (fun i=>(es[i]?.map (·.hash))==some (cQ w0 k)):=by rw [hrest];congr 2;omega
   rw [hex] at hpx ⊢;have hhx:(es[x].hash==cQ w0 k)=true:=by simpa using hpx
   dsimp only;rw [Hy hhx];refine He (Jm ho hd (He (yD hu hk hr' hky hk' _ _ _ _ (He (Jm ho hd ?_)))));rw [HC (by simp)];by_cases z:k'=k
   ·subst z;rw [(same hky).mpr rfl];first | rw [Hy rfl] | skip
    exact He (IK (Hg (Hg (hsome x hkx))))
   ·have:PyData.eqv k' k=false:=by
     cases q:PyData.eqv k' k with
     | false=>rfl
     | true=>exact absurd ((same hk').mp q) z
    rw [this];rw [HC (by simp)];exact He (IK (Hg ⟨rfl,rfl,x+1,hrest',hlt,step hkx z hno'⟩))
  ·rintro b s' ⟨rfl,rfl,i,hr,hi,hno⟩;exact Hg (hnone (done i hi hno hr))
 have hst:∀ v∈(placesWithHash es.size (fun i=>es[i]?.map (·.hash)) (cQ w0 k)).filterMap (fun i=>es[i]?.map (·.key)),∃ k' bs,Reads s.heap v k' bs/\kyB k'=true:=by
  intro v hv;obtain ⟨i,_,hi⟩:=List.mem_filterMap.mp hv;obtain ⟨e,he,rfl⟩:=Hv.mp hi;obtain ⟨k',bs,_,h1,_,h2⟩:=N.at' he;exact ⟨k',bs,h2,h1⟩
 unfold dictFind;try with_reducible refine HY ?_
 refine He (wpAny_dictEntries ho hd ?_);have shape:(∃ i t,key=.int i t)\/(∃ x t,key=.str x t/\k=.str x)\/∃ a,key=.ref a:=by
  cases hk with
  | int i t=>exact .inl ⟨i,t,rfl⟩
  | str x t=>exact .inr (.inl ⟨x,t,rfl,rfl⟩)
  | tuple _ _ _ _=>exact .inr (.inr ⟨_,rfl⟩)
  | _=>cases hk3.1
 rcases shape with ⟨i,t,rfl⟩ | ⟨x,t,rfl,ek⟩ | ⟨a,rfl⟩;refine tY plain ?_
 rotate_left
 refine tY ?_ (tY plain ?_)
 ·subst ek;unfold foundByValue;cases hf:es.findIdx? (·.key.isStr x) with
  | none =>
   refine Hg (hnone fun j hj=>?_);obtain ⟨_,e,bs,he,_,r⟩:=N.at_ j _ hj;have:=Array.findIdx?_eq_none_iff.mp hf e (Array.mem_of_getElem? he);obtain ⟨t',e'⟩:=uD r;rw [e'] at this;simp [Value.isStr] at this
  | some i =>
   have hi:=(Array.findIdx?_eq_some_iff_getElem.mp hf);obtain ⟨hlt,hp,_⟩:=hi;have hex:es[i]?=some es[i]:=Iu hlt;obtain ⟨k',bs,hkx,hk',hh,hr'⟩:=N.at' hex;have e1:k'=.str x:=nZ hr' (bc.mp hk').1 hp;subst e1;dsimp only;rw [hex];dsimp only;refine He (Jm ho hd (He (yD hu hk hr' hky hk' _ _ _ _ (He (Jm ho hd ?_)))));rw [HC (by simp),(same hky).mpr rfl];first | rw [Hy rfl] | skip
   exact He (IK (Hg (hsome i hkx)))
 rotate_left
 refine tY plain ?_;have hany:¬(es.any fun e=>e.key==Value.ref a&&e.hash != cQ w0 k)=true:=by
  rw [<- Array.any_toList,List.any_eq_true];rintro ⟨e,hin,hc⟩;obtain ⟨j,hj⟩:=Ir.mp hin;obtain ⟨k',bs,_,_,h3,h4⟩:=N.at' (j:=j) (e:=e) (by simpa using hj);simp only [HK,IF,bne_iff_ne,ne_eq] at hc;rw [hc.1] at h4;exact hc.2 (by rw [h3,(PySem.Reads.unique h4 _ _ hk).1])
 dsimp only;rw [HC hany]
 all_goals
  refine AD (fun Q' q=>B9 hk hky hst q) ?_;try dsimp only
  rw [HC (by simp)]
  refine He (Jx _ (fun rest b s'=>s'=s/\∃ (i:Nat) (hit:Option Nat),b=(none,hit)/\rest=(List.range' i (es.size - i)).filter (fun i=>(es[i]?.map (·.hash))==some (cQ w0 k))/\i<=es.size /\
    ((hit=none/\∀ j:Nat,j < i->ks[j]?≠some k)\/∃ j,hit=some j/\j < i/\ks[j]?=some k)) _ ?_ ?_ _ _
   ⟨rfl,0,none,rfl,by rw [placesWithHash,List.range_eq_range',Nat.sub_zero],Iw _,.inl ⟨rfl,fun _ h=>absurd h (Nat.not_lt_zero _)⟩⟩)
  ·rintro x rest b s' ⟨rfl,i,hit,rfl,hr,hi,hH⟩;obtain ⟨hix,hxn,hpx,hskip,hrest⟩:=filter_range'_cons _ _ _ _ _ hr.symm;have hlt:x < es.size:=by omega
   have hex:es[x]?=some es[x]:=Iu hlt;obtain ⟨k',bs,hkx,hk',hh,hr'⟩:=N.at' hex;have hrest':rest=(List.range' (x+1) (es.size - (x+1))).filter (fun i=>(es[i]?.map (·.hash))==some (cQ w0 k)):=by rw [hrest];congr 2;omega
   rw [hex] at hpx ⊢;have hhx:=(show (es[x].hash==cQ w0 k)=true by simpa using hpx);dsimp only;rw [Hy hhx];refine He (Jm ho hd (He (yD hu hk hr' hky hk' _ _ _ _ (He (Jm ho hd ?_)))));rw [HC (by simp)];cases q:PyData.eqv k' k with
   | true =>
    have z:=(same hk').mp q;rw [z] at hkx;first | rw [Hy rfl] | skip
    have h0:hit=none:=by
     rcases hH with ⟨h0,_⟩ | ⟨j,_,hj,hjk⟩
     ·exact h0
     ·exact absurd (N.one hjk hkx) (by omega)
    subst h0;simp only [Option.isSome_none,Bool.false_eq_true,if_false];first | refine He (Hg ?_) | skip
    refine He (IK ?_);split
    ·exact Hg (Hg (hsome x hkx))
    ·exact Hg ⟨rfl,x+1,some x,rfl,hrest',hlt,.inr ⟨x,rfl,Jf x,hkx⟩⟩
   | false =>
    rw [HC (by simp)];have z:k'≠k:=fun e=>by rw [(same hk').mpr e] at q;cases q
    have st:(hit=none/\∀ j:Nat,j < x+1->ks[j]?≠some k)\/∃ j,hit=some j/\j < x+1/\ks[j]?=some k:=by
     rcases hH with ⟨h0,hno⟩ | ⟨j,h0,hj,hjk⟩
     ·exact .inl ⟨h0,step hkx z (skip hno hskip)⟩
     ·exact .inr ⟨j,h0,by omega,hjk⟩
    refine He (IK ?_);first | rw [HC (by simp)] | skip
    first
     | exact Hg ⟨rfl,x+1,hit,rfl,hrest',hlt,st⟩
     | exact He (Hg (Hg ⟨rfl,x+1,hit,rfl,hrest',hlt,st⟩))
  ·rintro b s' ⟨rfl,i,hit,rfl,hr,hi,hH⟩;rcases hH with ⟨rfl,hno⟩ | ⟨j,rfl,_,hj⟩
   ·exact Hg (hnone (done i hi hno hr))
   ·exact Hg (hsome j hj)
end
open PySem PySem.Spec PyProof.Rows
noncomputable def kD:Key->PyData | .inl i=>.int i | .inr x=>.str x
noncomputable def cvK (kv:Key×V):PyData×V×V:=(kD kv.1,kV kv.1,kv.2)
theorem CJ {a b:Key} (h:kD a=kD b):a=b:=by
 cases a <;> cases b <;> simp [kD] at h <;> simp [h]
theorem zx (w:World) (k:Key):cQ w (kD k)=FZ w k:=by cases k <;> rfl
theorem vD {P:Program} {w:World} {H:Hp} (h:Heap) (hb:sysModules < h.objs.size):bY P w H (h.push { cls:=.type "dict", data:=.dict #[] }) h.objs.size (.dD 0 []) :=
 ⟨Iw _,beq_eq_false_iff_ne.mpr (Ne.symm (HH hb)),List.nodup_nil,_,#[],HE _ rfl,⟨rfl,rfl,rfl⟩,rfl,.nil⟩
theorem md {P:Program} {w:World}:∀ {kvs:List (Key×V)} {vs:List (Key×Value)} {es:List DictEntry},KV kvs vs->Pairs (b5 P w) es vs->(∀ e∈es,∃ k,(b5 P w).is k e.key=true/\e.hash=(b5 P w).hash k)->Paired (yR w) (kvs.map cvK) es
 | [],_,_,r,q,_=>by cases r;cases q;exact .nil
 | p :: kvs,_,es,r,q,h=>by
  cases r with
  | cons r t =>
   cases q with
   | @cons e kv es' kvs' h1 h2 h3 =>
    obtain ⟨k,hk,hh⟩:=h e Hw;have e1:k=p.1:=by rw [r.1];exact (b5 P w).inj _ _ _ hk h1
    subst e1;refine .cons ⟨?_,?_,?_⟩ (md t h3 fun e he=>h e (Hk _ he))
    ·rw [hh];exact (zx w _).symm
    ·show RelV (kV p.1) e.key;rcases bp (show nW p.1 e.key=true from hk) with ⟨i,t,e1,e2⟩ | ⟨x,t,e1,e2⟩
     ·rw [e1,e2];exact ⟨t,rfl⟩
     ·rw [e1,e2];exact ⟨t,rfl⟩
    ·show RelV p.2 e.val;rw [h2];exact r.2
theorem Ft {P:Program} {w:World} {H:Hp} {h:Heap} {a:Addr} {kvs:List (Key×V)} {vs:List (Key×Value)} (z:kvs.length<=sizeLine) (hd:(a==sysModules)=false) (rel:KV kvs vs) (dd:h.DictOf (b5 P w) a vs) :
  ∃ ep,bY P w H h a (.dD ep (kvs.map cvK)):=by
 obtain ⟨o,es,ep,h1,h2,h3,h4,h5,h6⟩:=dd;refine ⟨ep,by rw [Hf];exact z,hd,?_,o,es,h1,h2,h3,md rel h5 fun e he=>h4 e (Array.mem_toList_iff.mp he)⟩;have e1:vs.map (·.1)=kvs.map (·.1):=by
  clear h5 h6 z;unfold KV at rel;induction rel with
  | nil=>rfl
  | cons r t ih=>rw [List.map_cons,List.map_cons,ih,r.1]
 rw [e1] at h6;rw [Jz];have:(kvs.map ((fun x:PyData×V×V=>x.1)∘cvK))=(kvs.map (·.1)).map kD:=by rw [Jz];rfl
 rw [this];exact List.Pairwise.map kD (fun _ _ n z=>n (CJ z)) h6
def pM (trs:List (TE×TE)):TE:=fun σ H Q=>∀ p,H p=none->pA trs σ (upd H p (.dD 0 [])) fun ps H2=>H2 p=some (.dD 0 [])/\∃ kvs:List (Key×V),ps=kvs.map (fun kv=>(kV kv.1,kv.2))/\kvs.length<=15/\∀ ep,Q (.ref p) (upd H2 p (.dD ep ((eQ [] kvs).map cvK)))
section
variable {X:Cx} {pos:Pos}
theorem uN {keys:List (Option Expr)} {values:List Expr} {trs:List (TE×TE)} (h:PPs X pos keys values trs) (hall:keys.all (·.isSome)=true) (hl:keys.length=values.length) (h0:keys≠[])
  (h15:keys.length<=15):PE X (.Dict keys values pos) (pM trs):=by
 intro pins s σ H Q I q;have hn:=I.hok.fresh (Hu s.heap.objs.size);have I1:=I.laid (o:=.dD 0 []) (h':=s.heap.push { cls:=.type "dict", data:=.dict #[] }) (t':=s.toks) (fun _ _ q=>Hj _ q) (Hu _) (vD s.heap I.big);refine wpAny_Dict_walk (knd:=b5 X.prog X.w) hall hl h0 h15 (thn (h pins _ σ _ _ I1 (q _ hn)) fun ws s2 ⟨ps,H2,I2,rel,e,kvs,ep,lk,q2⟩=>?_);subst ep;obtain ⟨rs,c,rk⟩:=jU (P:=X.prog) (w:=X.w) rel;obtain ⟨z,hd,nd,o,es,g1,g2,g3,g4⟩:=(show bY X.prog X.w H2 s2.heap s.heap.objs.size (.dD 0 []) from I2.hok _ _ e);have ees:es=#[]:=by
  cases es with
  | mk l=>cases g4;rfl
 subst ees;have dd:s2.heap.DictOf (b5 X.prog X.w) s.heap.objs.size []:=⟨o,#[],0,g1,g2,g3,fun e he=>by simp at he,.nil,List.nodup_nil⟩;refine ⟨rs,c,dd,fun h' dd' hs=>?_⟩;have hz:(eQ [] kvs).length<=sizeLine:=by
  have h1:=gc kvs [];rw [List.length_nil] at h1;rw [Jg];omega
 have he:∃ q,h'.get? s.heap.objs.size=some q:=let ⟨q,_,_,hq,_⟩:=dd';⟨q,hq⟩
 obtain ⟨ep,new⟩:=Ft (H:=upd H2 s.heap.objs.size (.dD 0 [])) hz hd (rk.merge .nil) dd';exact ⟨.ref s.heap.objs.size,_,oB I2 (by rw [e];exact True.intro) hs he (ob:=.dD ep ((eQ [] kvs).map cvK)) new,rfl,q2 ep⟩
end
noncomputable def tU (xs:List (PyData×V×V)) (k:PyData):Option V:=(xs.find? fun x=>PyData.eqv x.1 k).map (·.2.2)
noncomputable def pL (xs:List (PyData×V×V)) (k:PyData) (j v:V):List (PyData×V×V) :=
 if (xs.any fun x=>PyData.eqv x.1 k)=true then xs.map (fun x=>if PyData.eqv x.1 k=true then (x.1,x.2.1,v) else x) else xs++[(k,j,v)]
def km (h:Heap) (xs:List (PyData×V×V)):Prop:=∀ x∈xs,kyB x.1=true/\∀ u,RelV x.2.1 u->∃ bs,Reads h u x.1 bs
section
variable {X:Cx} {pins:List (Addr×Obj)} {σ:St} {H:Hp} {s:Shared} {a:Addr} {A:Around} {E:Value->Shared->Prop} {ep:Nat} {xs:List (PyData×V×V)} {k:PyData} {u:Value} {as:List Addr}
theorem jv {α β:Type} {R:α->β->Prop}:∀ {l:List α} {m:List β},Paired R l m->∀ (j:Nat) (x:α),l[j]?=some x->∃ y,m[j]?=some y/\R x y
 | _,_,.nil,j,x,e=>by simp at e
 | _,_,.cons r t,0,x,e=>by simp at e;subst e;exact ⟨_,rfl,r⟩
 | _,_,.cons r t,j+1,x,e=>by simpa using jv t j x (by simpa using e)
theorem tL {P:Program} {w:World} {h:Heap} {es:Array DictEntry} (kr:km h xs) (nd:(xs.map (·.1)).Nodup) (r:Paired (yR w) xs es.toList):zF w h es (xs.map (·.1)) where
 len:=by rw [Hf,Paired.length r];simp
 nd:=nd
 at_:=fun j k e=>by
  rw [Hl] at e;obtain ⟨x,hx,rfl⟩:=Hv.mp e;obtain ⟨en,h1,h2,h3,h4⟩:=jv r j x hx;obtain ⟨k1,k2⟩:=kr x (HF hx);obtain ⟨bs,r1⟩:=k2 _ h3;exact ⟨k1,en,bs,by simpa using h1,h2,r1⟩
theorem uf {j:Nat} (kr:km s.heap xs) (nd:(xs.map (·.1)).Nodup) (ky:kyB k=true) (hj:(xs.map (·.1))[j]?=some k):∃ x,xs[j]?=some x/\x.1=k/\xs.find? (fun x=>PyData.eqv x.1 k)=some x:=by
 rw [Hl] at hj;obtain ⟨x,hx,rfl⟩:=Hv.mp hj;refine ⟨x,hx,rfl,?_⟩;rw [List.find?_eq_some_iff_getElem];obtain ⟨hl,e⟩:=Hi.mp hx;refine ⟨(g7 _ _ (bc.mp ky).1 (bc.mp ky).1).mpr rfl,j,hl,e,fun i hi=>?_⟩;have hil:i < xs.length:=by omega
 cases q:PyData.eqv xs[i].1 x.1 with
 | false=>rfl
 | true =>
  have z:=(g7 _ _ (bc.mp (kr _ (List.getElem_mem hil)).1).1 (bc.mp ky).1).mp q;have e1:(xs.map (·.1))[i]?=some x.1:=by rw [Hl,Hn hil,Option.map_some,z]
  have e2:(xs.map (·.1))[j]?=some x.1:=by rw [Hl,hx];rfl
  have:=(List.getElem?_inj (by rw [Hf];exact hil) nd).mp (e1.trans e2.symm);omega
theorem tI (kr:km s.heap xs) (ky:kyB k=true) (h:∀ j:Nat,(xs.map (·.1))[j]?≠some k):xs.find? (fun x=>PyData.eqv x.1 k)=none:=by
 rw [List.find?_eq_none];intro x hx q;have z:=(g7 _ _ (bc.mp (kr x hx).1).1 (bc.mp ky).1).mp q;obtain ⟨j,hj⟩:=Ir.mp hx;exact h j (by rw [Hl,hj,Option.map_some,z])
theorem EG {Q:Option Value->Shared->Prop} (hu:A.units+6 < cLine) (I:Inv X pins σ H s) (e:H a=some (.dD ep xs)) (kr:km s.heap xs) (hk:Reads s.heap u k as) (ky:kyB k=true)
  (q:∀ t ov,Aw (tU xs k) ov->Q ov { s with toks:=t }):wpAny (model X.prog X.w) A (dictGet a u) Q E s:=by
 obtain ⟨z,hd,nd,o,es,g1,g2,g3,g4⟩:=(show bY X.prog X.w H s.heap a (.dD ep xs) from I.hok _ _ e);unfold dictGet;refine HY (He (v9 6 hk (bc.mp ky).1 (bc.mp ky).2.2 hu fun t=>?_));refine He (xh (s:={ s with toks:=t }) hu hk ky g1 g3 (tL (P:=X.prog) kr nd g4) (fun hno=>?_) fun j hj=>?_)
 ·refine Hg (q _ _ ?_);unfold tU;rw [tI (s:=s) kr ky hno];exact True.intro
 ·obtain ⟨x,hx,e1,e2⟩:=uf (s:=s) kr nd ky hj;obtain ⟨en,h1,h2,h3,h4⟩:=jv g4 j x hx;refine He (wpAny_dictEntries (s:={ s with toks:=t }) g1 g3 (Hg (q _ _ ?_)));unfold tU;rw [e2,show es[j]?=some en by simpa using h1];exact h4
theorem m7 (I:Inv X pins σ H s) (e:H a=some (.dD ep xs)):s.TypeIs (.ref a) "dict" /\ (a==sysModules)=false:=by
 obtain ⟨z,hd,nd,o,es,g1,g2,g3,g4⟩:=(show bY X.prog X.w H s.heap a (.dD ep xs) from I.hok _ _ e);exact ⟨⟨o,g1,g2.1⟩,hd⟩
theorem Bl {v:V} {Q:Value->Shared->Prop} (hu:A.units+7 < cLine) (I:Inv X pins σ H s) (e:H a=some (.dD ep xs)) (kr:km s.heap xs) (hk:Reads s.heap u k as) (ky:kyB k=true) (hv:tU xs k=some v)
  (q:∀ t w',RelV v w'->Q w' { s with toks:=t }):wpAny (model X.prog X.w) A (getItem (.ref a) u) Q E s:=by
 obtain ⟨T,_⟩:=m7 I e;unfold getItem;refine HY (He (wpAny_sequenceKey T (by decide) (He (IZ (name:=Str.ofString "__getitem__") T slot_dict_getitem (Ip slot_dict_getitem T entry_dict_getitem ?_ (args_dict_getitem _ _))))));refine He (m:=dictGet a u) (EG (by have:A.in1.units=A.units+1:=rfl;omega) I e kr hk ky fun t ov r=>?_);rw [hv] at r;cases ov with
 | none=>cases r
 | some w'=>exact Hg ⟨w',rfl,Hg (q t w' r)⟩
theorem pq {j v:V}:(pL xs k j v).length<=xs.length+1:=by
 unfold pL;split
 ·rw [Hf];omega
 ·rw [Ho];exact Hu _
theorem o5 {j v:V} (h:xs.find? (fun x=>PyData.eqv x.1 k)=none):pL xs k j v=xs++[(k,j,v)]:=by
 unfold pL;rw [HC];rw [List.any_eq_true];rintro ⟨x,hx,q⟩;exact absurd q (by simpa using List.find?_eq_none.mp h x hx)
theorem pR {j v:V} {x:PyData×V×V} (h:xs.find? (fun x=>PyData.eqv x.1 k)=some x):pL xs k j v=xs.map (fun x=>if PyData.eqv x.1 k=true then (x.1,x.2.1,v) else x):=by
 unfold pL;rw [Hy];rw [List.any_eq_true];exact ⟨x,List.mem_of_find?_eq_some h,by simpa using List.find?_some h⟩
theorem rq {w:World} {h:Heap} {v:V} {r:Value} (ky:kyB k=true) (rv:RelV v r):∀ {xs:List (PyData×V×V)} {es:List DictEntry} {i:Nat},km h xs->(xs.map (·.1)).Nodup->(xs.map (·.1))[i]?=some k->Paired (yR w) xs es ->
  Paired (yR w) (xs.map (fun x=>if PyData.eqv x.1 k=true then (x.1,x.2.1,v) else x)) (es.modify i fun e=>{ e with val:=r })
 | [],es,i,_,_,hi,_=>by simp at hi
 | x :: xs,es,i,kr,nd,hi,p=>by
  cases p with
  | @cons _ e _ es' h1 h2 =>
   have ky':=(kr x Hw).1;rw [List.map_cons,Ia] at nd;have off:∀ {ys:List (PyData×V×V)} {fs:List DictEntry},k ∉ ys.map (·.1)->km h ys->Paired (yR w) ys fs->Paired (yR w) (ys.map (fun x=>if PyData.eqv x.1 k=true then (x.1,x.2.1,v) else x)) fs:=by
    intro ys fs hn kr' q;have:(ys.map (fun x=>if PyData.eqv x.1 k=true then (x.1,x.2.1,v) else x))=ys:=by
     refine (List.map_congr_left fun y hy=>?_).trans (List.map_id _);rw [HC]
     ·rfl
     ·intro z;exact hn (HM.mpr ⟨y,hy,(g7 _ _ (bc.mp (kr' y hy).1).1 (bc.mp ky).1).mp z⟩)
    rw [this];exact q
   cases i with
   | zero =>
    simp at hi;subst hi;rw [List.map_cons,Hy ((g7 _ _ (bc.mp ky).1 (bc.mp ky).1).mpr rfl)];exact .cons ⟨h1.1,h1.2.1,rv⟩ (off nd.1 (fun y hy=>kr y (Hk _ hy)) h2)
   | succ i =>
    have hi':(xs.map (·.1))[i]?=some k:=by simpa using hi
    have ne:x.1≠k:=fun z=>nd.1 (by rw [z];exact HF hi');rw [List.map_cons,HC fun z=>ne ((g7 _ _ (bc.mp ky').1 (bc.mp ky).1).mp z)];exact .cons h1 (rq ky rv (fun y hy=>kr y (Hk _ hy)) nd.2 hi' h2)
theorem DX {j v:V} {r:Value} {Q:Unit->Shared->Prop} (hu:A.units+7 < cLine) (I:Inv X pins σ H s) (e:H a=some (.dD ep xs)) (kr:km s.heap xs) (hk:Reads s.heap u k as) (ky:kyB k=true) (rj:RelV j u) (rv:RelV v r) (hl:xs.length < sizeLine)
  (q:∀ ep' s',Inv X pins σ (upd H a (.dD ep' (pL xs k j v))) s'->Q () s'):wpAny (model X.prog X.w) A (setItem (.ref a) u r) Q E s:=by
 obtain ⟨T,hd⟩:=m7 I e;obtain ⟨z,_,nd,o,es,g1,g2,g3,g4⟩:=(show bY X.prog X.w H s.heap a (.dD ep xs) from I.hok _ _ e);have hsz:es.size=xs.length:=by rw [Paired.length g4];simp
 unfold setItem;refine HY (He (wpAny_sequenceKey T (by decide) (He (IZ (name:=Str.ofString "__setitem__") T slot_dict_setitem (Ip slot_dict_setitem T entry_dict_setitem ?_ (args_dict_setitem _ _ _))))));refine He (m:=Builtin.Dict.notOrdered "__setitem__" ⟨[.ref a,u,r],[]⟩) (wpAny_notOrdered_dict T ?_);refine He (m:=dictSet a u r) ?_;unfold dictSet dictSetHashed;refine HY (He (v9 6 hk (bc.mp ky).1 (bc.mp ky).2.2 (by have:A.in1.units=A.units+1:=rfl;omega) fun t=>HY ?_));have hl':(pL xs k j v).length<=sizeLine:=by have:=pq (xs:=xs) (k:=k) (j:=j) (v:=v);omega
 refine He (xh (s:={ s with toks:=t }) (by have:A.in1.units=A.units+1:=rfl;omega) hk ky g1 g3 (tL (P:=X.prog) kr nd g4) (fun hno=>?_) fun i hi=>?_)
 ·have fn:=tI (s:=s) kr ky hno;refine He (IK (wpAny_updateDictKeys (s:={ s with toks:=t }) (hz:=by omega) g1 g3 (Hg ⟨.none,rfl,Hg (q (ep+1) _ (oB (t':=t) (I.tok t) (by rw [e];exact True.intro) (Heap.SameBut.update ..) ⟨_,HR _ g1 (Obj.isFreed_of_dict (Obj.data_mapDictKeys g3 _))⟩ ?_))⟩)));refine ⟨hl',hd,?_,_,_,HR _ g1 (Obj.isFreed_of_dict (Obj.data_mapDictKeys g3 _)),g2.mapDictKeys _,Obj.data_mapDictKeys g3 _,?_⟩
  ·rw [o5 fn,HL,List.nodup_append];refine ⟨nd,by simp,fun y hy z hz=>?_⟩;simp only [List.map_cons,List.map_nil,Hm] at hz;subst hz;rintro rfl;obtain ⟨i,hi⟩:=Ir.mp hy;exact hno i hi
  ·rw [o5 fn,Jd];exact Paired.snoc g4 ⟨rfl,rj,rv⟩
 ·obtain ⟨x,hx,e1,e2⟩:=uf (s:=s) kr nd ky hi;refine He (IK (He (wpAny_updateDict (s:={ s with toks:=t }) g1 g3 (wpAny_point (Hg ⟨.none,rfl,Hg (q ep _ (oB (t':=t) (I.tok t) (by rw [e];exact True.intro) (Heap.SameBut.update ..) ⟨_,HR _ g1 (Obj.isFreed_of_dict (Obj.data_mapDict g3 _))⟩ ?_))⟩)))));refine ⟨hl',hd,?_,_,_,HR _ g1 (Obj.isFreed_of_dict (Obj.data_mapDict g3 _)),g2.mapDict _,Obj.data_mapDict g3 _,?_⟩
  ·rw [pR e2,Jz];have:(xs.map ((fun x:PyData×V×V=>x.1)∘fun y=>if PyData.eqv y.1 k=true then (y.1,y.2.1,v) else y))=xs.map (·.1):=List.map_congr_left fun y _=>by
    show (if PyData.eqv y.1 k=true then (y.1,y.2.1,v) else y).1=y.1;split <;> rfl
   rw [this];exact nd
  ·rw [pR e2,Array.toList_modify];exact rq ky rv kr nd hi g4
end
open PySem PySem.Spec PyProof.Rows
def Itd (a:Addr) (ep:Nat) (xs:List (PyData×V×V)):It :=
 ⟨fun i H=>H a=some (.dD ep xs)/\i < xs.length,fun i H x H'=>H'=H/\(xs[i]?).map (·.2.1)=some x,fun i H=>H a=some (.dD ep xs)/\xs.length<=i⟩
def GA (tl:TE):TI:=fun σ H R=>tl σ H fun x H1=>∃ a ep xs,x=.ref a/\H1 a=some (.dD ep xs)/\R (Itd a ep xs) H1
open PySem PySem.Spec PyProof.Rows
def Itz (K:Fg) (a b:Addr) (xs ys:List V):It :=
 ⟨fun i H=>SqL K H a xs/\SqL K H b ys/\i < xs.length/\i < ys.length,fun i H x H'=>∃ p u v,H p=none/\x=.ref p/\xs[i]?=some u/\ys[i]?=some v/\H'=upd H p (.tup [u,v]),fun i H=>SqL K H a xs/\SqL K H b ys/\(xs.length<=i\/ys.length<=i)⟩
def GU (K:Fg) (t:TA):TI:=fun σ H R=>t σ H fun vs H1=>∃ a b xs ys,vs=[.ref a,.ref b]/\SqL K H1 a xs/\SqL K H1 b ys/\R (Itz K a b xs ys) H1
open PySem PySem.Spec PyProof.Rows
def TkX (xs:List (PyData×V×V)):Prop:=∀ x∈xs,∃ t,x.1=.str t/\x.2.1=.str t
def Iti (a:Addr) (ep:Nat) (xs:List (PyData×V×V)):It :=
 ⟨fun i H=>H a=some (.dD ep xs)/\TkX xs/\i < xs.length,fun i H x H'=>∃ p y,H p=none/\x=.ref p/\xs[i]?=some y/\H'=upd H p (.tup [y.2.1,y.2.2]),fun i H=>H a=some (.dD ep xs)/\TkX xs/\xs.length<=i⟩
def Gj (tl:TE):TI:=fun σ H R=>tl σ H fun x H1=>∃ a ep xs,x=.ref a/\H1 a=some (.dD ep xs)/\TkX xs/\R (Iti a ep xs) H1
open PySem
def GP (K:Fg) (a:Addr) (xs:List V):Prop:=∃ (o:Obj) (its:Array Value) (n:Nat),K.lookup a=some o/\o.cls=.type "list" /\ o.dict=none/\o.data=.seq its n/\its.size<=sizeLine/\Vals xs its.toList
def LsF (K:Fg) (F:Addr->Prop) (H:Hp) (a:Addr) (xs:List V):Prop:=(¬F a/\Rd H a (.lst xs))\/GP K a xs
mutual
def Dm (K:Fg) (F:Addr->Prop) (H:Hp):PyData->V->Prop
 | .none,v=>v=.non
 | .bool b,v=>v=.bl b
 | .int i,v=>v=.int i
 | .str x,v=>v=.str x/\x.length<=sizeLine/\PyData.strOk x=true
 | .list ds,v=>∃ a xs,v=.ref a/\LsF K F H a xs/\xs.length<=sizeLine/\DmL K F H ds xs
 | .tuple ds,v=>∃ a xs,v=.ref a/\SqT K H a xs/\xs.length<=sizeLine/\DmL K F H ds xs
 | .dict kvs,v=>∃ a ep xs,v=.ref a/\¬F a/\H a=some (.dD ep xs)/\xs.length<=sizeLine/\DmP K F H kvs xs
def DmL (K:Fg) (F:Addr->Prop) (H:Hp):List PyData->List V->Prop
 | [],vs=>vs=[]
 | d :: ds,vs=>∃ v r,vs=v :: r/\Dm K F H d v/\DmL K F H ds r
def DmP (K:Fg) (F:Addr->Prop) (H:Hp):List (PyData×PyData)->List (PyData×V×V)->Prop
 | [],vs=>vs=[]
 | (k,d) :: ds,vs=>∃ j v r,vs=(k,j,v) :: r/\hk6 k=true/\Dm K F H k j/\Dm K F H d v/\DmP K F H ds r
end
noncomputable def Wr:HO->Bool | .lst _=>true | .dD _ _=>true | _=>false
def Pr (F:Addr->Prop) (H H':Hp):Prop:=∀ b o,H b=some o->(¬F b\/Wr o=false)->H' b=some o
section
variable {K:PySem.W.Frag} {F F':Addr->Prop} {H H':Hp}
theorem SqT.pr {a:Addr} {xs:List V} (p:Pr F H H') (h:SqT K H a xs):SqT K H' a xs:=by
 rcases h with (h | ⟨o,h⟩) | h
 ·exact .inl (.inl (p _ _ h (.inr rfl)))
 ·exact .inl (.inr ⟨o,p _ _ h (.inr rfl)⟩)
 ·exact .inr h
theorem LsF.pr {a:Addr} {xs:List V} (p:Pr F H H') (hf:∀ b,F' b->F b) (h:LsF K F H a xs):LsF K F' H' a xs:=by
 rcases h with ⟨n,h | ⟨o,h⟩⟩ | h
 ·exact .inl ⟨fun z=>n (hf _ z),.inl (p _ _ h (.inl n))⟩
 ·exact .inl ⟨fun z=>n (hf _ z),.inr ⟨o,p _ _ h (.inl n)⟩⟩
 ·exact .inr h
mutual
theorem Dm.pr (p:Pr F H H') (hf:∀ b,F' b->F b):∀ {d:PyData} {v:V},Dm K F H d v->Dm K F' H' d v
 | .none,v,h=>h
 | .bool b,v,h=>h
 | .int i,v,h=>h
 | .str x,v,h=>h
 | .list ds,v,h=>by
  obtain ⟨a,xs,e,l,z,r⟩:=h;exact ⟨a,xs,e,l.pr p hf,z,DmL.pr p hf r⟩
 | .tuple ds,v,h=>by
  obtain ⟨a,xs,e,l,z,r⟩:=h;exact ⟨a,xs,e,l.pr p,z,DmL.pr p hf r⟩
 | .dict kvs,v,h=>by
  obtain ⟨a,ep,xs,e,n,l,z,r⟩:=h;exact ⟨a,ep,xs,e,fun q=>n (hf _ q),p _ _ l (.inl n),z,DmP.pr p hf r⟩
theorem DmL.pr (p:Pr F H H') (hf:∀ b,F' b->F b):∀ {ds:List PyData} {vs:List V},DmL K F H ds vs->DmL K F' H' ds vs
 | [],vs,h=>h
 | d :: ds,vs,h=>by
  obtain ⟨v,r,e,h1,h2⟩:=h;exact ⟨v,r,e,Dm.pr p hf h1,DmL.pr p hf h2⟩
theorem DmP.pr (p:Pr F H H') (hf:∀ b,F' b->F b):∀ {ds:List (PyData×PyData)} {vs:List (PyData×V×V)},DmP K F H ds vs->DmP K F' H' ds vs
 | [],vs,h=>h
 | (k,d) :: ds,vs,h=>by
  obtain ⟨j,v,r,e,e2,h0,h1,h2⟩:=h;exact ⟨j,v,r,e,e2,Dm.pr p hf h0,Dm.pr p hf h1,DmP.pr p hf h2⟩
end
theorem LsF.fresh {a c:Addr} {xs:List V} (hc:H c=none) (h:LsF K F H a xs):LsF K (fun b=>F b\/b=c) H a xs:=by
 rcases h with ⟨n,h⟩ | h
 ·refine .inl ⟨fun z=>z.elim n fun e=>?_,h⟩;subst e;rcases h with h | ⟨o,h⟩ <;> (rw [hc] at h;cases h)
 ·exact .inr h
mutual
theorem Dm.fresh {c:Addr} (hc:H c=none):∀ {d:PyData} {v:V},Dm K F H d v->Dm K (fun b=>F b\/b=c) H d v
 | .none,v,h=>h
 | .bool b,v,h=>h
 | .int i,v,h=>h
 | .str x,v,h=>h
 | .list ds,v,h=>by
  obtain ⟨a,xs,e,l,z,r⟩:=h;exact ⟨a,xs,e,l.fresh hc,z,DmL.fresh hc r⟩
 | .tuple ds,v,h=>by
  obtain ⟨a,xs,e,l,z,r⟩:=h;exact ⟨a,xs,e,l,z,DmL.fresh hc r⟩
 | .dict kvs,v,h=>by
  obtain ⟨a,ep,xs,e,n,l,z,r⟩:=h;exact ⟨a,ep,xs,e,fun q=>q.elim n fun q=>(by subst q;rw [hc] at l;cases l),l,z,DmP.fresh hc r⟩
theorem DmL.fresh {c:Addr} (hc:H c=none):∀ {ds:List PyData} {vs:List V},DmL K F H ds vs->DmL K (fun b=>F b\/b=c) H ds vs
 | [],vs,h=>h
 | d :: ds,vs,h=>by
  obtain ⟨v,r,e,h1,h2⟩:=h;exact ⟨v,r,e,Dm.fresh hc h1,DmL.fresh hc h2⟩
theorem DmP.fresh {c:Addr} (hc:H c=none):∀ {ds:List (PyData×PyData)} {vs:List (PyData×V×V)},DmP K F H ds vs->DmP K (fun b=>F b\/b=c) H ds vs
 | [],vs,h=>h
 | (k,d) :: ds,vs,h=>by
  obtain ⟨j,v,r,e,e2,h0,h1,h2⟩:=h;exact ⟨j,v,r,e,e2,Dm.fresh hc h0,Dm.fresh hc h1,DmP.fresh hc h2⟩
end
theorem Pr.refl:Pr F H H:=fun _ _ h _=>h
theorem Pr.trans {H1 H2:Hp} (a:Pr F H H1) (b:Pr F' H1 H2) (hf:∀ b,F' b->F b):Pr F H H2:=fun c o h n=>b c o (a c o h n) (n.imp (fun z q=>z (hf _ q)) id)
theorem Pr.of_same (a:bq H H'):Pr F H H':=fun c o h _=>a c o h
theorem Dm.mono (hf:∀ b,F' b->F b) {d:PyData} {v:V} (h:Dm K F H d v):Dm K F' H d v:=h.pr Pr.refl hf
theorem DmL.mono (hf:∀ b,F' b->F b) {d:List PyData} {v:List V} (h:DmL K F H d v):DmL K F' H d v:=h.pr Pr.refl hf
theorem DmL.len:∀ {ds:List PyData} {vs:List V},DmL K F H ds vs->vs.length=ds.length
 | [],vs,h=>by rw [show vs=[] from h];rfl
 | d :: ds,vs,h=>by
  obtain ⟨v,r,e,h1,h2⟩:=h;rw [e,HD,HD,DmL.len h2]
theorem DmL.get:∀ {ds:List PyData} {vs:List V} {i:Nat} {d:PyData},DmL K F H ds vs->ds[i]?=some d->∃ v,vs[i]?=some v/\Dm K F H d v
 | [],vs,_,_,h,e=>by simp at e
 | d :: ds,vs,0,d',h,e=>by
  obtain ⟨v,r,e1,h1,h2⟩:=h;simp at e;subst e;subst e1;exact ⟨v,rfl,h1⟩
 | d :: ds,vs,i+1,d',h,e=>by
  obtain ⟨v,r,e1,h1,h2⟩:=h;subst e1;obtain ⟨w,q1,q2⟩:=DmL.get (i:=i) h2 (by simpa using e);exact ⟨w,by simpa using q1,q2⟩
theorem DmL.get' {ds:List PyData} {vs:List V} {i:Nat} {v:V} (h:DmL K F H ds vs) (e:vs[i]?=some v):∃ d,ds[i]?=some d/\Dm K F H d v:=by
 have hl:=h.len;have hi:i < vs.length:=(Hi.mp e).1;have hd:ds[i]?=some (ds[i]'(by omega)):=Hn _;obtain ⟨w,e2,q⟩:=h.get hd;rw [e] at e2;cases e2;exact ⟨_,hd,q⟩
theorem DmL.app:∀ {ds es:List PyData} {vs ws:List V},DmL K F H ds vs->DmL K F H es ws->DmL K F H (ds++es) (vs++ws)
 | [],es,vs,ws,h,q=>by rw [show vs=[] from h];exact q
 | d :: ds,es,vs,ws,h,q=>by
  obtain ⟨v,r,e,h1,h2⟩:=h;subst e;exact ⟨v,r++ws,rfl,h1,DmL.app h2 q⟩
theorem DmL.snoc {ds:List PyData} {vs:List V} {d:PyData} {v:V} (h:DmL K F H ds vs) (q:Dm K F H d v):DmL K F H (ds++[d]) (vs++[v]):=h.app ⟨v,[],rfl,q,rfl⟩
def Top (K:PySem.W.Frag) (F:Addr->Prop) (H:Hp):PyData->Addr->Prop
 | .list ds,a=>∃ xs,H a=some (.lst xs)/\xs.length<=sizeLine/\DmL K F H ds xs
 | .dict kvs,a=>∃ ep xs,H a=some (.dD ep xs)/\xs.length<=sizeLine/\DmP K F H kvs xs
 | _,_=>False
def zH (K:PySem.W.Frag) (F:Addr->Prop) (H:Hp):PyData->Addr->Prop
 | .list ds,a=>∃ xs,SqL K H a xs/\xs.length<=sizeLine/\DmL K F H ds xs
 | .dict kvs,a=>∃ ep xs,H a=some (.dD ep xs)/\xs.length<=sizeLine/\DmP K F H kvs xs
 | _,_=>False
def Vw (K:PySem.W.Frag) (F:Addr->Prop) (H:Hp):PyData->V->Prop
 | .list ds,v=>∃ a,v=.ref a/\zH K F H (.list ds) a
 | .dict ds,v=>∃ a,v=.ref a/\zH K F H (.dict ds) a
 | d,v=>Dm K F H d v
theorem Top.r {d:PyData} {a:Addr} (h:Top K F H d a):zH K F H d a:=by
 cases d with
 | list ds=>obtain ⟨xs,e,z,r⟩:=h;exact ⟨xs,.inl (.inl e),z,r⟩
 | dict ds=>exact h
 | _=>exact h
theorem zH.vw {d:PyData} {a:Addr} (h:zH K F H d a):Vw K F H d (.ref a):=by
 cases d with
 | list ds=>exact ⟨a,rfl,h⟩
 | dict ds=>exact ⟨a,rfl,h⟩
 | _=>exact absurd h id
theorem Dm.vw {d:PyData} {v:V} (h:Dm K F H d v):Vw K F H d v:=by
 cases d with
 | list ds =>
  obtain ⟨a,xs,e,l,z,r⟩:=h;refine ⟨a,e,xs,?_,z,r⟩;rcases l with ⟨n,l⟩ | l
  ·exact .inl l
  ·exact .inr l
 | dict ds=>obtain ⟨a,ep,xs,e,n,l,z,r⟩:=h;exact ⟨a,e,ep,xs,l,z,r⟩
 | _=>exact h
theorem Top.dm {d:PyData} {a:Addr} (h:Top K F H d a) (n:¬F a):Dm K F H d (.ref a):=by
 cases d with
 | list ds=>obtain ⟨xs,e,z,r⟩:=h;exact ⟨a,xs,rfl,.inl ⟨n,.inl e⟩,z,r⟩
 | dict ds=>obtain ⟨ep,xs,e,z,r⟩:=h;exact ⟨a,ep,xs,rfl,n,e,z,r⟩
 | _=>exact absurd h id
theorem Top.wr {d:PyData} {a:Addr} (h:Top K F H d a):∃ o,H a=some o/\Wr o=true:=by
 cases d with
 | list ds=>obtain ⟨xs,e,_⟩:=h;exact ⟨_,e,rfl⟩
 | dict ds=>obtain ⟨ep,xs,e,_⟩:=h;exact ⟨_,e,rfl⟩
 | _=>exact absurd h id
theorem Top.pr {d:PyData} {a:Addr} (h:Top K F H d a) (p:Pr F H H') (hf:∀ b,F' b->F b) (ha:∀ o,H a=some o->H' a=some o):Top K F' H' d a:=by
 cases d with
 | list ds=>obtain ⟨xs,e,z,r⟩:=h;exact ⟨xs,ha _ e,z,r.pr p hf⟩
 | dict ds=>obtain ⟨ep,xs,e,z,r⟩:=h;exact ⟨ep,xs,ha _ e,z,r.pr p hf⟩
 | _=>exact absurd h id
theorem Top.fresh {d:PyData} {a c:Addr} (hc:H c=none) (h:Top K F H d a):Top K (fun b=>F b\/b=c) H d a:=by
 cases d with
 | list ds=>obtain ⟨xs,e,z,r⟩:=h;exact ⟨xs,e,z,r.fresh hc⟩
 | dict ds=>obtain ⟨ep,xs,e,z,r⟩:=h;exact ⟨ep,xs,e,z,r.fresh hc⟩
 | _=>exact absurd h id
end
open PySem
def GK (K:Fg) (tl:TE):TI:=fun σ H R=>ij K tl σ H R\/xu K tl σ H R
inductive Sl where | un | dat (d:PyData) | own (d:PyData) | ino (d:PyData) | ro (d:PyData)
abbrev En:=List Sl
inductive RV where | dat (d:PyData) | bor (i:Nat) | frs (d:PyData)
inductive PR where | dat (d:PyData) | frs (d:PyData)
inductive AV where | dat (d:PyData) | bor (i:Nat)
inductive PM where | dat | bor | ino
noncomputable def PR.rv:PR->RV | .dat d=>.dat d | .frs d=>.frs d
noncomputable def RV.av:RV->AV | .dat d=>.dat d | .frs d=>.dat d | .bor i=>.bor i
structure Fn where
 ms:List PM
 F:List PyData->Option (PR×List PyData)
noncomputable def cont (env:En) (i:Nat):Option PyData:=match env[i]? with | some (.own d)=>some d | some (.ino d)=>some d | some (.ro d)=>some d | _=>none
noncomputable def bx (env:En) (i:Nat):Option PyData:=match env[i]? with | some (.own d)=>some d | some (.ino d)=>some d | _=>none
noncomputable def gU (env:En) (i:Nat) (d:PyData):En:=match env[i]? with | some (.own _)=>env.set i (.own d) | some (.ino _)=>env.set i (.ino d) | _=>env
noncomputable def AV.view (env:En):AV->Option PyData | .dat d=>some d | .bor i=>cont env i
noncomputable def RV.view (env:En) (r:RV):Option PyData:=r.av.view env
def mu (env:En) (i:Nat):Prop:=∃ d,env[i]?=some (.own d)\/env[i]?=some (.ino d)
def IA (env:En) (σ:St) (b:Addr):Prop:=∃ i,mu env i/\σ[i]?=some (some (.ref b))
def FF (F0:Addr->Prop) (env:En) (σ:St) (b:Addr):Prop:=F0 b\/∃ (i:Nat) (d:PyData),env[i]?=some (.own d)/\σ[i]?=some (some (.ref b))
def fT (K:Fg) (F I:Addr->Prop) (H:Hp):PyData->Addr->Prop
 | .list ds,a=>∃ xs,LsF K I H a xs/\xs.length<=sizeLine/\DmL K F H ds xs
 | .dict kvs,a=>∃ ep xs,¬I a/\H a=some (.dD ep xs)/\xs.length<=sizeLine/\DmP K F H kvs xs
 | _,_=>False
structure Rel (K:Fg) (F0:Addr->Prop) (H₀:Hp) (I:Addr->Prop) (env:En) (σ:St) (H:Hp):Prop where
 len:env.length=σ.length
 dat:∀ (i:Nat) (d:PyData),env[i]?=some (.dat d)->∃ v,σ[i]?=some (some v)/\Dm K (FF F0 env σ) H d v
 own:∀ (i:Nat) (d:PyData),env[i]?=some (.own d)->∃ a,σ[i]?=some (some (.ref a))/\¬F0 a/\(H₀ a=none\/I a)/\Top K (FF F0 env σ) H d a
 ino:∀ (i:Nat) (d:PyData),env[i]?=some (.ino d)->∃ a,σ[i]?=some (some (.ref a))/\F0 a/\I a/\Top K (FF F0 env σ) H d a
 ro:∀ (i:Nat) (d:PyData),env[i]?=some (.ro d)->∃ a,σ[i]?=some (some (.ref a))/\fT K (FF F0 env σ) (IA env σ) H d a
 sep:∀ i j a,mu env i->mu env j->σ[i]?=some (some (.ref a))->σ[j]?=some (some (.ref a))->i=j
 dom:∀ b,F0 b->H b≠none
 eH:∀ b o,H₀ b=some o->¬I b->H b=some o
section
variable {K:Fg} {F F' I I' F0:Addr->Prop} {H H' H₀:Hp} {env env':En} {σ σ':St}
theorem fT.r {d:PyData} {a:Addr} (h:fT K F I H d a):zH K F H d a:=by
 cases d with
 | list ds =>
  obtain ⟨xs,l,z,r⟩:=h;exact ⟨xs,l.elim (fun q=>.inl q.2) .inr,z,r⟩
 | dict ds=>obtain ⟨ep,xs,n,l,z,r⟩:=h;exact ⟨ep,xs,l,z,r⟩
 | _=>exact absurd h id
theorem fT.pr {d:PyData} {a:Addr} (h:fT K F I H d a) (p:Pr F H H') (hf:∀ b,F' b->F b) (hi:∀ b,I' b->I b) (k:∀ b o,H b=some o->¬I b->H' b=some o):fT K F' I' H' d a:=by
 cases d with
 | list ds =>
  obtain ⟨xs,l,z,r⟩:=h;refine ⟨xs,?_,z,r.pr p hf⟩;rcases l with ⟨n,l | ⟨o,l⟩⟩ | l
  ·exact .inl ⟨fun q=>n (hi _ q),.inl (k _ _ l n)⟩
  ·exact .inl ⟨fun q=>n (hi _ q),.inr ⟨o,k _ _ l n⟩⟩
  ·exact .inr l
 | dict ds=>obtain ⟨ep,xs,n,l,z,r⟩:=h;exact ⟨ep,xs,fun q=>n (hi _ q),k _ _ l n,z,r.pr p hf⟩
 | _=>exact absurd h id
theorem fT.fresh {d:PyData} {a c:Addr} (hc:H c=none) (h:fT K F I H d a):fT K (fun b=>F b\/b=c) I H d a:=by
 cases d with
 | list ds=>obtain ⟨xs,e,z,r⟩:=h;exact ⟨xs,e,z,r.fresh hc⟩
 | dict ds=>obtain ⟨ep,xs,n,e,z,r⟩:=h;exact ⟨ep,xs,n,e,z,r.fresh hc⟩
 | _=>exact absurd h id
theorem Dm.ro {d:PyData} {v:V} (h:Dm K F H d v) (hi:∀ b,I b->F b) (l:(∃ ds,d=.list ds)\/∃ ds,d=.dict ds):∃ a,v=.ref a/\fT K F I H d a:=by
 rcases l with ⟨ds,rfl⟩ | ⟨ds,rfl⟩
 ·obtain ⟨a,xs,e,l,z,r⟩:=h;exact ⟨a,e,xs,l.elim (fun q=>.inl ⟨fun z=>q.1 (hi _ z),q.2⟩) .inr,z,r⟩
 ·obtain ⟨a,ep,xs,e,n,l,z,r⟩:=h;exact ⟨a,e,ep,xs,fun q=>n (hi _ q),l,z,r⟩
theorem Top.ro {d:PyData} {a:Addr} (h:Top K F H d a) (n:¬I a):fT K F I H d a:=by
 cases d with
 | list ds=>obtain ⟨xs,e,z,r⟩:=h;exact ⟨xs,.inl ⟨n,.inl e⟩,z,r⟩
 | dict ds=>obtain ⟨ep,xs,e,z,r⟩:=h;exact ⟨ep,xs,n,e,z,r⟩
 | _=>exact absurd h id
theorem Rel.ia (R:Rel K F0 H₀ I env σ H) {b:Addr} (h:IA env σ b):FF F0 env σ b:=by
 obtain ⟨i,⟨d,e | e⟩,s⟩:=h
 ·exact .inr ⟨i,d,e,s⟩
 ·obtain ⟨a,s',f,_⟩:=R.ino i d e;rw [s] at s';cases s';exact .inl f
theorem Rel.iaT (R:Rel K F0 H₀ I env σ H) {b:Addr} (h:IA env σ b):∃ o,H b=some o/\Wr o=true:=by
 obtain ⟨i,⟨d,e | e⟩,s⟩:=h
 ·obtain ⟨a,s',_,_,t⟩:=R.own i d e;rw [s] at s';cases s';exact t.wr
 ·obtain ⟨a,s',_,_,t⟩:=R.ino i d e;rw [s] at s';cases s';exact t.wr
theorem Rel.iaI (R:Rel K F0 H₀ I env σ H) {b:Addr} (h:IA env σ b):H₀ b=none\/I b:=by
 obtain ⟨i,⟨d,e | e⟩,s⟩:=h
 ·obtain ⟨a,s',_,q,t⟩:=R.own i d e;rw [s] at s';cases s';exact q
 ·obtain ⟨a,s',_,q,t⟩:=R.ino i d e;rw [s] at s';cases s';exact .inr q
theorem Rel.fy (R:Rel K F0 H₀ I env σ H) {b:Addr} (h:FF F0 env σ b):H b≠none:=by
 rcases h with h | ⟨i,d,e,s⟩
 ·exact R.dom b h
 ·obtain ⟨o,q,_⟩:=R.iaT ⟨i,⟨d,.inl e⟩,s⟩;rw [q];exact nofun
theorem Rel.pQ (R:Rel K F0 H₀ I env σ H) (k:∀ b o,H b=some o->¬IA env σ b->H' b=some o):Pr (FF F0 env σ) H H':=fun b o h n=>k b o h fun q=>by
 rcases n with n | n
 ·exact n (R.ia q)
 ·obtain ⟨o',h',w⟩:=R.iaT q;rw [h] at h';cases h';rw [n] at w;cases w
theorem Rel.rebase (R:Rel K F0 H₀ I env σ H):Rel K F0 H (IA env σ) env σ H :=
 ⟨R.len,R.dat,fun i d e=>let ⟨a,s,n,_,t⟩:=R.own i d e;⟨a,s,n,.inr ⟨i,⟨d,.inl e⟩,s⟩,t⟩,fun i d e=>let ⟨a,s,n,_,t⟩:=R.ino i d e;⟨a,s,n,⟨i,⟨d,.inr e⟩,s⟩,t⟩,R.ro,R.sep,R.dom,fun _ _ h _=>h⟩
theorem Rel.oi (R:Rel K F0 H₀ I env σ H) {a:Addr} (h:H a=none\/IA env σ a):H₀ a=none\/I a:=by
 rcases h with h | h
 ·cases e:H₀ a with
  | none=>exact .inl rfl
  | some o =>
   by_cases z:I a
   ·exact .inr z
   ·have:=R.eH a o e z;rw [h] at this;cases this
 ·exact R.iaI h
theorem Rel.bZ (R:Rel K F0 H₀ I env σ H) (S:Rel K F0 H (IA env σ) env' σ' H'):Rel K F0 H₀ I env' σ' H':=by
 refine ⟨S.len,S.dat,fun i d e=>?_,fun i d e=>?_,S.ro,S.sep,S.dom,fun b o h n=>?_⟩
 ·obtain ⟨a,s,n,q,t⟩:=S.own i d e;exact ⟨a,s,n,R.oi q,t⟩
 ·obtain ⟨a,s,n,q,t⟩:=S.ino i d e;refine ⟨a,s,n,?_,t⟩;obtain ⟨j,⟨d',e' | e'⟩,s'⟩:=q
  ·obtain ⟨a',s2,n',_⟩:=R.own j d' e';rw [s'] at s2;cases s2;exact absurd n n'
  ·obtain ⟨a',s2,_,n',_⟩:=R.ino j d' e';rw [s'] at s2;cases s2;exact n'
 ·refine S.eH b o (R.eH b o h n) fun q=>?_;rcases R.iaI q with z | z
  ·rw [h] at z;cases z
  ·exact n z
def Evo:Sl->Sl->Prop
 | .un,s=>s=.un
 | .dat d,s=>s=.dat d
 | .own _,s=>(∃ d,s=.own d)\/(∃ d,s=.dat d)\/s=.un
 | .ino _,s=>∃ d,s=.ino d
 | .ro d,s=>s=.ro d
def KpE (env env':En):Prop:=env'.length=env.length/\∀ (i:Nat) (s:Sl),env[i]?=some s->∃ s',env'[i]?=some s'/\Evo s s'
theorem Evo.refl:∀ s,Evo s s
 | .un=>rfl
 | .dat _=>rfl
 | .own d=>.inl ⟨d,rfl⟩
 | .ino d=>⟨d,rfl⟩
 | .ro _=>rfl
theorem Evo.trans:∀ {a b c:Sl},Evo a b->Evo b c->Evo a c
 | .un,b,c,h,q=>by rw [show b=.un from h] at q;exact q
 | .dat d,b,c,h,q=>by rw [show b=.dat d from h] at q;exact q
 | .own d,b,c,h,q=>by
  rcases h with ⟨d,rfl⟩ | ⟨d,rfl⟩ | rfl
  ·exact q
  ·exact .inr (.inl ⟨d,q⟩)
  ·exact .inr (.inr q)
 | .ino d,b,c,h,q=>by obtain ⟨d,rfl⟩:=h;exact q
 | .ro d,b,c,h,q=>by rw [show b=.ro d from h] at q;exact q
theorem KpE.refl (env:En):KpE env env:=⟨rfl,fun i s e=>⟨s,e,.refl s⟩⟩
theorem KpE.trans {e1 e2 e3:En} (a:KpE e1 e2) (b:KpE e2 e3):KpE e1 e3:=⟨b.1.trans a.1,fun i s e=>by
 obtain ⟨s1,h1,v1⟩:=a.2 i s e;obtain ⟨s2,h2,v2⟩:=b.2 i s1 h1
 exact ⟨s2,h2,v1.trans v2⟩⟩
theorem KpE.back (k:KpE env env') {i:Nat} {s':Sl} (e:env'[i]?=some s'):∃ s,env[i]?=some s/\Evo s s':=by
 have hi:i < env'.length:=(Hi.mp e).1;have:env[i]?=some (env[i]'(by rw [<- k.1];exact hi)):=Hn _;obtain ⟨s2,h2,v⟩:=k.2 i _ this;rw [e] at h2;cases h2;exact ⟨_,this,v⟩
theorem KpE.own (k:KpE env env') {i:Nat} {d:PyData} (e:env'[i]?=some (.own d)):∃ d',env[i]?=some (.own d'):=by
 obtain ⟨s,h,v⟩:=k.back e;cases s with
 | un=>cases v
 | dat _=>cases v
 | own d'=>exact ⟨d',h⟩
 | ino _=>obtain ⟨_,v⟩:=v;cases v
 | ro _=>cases v
theorem KpE.ff (k:KpE env env') {b:Addr} (h:FF F0 env' σ b):FF F0 env σ b:=by
 rcases h with h | ⟨i,d,e,s⟩
 ·exact .inl h
 ·obtain ⟨d',e'⟩:=k.own e;exact .inr ⟨i,d',e',s⟩
theorem KpE.mu (k:KpE env env') {i:Nat} (h:mu env' i):mu env i:=by
 obtain ⟨d,h | h⟩:=h
 ·obtain ⟨d',e⟩:=k.own h;exact ⟨d',.inl e⟩
 ·obtain ⟨s,h,v⟩:=k.back h;cases s with
  | un=>cases v
  | dat _=>cases v
  | own d'=>rcases v with ⟨_,v⟩ | ⟨_,v⟩ | v <;> cases v
  | ino d'=>exact ⟨d',.inr h⟩
  | ro _=>cases v
theorem KpE.ia (k:KpE env env') {b:Addr} (h:IA env' σ b):IA env σ b:=let ⟨i,m,s⟩:=h;⟨i,k.mu m,s⟩
theorem Rel.pf (R:Rel K F0 H₀ I env σ H) (S:Rel K F0 H (IA env σ) env' σ H') (k:KpE env env') {d:PyData} {v:V} (h:Dm K (FF F0 env σ) H d v):Dm K (FF F0 env' σ) H' d v :=
 h.pr (R.pQ fun b o e n=>S.eH b o e n) fun _ z=>k.ff z
theorem Rel.same (R:Rel K F0 H₀ I env σ H) (s:bq H H'):Rel K F0 H₀ I env σ H':=by
 have p:Pr (FF F0 env σ) H H':=Pr.of_same s;refine ⟨R.len,fun i d e=>?_,fun i d e=>?_,fun i d e=>?_,fun i d e=>?_,R.sep,fun b h=>?_,fun b o h n=>s _ _ (R.eH b o h n)⟩
 ·obtain ⟨v,q,r⟩:=R.dat i d e;exact ⟨v,q,r.pr p fun _ z=>z⟩
 ·obtain ⟨a,q,n,w,t⟩:=R.own i d e;exact ⟨a,q,n,w,t.pr p (fun _ z=>z) (fun o z=>s _ _ z)⟩
 ·obtain ⟨a,q,n,w,t⟩:=R.ino i d e;exact ⟨a,q,n,w,t.pr p (fun _ z=>z) (fun o z=>s _ _ z)⟩
 ·obtain ⟨a,q,t⟩:=R.ro i d e;exact ⟨a,q,t.pr p (fun _ z=>z) (fun _ z=>z) (fun b o z _=>s _ _ z)⟩
 ·cases e:H b with
  | none=>exact absurd e (R.dom b h)
  | some o=>rw [s _ _ e];exact nofun
theorem fZ {c:Addr}:FF (fun b=>F0 b\/b=c) env σ=fun b=>FF F0 env σ b\/b=c:=by
 funext b;apply propext;constructor
 ·rintro ((h | h) | h)
  ·exact .inl (.inl h)
  ·exact .inr h
  ·exact .inl (.inr h)
 ·rintro ((h | h) | h)
  ·exact .inl (.inl h)
  ·exact .inr h
  ·exact .inl (.inr h)
theorem Rel.fresh (R:Rel K F0 H₀ I env σ H) {c:Addr} (hc:H c=none) {H':Hp} (s:bq H H') (hc':H' c≠none):Rel K (fun b=>F0 b\/b=c) H₀ I env σ H':=by
 have p:Pr (fun b=>FF F0 env σ b\/b=c) H H':=Pr.of_same s;have na:∀ i a,mu env i->σ[i]?=some (some (.ref a))->a≠c:=fun i a m q z=>by
  obtain ⟨o,h,_⟩:=R.iaT ⟨i,m,q⟩;rw [z,hc] at h;cases h
 refine ⟨R.len,fun i d e=>?_,fun i d e=>?_,fun i d e=>?_,fun i d e=>?_,R.sep,fun b h=>?_,fun b o h n=>s _ _ (R.eH b o h n)⟩
 ·obtain ⟨v,q,r⟩:=R.dat i d e;rw [fZ];exact ⟨v,q,(r.fresh hc).pr p fun _ z=>z⟩
 ·obtain ⟨a,q,n,w,t⟩:=R.own i d e;rw [fZ];exact ⟨a,q,fun z=>z.elim n (na i a ⟨d,.inl e⟩ q),w,(t.fresh hc).pr p (fun _ z=>z) (fun o z=>s _ _ z)⟩
 ·obtain ⟨a,q,n,w,t⟩:=R.ino i d e;rw [fZ];exact ⟨a,q,.inl n,w,(t.fresh hc).pr p (fun _ z=>z) (fun o z=>s _ _ z)⟩
 ·obtain ⟨a,q,t⟩:=R.ro i d e;rw [fZ];exact ⟨a,q,(t.fresh hc).pr p (fun _ z=>z) (fun _ z=>z) (fun b o z _=>s _ _ z)⟩
 ·rcases h with h | h
  ·cases e:H b with
   | none=>exact absurd e (R.dom b h)
   | some o=>rw [s _ _ e];exact nofun
  ·rw [h];exact hc'
theorem Rel.less {c:Addr} (R:Rel K (fun b=>F0 b\/b=c) H₀ I env σ H) (hi:∀ (i:Nat) (d:PyData),env[i]?=some (.ino d)->σ[i]?≠some (some (.ref c))):Rel K F0 H₀ I env σ H:=by
 have hf:∀ b,FF F0 env σ b->FF (fun b=>F0 b\/b=c) env σ b:=fun b z=>by rw [fZ];exact .inl z
 refine ⟨R.len,fun i d e=>?_,fun i d e=>?_,fun i d e=>?_,fun i d e=>?_,R.sep,fun b h=>R.dom b (.inl h),R.eH⟩
 ·obtain ⟨v,q,r⟩:=R.dat i d e;exact ⟨v,q,r.mono hf⟩
 ·obtain ⟨a,q,n,w,t⟩:=R.own i d e;exact ⟨a,q,fun z=>n (.inl z),w,t.pr Pr.refl hf fun _ z=>z⟩
 ·obtain ⟨a,q,n,w,t⟩:=R.ino i d e;refine ⟨a,q,?_,w,t.pr Pr.refl hf fun _ z=>z⟩;rcases n with n | n
  ·exact n
  ·exact absurd (n▸q) (hi i d e)
 ·obtain ⟨a,q,t⟩:=R.ro i d e;exact ⟨a,q,t.pr Pr.refl hf (fun _ z=>z) fun _ _ z _=>z⟩
end
open PySem
def wH (K:Fg) (F:Addr->Prop) (H H':Hp):PR->V->Prop
 | .dat d,v=>Dm K F H' d v
 | .frs d,v=>∃ a,v=.ref a/\H a=none/\Top K (fun b=>F b\/b=a) H' d a
def VwL (K:Fg) (F:Addr->Prop) (H:Hp):List PyData->List V->Prop
 | [],vs=>vs=[]
 | d :: ds,vs=>∃ v r,vs=v :: r/\Vw K F H d v/\VwL K F H ds r
structure Cst where
 d:PyData
 v:V
 ok:∀ (K:Fg) (F:Addr->Prop) (H:Hp),Dm K F H d v
def Cst.i (i:Int):Cst:=⟨.int i,.int i,fun _ _ _=>rfl⟩
def Cst.s (x:Str) (h:x.length<=sizeLine) (h2:PyData.strOk x=true):Cst:=⟨.str x,.str x,fun _ _ _=>⟨rfl,h,h2⟩⟩
def Cst.b (b:Bool):Cst:=⟨.bool b,.bl b,fun _ _ _=>rfl⟩
def Cst.n:Cst:=⟨.none,.non,fun _ _ _=>rfl⟩
structure Prm where
 r:Fg->List V->Hp->VK->Prop
 f:List PyData->Option PR
 ok:∀ (K:Fg) (F:Addr->Prop) (H:Hp) (ds:List PyData) (vs:List V) (pr:PR) (Q:VK),f ds=some pr->VwL K F H ds vs->(∀ b,F b->H b≠none)->(∀ v H',bq H H'->wH K F H H' pr v->Q v H')->r K vs H Q
structure Mtd where
 T:String
 r:Fg->V->List V->Hp->VK->Prop
 ty:PyData->Bool
 f:PyData->List PyData->Option PR
 Cu:∀ (K:Fg) (F:Addr->Prop) (H:Hp) (d:PyData) (v:V),ty d=true->Vw K F H d v->tyV K T v H
 ok:∀ (K:Fg) (F:Addr->Prop) (H:Hp) (d:PyData) (v:V) (ds:List PyData) (vs:List V) (pr:PR) (Q:VK),f d ds=some pr->Vw K F H d v->VwL K F H ds vs->(∀ b,F b->H b≠none)->(∀ v H',bq H H'->wH K F H H' pr v->Q v H')->r K v vs H Q
def MvL (K:Fg) (F:Addr->Prop) (H:Hp):List (Bool×PyData)->List V->Prop
 | [],vs=>vs=[]
 | (true,d) :: ds,vs=>∃ v r,vs=v :: r/\Dm K F H d v/\MvL K F H ds r
 | (false,d) :: ds,vs=>∃ v r,vs=v :: r/\Vw K F H d v/\MvL K F H ds r
structure Mtr where
 T:String
 r:Fg->V->List V->Hp->VK->Prop
 ty:PyData->Bool
 f:PyData->List (Bool×PyData)->Option (PyData×PyData)
 Cu:∀ (K:Fg) (F:Addr->Prop) (H:Hp) (d:PyData) (a:Addr),ty d=true->Top K F H d a->tyV K T (.ref a) H
 ok:∀ (K:Fg) (F:Addr->Prop) (H:Hp) (d:PyData) (a:Addr) (as:List (Bool×PyData)) (vs:List V) (d' x:PyData) (Q:VK),f d as=some (d',x)->F a->Top K F H d a->MvL K F H as vs ->
  (∀ v H',(∀ b o,b≠a->H b=some o->H' b=some o)->Top K F H' d' a->Dm K F H' x v->Q v H')->r K (.ref a) vs H Q
structure vC where
 r:Fg->V->V->V->Hp->(Hp->Prop)->Prop
 f:PyData->PyData->PyData->Option PyData
 ok:∀ (K:Fg) (F:Addr->Prop) (H:Hp) (d:PyData) (a:Addr) (k x:PyData) (vk vx:V) (d':PyData) (Q:Hp->Prop),f d k x=some d'->F a->Top K F H d a->Vw K F H k vk->Dm K F H x vx ->
  (∀ H',(∀ b o,b≠a->H b=some o->H' b=some o)->Top K F H' d' a->Q H')->r K (.ref a) vk vx H Q
mutual
inductive XE where
 | var (i:Nat) | mov (i:Nat) | tke (i:Nat) | cst (c:Cst) | glb (g:Nat)
 | prm (p:Prm) (as:XA) | met (m:Mtd) (o:XE) (as:XA) | mtr (m:Mtr) (i:Nat) (as:XA) | call (f:Fn) (as:XA)
 | tup (as:XA) | lst (as:XA) | dsp (as:XP) | fst (as:XA)
 | ifx (c:XT) (a b:XE) | Cf (a b:XE) | orv (a b:XE) | Cs (a:XE) | chn (p q:Prm) (a b c:XE) | sl2 (p:Int->Int->Prm) (a b c:XE)
 | cmp (js:List Nat) (it:XI) (c:XT) (e:XE) | zL (n:List Str) (js:List Nat) (it:XI) (e:XE)
inductive XA where | nil | cons (e:XE) (r:XA)
inductive XP where | nil | cons (k e:XE) (r:XP)
inductive XT where | tst (e:XE) | tru (e:XE) | and (a b:XT) | or (a b:XT) | not (a:XT) | yes
inductive XI where | lst (e:XE) | tup (e:XE) | str (e:XE) | rng1 (as:XA) | rng2 (as:XA) | dct (e:XE) | zip (as:XA) | sq (e:XE) | itm (e:XE)
end
inductive XS where
 | skip | seq (a b:XS) | cp (i:Nat) (e:XE) | nq (i:Nat) (e:XE) | Cm (is:List Nat) (e:XE) | drop (e:XE) | ret (e:XE) | CV
 | ifs (c:XT) (a b:XS) | fr (i:Nat) (it:XI) (b:XS) | frT (is:List Nat) (it:XI) (b:XS) | wh (n:Nat) (c:XT) (b:XS) | brk | cnt | nev | sto (m:vC) (i:Nat) (k e:XE)
def gNs:List Nat->TGs
 | []=>yV
 | i :: r=>fv (ar i) (gNs r)
def gTp (K:PySem.W.Frag) (is:List Nat):TG:=yC K is.length (gNs is)
def G2:List TE->TE:=fun ts=>tFs ts Str.empty
def NoE:XK:=fun _ _ _=>False
def y7 (K:PySem.W.Frag) (G I:Addr->Prop) (H:Hp) (d:PyData) (v:V):Prop:=match d with
 | .tuple ds=>Dm K G H (.tuple ds) v
 | d=>∃ a,v=.ref a/\fT K G I H d a
def cD (K:PySem.W.Frag) (G I:Addr->Prop) (H:Hp):List PM->List PyData->List V->List Addr->Prop
 | [],[],[],is=>is=[]
 | .dat :: ms,d :: ds,v :: vs,is=>Dm K G H d v/\cD K G I H ms ds vs is
 | .bor :: ms,d :: ds,v :: vs,is=>y7 K G I H d v/\cD K G I H ms ds vs is
 | .ino :: ms,d :: ds,v :: vs,is=>∃ a r,v=.ref a/\is=a :: r/\G a/\Top K G H d a/\a ∉ r/\cD K G I H ms ds vs r
 | _,_,_,_=>False
def iT (K:PySem.W.Frag) (G:Addr->Prop) (H:Hp):List PyData->List Addr->Prop
 | [],[]=>True
 | d :: ds,a :: r=>Top K G H d a/\iT K G H ds r
 | _,_=>False
def C9 (K:PySem.W.Frag) (G:Addr->Prop) (H H':Hp) (outs:List PyData) (is:List Addr):PR->V->Prop
 | .dat d,v=>Dm K G H' d v/\iT K G H' outs is
 | .frs d,v=>∃ a,v=.ref a/\H a=none/\Top K (fun b=>G b\/b=a) H' d a/\iT K (fun b=>G b\/b=a) H' outs is
def fP (f:Fn) (K:PySem.W.Frag):Sp:=fun vs H Q _=>∃ (G:Addr->Prop) (ds:List PyData) (is:List Addr) (pr:PR) (outs:List PyData),f.F ds=some (pr,outs)/\cD K G (·∈is) H f.ms ds vs is/\(∀ b,G b->H b≠none) /\
 ∀ v' H',(∀ b o,H b=some o->b ∉ is->H' b=some o)->C9 K G H H' outs is pr v'->Q v' H'
section
variable (K:PySem.W.Frag) (ga:Nat->V)
mutual
noncomputable def rE:XE->TE
 | .var i=>ag i | .mov i=>ag i | .tke i=>ag i | .cst c=>tC c.v | .glb g=>tC (ga g)
 | .prm p as=>tCB (p.r K) (rA as) | .met m o as=>tBM K m.T (m.r K) (rE o) (rA as) | .mtr m i as=>tBM K m.T (m.r K) (ag i) (rA as) | .call f as=>aJ (fP f K) [] NoE (rA as)
 | .tup as=>br (rA as) | .lst as=>eJ (rA as) | .dsp as=>pM (rP as) | .fst as=>G2 (rF as)
 | .ifx c a b=>tIf (rT c) (rE a) (rE b) | .Cf a b=>DG (rE a) (rE b) | .orv a b=>Gk (rE a) (rE b) | .Cs a=>E8 (rE a)
 | .chn p q a b c=>oZ (fun x y=>p.r K [x,y]) (fun x y=>q.r K [x,y]) (rE a) (rE b) (rE c)
 | .sl2 p a b c=>fun σ H Q=>rE a σ H fun x H1=>rE b σ H1 fun y H2=>∃ i,y=.int i/\rE c σ H2 fun z H3=>∃ j,z=.int j/\(p i j).r K [x] H3 Q
 | .cmp js it c e=>i6 js (rI_ it) (rT c) (rE e) | .zL n js it e=>pK n js (rI_ it) (gTp K (List.range n.length)) (rE e)
noncomputable def rA:XA->TA
 | .nil=>aj | .cons e r=>aa (rE e) (rA r)
noncomputable def rF:XA->List TE
 | .nil=>[] | .cons e r=>rE e :: rF r
noncomputable def rP:XP->List (TE×TE)
 | .nil=>[] | .cons k e r=>(rE k,rE e) :: rP r
noncomputable def rT:XT->TT
 | .tst e=>tB (rE e) | .tru e=>GX K (rE e) | .and a b=>yB (rT a) (rT b) | .or a b=>tOr (rT a) (rT b) | .not a=>xa (rT a) | .yes=>wL
noncomputable def rI_:XI->TI
 | .lst e=>ij K (rE e) | .tup e=>xu K (rE e) | .str e=>G1 (rE e) | .rng1 as=>qp (rA as) | .rng2 as=>Ds (rA as) | .dct e=>GA (rE e) | .zip as=>GU K (rA as) | .sq e=>GK K (rE e) | .itm e=>Gj (rE e)
end
def rS:XS->TS
 | .skip=>bB | .seq a b=>aT (rS a) (rS b) | .cp i e=>bF (rE K ga e) (ar i) | .nq i e=>bF (rE K ga e) (ar i) | .Cm is e=>bF (rE K ga e) (gTp K is) | .drop e=>gM (rE K ga e) | .ret e=>cC (rE K ga e) | .CV=>Eg
 | .ifs c a b=>dQ (rT K ga c) (rS a) (rS b) | .fr i it b=>qh (rI_ K ga it) (ar i) (rS b) | .frT is it b=>qh (rI_ K ga it) (gTp K is) (rS b) | .wh n c b=>BX (rT K ga c) (rS b) | .brk=>Cp | .cnt=>Dj | .nev=>oW
 | .sto m i k e=>fun D σ H=>rE K ga e σ H fun x H1=>ag i σ H1 fun o H2=>rE K ga k σ H2 fun y H3=>m.r K o y x H3 (D.nx σ)
end
noncomputable def EF:PyData->Bool
 | .none=>false | .bool b=>b | .int i=>i != 0 | .str x=>(x.length:Int) != 0 | .list ds=>!ds.isEmpty | .tuple ds=>!ds.isEmpty | .dict ds=>!ds.isEmpty
noncomputable def FT:PyData->Bool | .str _=>true | _=>false
noncomputable def E6:PyData->Bool | .dict _=>true | _=>false
noncomputable def nU (lk:Bool):Sl->Sl
 | .own d=>if lk then .ro d else .ino d
 | .ino d=>if lk then .ro d else .ino d
 | s=>s
noncomputable def fz (env:En) (lock:Option Nat) (js:List Nat):En:=js.map fun j=>nU (decide (lock=some j)) (env[j]?.getD .un)
noncomputable def bA:En->List Nat->En->En
 | env,j :: js,.ino d :: es=>bA (gU env j d) js es
 | env,_ :: js,_ :: es=>bA env js es
 | env,_,_=>env
noncomputable def uI (step:PyData->En->Option (Option PyData×En)):List PyData->En->Option (List PyData×En)
 | [],env=>some ([],env)
 | d :: ds,env=>match step d env with
  | some (y,e1)=>match uI step ds e1 with
   | some (ys,e2)=>some (y.toList++ys,e2)
   | none=>none
  | none=>none
noncomputable def Ei (env:En):PM->AV->Option PyData
 | .dat,.dat d=>some d
 | .bor,.dat (.list d)=>some (.list d)
 | .bor,.dat (.dict d)=>some (.dict d)
 | .bor,.dat (.tuple d)=>some (.tuple d)
 | .bor,.bor i=>cont env i
 | .ino,.bor i=>bx env i
 | _,_=>none
noncomputable def jG (env:En):List PM->List AV->Option (List PyData)
 | [],[]=>some []
 | m :: ms,a :: as=>match Ei env m a,jG env ms as with
  | some d,some ds=>some (d :: ds)
  | _,_=>none
 | _,_=>none
noncomputable def du:List PM->List AV->List Nat
 | .ino :: ms,.bor i :: as=>i :: du ms as
 | _ :: ms,_ :: as=>du ms as
 | _,_=>[]
noncomputable def rZ:List PM->List AV->List Nat
 | .bor :: ms,.bor i :: as=>i :: rZ ms as
 | _ :: ms,_ :: as=>rZ ms as
 | _,_=>[]
noncomputable def eD:En->List Nat->List PyData->En
 | env,i :: is,d :: ds=>eD (gU env i d) is ds
 | env,_,_=>env
noncomputable def x9:List Nat->Bool
 | []=>true
 | x :: xs=>!xs.contains x&&x9 xs
noncomputable def ckA (is bs:List Nat) (n:Nat):Bool:=x9 is&&(bs.all (fun i=>!is.contains i)&&n==is.length)
noncomputable def vN (f:Fn) (avs:List AV) (env:En):Option (RV×En) :=
 match jG env f.ms avs with
 | none=>none
 | some ds=>match f.F ds with
  | none=>none
  | some (pr,outs)=>if ckA (du f.ms avs) (rZ f.ms avs) outs.length=true then some (pr.rv,eD env (du f.ms avs) outs) else none
noncomputable def bS (env:En):List AV->Option (List PyData)
 | []=>some []
 | a :: as=>match a.view env,bS env as with
  | some d,some ds=>some (d :: ds)
  | _,_=>none
noncomputable def AV.Fu:AV->Bool | .dat _=>true | .bor _=>false
noncomputable def fF (env:En):List AV->Option (List (Bool×PyData))
 | []=>some []
 | a :: as=>match a.view env,fF env as with
  | some d,some ds=>some ((a.Fu,d) :: ds)
  | _,_=>none
noncomputable def mG:List AV->Option (List PyData)
 | []=>some []
 | .dat d :: as=>match mG as with | some ds=>some (d :: ds) | none=>none
 | .bor _ :: _=>none
noncomputable def keyOf:PyData->Option Key | .int i=>some (.inl i) | .str x=>some (.inr x) | _=>none
noncomputable def putD (kvs:List (PyData×PyData)) (k d:PyData):List (PyData×PyData) :=
 if (kvs.any fun kv=>PyData.eqv kv.1 k)=true then kvs.map (fun kv=>if PyData.eqv kv.1 k=true then (kv.1,d) else kv) else kvs++[(k,d)]
noncomputable def getD (kvs:List (PyData×PyData)) (k:PyData):Option PyData:=(kvs.find? fun kv=>PyData.eqv kv.1 k).map (·.2)
noncomputable def cz (env:En):Option Nat->En
 | some i=>match env[i]? with | some (.own d)=>env.set i (.ro d) | some (.ino d)=>env.set i (.ro d) | _=>env
 | none=>env
noncomputable def aO (zO:En) (lock:Option Nat) (env:En):En:=match lock with
 | some i=>match zO[i]?,env[i]? with
  | some (.own _),some (.ro d)=>env.set i (.own d)
  | some (.ino _),some (.ro d)=>env.set i (.ino d)
  | _,_=>env
 | none=>env
noncomputable def jh (t:En->Option (Bool×En)) (b:En->Option (RV×En)) (d:PyData) (ec:En):Option (Option PyData×En):=match t (.dat d :: ec) with
 | some (true,e2)=>match b e2 with
  | some (rv,e3)=>match rv.av with | .dat y=>some (some y,e3.tail) | .bor _=>none
  | none=>none
 | some (false,e2)=>some (none,e2.tail)
 | none=>none
noncomputable def fV (n:Nat) (b:En->Option (RV×En)) (d:PyData) (ec:En):Option (Option PyData×En):=match d with
 | .tuple xs=>if xs.length=n then match b (xs.map .dat++ec) with
   | some (rv,e3)=>match rv.av with | .dat y=>some (some y,e3.drop n) | .bor _=>none
   | none=>none
  else none
 | _=>none
noncomputable def roL (e:En):AV->Option (List PyData)
 | .dat (.list xs)=>some xs
 | .bor i=>match e[i]? with | some (.ro (.list xs))=>some xs | _=>none
 | _=>none
mutual
noncomputable def dE (gd:List PyData):XE->En->Option (RV×En)
 | .var i,env=>match env[i]? with | some (.dat d)=>some (.dat d,env) | some (.own _)=>some (.bor i,env) | some (.ino _)=>some (.bor i,env) | some (.ro _)=>some (.bor i,env) | _=>none
 | .mov i,env=>match env[i]? with | some (.own d)=>some (.dat d,env.set i (.dat d)) | _=>none
 | .tke i,env=>match env[i]? with | some (.own d)=>some (.frs d,env.set i .un) | _=>none
 | .cst c,env=>some (.dat c.d,env)
 | .glb g,env=>match gd[g]? with | some d=>some (.dat d,env) | none=>none
 | .prm p as,env=>match dA gd as env with
  | some (avs,e1)=>match bS e1 avs with
   | some ds=>match p.f ds with | some pr=>some (pr.rv,e1) | none=>none
   | none=>none
  | none=>none
 | .met m o as,env=>match dE gd o env with
  | some (rv,e1)=>match rv.view e1 with
   | some d0=>if m.ty d0=true then match dA gd as e1 with
     | some (avs,e2)=>match rv.view e2,bS e2 avs with
      | some d,some ds=>match m.f d ds with | some pr=>some (pr.rv,e2) | none=>none
      | _,_=>none
     | none=>none
    else none
   | none=>none
  | none=>none
 | .mtr m i as,env=>match bx env i with
  | some d0=>if m.ty d0=true then match dA gd as env with
    | some (avs,e1)=>match bx e1 i,fF e1 avs with
     | some d,some ds=>match m.f d ds with | some (d',x)=>some (.dat x,gU e1 i d') | none=>none
     | _,_=>none
    | none=>none
   else none
  | none=>none
 | .call f as,env=>match dA gd as env with
  | some (avs,e1)=>vN f avs e1
  | none=>none
 | .tup as,env=>match dA gd as env with
  | some (avs,e1)=>match mG avs with | some ds=>if ds.length<=sizeLine then some (.dat (.tuple ds),e1) else none | none=>none
  | none=>none
 | .lst as,env=>match dA gd as env with
  | some (avs,e1)=>match mG avs with | some ds=>if ds.length<=sizeLine then some (.frs (.list ds),e1) else none | none=>none
  | none=>none
 | .dsp as,env=>match dP gd as env with
  | some (kvs,e1)=>if kvs.length<=15 then some (.frs (.dict (kvs.foldl (fun acc kv=>putD acc (kD kv.1) kv.2) [])),e1) else none
  | none=>none
 | .fst as,env=>match dF gd as Str.empty env with
  | some (x,e1)=>some (.dat (.str x),e1)
  | none=>none
 | .ifx c a b,env=>match dT gd c env with
  | some (true,e1)=>dE gd a e1
  | some (false,e1)=>dE gd b e1
  | none=>none
 | .Cf a b,env=>match dE gd a env with
  | some (.dat (.bool true),e1)=>dE gd b e1
  | some (.dat (.bool false),e1)=>some (.dat (.bool false),e1)
  | _=>none
 | .orv a b,env=>match dE gd a env with
  | some (.dat (.bool true),e1)=>some (.dat (.bool true),e1)
  | some (.dat (.bool false),e1)=>dE gd b e1
  | _=>none
 | .Cs a,env=>match dE gd a env with
  | some (.dat (.bool x),e1)=>some (.dat (.bool (!x)),e1)
  | _=>none
 | .chn p q a b c,env=>match dE gd a env with
  | some (ra,e1)=>match dE gd b e1 with
   | some (rb,e2)=>match ra.av,rb.av with
    | .dat x,.dat y=>match p.f [x,y] with
     | some (.dat (.bool true))=>match dE gd c e2 with
      | some (rc,e3)=>match rc.av with
       | .dat z=>match q.f [y,z] with | some pr=>some (pr.rv,e3) | none=>none
       | _=>none
      | none=>none
     | some (.dat (.bool false))=>some (.dat (.bool false),e2)
     | _=>none
    | _,_=>none
   | none=>none
  | none=>none
 | .sl2 p a b c,env=>match dE gd a env with
  | some (ra,e1)=>match dE gd b e1 with
   | some (.dat (.int i),e2)=>match dE gd c e2 with
    | some (.dat (.int j),e3)=>match ra.view e3 with
     | some d=>match (p i j).f [d] with | some pr=>some (pr.rv,e3) | none=>none
     | none=>none
    | _=>none
   | _=>none
  | none=>none
 | .cmp js it c e,env=>match dI gd it env with
  | some (ds,lock,e1)=>if js.Nodup then match uI (jh (dT gd c) (dE gd e)) ds (fz e1 lock js) with
    | some (ys,ec)=>some (.frs (.list ys),bA e1 js ec)
    | none=>none
   else none
  | none=>none
 | .zL n js it e,env=>match dI gd it env with
  | some (ds,lock,e1)=>if js.Nodup then match uI (fV n.length (dE gd e)) ds (fz e1 lock js) with
    | some (ys,ec)=>some (.frs (.list ys),bA e1 js ec)
    | none=>none
   else none
  | none=>none
noncomputable def dA (gd:List PyData):XA->En->Option (List AV×En)
 | .nil,env=>some ([],env)
 | .cons e r,env=>match dE gd e env with
  | some (rv,e1)=>match dA gd r e1 with
   | some (avs,e2)=>some (rv.av :: avs,e2)
   | none=>none
  | none=>none
noncomputable def dF (gd:List PyData):XA->Str->En->Option (Str×En)
 | .nil,out,env=>if out.length<=sizeLine then some (out,env) else none
 | .cons e r,out,env=>match dE gd e env with
  | some (.dat (.str x),e1)=>if (out++x).length<=sizeLine then dF gd r (out++x) e1 else none
  | _=>none
noncomputable def dP (gd:List PyData):XP->En->Option (List (Key×PyData)×En)
 | .nil,env=>some ([],env)
 | .cons k e r,env=>match dE gd k env with
  | some (rk,e1)=>match dE gd e e1 with
   | some (rv,e2)=>match dP gd r e2 with
    | some (kvs,e3)=>match rk.av,rv.av with
     | .dat dk,.dat d=>match keyOf dk with | some k=>some ((k,d) :: kvs,e3) | none=>none
     | _,_=>none
    | none=>none
   | none=>none
  | none=>none
noncomputable def dT (gd:List PyData):XT->En->Option (Bool×En)
 | .tst e,env=>match dE gd e env with | some (.dat (.bool b),e1)=>some (b,e1) | _=>none
 | .tru e,env=>match dE gd e env with
  | some (rv,e1)=>match rv.view e1 with | some d=>if E6 d=true then none else some (EF d,e1) | none=>none
  | none=>none
 | .and a b,env=>match dT gd a env with | some (true,e1)=>dT gd b e1 | some (false,e1)=>some (false,e1) | none=>none
 | .or a b,env=>match dT gd a env with | some (true,e1)=>some (true,e1) | some (false,e1)=>dT gd b e1 | none=>none
 | .not a,env=>match dT gd a env with | some (b,e1)=>some (!b,e1) | none=>none
 | .yes,env=>some (true,env)
noncomputable def dI (gd:List PyData):XI->En->Option (List PyData×Option Nat×En)
 | .lst e,env=>match dE gd e env with
  | some (rv,e1)=>match rv.av with
   | .dat (.list ds)=>some (ds,none,e1)
   | .dat _=>none
   | .bor i=>match cont e1 i with | some (.list ds)=>some (ds,some i,e1) | _=>none
  | none=>none
 | .dct e,env=>match dE gd e env with
  | some (rv,e1)=>match rv.av with
   | .dat (.dict kvs)=>some (kvs.map (·.1),none,e1)
   | .dat _=>none
   | .bor i=>match cont e1 i with | some (.dict kvs)=>some (kvs.map (·.1),some i,e1) | _=>none
  | none=>none
 | .tup e,env=>match dE gd e env with
  | some (rv,e1)=>match rv.av with | .dat (.tuple ds)=>some (ds,none,e1) | _=>none
  | none=>none
 | .itm e,env=>match dE gd e env with
  | some (rv,e1)=>match rv.av with | .dat (.dict kvs)=>if (kvs.all fun p=>FT p.1)=true then some (kvs.map fun p=>.tuple [p.1,p.2],none,e1) else none | _=>none
  | none=>none
 | .sq e,env=>match dE gd e env with
  | some (rv,e1)=>match rv.av with
   | .dat (.list ds)=>some (ds,none,e1)
   | .dat (.tuple ds)=>some (ds,none,e1)
   | .dat _=>none
   | .bor i=>match cont e1 i with | some (.list ds)=>some (ds,some i,e1) | _=>none
  | none=>none
 | .str e,env=>match dE gd e env with
  | some (rv,e1)=>match rv.av with | .dat (.str x)=>some (x.cps.toList.map fun c=>.str ⟨#[c]⟩,none,e1) | _=>none
  | none=>none
 | .rng1 as,env=>match dA gd as env with
  | some (avs,e1)=>match avs with | [.dat (.int j)]=>if -(2 ^ 62)<=j/\j<=2 ^ 24 then some ((List.range j.toNat).map fun (k:Nat)=>.int ((0:Int)+(k:Int)),none,e1) else none | _=>none
  | none=>none
 | .zip as,env=>match dA gd as env with
  | some (avs,e1)=>match avs with
   | [x,y]=>match roL e1 x,roL e1 y with | some xs,some ys=>some ((xs.zip ys).map fun p=>.tuple [p.1,p.2],none,e1) | _,_=>none
   | _=>none
  | none=>none
 | .rng2 as,env=>match dA gd as env with
  | some (avs,e1)=>match avs with | [.dat (.int i),.dat (.int j)]=>if -(2 ^ 62)<=i/\i < 2 ^ 62/\-(2 ^ 62)<=j/\j < 2 ^ 62/\j - i<=2 ^ 24 then some ((List.range (j - i).toNat).map fun (k:Nat)=>.int (i+(k:Int)),none,e1) else none | _=>none
  | none=>none
end
noncomputable def lkd (env:En):Option Nat->Bool
 | some i=>match env[i]? with | some (.own _)=>true | some (.ino _)=>true | _=>false
 | none=>false
noncomputable def RV.soft (b:Bool):RV->RV | .frs d=>if b then .dat d else .frs d | r=>r
inductive Out where | nx (env:En) | rt (rv:RV) (env:En) | bk (env:En) | ct (env:En)
noncomputable def Out.map (b:Bool) (f:En->En):Out->Out | .nx e=>.nx (f e) | .rt r e=>.rt (r.soft b) (f e) | .bk e=>.bk (f e) | .ct e=>.ct (f e)
noncomputable def forL (b:PyData->En->Option Out):List PyData->En->Option Out
 | [],env=>some (.nx env)
 | d :: ds,env=>match b d env with
  | some (.nx e)=>forL b ds e
  | some (.ct e)=>forL b ds e
  | some (.bk e)=>some (.nx e)
  | some (.rt r e)=>some (.rt r e)
  | none=>none
noncomputable def whL (t:En->Option (Bool×En)) (b:En->Option Out):Nat->En->Option Out
 | 0,_=>none
 | n+1,env=>match t env with
  | some (true,e1)=>match b e1 with
   | some (.nx e)=>whL t b n e
   | some (.ct e)=>whL t b n e
   | some (.bk e)=>some (.nx e)
   | some (.rt r e)=>some (.rt r e)
   | none=>none
  | some (false,e1)=>some (.nx e1)
  | none=>none
noncomputable def free (env:En) (i:Nat):Bool:=match env[i]? with | some .un=>true | some (.dat _)=>true | some (.own _)=>true | _=>false
noncomputable def fQ:En->List Nat->List PyData->Option En
 | env,[],[]=>some env
 | env,i :: is,d :: ds=>if free env i=true then fQ (env.set i (.dat d)) is ds else none
 | _,_,_=>none
noncomputable def jX (i:Nat) (b:En->Option Out) (d:PyData) (e:En):Option Out:=if free e i=true then b (e.set i (.dat d)) else none
noncomputable def jt (is:List Nat) (b:En->Option Out) (d:PyData) (e:En):Option Out:=match d with
 | .tuple xs=>match fQ e is xs with | some e2=>b e2 | none=>none
 | _=>none
noncomputable def dS (gd:List PyData):XS->En->Option Out
 | .skip,env=>some (.nx env)
 | .seq a b,env=>match dS gd a env with
  | some (.nx e)=>dS gd b e
  | o=>o
 | .cp i e,env=>match dE gd e env with
  | some (rv,e1)=>match rv.av with | .dat d=>if free e1 i=true then some (.nx (e1.set i (.dat d))) else none | .bor _=>none
  | none=>none
 | .nq i e,env=>match dE gd e env with
  | some (.frs d,e1)=>if free e1 i=true then some (.nx (e1.set i (.own d))) else none
  | _=>none
 | .Cm is e,env=>match dE gd e env with
  | some (rv,e1)=>match rv.av with
   | .dat (.tuple ds)=>match fQ e1 is ds with | some e2=>some (.nx e2) | none=>none
   | _=>none
  | none=>none
 | .drop e,env=>match dE gd e env with | some (_,e1)=>some (.nx e1) | none=>none
 | .ret e,env=>match dE gd e env with | some (rv,e1)=>some (.rt rv e1) | none=>none
 | .CV,env=>some (.rt (.dat .none) env)
 | .ifs c a b,env=>match dT gd c env with
  | some (true,e1)=>dS gd a e1
  | some (false,e1)=>dS gd b e1
  | none=>none
 | .fr i it b,env=>match dI gd it env with
  | some (ds,lock,e1)=>(forL (jX i (dS gd b)) ds (cz e1 lock)).map (Out.map (lkd e1 lock) (aO e1 lock))
  | none=>none
 | .frT is it b,env=>match dI gd it env with
  | some (ds,lock,e1)=>(forL (jt is (dS gd b)) ds (cz e1 lock)).map (Out.map (lkd e1 lock) (aO e1 lock))
  | none=>none
 | .wh n c b,env=>whL (dT gd c) (dS gd b) n env
 | .brk,env=>some (.bk env)
 | .cnt,env=>some (.ct env)
 | .nev,_=>none
 | .sto m i k e,env=>match dE gd e env with
  | some (rv,e1)=>match rv.av with
   | .dat x=>match bx e1 i with
    | some _=>match dE gd k e1 with
     | some (rk,e2)=>match rk.view e2,bx e2 i with
      | some dk,some d=>match m.f d dk x with | some d'=>some (.nx (gU e2 i d')) | none=>none
      | _,_=>none
     | none=>none
    | none=>none
   | .bor _=>none
  | none=>none
noncomputable def xJ:PyData->Sl | .tuple ds=>.dat (.tuple ds) | d=>.ro d
noncomputable def aA:List PM->List PyData->Nat->En
 | .dat :: ms,d :: ds,n=>.dat d :: aA ms ds (n - 1)
 | .bor :: ms,d :: ds,n=>xJ d :: aA ms ds (n - 1)
 | .ino :: ms,d :: ds,n=>.ino d :: aA ms ds (n - 1)
 | _,_,n=>List.replicate n .un
noncomputable def jw:List PM->En->Option (List PyData)
 | .ino :: ms,.ino d :: es=>match jw ms es with | some ds=>some (d :: ds) | none=>none
 | .ino :: _,_=>none
 | _ :: ms,_ :: es=>jw ms es
 | _,_=>some []
noncomputable def RV.pr:RV->Option PR | .dat d=>some (.dat d) | .frs d=>some (.frs d) | .bor _=>none
noncomputable def jZ (gd:List PyData) (ms:List PM) (n:Nat) (b:XS):Fn where
 ms:=ms
 F:=fun ds=>if ds.length=ms.length then match dS gd b (aA ms ds n) with
   | some (.rt rv env)=>match rv.pr,jw ms env with | some pr,some outs=>some (pr,outs) | _,_=>none
   | some (.nx env)=>match jw ms env with | some outs=>some (.dat .none,outs) | none=>none
   | _=>none
  else none
open PySem
theorem bq.rf (H:Hp):bq H H:=fun _ _ h=>h
theorem bq.nw {H:Hp} {a:Addr} (o:HO) (h:H a=none):bq H (upd H a o):=fun b u q=>by rw [aC (aG q h)];exact q
section
variable {K:Fg} {F F' I I' F0:Addr->Prop} {H H' H₀:Hp} {env env':En} {σ σ':St} {ga:Nat->V} {gd:List PyData}
def fx (K:Fg) (F0:Addr->Prop) (H₀:Hp) (I:Addr->Prop) (env:En) (σ:St) (H:Hp):RV->V->Prop
 | .dat d,v=>Dm K (FF F0 env σ) H d v
 | .bor i,v=>σ[i]?=some (some v)
 | .frs d,v=>∃ a,v=.ref a/\Rel K (fun b=>F0 b\/b=a) H₀ I env σ H/\Top K (fun b=>FF F0 env σ b\/b=a) H d a/\(H₀ a=none\/I a)/\¬FF F0 env σ a/\(∀ (i:Nat) (d':PyData),env[i]?=some (.ino d')->σ[i]?≠some (some (.ref a))) /\
   ∀ (i:Nat) (d':PyData),env[i]?=some (.ro d')->∃ b,σ[i]?=some (some (.ref b))/\fT K (fun b=>FF F0 env σ b\/b=a) (fun b=>IA env σ b\/b=a) H d' b
def wQ (K:Fg) (F0:Addr->Prop) (env:En) (σ:St) (H:Hp):AV->V->Prop
 | .dat d,v=>Dm K (FF F0 env σ) H d v
 | .bor i,v=>σ[i]?=some (some v)
def hZ (K:Fg) (F0:Addr->Prop) (env:En) (σ:St) (H:Hp):List AV->List V->Prop
 | [],vs=>vs=[]
 | a :: as,vs=>∃ v r,vs=v :: r/\wQ K F0 env σ H a v/\hZ K F0 env σ H as r
theorem fx.av {rv:RV} {v:V} (h:fx K F0 H₀ I env σ H rv v):wQ K F0 env σ H rv.av v:=by
 cases rv with
 | dat d=>exact h
 | bor i=>exact h
 | frs d =>
  obtain ⟨a,e,R,t,_,n,_⟩:=h;subst e;exact (t.pr Pr.refl (F':=FF F0 env σ) (fun _ z=>.inl z) (fun _ z=>z)).dm n
theorem wQ.keep (R:Rel K F0 H₀ I env σ H) (S:Rel K F0 H (IA env σ) env' σ H') (k:KpE env env') {a:AV} {v:V} (h:wQ K F0 env σ H a v):wQ K F0 env' σ H' a v:=by
 cases a with
 | dat d=>exact R.pf S k h
 | bor i=>exact h
theorem Rel.Et (R:Rel K F0 H₀ I env σ H) {i:Nat} {d:PyData} {v:V} (h:cont env i=some d) (s:σ[i]?=some (some v)):Vw K (FF F0 env σ) H d v:=by
 unfold cont at h;cases e:env[i]? with
 | none=>rw [e] at h;cases h
 | some sl =>
  rw [e] at h;cases sl with
  | un=>cases h
  | dat _=>cases h
  | own d' =>
   cases h;obtain ⟨a,q,_,_,t⟩:=R.own i d e;rw [s] at q;cases q;exact t.r.vw
  | ino d' =>
   cases h;obtain ⟨a,q,_,_,t⟩:=R.ino i d e;rw [s] at q;cases q;exact t.r.vw
  | ro d' =>
   cases h;obtain ⟨a,q,t⟩:=R.ro i d e;rw [s] at q;cases q;exact t.r.vw
theorem Rel.ee (R:Rel K F0 H₀ I env σ H) {i:Nat} {d:PyData} (h:bx env i=some d):mu env i/\∃ a,σ[i]?=some (some (.ref a))/\FF F0 env σ a/\Top K (FF F0 env σ) H d a:=by
 unfold bx at h;cases e:env[i]? with
 | none=>rw [e] at h;cases h
 | some sl =>
  rw [e] at h;cases sl with
  | un=>cases h
  | dat _=>cases h
  | own d' =>
   cases h;obtain ⟨a,q,_,_,t⟩:=R.own i d e;exact ⟨⟨d,.inl e⟩,a,q,.inr ⟨i,d,e,q⟩,t⟩
  | ino d' =>
   cases h;obtain ⟨a,q,f,_,t⟩:=R.ino i d e;exact ⟨⟨d,.inr e⟩,a,q,.inl f,t⟩
  | ro d'=>cases h
theorem wQ.vw (R:Rel K F0 H₀ I env σ H) {a:AV} {v:V} {d:PyData} (h:wQ K F0 env σ H a v) (e:a.view env=some d):Vw K (FF F0 env σ) H d v:=by
 cases a with
 | dat d'=>cases e;exact Dm.vw h
 | bor i=>exact R.Et e h
theorem hZ.vw (R:Rel K F0 H₀ I env σ H):∀ {as:List AV} {vs:List V} {ds:List PyData},hZ K F0 env σ H as vs->bS env as=some ds->VwL K (FF F0 env σ) H ds vs
 | [],_,ds,h,e=>by cases e;exact h
 | a :: as,_,ds,h,e=>by
  obtain ⟨v,r,rfl,h1,h2⟩:=h;unfold bS at e;cases e1:a.view env with
  | none=>rw [e1] at e;cases e
  | some d =>
   cases e2:bS env as with
   | none=>rw [e1,e2] at e;cases e
   | some ds' =>
    rw [e1,e2] at e;cases e;exact ⟨v,r,rfl,h1.vw R e1,hZ.vw R h2 e2⟩
theorem hZ.mv (R:Rel K F0 H₀ I env σ H):∀ {as:List AV} {vs:List V} {ds:List (Bool×PyData)},hZ K F0 env σ H as vs->fF env as=some ds->MvL K (FF F0 env σ) H ds vs
 | [],_,ds,h,e=>by cases e;exact h
 | a :: as,_,ds,h,e=>by
  obtain ⟨v,r,rfl,h1,h2⟩:=h;unfold fF at e;cases e1:a.view env with
  | none=>rw [e1] at e;cases e
  | some d =>
   cases e2:fF env as with
   | none=>rw [e1,e2] at e;cases e
   | some ds' =>
    rw [e1,e2] at e;cases e;have ih:=hZ.mv R h2 e2;cases a with
    | dat d'=>cases e1;exact ⟨v,r,rfl,h1,ih⟩
    | bor i=>exact ⟨v,r,rfl,h1.vw R e1,ih⟩
theorem hZ.EO:∀ {as:List AV} {vs:List V} {ds:List PyData},hZ K F0 env σ H as vs->mG as=some ds->DmL K (FF F0 env σ) H ds vs
 | [],_,ds,h,e=>by cases e;exact h
 | .dat d :: as,_,ds,h,e=>by
  obtain ⟨v,r,rfl,h1,h2⟩:=h;unfold mG at e;cases e2:mG as with
  | none=>rw [e2] at e;cases e
  | some ds' =>
   rw [e2] at e;cases e;exact ⟨v,r,rfl,h1,hZ.EO h2 e2⟩
 | .bor i :: as,_,ds,h,e=>by unfold mG at e;cases e
theorem fT.wV {d:PyData} {a c:Addr} (hc:H c=none) (h:fT K F I H d a):fT K F (fun b=>I b\/b=c) H d a:=by
 cases d with
 | list ds=>obtain ⟨xs,e,z,r⟩:=h;exact ⟨xs,e.fresh hc,z,r⟩
 | dict ds =>
  obtain ⟨ep,xs,n,e,z,r⟩:=h;exact ⟨ep,xs,fun q=>q.elim n fun q=>(by subst q;rw [hc] at e;cases e),e,z,r⟩
 | _=>exact absurd h id
theorem Rel.lS (R:Rel K F0 H₀ I env σ H) (s:bq H H') {pr:PR} {v:V} (h:wH K (FF F0 env σ) H H' pr v):fx K F0 H₀ I env σ H' pr.rv v:=by
 cases pr with
 | dat d=>exact h
 | frs d =>
  obtain ⟨a,e,hn,t⟩:=h;refine ⟨a,e,R.fresh hn s ?_,t,R.oi (.inl hn),fun z=>R.fy z hn,fun i d' e' q=>?_,fun i d' e'=>?_⟩
  ·obtain ⟨o,q,_⟩:=t.wr;rw [q];exact nofun
  ·obtain ⟨o,z,_⟩:=R.iaT ⟨i,⟨d',.inr e'⟩,q⟩;rw [hn] at z;cases z
  ·obtain ⟨b,q,t'⟩:=R.ro i d' e';exact ⟨b,q,((t'.fresh hn).wV hn).pr (Pr.of_same s) (fun _ z=>z) (fun _ z=>z) fun b o z _=>s _ _ z⟩
theorem tO (env:En) (i:Nat) (d:PyData):KpE env (gU env i d):=by
 unfold gU;cases e:env[i]? with
 | none=>exact KpE.refl _
 | some sl =>
  have hi:i < env.length:=(Hi.mp e).1;cases sl with
  | un=>exact KpE.refl _
  | dat _=>exact KpE.refl _
  | ro _=>exact KpE.refl _
  | own d' =>
   refine ⟨HI,fun j s h=>?_⟩;by_cases z:i=j
   ·subst z;rw [e] at h;cases h;exact ⟨.own d,by rw [Hq hi],.inl ⟨d,rfl⟩⟩
   ·exact ⟨s,by rw [Hh z];exact h,.refl s⟩
  | ino d' =>
   refine ⟨HI,fun j s h=>?_⟩;by_cases z:i=j
   ·subst z;rw [e] at h;cases h;exact ⟨.ino d,by rw [Hq hi],⟨d,rfl⟩⟩
   ·exact ⟨s,by rw [Hh z];exact h,.refl s⟩
def SmK (env env':En):Prop:=env'.length=env.length/\∀ i:Nat,env'[i]?=env[i]?\/(∃ d d',env[i]?=some (.own d)/\env'[i]?=some (.own d'))\/∃ d d',env[i]?=some (.ino d)/\env'[i]?=some (.ino d')
theorem SmK.refl (env:En):SmK env env:=⟨rfl,fun _=>.inl rfl⟩
theorem SmK.trans {e1 e2 e3:En} (a:SmK e1 e2) (b:SmK e2 e3):SmK e1 e3:=⟨b.1.trans a.1,fun i=>by
 rcases b.2 i with h | ⟨d,d',h,h'⟩ | ⟨d,d',h,h'⟩
 ·rw [h];exact a.2 i
 ·rcases a.2 i with q | ⟨c,c',q,q'⟩ | ⟨c,c',q,q'⟩
  ·exact .inr (.inl ⟨d,d',by rw [<- q];exact h,h'⟩)
  ·exact .inr (.inl ⟨c,d',q,h'⟩)
  ·rw [h] at q';cases q'
 ·rcases a.2 i with q | ⟨c,c',q,q'⟩ | ⟨c,c',q,q'⟩
  ·exact .inr (.inr ⟨d,d',by rw [<- q];exact h,h'⟩)
  ·rw [h] at q';cases q'
  ·exact .inr (.inr ⟨c,d',q,h'⟩)⟩
theorem SmK.kp (k:SmK env env'):KpE env env':=⟨k.1,fun i s e=>by
 rcases k.2 i with h | ⟨d,d',h,h'⟩ | ⟨d,d',h,h'⟩
 ·exact ⟨s,by rw [h];exact e,.refl s⟩
 ·rw [e] at h;cases h;exact ⟨_,h',.inl ⟨d',rfl⟩⟩
 ·rw [e] at h;cases h;exact ⟨_,h',⟨d',rfl⟩⟩⟩
theorem SmK.symm (k:SmK env env'):SmK env' env:=⟨k.1.symm,fun i=>by
 rcases k.2 i with h | ⟨d,d',h,h'⟩ | ⟨d,d',h,h'⟩
 ·exact .inl h.symm
 ·exact .inr (.inl ⟨d',d,h',h⟩)
 ·exact .inr (.inr ⟨d',d,h',h⟩)⟩
theorem SmK.ff (k:SmK env env'):FF F0 env' σ=FF F0 env σ:=by
 funext b;exact propext ⟨fun h=>k.kp.ff h,fun h=>k.symm.kp.ff h⟩
theorem SmK.ia (k:SmK env env'):IA env' σ=IA env σ:=by
 funext b;exact propext ⟨fun h=>k.kp.ia h,fun h=>k.symm.kp.ia h⟩
theorem fh (env:En) (i:Nat) (d:PyData):SmK env (gU env i d):=by
 unfold gU;cases e:env[i]? with
 | none=>exact SmK.refl _
 | some sl =>
  have hi:i < env.length:=(Hi.mp e).1;cases sl with
  | un=>exact SmK.refl _
  | dat _=>exact SmK.refl _
  | ro _=>exact SmK.refl _
  | own d' =>
   refine ⟨HI,fun j=>?_⟩;by_cases z:i=j
   ·subst z;exact .inr (.inl ⟨d',d,e,by rw [Hq hi]⟩)
   ·exact .inl (by rw [Hh z])
  | ino d' =>
   refine ⟨HI,fun j=>?_⟩;by_cases z:i=j
   ·subst z;exact .inr (.inr ⟨d',d,e,by rw [Hq hi]⟩)
   ·exact .inl (by rw [Hh z])
theorem kX {env:En} {i:Nat} {d:PyData} (h:mu env i):bx (gU env i d) i=some d:=by
 unfold gU bx;obtain ⟨d',e | e⟩:=h
 ·have hi:i < env.length:=(Hi.mp e).1;rw [e];simp only;rw [Hq hi]
 ·have hi:i < env.length:=(Hi.mp e).1;rw [e];simp only;rw [Hq hi]
theorem kN {env:En} {i j:Nat} {d:PyData} (h:j≠i):(gU env i d)[j]?=env[j]?:=by
 unfold gU;split <;> first | rfl | rw [Hh (Ne.symm h)]
theorem pW {env:En} {i:Nat} {d:PyData} (h:bx env i=some d):env[i]?=some (.own d)\/env[i]?=some (.ino d):=by
 unfold bx at h;split at h
 ·rename_i e;cases h;exact .inl e
 ·rename_i e;cases h;exact .inr e
 ·cases h
theorem Rel.chg (R:Rel K F0 H₀ I env σ H) (k:SmK env env') (hk:∀ b o,H b=some o->¬IA env σ b->H' b=some o) (ht:∀ i d a,bx env' i=some d->σ[i]?=some (some (.ref a))->Top K (FF F0 env σ) H' d a):Rel K F0 H₀ I env' σ H':=by
 have p:=R.pQ hk;have eF:=k.ff (F0:=F0) (σ:=σ);have eI:=k.ia (σ:=σ);have mc:∀ {i:Nat} {d:PyData},env'[i]?=some (.own d)\/env'[i]?=some (.ino d)->bx env' i=some d:=fun {i d} h=>by
  unfold bx;rcases h with h | h <;> rw [h]
 refine ⟨k.1.trans R.len,fun i d e=>?_,fun i d e=>?_,fun i d e=>?_,fun i d e=>?_,fun i j a h1 h2 h3 h4=>R.sep i j a (k.kp.mu h1) (k.kp.mu h2) h3 h4,fun b h=>?_,fun b o h n=>?_⟩
 ·rcases k.2 i with q | ⟨c,c',q,q'⟩ | ⟨c,c',q,q'⟩
  ·rw [e] at q;obtain ⟨v,s,r⟩:=R.dat i d q.symm;rw [eF];exact ⟨v,s,r.pr p fun _ z=>z⟩
  ·rw [e] at q';cases q'
  ·rw [e] at q';cases q'
 ·have hm:=mc (.inl e);obtain ⟨d0,e0⟩:=k.kp.own e;obtain ⟨a,s,n,w,_⟩:=R.own i d0 e0;rw [eF];exact ⟨a,s,n,w,ht i d a hm s⟩
 ·have hm:=mc (.inr e);have:∃ d0,env[i]?=some (.ino d0):=by
   rcases k.2 i with q | ⟨c,c',q,q'⟩ | ⟨c,c',q,q'⟩
   ·exact ⟨d,by rw [<- q];exact e⟩
   ·rw [e] at q';cases q'
   ·exact ⟨c,q⟩
  obtain ⟨d0,e0⟩:=this;obtain ⟨a,s,n,w,_⟩:=R.ino i d0 e0;rw [eF];exact ⟨a,s,n,w,ht i d a hm s⟩
 ·have e0:env[i]?=some (.ro d):=by
   rcases k.2 i with q | ⟨c,c',q,q'⟩ | ⟨c,c',q,q'⟩
   ·rw [<- q];exact e
   ·rw [e] at q';cases q'
   ·rw [e] at q';cases q'
  obtain ⟨a,s,t⟩:=R.ro i d e0;rw [eF,eI];exact ⟨a,s,t.pr p (fun _ z=>z) (fun _ z=>z) hk⟩
 ·by_cases z:IA env σ b
  ·obtain ⟨i,m,s⟩:=z;have m':=k.symm.kp.mu m;obtain ⟨d,m'⟩:=m';obtain ⟨o,q,_⟩:=(ht i d b (mc m') s).wr;rw [q];exact nofun
  ·cases e:H b with
   | none=>exact absurd e (R.dom b h)
   | some o=>rw [hk b o e z];exact nofun
 ·refine hk b o (R.eH b o h n) fun z=>?_;rcases R.iaI z with q | q
  ·rw [h] at q;cases q
  ·exact n q
end
open PySem
section
variable {K:Fg} {F F' I I' F0:Addr->Prop} {H H' H₀:Hp} {env env':En} {σ σ':St} {ga:Nat->V} {gd:List PyData}
theorem get_set {α:Type} {l:List α} {i j:Nat} {x y:α} (h:(l.set i x)[j]?=some y):(i=j/\x=y)\/(i≠j/\l[j]?=some y):=by
 by_cases z:i=j
 ·subst z;by_cases hi:i < l.length
  ·rw [Hq hi] at h;exact .inl ⟨rfl,HQ h⟩
  ·rw [Je (by rw [HI];omega)] at h;cases h
 ·rw [Hh z] at h;exact .inr ⟨z,h⟩
theorem Rel.sub (R:Rel K F0 H₀ I env σ H) (i:Nat) (x:Option V):(∀ b,FF F0 (env.set i .un) (σ.set i x) b->FF F0 env σ b)/\(∀ b,IA (env.set i .un) (σ.set i x) b->IA env σ b):=by
 constructor
 ·rintro b (h | ⟨j,d,e,s⟩)
  ·exact .inl h
  ·rcases get_set e with ⟨_,z⟩ | ⟨n,e⟩
   ·cases z
   ·rw [Hh n] at s;exact .inr ⟨j,d,e,s⟩
 ·rintro b ⟨j,⟨d,e⟩,s⟩;have:∃ d,(env[j]?=some (.own d)\/env[j]?=some (.ino d))/\i≠j:=by
   rcases e with e | e
   ·rcases get_set e with ⟨_,z⟩ | ⟨n,e⟩
    ·cases z
    ·exact ⟨d,.inl e,n⟩
   ·rcases get_set e with ⟨_,z⟩ | ⟨n,e⟩
    ·cases z
    ·exact ⟨d,.inr e,n⟩
  obtain ⟨d,e,n⟩:=this;rw [Hh n] at s;exact ⟨j,⟨d,e⟩,s⟩
theorem Rel.forget (R:Rel K F0 H₀ I env σ H) (i:Nat) (x:Option V):Rel K F0 H₀ I (env.set i .un) (σ.set i x) H:=by
 obtain ⟨hf,hi⟩:=R.sub i x;have mm:∀ j,mu (env.set i .un) j->mu env j/\i≠j:=fun j h=>by
  obtain ⟨d,e | e⟩:=h
  ·rcases get_set e with ⟨_,z⟩ | ⟨n,e⟩
   ·cases z
   ·exact ⟨⟨d,.inl e⟩,n⟩
  ·rcases get_set e with ⟨_,z⟩ | ⟨n,e⟩
   ·cases z
   ·exact ⟨⟨d,.inr e⟩,n⟩
 refine ⟨by rw [HI,HI];exact R.len,fun j d e=>?_,fun j d e=>?_,fun j d e=>?_,fun j d e=>?_,fun j k a h1 h2 h3 h4=>?_,R.dom,R.eH⟩
 ·rcases get_set e with ⟨_,z⟩ | ⟨n,e⟩
  ·cases z
  obtain ⟨v,s,r⟩:=R.dat j d e;exact ⟨v,by rw [Hh n];exact s,r.mono hf⟩
 ·rcases get_set e with ⟨_,z⟩ | ⟨n,e⟩
  ·cases z
  obtain ⟨a,s,q,w,t⟩:=R.own j d e;exact ⟨a,by rw [Hh n];exact s,q,w,t.pr Pr.refl hf fun _ z=>z⟩
 ·rcases get_set e with ⟨_,z⟩ | ⟨n,e⟩
  ·cases z
  obtain ⟨a,s,q,w,t⟩:=R.ino j d e;exact ⟨a,by rw [Hh n];exact s,q,w,t.pr Pr.refl hf fun _ z=>z⟩
 ·rcases get_set e with ⟨_,z⟩ | ⟨n,e⟩
  ·cases z
  obtain ⟨a,s,t⟩:=R.ro j d e;exact ⟨a,by rw [Hh n];exact s,t.pr Pr.refl hf hi fun _ _ z _=>z⟩
 ·obtain ⟨m1,n1⟩:=mm j h1;obtain ⟨m2,n2⟩:=mm k h2;rw [Hh n1] at h3;rw [Hh n2] at h4;exact R.sep j k a m1 m2 h3 h4
theorem j8 {i:Nat} {s:Sl} {x:Option V} (hu:env[i]?=some .un) (hs:∀ d,s≠.own d):FF F0 (env.set i s) (σ.set i x)=FF F0 env σ:=by
 funext b;apply propext;constructor
 ·rintro (h | ⟨j,d,e,q⟩)
  ·exact .inl h
  ·rcases get_set e with ⟨_,z⟩ | ⟨n,e⟩
   ·exact absurd z (hs d)
   ·rw [Hh n] at q;exact .inr ⟨j,d,e,q⟩
 ·rintro (h | ⟨j,d,e,q⟩)
  ·exact .inl h
  ·have n:i≠j:=fun z=>by subst z;rw [hu] at e;cases e
   exact .inr ⟨j,d,by rw [Hh n];exact e,by rw [Hh n];exact q⟩
theorem tj {i:Nat} {s:Sl} {x:Option V} (hu:env[i]?=some .un) (hs:∀ d,s≠.own d/\s≠.ino d):IA (env.set i s) (σ.set i x)=IA env σ:=by
 funext b;apply propext;constructor
 ·rintro ⟨j,⟨d,e | e⟩,q⟩
  ·rcases get_set e with ⟨_,z⟩ | ⟨n,e⟩
   ·exact absurd z (hs d).1
   ·rw [Hh n] at q;exact ⟨j,⟨d,.inl e⟩,q⟩
  ·rcases get_set e with ⟨_,z⟩ | ⟨n,e⟩
   ·exact absurd z (hs d).2
   ·rw [Hh n] at q;exact ⟨j,⟨d,.inr e⟩,q⟩
 ·rintro ⟨j,⟨d,e⟩,q⟩;have n:i≠j:=fun z=>by subst z;rw [hu] at e;rcases e with e | e <;> cases e
  refine ⟨j,⟨d,?_⟩,by rw [Hh n];exact q⟩;rw [Hh n];exact e
theorem Rel.putD (R:Rel K F0 H₀ I env σ H) {i:Nat} {d:PyData} {v:V} (hu:env[i]?=some .un) (h:Dm K (FF F0 env σ) H d v):Rel K F0 H₀ I (env.set i (.dat d)) (σ.set i (some v)) H:=by
 have hi:i < env.length:=(Hi.mp hu).1;have eF:FF F0 (env.set i (.dat d)) (σ.set i (some v))=FF F0 env σ:=j8 hu (fun _=>nofun);have eI:IA (env.set i (.dat d)) (σ.set i (some v))=IA env σ:=tj hu (fun _=>⟨nofun,nofun⟩);have mm:∀ j,mu (env.set i (.dat d)) j->mu env j/\i≠j:=fun j h=>by
  obtain ⟨c,e | e⟩:=h
  ·rcases get_set e with ⟨_,z⟩ | ⟨n,e⟩
   ·cases z
   ·exact ⟨⟨c,.inl e⟩,n⟩
  ·rcases get_set e with ⟨_,z⟩ | ⟨n,e⟩
   ·cases z
   ·exact ⟨⟨c,.inr e⟩,n⟩
 refine ⟨by rw [HI,HI];exact R.len,fun j c e=>?_,fun j c e=>?_,fun j c e=>?_,fun j c e=>?_,fun j k a h1 h2 h3 h4=>?_,R.dom,R.eH⟩
 ·rw [eF];rcases get_set e with ⟨z,y⟩ | ⟨n,e⟩
  ·subst z;cases y;exact ⟨v,Hq (by rw [<- R.len];exact hi),h⟩
  obtain ⟨w,s,r⟩:=R.dat j c e;exact ⟨w,by rw [Hh n];exact s,r⟩
 ·rw [eF];rcases get_set e with ⟨_,z⟩ | ⟨n,e⟩
  ·cases z
  obtain ⟨a,s,q,w,t⟩:=R.own j c e;exact ⟨a,by rw [Hh n];exact s,q,w,t⟩
 ·rw [eF];rcases get_set e with ⟨_,z⟩ | ⟨n,e⟩
  ·cases z
  obtain ⟨a,s,q,w,t⟩:=R.ino j c e;exact ⟨a,by rw [Hh n];exact s,q,w,t⟩
 ·rw [eF,eI];rcases get_set e with ⟨_,z⟩ | ⟨n,e⟩
  ·cases z
  obtain ⟨a,s,t⟩:=R.ro j c e;exact ⟨a,by rw [Hh n];exact s,t⟩
 ·obtain ⟨m1,n1⟩:=mm j h1;obtain ⟨m2,n2⟩:=mm k h2;rw [Hh n1] at h3;rw [Hh n2] at h4;exact R.sep j k a m1 m2 h3 h4
theorem Rel.FY {i:Nat} {d:PyData} {a:Addr} (hu:env[i]?=some .un) (h:fx K F0 H₀ I env σ H (.frs d) (.ref a)):Rel K F0 H₀ I (env.set i (.own d)) (σ.set i (some (.ref a))) H:=by
 obtain ⟨a',ea,R,t,w,nF,hino,hro⟩:=h;cases ea;have hi:i < env.length:=(Hi.mp hu).1;have his:i < σ.length:=by rw [<- R.len];exact hi
 have eF:FF F0 (env.set i (.own d)) (σ.set i (some (.ref a)))=fun b=>FF F0 env σ b\/b=a:=by
  funext b;apply propext;constructor
  ·rintro (h | ⟨j,c,e,q⟩)
   ·exact .inl (.inl h)
   ·rcases get_set e with ⟨z,y⟩ | ⟨n,e⟩
    ·subst z;rw [Hq his] at q;cases q;exact .inr rfl
    ·rw [Hh n] at q;exact .inl (.inr ⟨j,c,e,q⟩)
  ·rintro ((h | ⟨j,c,e,q⟩) | rfl)
   ·exact .inl h
   ·have n:i≠j:=fun z=>by subst z;rw [hu] at e;cases e
    exact .inr ⟨j,c,by rw [Hh n];exact e,by rw [Hh n];exact q⟩
   ·exact .inr ⟨i,d,Hq hi,Hq his⟩
 have eF2:FF (fun b=>F0 b\/b=a) env σ=fun b=>FF F0 env σ b\/b=a:=fZ;have mm:∀ j,mu (env.set i (.own d)) j->i=j\/(mu env j/\i≠j):=fun j h=>by
  obtain ⟨c,e | e⟩:=h
  ·rcases get_set e with ⟨z,_⟩ | ⟨n,e⟩
   ·exact .inl z
   ·exact .inr ⟨⟨c,.inl e⟩,n⟩
  ·rcases get_set e with ⟨z,_⟩ | ⟨n,e⟩
   ·exact .inl z
   ·exact .inr ⟨⟨c,.inr e⟩,n⟩
 have eI:∀ b,IA (env.set i (.own d)) (σ.set i (some (.ref a))) b->IA env σ b\/b=a:=by
  rintro b ⟨j,m,q⟩;rcases mm j m with z | ⟨m',n⟩
  ·subst z;rw [Hq his] at q;cases q;exact .inr rfl
  ·rw [Hh n] at q;exact .inl ⟨j,m',q⟩
 have na:∀ j,mu env j->σ[j]?≠some (some (.ref a)):=fun j m q=>by
  obtain ⟨c,e | e⟩:=m
  ·exact nF (.inr ⟨j,c,e,q⟩)
  ·exact hino j c e q
 refine ⟨by rw [HI,HI];exact R.len,fun j c e=>?_,fun j c e=>?_,fun j c e=>?_,fun j c e=>?_,fun j k b h1 h2 h3 h4=>?_,fun b h=>R.dom b (.inl h),R.eH⟩
 ·rw [eF];rcases get_set e with ⟨_,z⟩ | ⟨n,e⟩
  ·cases z
  obtain ⟨x,s,r⟩:=R.dat j c e;rw [eF2] at r;exact ⟨x,by rw [Hh n];exact s,r⟩
 ·rw [eF];rcases get_set e with ⟨z,y⟩ | ⟨n,e⟩
  ·subst z;cases y;exact ⟨a,Hq his,fun z=>nF (.inl z),w,t⟩
  obtain ⟨b,s,q,w',t'⟩:=R.own j c e;rw [eF2] at t';exact ⟨b,by rw [Hh n];exact s,fun z=>q (.inl z),w',t'⟩
 ·rw [eF];rcases get_set e with ⟨_,z⟩ | ⟨n,e⟩
  ·cases z
  obtain ⟨b,s,q,w',t'⟩:=R.ino j c e;rw [eF2] at t';refine ⟨b,by rw [Hh n];exact s,?_,w',t'⟩;rcases q with q | q
  ·exact q
  ·subst q;exact absurd s (hino j c e)
 ·rw [eF];rcases get_set e with ⟨_,z⟩ | ⟨n,e⟩
  ·cases z
  obtain ⟨b,s,t'⟩:=hro j c e;exact ⟨b,by rw [Hh n];exact s,t'.pr Pr.refl (fun _ z=>z) eI fun _ _ z _=>z⟩
 ·rcases mm j h1 with z1 | ⟨m1,n1⟩
  ·rcases mm k h2 with z2 | ⟨m2,n2⟩
   ·rw [<- z1,<-z2]
   ·rw [<- z1,Hq his] at h3;cases h3;rw [Hh n2] at h4;exact absurd h4 (na k m2)
  ·rw [Hh n1] at h3;rcases mm k h2 with z2 | ⟨m2,n2⟩
   ·rw [<- z2,Hq his] at h4;cases h4;exact absurd h3 (na j m1)
   ·rw [Hh n2] at h4;exact R.sep j k b m1 m2 h3 h4
theorem Rel.take (R:Rel K F0 H₀ I env σ H) {i:Nat} {d:PyData} (e:env[i]?=some (.own d)):∃ a,σ[i]?=some (some (.ref a))/\fx K F0 H₀ I (env.set i .un) σ H (.frs d) (.ref a):=by
 obtain ⟨a,s,nF0,w,t⟩:=R.own i d e;have hi:i < env.length:=(Hi.mp e).1;have mm:∀ j,mu (env.set i .un) j->mu env j/\i≠j:=fun j h=>by
  obtain ⟨c,e | e⟩:=h
  ·rcases get_set e with ⟨_,z⟩ | ⟨n,e⟩
   ·cases z
   ·exact ⟨⟨c,.inl e⟩,n⟩
  ·rcases get_set e with ⟨_,z⟩ | ⟨n,e⟩
   ·cases z
   ·exact ⟨⟨c,.inr e⟩,n⟩
 have eF:FF F0 env σ=fun b=>FF F0 (env.set i .un) σ b\/b=a:=by
  funext b;apply propext;constructor
  ·rintro (h | ⟨j,c,e',q⟩)
   ·exact .inl (.inl h)
   ·by_cases n:i=j
    ·subst n;rw [s] at q;cases q;exact .inr rfl
    ·exact .inl (.inr ⟨j,c,by rw [Hh n];exact e',q⟩)
  ·rintro ((h | ⟨j,c,e',q⟩) | rfl)
   ·exact .inl h
   ·rcases get_set e' with ⟨_,z⟩ | ⟨n,e'⟩
    ·cases z
    ·exact .inr ⟨j,c,e',q⟩
   ·exact .inr ⟨i,d,e,s⟩
 have eF2:FF (fun b=>F0 b\/b=a) (env.set i .un) σ=FF F0 env σ:=by rw [fZ];exact eF.symm
 have na:∀ j,mu (env.set i .un) j->σ[j]?≠some (some (.ref a)):=fun j m q=>by
  obtain ⟨m',n⟩:=mm j m;exact n (R.sep i j a ⟨d,.inl e⟩ m' s q)
 have nF:¬FF F0 (env.set i .un) σ a:=by
  rintro (h | ⟨j,c,e',q⟩)
  ·exact nF0 h
  ·exact na j ⟨c,.inl e'⟩ q
 have ia:∀ b,IA (env.set i .un) σ b->IA env σ b:=fun b ⟨j,m,q⟩=>⟨j,(mm j m).1,q⟩;have ia2:∀ b,(IA (env.set i .un) σ b\/b=a)->IA env σ b:=fun b h=>h.elim (ia b) fun z=>z▸⟨i,⟨d,.inl e⟩,s⟩;have R':Rel K (fun b=>F0 b\/b=a) H₀ I (env.set i .un) σ H:=by
  refine ⟨by rw [HI];exact R.len,fun j c e'=>?_,fun j c e'=>?_,fun j c e'=>?_,fun j c e'=>?_,fun j k b h1 h2 h3 h4=>R.sep j k b (mm j h1).1 (mm k h2).1 h3 h4,fun b h=>?_,R.eH⟩
  ·rw [eF2];rcases get_set e' with ⟨_,z⟩ | ⟨n,e'⟩
   ·cases z
   exact R.dat j c e'
  ·rw [eF2];have m:=e';rcases get_set e' with ⟨_,z⟩ | ⟨n,e'⟩
   ·cases z
   obtain ⟨b,s',q,w',t'⟩:=R.own j c e';exact ⟨b,s',fun z=>z.elim q fun z=>na j ⟨c,.inl m⟩ (z▸s'),w',t'⟩
  ·rw [eF2];rcases get_set e' with ⟨_,z⟩ | ⟨n,e'⟩
   ·cases z
   obtain ⟨b,s',q,w',t'⟩:=R.ino j c e';exact ⟨b,s',.inl q,w',t'⟩
  ·rw [eF2];rcases get_set e' with ⟨_,z⟩ | ⟨n,e'⟩
   ·cases z
   obtain ⟨b,s',t'⟩:=R.ro j c e';exact ⟨b,s',t'.pr Pr.refl (fun _ z=>z) ia fun _ _ z _=>z⟩
  ·rcases h with h | h
   ·exact R.dom b h
   ·obtain ⟨o,q,_⟩:=t.wr;rw [h,q];exact nofun
 refine ⟨a,s,a,rfl,R',by rw [eF] at t;exact t,w,nF,fun j c e'=>na j ⟨c,.inr e'⟩,fun j c e'=>?_⟩;rcases get_set e' with ⟨_,z⟩ | ⟨n,e'⟩
 ·cases z
 obtain ⟨b,s',t'⟩:=R.ro j c e';rw [eF] at t';exact ⟨b,s',t'.pr Pr.refl (fun _ z=>z) ia2 fun _ _ z _=>z⟩
theorem fx.rel {d:PyData} {v:V} (h:fx K F0 H₀ I env σ H (.frs d) v):Rel K F0 H₀ I env σ H:=by
 obtain ⟨a,_,R,_,_,_,hi,_⟩:=h;exact R.less hi
theorem set_same {α:Type} {l:List α} {i:Nat} {x:α} (h:l[i]?=some x):l.set i x=l:=by
 have hi:i < l.length:=(Hi.mp h).1;apply List.ext_getElem?;intro j;by_cases z:i=j
 ·subst z;rw [Hq hi,h]
 ·rw [Hh z]
theorem Rel.mov (R:Rel K F0 H₀ I env σ H) {i:Nat} {d:PyData} (e:env[i]?=some (.own d)):∃ a,σ[i]?=some (some (.ref a))/\Rel K F0 H₀ I (env.set i (.dat d)) σ H/\Dm K (FF F0 (env.set i (.dat d)) σ) H d (.ref a):=by
 have hi:i < env.length:=(Hi.mp e).1;obtain ⟨a,s,h⟩:=R.take e;have R1:=h.rel;have hu:(env.set i .un)[i]?=some .un:=Hq hi;have hd:Dm K (FF F0 (env.set i .un) σ) H d (.ref a):=fx.av h;have R2:=R1.putD hu hd;rw [Im,set_same s] at R2;refine ⟨a,s,R2,?_⟩;have eF:FF F0 (env.set i (.dat d)) σ=FF F0 (env.set i .un) σ:=by
  have:=j8 (F0:=F0) (σ:=σ) (s:=.dat d) (x:=some (.ref a)) hu (fun _=>nofun);rw [Im,set_same s] at this;exact this
 rw [eF];exact hd
theorem wC {i:Nat} {s s':Sl} (e:env[i]?=some s) (v:Evo s s'):KpE env (env.set i s'):=by
 have hi:i < env.length:=(Hi.mp e).1;refine ⟨HI,fun j t h=>?_⟩;by_cases z:i=j
 ·subst z;rw [e] at h;cases h;exact ⟨s',Hq hi,v⟩
 ·exact ⟨t,by rw [Hh z];exact h,.refl t⟩
end
open PySem
theorem dO (x y:Str):(x++y).cps=x.cps++y.cps:=rfl
theorem mO {x y:Str} (h:PyData.strOk x=true) (q:PyData.strOk y=true):PyData.strOk (x++y)=true:=by
 unfold PyData.strOk at h q ⊢;rw [dO,Array.all_append,h,q];rfl
def SE (K:Fg) (ga:Nat->V) (gd:List PyData) (e:XE):Prop:=∀ (env:En) (rv:RV) (env':En),dE gd e env=some (rv,env')->∀ (F0:Addr->Prop) (H₀:Hp) (I:Addr->Prop) (σ:St) (H:Hp) (Q:VK),Rel K F0 H₀ I env σ H ->
 (∀ v H',Rel K F0 H₀ I env' σ H'->KpE env env'->fx K F0 H₀ I env' σ H' rv v->Q v H')->rE K ga e σ H Q
def SA (K:Fg) (ga:Nat->V) (gd:List PyData) (e:XA):Prop:=∀ (env:En) (rv:List AV) (env':En),dA gd e env=some (rv,env')->∀ (F0:Addr->Prop) (H₀:Hp) (I:Addr->Prop) (σ:St) (H:Hp) (Q:List V->Hp->Prop),Rel K F0 H₀ I env σ H ->
 (∀ v H',Rel K F0 H₀ I env' σ H'->KpE env env'->hZ K F0 env' σ H' rv v->Q v H')->rA K ga e σ H Q
def SF (K:Fg) (ga:Nat->V) (gd:List PyData) (e:XA):Prop:=∀ (out:Str) (env:En) (x:Str) (env':En),dF gd e out env=some (x,env')->∀ (F0:Addr->Prop) (H₀:Hp) (I:Addr->Prop) (σ:St) (H:Hp) (Q:VK),Rel K F0 H₀ I env σ H ->
 PyData.strOk out=true->(∀ H',Rel K F0 H₀ I env' σ H'->KpE env env'->x.length<=sizeLine->PyData.strOk x=true->Q (.str x) H')->tFs (rF K ga e) out σ H Q
def BP (K:Fg) (F:Addr->Prop) (H:Hp):List (Key×PyData)->List (Key×V)->Prop
 | [],vs=>vs=[]
 | (k,d) :: ds,vs=>∃ v r,vs=(k,v) :: r/\Dm K F H (kD k) (kV k)/\Dm K F H d v/\BP K F H ds r
def SPs (K:Fg) (ga:Nat->V) (gd:List PyData) (e:XP):Prop:=∀ (env:En) (kvs:List (Key×PyData)) (env':En),dP gd e env=some (kvs,env')->∀ (F0:Addr->Prop) (H₀:Hp) (I:Addr->Prop) (σ:St) (H:Hp) (Q:List (V×V)->Hp->Prop),Rel K F0 H₀ I env σ H ->
 (∀ vs H',Rel K F0 H₀ I env' σ H'->KpE env env'->BP K (FF F0 env' σ) H' kvs vs->Q (vs.map fun kv=>(kV kv.1,kv.2)) H')->pA (rP K ga e) σ H Q
def ST (K:Fg) (ga:Nat->V) (gd:List PyData) (e:XT):Prop:=∀ (env:En) (b:Bool) (env':En),dT gd e env=some (b,env')->∀ (F0:Addr->Prop) (H₀:Hp) (I:Addr->Prop) (σ:St) (H:Hp) (Q:Bool->Hp->Prop),Rel K F0 H₀ I env σ H ->
 (∀ H',Rel K F0 H₀ I env' σ H'->KpE env env'->Q b H')->rT K ga e σ H Q
def ItY (K:Fg) (F:Addr->Prop) (H H' H'':Hp) (d:PyData) (x:V):Prop:=(H''=H'/\Dm K F H d x)\/∃ p u v d1 d2,d=.tuple [d1,d2]/\x=.ref p/\H' p=none/\H''=upd H' p (.tup [u,v])/\Dm K F H d1 u/\Dm K F H d2 v
theorem ItY.dm {K:Fg} {F F2:Addr->Prop} {H H' H'':Hp} {d:PyData} {x:V} (h:ItY K F H H' H'' d x) (T:∀ d v,Dm K F H d v->Dm K F2 H' d v):bq H' H''/\Dm K F2 H'' d x:=by
 rcases h with ⟨rfl,h⟩ | ⟨p,u,v,d1,d2,rfl,rfl,hp,rfl,h1,h2⟩
 ·exact ⟨fun _ _ e=>e,T _ _ h⟩
 ·have sm:bq H' (upd H' p (.tup [u,v])):=fun b o e=>by rw [aC (fun z=>by rw [z,hp] at e;cases e)];exact e
  refine ⟨sm,p,[u,v],rfl,SqT.of ay,Nat.le_of_ble_eq_true rfl,u,_,rfl,?_,v,_,rfl,?_,rfl⟩
  ·exact (T _ _ h1).pr (fun b o e _=>sm b o e) fun _ z=>z
  ·exact (T _ _ h2).pr (fun b o e _=>sm b o e) fun _ z=>z
def uJ (K:Fg) (F I:Addr->Prop) (H:Hp) (J:It) (ds:List PyData):Prop:=ds.length<=sizeLine/\∀ H',(∀ b o,H b=some o->¬I b->H' b=some o)->∀ k,(k < ds.length->J.go k H'/\∀ x H'',J.yld k H' x H''->∃ d,ds[k]?=some d/\ItY K F H H' H'' d x)/\(ds.length<=k->J.stop k H')
theorem iI {K:Fg} {F I:Addr->Prop} {H:Hp} {J:It} {ds:List PyData} {vs:List V} (hd:DmL K F H ds vs) (hl:vs.length<=sizeLine) (h:∀ H',(∀ b o,H b=some o->¬I b->H' b=some o)->∀ k,(k < vs.length->J.go k H'/\∀ x H'',J.yld k H' x H''->H''=H'/\vs[k]?=some x)/\(vs.length<=k->J.stop k H')):uJ K F I H J ds:=by
 have e:=hd.len;refine ⟨by omega,fun H' k j=>⟨fun hj=>?_,fun hj=>((h H' k j).2 (by omega))⟩⟩;obtain ⟨g,y⟩:=(h H' k j).1 (by omega);refine ⟨g,fun x H'' hx=>?_⟩;obtain ⟨e0,hx2⟩:=y x H'' hx;obtain ⟨d,h1,h2⟩:=hd.get' hx2;exact ⟨d,h1,.inl ⟨e0,h2⟩⟩
def SI (K:Fg) (ga:Nat->V) (gd:List PyData) (e:XI):Prop:=∀ (env:En) (ds:List PyData) (lock:Option Nat) (env':En),dI gd e env=some (ds,lock,env')->∀ (F0:Addr->Prop) (H₀:Hp) (I:Addr->Prop) (σ:St) (H:Hp) (R:It->Hp->Prop),Rel K F0 H₀ I env σ H ->
 (∀ J H',Rel K F0 H₀ I env' σ H'->KpE env env'->(∀ i,lock=some i->∃ d,cont env' i=some d)->uJ K (FF F0 env' σ) (fun b=>IA env' σ b/\∀ i,lock=some i->mu env' i->σ[i]?≠some (some (.ref b))) H' J ds->R J H')->rI_ K ga e σ H R
section
variable {K:Fg} {F F' I I' F0:Addr->Prop} {H H' H₀:Hp} {env env':En} {σ σ':St} {ga:Nat->V} {gd:List PyData}
theorem Ff (i:Nat):SE K ga gd (.var i):=by
 intro env rv env' h F0 H₀ I σ H Q R q;simp only [dE] at h;split at h
 ·rename_i d e;cases h;obtain ⟨v,s,r⟩:=R.dat i d e;exact ⟨v,s,q v H R (KpE.refl _) r⟩
 ·rename_i d e;cases h;obtain ⟨a,s,_⟩:=R.own i d e;exact ⟨_,s,q _ H R (KpE.refl _) s⟩
 ·rename_i d e;cases h;obtain ⟨a,s,_⟩:=R.ino i d e;exact ⟨_,s,q _ H R (KpE.refl _) s⟩
 ·rename_i d e;cases h;obtain ⟨a,s,_⟩:=R.ro i d e;exact ⟨_,s,q _ H R (KpE.refl _) s⟩
 ·cases h
theorem DK (i:Nat):SE K ga gd (.mov i):=by
 intro env rv env' h F0 H₀ I σ H Q R q;simp only [dE] at h;split at h
 ·rename_i d e;cases h;obtain ⟨a,s,R',r⟩:=R.mov e;exact ⟨_,s,q _ H R' (wC e (.inr (.inl ⟨d,rfl⟩))) r⟩
 ·cases h
theorem Dd (i:Nat):SE K ga gd (.tke i):=by
 intro env rv env' h F0 H₀ I σ H Q R q;simp only [dE] at h;split at h
 ·rename_i d e;cases h;obtain ⟨a,s,r⟩:=R.take e;exact ⟨_,s,q _ H r.rel (wC e (.inr (.inr rfl))) r⟩
 ·cases h
theorem Dl (c:Cst):SE K ga gd (.cst c):=by
 intro env rv env' h F0 H₀ I σ H Q R q;simp only [dE] at h;cases h;exact q _ H R (KpE.refl _) (c.ok _ _ _)
theorem DA (hg:∀ g d,gd[g]?=some d->∀ F H,Dm K F H d (ga g)) (g:Nat):SE K ga gd (.glb g):=by
 intro env rv env' h F0 H₀ I σ H Q R q;simp only [dE] at h;split at h
 ·rename_i d e;cases h;exact q _ H R (KpE.refl _) (hg g d e _ _)
 ·cases h
theorem Ej {p:Prm} {as:XA} (ih:SA K ga gd as):SE K ga gd (.prm p as):=by
 intro env rv env' h F0 H₀ I σ H Q R q;simp only [dE] at h;split at h
 ·rename_i avs e1 h1;split at h
  ·rename_i ds h2;split at h
   ·rename_i pr h3;cases h;refine ih _ _ _ h1 F0 H₀ I σ H _ R fun vs H1 R1 k1 a1=>?_;refine p.ok K _ H1 ds vs pr Q h3 (a1.vw R1 h2) (fun b z=>R1.fy z) fun v H2 s2 hp=>?_;exact q v H2 (R1.same s2) k1 (R1.lS s2 hp)
   ·cases h
  ·cases h
 ·cases h
theorem Fv {m:Mtd} {o:XE} {as:XA} (io:SE K ga gd o) (ih:SA K ga gd as):SE K ga gd (.met m o as):=by
 intro env rv env' h F0 H₀ I σ H Q R q;simp only [dE] at h;split at h
 ·rename_i rv0 e1 h1;split at h
  ·rename_i d0 h2;split at h
   ·rename_i hty;split at h
    ·rename_i avs e2 h3;split at h
     ·rename_i d ds h4 h5;split at h
      ·rename_i pr h6;cases h;refine io _ _ _ h1 F0 H₀ I σ H _ R fun v H1 R1 k1 a1=>?_;refine ⟨m.Cu K _ H1 d0 v hty (a1.av.vw R1 h2),?_⟩;refine ih _ _ _ h3 F0 _ _ σ H1 _ R1.rebase fun vs H2 S2 k2 a2=>?_;have R2:=R1.bZ S2;refine m.ok K _ H2 d v ds vs pr Q h6 ((a1.av.keep R1 S2 k2).vw R2 h4) (a2.vw R2 h5) (fun b z=>R2.fy z) fun v H3 s3 hp=>?_;exact q v H3 (R2.same s3) (k1.trans k2) (R2.lS s3 hp)
      ·cases h
     ·cases h
    ·cases h
   ·cases h
  ·cases h
 ·cases h
theorem Rel.FW (R:Rel K F0 H₀ I env σ H) {i:Nat} {d d':PyData} {a:Addr} (hm:bx env i=some d) (s:σ[i]?=some (some (.ref a))) (hk:∀ b o,b≠a->H b=some o->H' b=some o) (ht:Top K (FF F0 env σ) H' d' a):Rel K F0 H₀ I (gU env i d') σ H':=by
 obtain ⟨m,a',s',_,_⟩:=R.ee hm;rw [s] at s';cases s';have hia:IA env σ a:=⟨i,m,s⟩;refine R.chg (fh env i d') (fun b o e n=>hk b o (fun z=>n (z▸hia)) e) fun j c b hc hs=>?_;by_cases z:j=i
 ·subst z;rw [kX m] at hc;cases hc;rw [s] at hs;cases hs;exact ht
 ·have hc':bx env j=some c:=by
   unfold bx at hc ⊢
   rwa [kN z] at hc
  obtain ⟨m2,b',s2,_,t2⟩:=R.ee hc';rw [hs] at s2;cases s2;have nb:b≠a:=fun y=>z (R.sep j i a m2 m (y▸hs) s);refine t2.pr (R.pQ fun b' o e n=>hk b' o (fun z=>n (z▸hia)) e) (fun _ z=>z) fun o e=>hk b o nb e
theorem Fw {m:Mtr} {i:Nat} {as:XA} (ih:SA K ga gd as):SE K ga gd (.mtr m i as):=by
 intro env rv env' h F0 H₀ I σ H Q R q;simp only [dE] at h;split at h
 ·rename_i d0 h0;split at h
  ·rename_i hty;split at h
   ·rename_i avs e1 h1;split at h
    ·rename_i d ds h2 h3;split at h
     ·rename_i d' pr h4;cases h;obtain ⟨_,a,s,f,t⟩:=R.ee h0;refine ⟨.ref a,s,m.Cu K _ H d0 a hty t,?_⟩;refine ih _ _ _ h1 F0 H₀ I σ H _ R fun vs H1 R1 k1 a1=>?_;obtain ⟨m1,a',s',f1,t1⟩:=R1.ee h2;rw [s] at s';cases s';refine m.ok K _ H1 d a ds vs d' pr Q h4 f1 t1 (a1.mv R1 h3) fun v H2 hk ht hp=>?_;refine q v H2 (R1.FW h2 s hk ht) (k1.trans (tO _ _ _)) ?_;show Dm K (FF F0 (gU e1 i d') σ) H2 pr v;rw [(fh e1 i d').ff (F0:=F0) (σ:=σ)];exact hp
     ·cases h
    ·cases h
   ·cases h
  ·cases h
 ·cases h
noncomputable def adr (σ:St) (i:Nat):Addr:=match σ[i]? with | some (some (.ref a))=>a | _=>0
theorem gX {i:Nat} {a:Addr} (h:σ[i]?=some (some (.ref a))):adr σ i=a:=by unfold adr;rw [h]
theorem jO {ms:List PM} {as:List AV} {ds:List PyData} {m:PM} {a:AV} (h:jG env (m :: ms) (a :: as)=some ds):∃ d r,ds=d :: r/\Ei env m a=some d/\jG env ms as=some r:=by
 unfold jG at h;split at h
 ·rename_i d r e1 e2;cases h;exact ⟨d,r,rfl,e1,e2⟩
 ·cases h
theorem fT.bor {G I:Addr->Prop} {d:PyData} {a:Addr} (h:fT K G I H d a):y7 K G I H d (.ref a):=by cases d <;> first | exact ⟨a,rfl,h⟩ | exact absurd h id
theorem Ac (R:Rel K F0 H₀ I env σ H) (all:List Nat) (hall:∀ i∈all,mu env i):∀ {ms:List PM} {as:List AV} {ds:List PyData} {vs:List V},jG env ms as=some ds->hZ K F0 env σ H as vs->(du ms as).Nodup->(∀ i∈rZ ms as,i ∉ all)->(∀ i∈du ms as,i∈all) ->
  cD K (FF F0 env σ) (·∈all.map (adr σ)) H ms ds vs ((du ms as).map (adr σ)):=by
 have iAll:∀ b,b∈all.map (adr σ)->IA env σ b:=fun b hb=>by
  obtain ⟨i,hi,e⟩:=HM.mp hb;have m:=hall i hi;obtain ⟨d,m'⟩:=m;have:∃ a,σ[i]?=some (some (.ref a)):=by
   rcases m' with z | z
   ·obtain ⟨a,s,_⟩:=R.own i d z;exact ⟨a,s⟩
   ·obtain ⟨a,s,_⟩:=R.ino i d z;exact ⟨a,s⟩
  obtain ⟨a,s⟩:=this;rw [gX s] at e;subst e;exact ⟨i,hall i hi,s⟩
 intro ms;induction ms with
 | nil =>
  intro as ds vs h q _ _ _;cases as with
  | nil=>cases h;rw [show vs=[] from q];rfl
  | cons a as=>cases h
 | cons m ms ih =>
  intro as ds vs h q nd hb hi;cases as with
  | nil=>cases h
  | cons a as =>
   obtain ⟨d,r,rfl,h1,h2⟩:=jO h;obtain ⟨v,vr,rfl,q1,q2⟩:=q;cases m with
   | dat =>
    cases a with
    | bor i=>cases h1
    | dat d' =>
     cases h1;exact ⟨q1,ih h2 q2 (by simpa [du] using nd) (by simpa [rZ] using hb) (by simpa [du] using hi)⟩
   | bor =>
    cases a with
    | dat d' =>
     by_cases ct:∃ ts,d'=.tuple ts
     ·obtain ⟨ts,rfl⟩:=ct;cases h1;exact ⟨q1,ih h2 q2 (by simpa [du] using nd) (by simpa [rZ] using hb) (by simpa [du] using hi)⟩
     have l:d'=d/\((∃ ds,d=.list ds)\/∃ ds,d=.dict ds):=by
      cases d' <;> first | exact absurd ⟨_,rfl⟩ ct | (cases h1;exact ⟨rfl,.inl ⟨_,rfl⟩⟩) | (cases h1;exact ⟨rfl,.inr ⟨_,rfl⟩⟩) | cases h1
     obtain ⟨rfl,l⟩:=l;obtain ⟨b,e,t⟩:=Dm.ro (I:=(·∈all.map (adr σ))) q1 (fun b z=>R.ia (iAll b z)) l;exact ⟨by rcases l with ⟨_,rfl⟩ | ⟨_,rfl⟩ <;> exact ⟨b,e,t⟩,ih h2 q2 (by simpa [du] using nd) (by simpa [rZ] using hb) (by simpa [du] using hi)⟩
    | bor i =>
     have h1:cont env i=some d:=h1;have hb':i ∉ all:=hb i (by simp [rZ]);refine ⟨?_,ih h2 q2 (by simpa [du] using nd) (fun j hj=>hb j (by simp [rZ,hj])) (by simpa [du] using hi)⟩;unfold cont at h1;have na:∀ a,mu env i->σ[i]?=some (some (.ref a))->a ∉ all.map (adr σ):=fun a m s z=>by
      obtain ⟨j,hj,e⟩:=HM.mp z;obtain ⟨k,mk,sk⟩:=iAll a z;obtain ⟨dj,mj⟩:=hall j hj;have:∃ c,σ[j]?=some (some (.ref c)):=by
       rcases mj with z | z
       ·obtain ⟨a,s,_⟩:=R.own j dj z;exact ⟨a,s⟩
       ·obtain ⟨a,s,_⟩:=R.ino j dj z;exact ⟨a,s⟩
      obtain ⟨c,sj⟩:=this;rw [gX sj] at e;subst e;have:=R.sep i j c m ⟨dj,mj⟩ s sj;subst this;exact hb' hj
     split at h1
     ·rename_i d' e;cases h1;obtain ⟨a,s,_,_,t⟩:=R.own i d e;rw [show σ[i]?=some (some v) from q1] at s;cases s;exact fT.bor (t.ro (na a ⟨d,.inl e⟩ q1))
     ·rename_i d' e;cases h1;obtain ⟨a,s,_,_,t⟩:=R.ino i d e;rw [show σ[i]?=some (some v) from q1] at s;cases s;exact fT.bor (t.ro (na a ⟨d,.inr e⟩ q1))
     ·rename_i d' e;cases h1;obtain ⟨a,s,t⟩:=R.ro i d e;rw [show σ[i]?=some (some v) from q1] at s;cases s;exact fT.bor (t.pr Pr.refl (fun _ z=>z) iAll fun _ _ z _=>z)
     ·cases h1
   | ino =>
    cases a with
    | dat d'=>cases h1
    | bor i =>
     have h1:bx env i=some d:=h1;obtain ⟨m,b,s,f,t⟩:=R.ee h1;rw [show σ[i]?=some (some v) from q1] at s;cases s;have nd':i ∉ du ms as/\(du ms as).Nodup:=by simpa [du] using nd
     refine ⟨b,(du ms as).map (adr σ),rfl,by simp [du,gX q1],f,t,fun z=>?_,ih h2 q2 nd'.2 (by simpa [rZ] using hb) (fun j hj=>hi j (by simp [du,hj]))⟩;obtain ⟨j,hj,e⟩:=HM.mp z;obtain ⟨dj,mj⟩:=hall j (hi j (by simp [du,hj]));have:∃ c,σ[j]?=some (some (.ref c)):=by
      rcases mj with z | z
      ·obtain ⟨a,s,_⟩:=R.own j dj z;exact ⟨a,s⟩
      ·obtain ⟨a,s,_⟩:=R.ino j dj z;exact ⟨a,s⟩
     obtain ⟨c,sj⟩:=this;rw [gX sj] at e;subst e;have:=R.sep i j c m ⟨dj,mj⟩ q1 sj;subst this;exact nd'.1 hj
theorem tw:∀ {ms:List PM} {as:List AV} {ds:List PyData},jG env ms as=some ds->∀ i∈du ms as,mu env i
 | [],[],_,_,i,h=>by simp [du] at h
 | [],_ :: _,_,h,_,_=>by cases h
 | _ :: _,[],_,h,_,_=>by cases h
 | m :: ms,a :: as,_,h,i,hi=>by
  obtain ⟨d,r,rfl,h1,h2⟩:=jO h;have ih:=tw h2 i;cases m with
  | dat=>exact ih (by simpa [du] using hi)
  | bor=>exact ih (by simpa [du] using hi)
  | ino =>
   cases a with
   | dat d'=>cases h1
   | bor j =>
    simp only [du,Hs] at hi;rcases hi with rfl | hi
    ·rcases pW h1 with e | e
     ·exact ⟨d,.inl e⟩
     ·exact ⟨d,.inr e⟩
    ·exact ih hi
theorem mV:∀ (env:En) (is:List Nat) (ds:List PyData),SmK env (eD env is ds)
 | env,[],ds=>by unfold eD;exact SmK.refl _
 | env,i :: is,[]=>by unfold eD;exact SmK.refl _
 | env,i :: is,d :: ds=>by unfold eD;exact (fh env i d).trans (mV _ is ds)
theorem jx:∀ (env:En) (is:List Nat) (ds:List PyData) (j:Nat),j ∉ is->(eD env is ds)[j]?=env[j]?
 | env,[],ds,j,_=>by unfold eD;rfl
 | env,i :: is,[],j,_=>by unfold eD;rfl
 | env,i :: is,d :: ds,j,h=>by
  unfold eD;have n:j≠i:=fun z=>h (by rw [z];exact Hw);rw [jx _ is ds j (fun z=>h (Hk _ z)),kN n]
theorem kM {G:Addr->Prop}:∀ {env:En} {is:List Nat} {ds:List PyData} {j:Nat} {c:PyData},is.Nodup->(∀ i∈is,mu env i)->iT K G H ds (is.map (adr σ))->j∈is->bx (eD env is ds) j=some c->Top K G H c (adr σ j)
 | env,[],ds,j,c,_,_,_,h,_=>by simp at h
 | env,i :: is,[],j,c,_,_,h,_,_=>by simp [iT] at h
 | env,i :: is,d :: ds,j,c,nd,hm,h,hj,hc=>by
  obtain ⟨n1,nd'⟩:=Ia.mp nd;have h':Top K G H d (adr σ i)/\iT K G H ds (is.map (adr σ)):=h;unfold eD at hc;rcases Hs.mp hj with rfl | hj
  ·have e:=jx (gU env j d) is ds j n1;have:bx (gU env j d) j=some c:=by unfold bx at hc ⊢;rwa [e] at hc
   rw [kX (hm j Hw)] at this;cases this;exact h'.1
  ·exact kM (env:=gU env i d) nd' (fun k hk=>(fh env i d).symm.kp.mu (hm k (Hk _ hk))) h'.2 hj hc
theorem iy:∀ {is:List Nat},x9 is=true->is.Nodup
 | [],_=>List.nodup_nil
 | x :: xs,h=>by
  have h':xs.contains x=false/\x9 xs=true:=by simpa [x9] using h
  exact Ia.mpr ⟨fun z=>by simp [z] at h',iy h'.2⟩
theorem zz {is bs:List Nat} {n:Nat} (h:ckA is bs n=true):is.Nodup/\(∀ i∈bs,i ∉ is)/\n=is.length:=by
 unfold ckA at h;simp only [HK,List.all_eq_true,IF] at h;exact ⟨iy h.1,fun i hi z=>by have:=h.2.1 i hi;simp [z] at this,h.2.2⟩
theorem s_call {f:Fn} {as:XA} (ih:SA K ga gd as):SE K ga gd (.call f as):=by
 intro env rv env' h F0 H₀ I σ H Q R q;simp only [dE] at h;split at h
 ·rename_i avs e1 h1;unfold vN at h;split at h
  ·cases h
  ·rename_i ds h2;split at h
   ·cases h
   ·rename_i pr outs h3;split at h
    ·rename_i hc;obtain ⟨nd,hb,hl⟩:=zz hc;cases h;refine ih _ _ _ h1 F0 H₀ I σ H _ R fun vs H1 R1 k1 a1=>?_;show fP f K (vs++[]) H1 Q NoE;rw [Ie];have hmu:=tw h2;refine ⟨FF F0 e1 σ,ds,(du f.ms avs).map (adr σ),pr,outs,h3,Ac R1 (du f.ms avs) hmu h2 a1 nd hb (fun _ z=>z),fun b z=>R1.fy z,fun v H2 hk hr=>?_⟩;have k:=mV e1 (du f.ms avs) outs;have eF:=k.ff (F0:=F0) (σ:=σ);have eI:=k.ia (σ:=σ);have isIA:∀ b,b∈(du f.ms avs).map (adr σ)->IA e1 σ b:=fun b hb=>by
      obtain ⟨i,hi,e⟩:=HM.mp hb;obtain ⟨d,m'⟩:=hmu i hi;have:∃ a,σ[i]?=some (some (.ref a)):=by
       rcases m' with z | z
       ·obtain ⟨a,s,_⟩:=R1.own i d z;exact ⟨a,s⟩
       ·obtain ⟨a,s,_⟩:=R1.ino i d z;exact ⟨a,s⟩
      obtain ⟨a,s⟩:=this;rw [gX s] at e;subst e;exact ⟨i,hmu i hi,s⟩
     have hk':∀ b o,H1 b=some o->¬IA e1 σ b->H2 b=some o:=fun b o e n=>hk b o e fun z=>n (isIA b z);have jL:∀ j d a,j ∉ du f.ms avs->bx (eD e1 (du f.ms avs) outs) j=some d->σ[j]?=some (some (.ref a))->bx e1 j=some d/\a ∉ (du f.ms avs).map (adr σ):=fun j d a hj hm hs=>by
      have hm':bx e1 j=some d:=by unfold bx at hm ⊢;rwa [jx _ _ _ _ hj] at hm
      refine ⟨hm',fun z=>?_⟩;obtain ⟨i,hi,e⟩:=HM.mp z;obtain ⟨i',m2,s2⟩:=isIA a z;obtain ⟨di,mi⟩:=hmu i hi;have:∃ a,σ[i]?=some (some (.ref a)):=by
       rcases mi with z | z
       ·obtain ⟨a,s,_⟩:=R1.own i di z;exact ⟨a,s⟩
       ·obtain ⟨a,s,_⟩:=R1.ino i di z;exact ⟨a,s⟩
      obtain ⟨c,sc⟩:=this;rw [gX sc] at e;subst e;have:=R1.sep j i c (R1.ee hm').1 ⟨di,mi⟩ hs sc;subst this;exact hj hi
     cases pr with
     | dat d =>
      obtain ⟨hd,ht⟩:=hr;refine q v H2 (R1.chg k hk' fun j c a hm hs=>?_) (k1.trans k.kp) (show Dm K _ H2 d v by rw [eF];exact hd);by_cases hj:j∈du f.ms avs
      ·have:=kM nd hmu ht hj hm
       rwa [gX hs] at this
      ·obtain ⟨hm',ha⟩:=jL j c a hj hm hs;obtain ⟨_,a',s',_,t'⟩:=R1.ee hm';rw [hs] at s';cases s';exact t'.pr (R1.pQ hk') (fun _ z=>z) fun o e=>hk a o e ha
     | frs d =>
      obtain ⟨c,ev,hn,td,ht⟩:=hr;obtain ⟨o,ho,_⟩:=td.wr;have sm:bq H1 (upd H1 c o):=bq.nw o hn;have R1c:=R1.fresh (c:=c) hn sm (by rw [ay];exact nofun);have cIA:¬IA e1 σ c:=fun z=>by obtain ⟨o',z,_⟩:=R1.iaT z;rw [hn] at z;cases z
      have hkc:∀ b o',upd H1 c o b=some o'->¬IA e1 σ b->H2 b=some o':=fun b o' e n=>by
       by_cases z:b=c
       ·subst z;rw [ay] at e;cases e;exact ho
       ·rw [aC z] at e;exact hk' b o' e n
      have pF:Pr (fun b=>FF F0 e1 σ b\/b=c) H1 H2:=fun b o' e n=>hk' b o' e fun y=>by
       rcases n with n | n
       ·exact n (.inl (R1.ia y))
       ·obtain ⟨o2,h2,w2⟩:=R1.iaT y;rw [e] at h2;cases h2;rw [n] at w2;cases w2
      have R2c:Rel K (fun b=>F0 b\/b=c) H₀ I (eD e1 (du f.ms avs) outs) σ H2:=by
       refine R1c.chg k hkc fun j c' a hm hs=>?_;rw [fZ];by_cases hj:j∈du f.ms avs
       ·have:=kM nd hmu ht hj hm
        rwa [gX hs] at this
       ·obtain ⟨hm',ha⟩:=jL j c' a hj hm hs;obtain ⟨_,a',s',_,t'⟩:=R1.ee hm';rw [hs] at s';cases s';exact (t'.fresh hn).pr pF (fun _ z=>z) fun o e=>hk a o e ha
      have nino:∀ (i:Nat) (d':PyData),(eD e1 (du f.ms avs) outs)[i]?=some (.ino d')->σ[i]?≠some (some (.ref c)):=fun i d' e' z=>cIA ⟨i,k.kp.mu ⟨d',.inr e'⟩,z⟩;have rv:fx K F0 H₀ I (eD e1 (du f.ms avs) outs) σ H2 (.frs d) v:=by
       refine ⟨c,ev,R2c,by rw [eF];exact td,R1.oi (.inl hn),fun z=>?_,nino,fun i d' e'=>?_⟩
       ·rw [eF] at z;exact R1.fy z hn
       ·have e0:e1[i]?=some (.ro d'):=by
         rcases k.2 i with y | ⟨_,_,_,y⟩ | ⟨_,_,_,y⟩
         ·rw [<- y];exact e'
         ·rw [e'] at y;cases y
         ·rw [e'] at y;cases y
        obtain ⟨b,s,t⟩:=R1.ro i d' e0;rw [eF,eI];exact ⟨b,s,((t.fresh hn).wV hn).pr pF (fun _ z=>z) (fun _ z=>z) fun b o' e n=>hk' b o' e fun z=>n (.inl z)⟩
      exact q v H2 rv.rel (k1.trans k.kp) rv
    ·cases h
 ·cases h
theorem EN {as:XA} (ih:SA K ga gd as):SE K ga gd (.tup as):=by
 intro env rv env' h F0 H₀ I σ H Q R q;simp only [dE] at h;split at h
 ·rename_i avs e1 h1;split at h
  ·rename_i ds h2;split at h
   ·rename_i hl;cases h;refine ih _ _ _ h1 F0 H₀ I σ H _ R fun vs H1 R1 k1 a1=>?_;have dl:=a1.EO h2;have hl':vs.length<=sizeLine:=by rw [dl.len];exact hl
    refine ⟨hl',fun p hp=>?_⟩;have s:=bq.nw (.tup vs) hp;exact q _ _ (R1.same s) k1 ⟨p,vs,rfl,.inl (.inl ay),hl',dl.pr (Pr.of_same s) fun _ z=>z⟩
   ·cases h
  ·cases h
 ·cases h
theorem Er {as:XA} (ih:SA K ga gd as):SE K ga gd (.lst as):=by
 intro env rv env' h F0 H₀ I σ H Q R q;simp only [dE] at h;split at h
 ·rename_i avs e1 h1;split at h
  ·rename_i ds h2;split at h
   ·rename_i hl;cases h;refine ih _ _ _ h1 F0 H₀ I σ H _ R fun vs H1 R1 k1 a1=>?_;have dl:=a1.EO h2;have hl':vs.length<=sizeLine:=by rw [dl.len];exact hl
    refine ⟨hl',fun p hp=>?_⟩;have s:=bq.nw (.lst vs) hp;exact q _ _ (R1.same s) k1 (R1.lS (pr:=.frs (.list ds)) s ⟨p,rfl,hp,vs,ay,hl',(dl.fresh hp).pr (Pr.of_same s) fun _ z=>z⟩)
   ·cases h
  ·cases h
 ·cases h
theorem Dt {as:XA} (ih:SF K ga gd as):SE K ga gd (.fst as):=by
 intro env rv env' h F0 H₀ I σ H Q R q;simp only [dE] at h;split at h
 ·rename_i x e1 h1;cases h;exact ih _ _ _ _ h1 F0 H₀ I σ H _ R (show PyData.strOk ⟨#[]⟩=true by simp [PyData.strOk]) fun H1 R1 k1 hl ho=>q _ H1 R1 k1 ⟨rfl,hl,ho⟩
 ·cases h
theorem EI:SF K ga gd .nil:=by
 intro out env x env' h F0 H₀ I σ H Q R ok q;simp only [dF] at h;split at h
 ·rename_i hl;cases h;exact ⟨hl,q H R (KpE.refl _) hl ok⟩
 ·cases h
theorem CH {e:XE} {r:XA} (ie:SE K ga gd e) (ir:SF K ga gd r):SF K ga gd (.cons e r):=by
 intro out env x env' h F0 H₀ I σ H Q R ok q;simp only [dF] at h;split at h
 ·rename_i y e1 h1;split at h
  ·rename_i hl;refine ie _ _ _ h1 F0 H₀ I σ H _ R fun v H1 R1 k1 a1=>?_;obtain ⟨rfl,_,oky⟩:=(show v=.str y/\y.length<=sizeLine/\PyData.strOk y=true from a1);refine ⟨y,rfl,hl,?_⟩;exact ir _ _ _ _ h F0 H₀ I σ H1 _ R1 (mO ok oky) fun H2 R2 k2 hx=>q H2 R2 (k1.trans k2) hx
  ·cases h
 ·cases h
theorem FL:SA K ga gd .nil:=by
 intro env rv env' h F0 H₀ I σ H Q R q;simp only [dA] at h;cases h;exact q [] H R (KpE.refl _) rfl
theorem Bn {e:XE} {r:XA} (ie:SE K ga gd e) (ir:SA K ga gd r):SA K ga gd (.cons e r):=by
 intro env rv env' h F0 H₀ I σ H Q R q;simp only [dA] at h;split at h
 ·rename_i rv0 e1 h1;split at h
  ·rename_i avs e2 h2;cases h;refine ie _ _ _ h1 F0 H₀ I σ H _ R fun v H1 R1 k1 a1=>?_;refine ir _ _ _ h2 F0 _ _ σ H1 _ R1.rebase fun vs H2 S2 k2 a2=>?_;exact q (v :: vs) H2 (R1.bZ S2) (k1.trans k2) ⟨v,vs,rfl,a1.av.keep R1 S2 k2,a2⟩
  ·cases h
 ·cases h
end
open PySem
section
variable {K:Fg} {F F' I I' F0:Addr->Prop} {H H' H₀:Hp} {env env':En} {σ σ':St} {ga:Nat->V} {gd:List PyData}
theorem Dy {c:XT} {a b:XE} (ic:ST K ga gd c) (ia:SE K ga gd a) (ib:SE K ga gd b):SE K ga gd (.ifx c a b):=by
 intro env rv env' h F0 H₀ I σ H Q R q;simp only [dE] at h;split at h
 ·rename_i e1 h1;refine ic _ _ _ h1 F0 H₀ I σ H _ R fun H1 R1 k1=>?_;rw [Hy rfl];exact ia _ _ _ h F0 H₀ I σ H1 _ R1 fun v H2 R2 k2 r=>q v H2 R2 (k1.trans k2) r
 ·rename_i e1 h1;refine ic _ _ _ h1 F0 H₀ I σ H _ R fun H1 R1 k1=>?_;rw [HC (by decide)];exact ib _ _ _ h F0 H₀ I σ H1 _ R1 fun v H2 R2 k2 r=>q v H2 R2 (k1.trans k2) r
 ·cases h
theorem Ae {a b:XE} (ia:SE K ga gd a) (ib:SE K ga gd b):SE K ga gd (.Cf a b):=by
 intro env rv env' h F0 H₀ I σ H Q R q;simp only [dE] at h;split at h
 ·rename_i e1 h1;refine ia _ _ _ h1 F0 H₀ I σ H _ R fun v H1 R1 k1 r1=>⟨true,r1,?_⟩;rw [Hy rfl];exact ib _ _ _ h F0 H₀ I σ H1 _ R1 fun v H2 R2 k2 r=>q v H2 R2 (k1.trans k2) r
 ·rename_i e1 h1;cases h;refine ia _ _ _ h1 F0 H₀ I σ H _ R fun v H1 R1 k1 r1=>⟨false,r1,?_⟩;rw [HC (by decide)];exact q _ H1 R1 k1 rfl
 ·cases h
theorem EX {a b:XE} (ia:SE K ga gd a) (ib:SE K ga gd b):SE K ga gd (.orv a b):=by
 intro env rv env' h F0 H₀ I σ H Q R q;simp only [dE] at h;split at h
 ·rename_i e1 h1;cases h;refine ia _ _ _ h1 F0 H₀ I σ H _ R fun v H1 R1 k1 r1=>⟨true,r1,?_⟩;rw [Hy rfl];exact q _ H1 R1 k1 rfl
 ·rename_i e1 h1;refine ia _ _ _ h1 F0 H₀ I σ H _ R fun v H1 R1 k1 r1=>⟨false,r1,?_⟩;rw [HC (by decide)];exact ib _ _ _ h F0 H₀ I σ H1 _ R1 fun v H2 R2 k2 r=>q v H2 R2 (k1.trans k2) r
 ·cases h
theorem Ct {a:XE} (ia:SE K ga gd a):SE K ga gd (.Cs a):=by
 intro env rv env' h F0 H₀ I σ H Q R q;simp only [dE] at h;split at h
 ·rename_i x e1 h1;cases h;exact ia _ _ _ h1 F0 H₀ I σ H _ R fun v H1 R1 k1 r1=>⟨x,r1,q _ H1 R1 k1 rfl⟩
 ·cases h
theorem Ew {x y:PyData} {u v:V} (hx:Vw K F H x u) (hy:Vw K F H y v):VwL K F H [x,y] [u,v]:=⟨u,[v],rfl,hx,v,[],rfl,hy,rfl⟩
theorem Fj {p p':Prm} {a b c:XE} (ia:SE K ga gd a) (ib:SE K ga gd b) (ic:SE K ga gd c):SE K ga gd (.chn p p' a b c):=by
 intro env rv env' h F0 H₀ I σ H Q R q;simp only [dE] at h;split at h
 ·rename_i ra e1 h1;split at h
  ·rename_i rb e2 h2;split at h
   ·rename_i x y hx hy;refine ia _ _ _ h1 F0 H₀ I σ H _ R fun v H1 R1 k1 r1=>?_;refine ib _ _ _ h2 F0 _ _ σ H1 _ R1.rebase fun u H2 S2 k2 r2=>?_;have R2:=R1.bZ S2;have a1:=r1.av.keep R1 S2 k2;have a2:=r2.av;rw [hx] at a1;rw [hy] at a2;have dx:Dm K (FF F0 e2 σ) H2 x v:=a1;have dy:Dm K (FF F0 e2 σ) H2 y u:=a2;split at h
    ·rename_i hp;split at h
     ·rename_i rc e3 h3;split at h
      ·rename_i z hz;split at h
       ·rename_i pr hq;cases h;refine p.ok K _ H2 _ _ _ _ hp (Ew dx.vw dy.vw) (fun b z=>R2.fy z) fun w H3 s3 hw=>⟨true,hw,?_⟩;rw [Hy rfl];have R3:=R2.same s3;have dy3:Dm K (FF F0 e2 σ) H3 y u:=dy.pr (Pr.of_same s3) fun _ z=>z;refine ic _ _ _ h3 F0 _ _ σ H3 _ R3.rebase fun t H4 S4 k4 r4=>?_;have R4:=R3.bZ S4;have a4:=r4.av;rw [hz] at a4;have dz:Dm K (FF F0 env' σ) H4 z t:=a4;refine p'.ok K _ H4 _ _ _ _ hq (Ew (R3.pf S4 k4 dy3).vw dz.vw) (fun b z=>R4.fy z) fun w H5 s5 hw=>?_;exact q w H5 (R4.same s5) ((k1.trans k2).trans k4) (R4.lS s5 hw)
       ·cases h
      ·cases h
     ·cases h
    ·rename_i hp;cases h;refine p.ok K _ H2 _ _ _ _ hp (Ew dx.vw dy.vw) (fun b z=>R2.fy z) fun w H3 s3 hw=>⟨false,hw,?_⟩;rw [HC (by decide)];exact q _ H3 (R2.same s3) (k1.trans k2) rfl
    ·cases h
   ·cases h
  ·cases h
 ·cases h
theorem E9 {p:Int->Int->Prm} {a b c:XE} (ia:SE K ga gd a) (ib:SE K ga gd b) (ic:SE K ga gd c):SE K ga gd (.sl2 p a b c):=by
 intro env rv env' h F0 H₀ I σ H Q R q;simp only [dE] at h;split at h
 ·rename_i ra e1 h1;split at h
  ·rename_i i e2 h2;split at h
   ·rename_i j e3 h3;split at h
    ·rename_i d hv;split at h
     ·rename_i pr hp;cases h;refine ia _ _ _ h1 F0 H₀ I σ H _ R fun v H1 R1 k1 r1=>?_;refine ib _ _ _ h2 F0 _ _ σ H1 _ R1.rebase fun u H2 S2 k2 r2=>⟨i,r2,?_⟩;have R2:=R1.bZ S2;have a1:=r1.av.keep R1 S2 k2;refine ic _ _ _ h3 F0 _ _ σ H2 _ R2.rebase fun w H3 S3 k3 r3=>⟨j,r3,?_⟩;have R3:=R2.bZ S3;have a2:=a1.keep R2 S3 k3;refine (p i j).ok K _ H3 [d] [v] pr Q hp ⟨v,[],rfl,a2.vw R3 hv,rfl⟩ (fun b z=>R3.fy z) fun w H4 s4 hw=>?_;exact q w H4 (R3.same s4) ((k1.trans k2).trans k3) (R3.lS s4 hw)
     ·cases h
    ·cases h
   ·cases h
  ·cases h
 ·cases h
theorem Es {e:XE} (ie:SE K ga gd e):ST K ga gd (.tst e):=by
 intro env b env' h F0 H₀ I σ H Q R q;simp only [dT] at h;split at h
 ·rename_i x e1 h1;cases h;exact ie _ _ _ h1 F0 H₀ I σ H _ R fun v H1 R1 k1 r1=>⟨_,r1,q H1 R1 k1⟩
 ·cases h
theorem jY {ds:List PyData} {vs:List V} (h:DmL K F H ds vs):vs.isEmpty=ds.isEmpty:=by
 cases ds with
 | nil=>rw [show vs=[] from h];rfl
 | cons d ds=>obtain ⟨v,r,rfl,_⟩:=h;rfl
theorem Vw.tru {d:PyData} {v:V} (h:Vw K F H d v) (nd:E6 d≠true):DE K v H (EF d):=by
 cases d with
 | none=>rw [show v=.non from h];rfl
 | bool b=>rw [show v=.bl b from h];rfl
 | int i=>rw [show v=.int i from h];rfl
 | str x=>obtain ⟨rfl,hl,_⟩:=(show v=.str x/\x.length<=sizeLine/\PyData.strOk x=true from h);exact ⟨hl,rfl⟩
 | list ds=>obtain ⟨a,rfl,xs,e,_,r⟩:=h;exact .inl ⟨xs,e,by rw [jY r];rfl⟩
 | tuple ds=>obtain ⟨a,xs,rfl,e,_,r⟩:=h;exact .inr (.inl ⟨xs,e,by rw [jY r];rfl⟩)
 | dict ds=>exact absurd rfl nd
theorem DJ {e:XE} (ie:SE K ga gd e):ST K ga gd (.tru e):=by
 intro env b env' h F0 H₀ I σ H Q R q;simp only [dT] at h;split at h
 ·rename_i x e1 h1;split at h
  ·rename_i d h2;split at h
   ·cases h
   ·rename_i nd;cases h;exact ie _ _ _ h1 F0 H₀ I σ H _ R fun v H1 R1 k1 r1=>⟨_,(r1.av.vw R1 h2).tru nd,q H1 R1 k1⟩
  ·cases h
 ·cases h
theorem DM {a b:XT} (ia:ST K ga gd a) (ib:ST K ga gd b):ST K ga gd (.and a b):=by
 intro env x env' h F0 H₀ I σ H Q R q;simp only [dT] at h;split at h
 ·rename_i e1 h1;refine ia _ _ _ h1 F0 H₀ I σ H _ R fun H1 R1 k1=>?_;rw [Hy rfl];exact ib _ _ _ h F0 H₀ I σ H1 _ R1 fun H2 R2 k2=>q H2 R2 (k1.trans k2)
 ·rename_i e1 h1;cases h;refine ia _ _ _ h1 F0 H₀ I σ H _ R fun H1 R1 k1=>?_;rw [HC (by decide)];exact q H1 R1 k1
 ·cases h
theorem GL {a b:XT} (ia:ST K ga gd a) (ib:ST K ga gd b):ST K ga gd (.or a b):=by
 intro env x env' h F0 H₀ I σ H Q R q;simp only [dT] at h;split at h
 ·rename_i e1 h1;cases h;refine ia _ _ _ h1 F0 H₀ I σ H _ R fun H1 R1 k1=>?_;rw [Hy rfl];exact q H1 R1 k1
 ·rename_i e1 h1;refine ia _ _ _ h1 F0 H₀ I σ H _ R fun H1 R1 k1=>?_;rw [HC (by decide)];exact ib _ _ _ h F0 H₀ I σ H1 _ R1 fun H2 R2 k2=>q H2 R2 (k1.trans k2)
 ·cases h
theorem E5 {a:XT} (ia:ST K ga gd a):ST K ga gd (.not a):=by
 intro env x env' h F0 H₀ I σ H Q R q;simp only [dT] at h;split at h
 ·rename_i b e1 h1;cases h;exact ia _ _ _ h1 F0 H₀ I σ H _ R fun H1 R1 k1=>q H1 R1 k1
 ·cases h
theorem D4:ST K ga gd .yes:=by
 intro env x env' h F0 H₀ I σ H Q R q;simp only [dT] at h;cases h;exact q H R (KpE.refl _)
theorem xk {a:Addr} {vs:List V} {ds:List PyData} (hd:DmL K F H ds vs) (hl:vs.length<=sizeLine) (h:∀ H',(∀ b o,H b=some o->¬I b->H' b=some o)->SqL K H' a vs):uJ K F I H (Itl K a) ds :=
 iI hd hl fun H' k j=>⟨fun hj=>⟨⟨vs,vs[j],h H' k,Hn hj⟩,fun x H'' y=>⟨y.1,y.2 vs (h H' k)⟩⟩,fun hj=>⟨vs,h H' k,hj⟩⟩
theorem BS {a:Addr} {vs:List V} {ds:List PyData} (hd:DmL K F H ds vs) (hl:vs.length<=sizeLine) (h:∀ H',(∀ b o,H b=some o->¬I b->H' b=some o)->SqT K H' a vs):uJ K F I H (Itt K a) ds :=
 iI hd hl fun H' k j=>⟨fun hj=>⟨⟨vs,vs[j],h H' k,Hn hj⟩,fun x H'' y=>⟨y.1,y.2 vs (h H' k)⟩⟩,fun hj=>⟨vs,h H' k,hj⟩⟩
theorem zk {e:XE} (ie:SE K ga gd e):SI K ga gd (.lst e):=by
 intro env ds lock env' h F0 H₀ I σ H Q R q;simp only [dI] at h;split at h
 ·rename_i rv e1 h1;split at h
  ·rename_i ds' hv;cases h;refine ie _ _ _ h1 F0 H₀ I σ H _ R fun v H1 R1 k1 r1=>?_;have a1:=r1.av;rw [hv] at a1;obtain ⟨a,xs,rfl,l,z,r⟩:=(show Dm K (FF F0 env' σ) H1 (.list ds) v from a1);refine ⟨a,rfl,⟨xs,l.elim (fun q=>.inl q.2) .inr⟩,q _ H1 R1 k1 (fun i z=>by cases z) (xk r z fun H' k=>?_)⟩;rcases l with ⟨n,l | ⟨o,l⟩⟩ | l
   ·exact .inl (.inl (k _ _ l fun z=>n (R1.ia z.1)))
   ·exact .inl (.inr ⟨o,k _ _ l fun z=>n (R1.ia z.1)⟩)
   ·exact .inr l
  ·cases h
  ·rename_i i hv;split at h
   ·rename_i ds' hc;cases h;refine ie _ _ _ h1 F0 H₀ I σ H _ R fun v H1 R1 k1 r1=>?_;have a1:=r1.av;rw [hv] at a1;have s:σ[i]?=some (some v):=a1;unfold cont at hc;have fin:∀ a xs,v=.ref a->DmL K (FF F0 env' σ) H1 ds xs->xs.length<=sizeLine->(∀ H',(∀ b o,H1 b=some o->¬(IA env' σ b/\∀ j,some i=some j->mu env' j->σ[j]?≠some (some (.ref b)))->H' b=some o)->SqL K H' a xs)->(∃ d,cont env' i=some d) ->
      ∃ a,v=.ref a/\(∃ xs,SqL K H1 a xs)/\Q (Itl K a) H1:=fun a xs ev r z k hcd =>
     ⟨a,ev,⟨xs,k H1 fun _ _ e _=>e⟩,q _ H1 R1 k1 (fun j hj=>by cases hj;exact hcd) (xk r z k)⟩
    split at hc
    ·rename_i d e;cases hc;obtain ⟨a,s',_,_,xs,t,z,r⟩:=R1.own i _ e;rw [s] at s';cases s';exact fin a xs rfl r z (fun H' k=>.inl (.inl (k _ _ t fun y=>y.2 i rfl ⟨_,.inl e⟩ s))) ⟨_,by unfold cont;rw [e]⟩
    ·rename_i d e;cases hc;obtain ⟨a,s',_,_,xs,t,z,r⟩:=R1.ino i _ e;rw [s] at s';cases s';exact fin a xs rfl r z (fun H' k=>.inl (.inl (k _ _ t fun y=>y.2 i rfl ⟨_,.inr e⟩ s))) ⟨_,by unfold cont;rw [e]⟩
    ·rename_i d e;cases hc;obtain ⟨a,s',xs,l,z,r⟩:=R1.ro i _ e;rw [s] at s';cases s';refine fin a xs rfl r z (fun H' k=>?_) ⟨_,by unfold cont;rw [e]⟩;rcases l with ⟨n,l | ⟨o,l⟩⟩ | l
     ·exact .inl (.inl (k _ _ l fun z=>n z.1))
     ·exact .inl (.inr ⟨o,k _ _ l fun z=>n z.1⟩)
     ·exact .inr l
    ·cases hc
   ·cases h
 ·cases h
theorem r8:∀ {kvs:List (PyData×PyData)} {xs:List (PyData×V×V)},DmP K F H kvs xs->DmL K F H (kvs.map (·.1)) (xs.map (·.2.1))
 | [],xs,h=>by rw [show xs=[] from h];rfl
 | (k,d) :: kvs,xs,h=>by
  obtain ⟨j,v,r,rfl,_,h0,_,h2⟩:=h;exact ⟨j,_,rfl,h0,r8 h2⟩
theorem wc {a:Addr} {ep:Nat} {xs:List (PyData×V×V)} {kvs:List (PyData×PyData)} (hd:DmP K F H kvs xs) (hl:xs.length<=sizeLine) (h:∀ H':Hp,(∀ b o,H b=some o->¬I b->H' b=some o)->H' a=some (.dD ep xs)):uJ K F I H (Itd a ep xs) (kvs.map (·.1)) :=
 iI (vs:=xs.map (·.2.1)) (r8 hd) (by rw [Hf];exact hl) fun H' k j=>⟨fun hj=>⟨⟨h H' k,by rw [Hf] at hj;exact hj⟩,fun x H'' y=>⟨y.1,by rw [Hl];exact y.2⟩⟩,fun hj=>⟨h H' k,by rw [Hf] at hj;exact hj⟩⟩
theorem DB {e:XE} (ie:SE K ga gd e):SI K ga gd (.dct e):=by
 intro env ds lock env' h F0 H₀ I σ H Q R q;simp only [dI] at h;split at h
 ·rename_i rv e1 h1;split at h
  ·rename_i kvs hv;cases h;refine ie _ _ _ h1 F0 H₀ I σ H _ R fun v H1 R1 k1 r1=>?_;have a1:=r1.av;rw [hv] at a1;obtain ⟨a,ep,xs,rfl,n,l,z,r⟩:=(show Dm K (FF F0 env' σ) H1 (.dict kvs) v from a1);exact ⟨a,ep,xs,rfl,l,q _ H1 R1 k1 (fun i z=>by cases z) (wc r z fun H' k=>k _ _ l fun z=>n (R1.ia z.1))⟩
  ·cases h
  ·rename_i i hv;split at h
   ·rename_i kvs hc;cases h;refine ie _ _ _ h1 F0 H₀ I σ H _ R fun v H1 R1 k1 r1=>?_;have a1:=r1.av;rw [hv] at a1;have s:σ[i]?=some (some v):=a1;unfold cont at hc;have fin:∀ a ep xs,v=.ref a->DmP K (FF F0 env' σ) H1 kvs xs->xs.length<=sizeLine->(∀ H':Hp,(∀ b o,H1 b=some o->¬(IA env' σ b/\∀ j,some i=some j->mu env' j->σ[j]?≠some (some (.ref b)))->H' b=some o)->H' a=some (.dD ep xs))->(∃ d,cont env' i=some d) ->
      ∃ a ep xs,v=.ref a/\H1 a=some (.dD ep xs)/\Q (Itd a ep xs) H1:=fun a ep xs ev r z k hcd =>
     ⟨a,ep,xs,ev,k H1 fun _ _ e _=>e,q _ H1 R1 k1 (fun j hj=>by cases hj;exact hcd) (wc r z k)⟩
    split at hc
    ·rename_i d e;cases hc;obtain ⟨a,s',_,_,ep,xs,t,z,r⟩:=R1.own i _ e;rw [s] at s';cases s';exact fin a ep xs rfl r z (fun H' k=>k _ _ t fun y=>y.2 i rfl ⟨_,.inl e⟩ s) ⟨_,by unfold cont;rw [e]⟩
    ·rename_i d e;cases hc;obtain ⟨a,s',_,_,ep,xs,t,z,r⟩:=R1.ino i _ e;rw [s] at s';cases s';exact fin a ep xs rfl r z (fun H' k=>k _ _ t fun y=>y.2 i rfl ⟨_,.inr e⟩ s) ⟨_,by unfold cont;rw [e]⟩
    ·rename_i d e;cases hc;obtain ⟨a,s',ep,xs,n,l,z,r⟩:=R1.ro i _ e;rw [s] at s';cases s';exact fin a ep xs rfl r z (fun H' k=>k _ _ l fun z=>n z.1) ⟨_,by unfold cont;rw [e]⟩
    ·cases hc
   ·cases h
 ·cases h
theorem yy:∀ {kvs:List (PyData×PyData)} {xs:List (PyData×V×V)},DmP K F H kvs xs->(kvs.all fun p=>FT p.1)=true->TkX xs
 | [],xs,h,_=>by rw [show xs=[] from h];intro x hx;cases hx
 | (k,d) :: kvs,xs,h,hk=>by
  obtain ⟨j,v,r,rfl,_,h0,_,h2⟩:=h;rw [List.all_cons,HK] at hk;intro x hx;rcases Hs.mp hx with rfl | hx
  ·cases k with
   | str t=>exact ⟨t,rfl,h0.1⟩
   | _=>cases hk.1
  ·exact yy h2 hk.2 x hx
theorem wg:∀ {kvs:List (PyData×PyData)} {xs:List (PyData×V×V)} {i:Nat} {x:PyData×V×V},DmP K F H kvs xs->xs[i]?=some x->∃ k d,kvs[i]?=some (k,d)/\Dm K F H k x.2.1/\Dm K F H d x.2.2
 | [],xs,i,x,h,e=>by rw [show xs=[] from h] at e;cases e
 | (k,d) :: kvs,xs,i,x,h,e=>by
  obtain ⟨j,v,r,rfl,_,h0,h1,h2⟩:=h;cases i with
  | zero=>cases e;exact ⟨k,d,rfl,h0,h1⟩
  | succ i=>exact wg (i:=i) h2 e
theorem uo:∀ {kvs:List (PyData×PyData)} {xs:List (PyData×V×V)},DmP K F H kvs xs->kvs.length=xs.length
 | [],xs,h=>by rw [show xs=[] from h];rfl
 | (k,d) :: kvs,xs,h=>by
  obtain ⟨j,v,r,rfl,_,_,_,h2⟩:=h;rw [HD,HD,uo h2]
theorem Ag {a:Addr} {ep:Nat} {xs:List (PyData×V×V)} {kvs:List (PyData×PyData)} (hd:DmP K F H kvs xs) (tk:TkX xs) (hl:xs.length<=sizeLine) (h:∀ H':Hp,(∀ b o,H b=some o->¬I b->H' b=some o)->H' a=some (.dD ep xs)):uJ K F I H (Iti a ep xs) (kvs.map fun p=>.tuple [p.1,p.2]):=by
 have el:(kvs.map fun p=>PyData.tuple [p.1,p.2]).length=xs.length:=by rw [Hf,uo hd]
 refine ⟨by rw [el];exact hl,fun H' k j=>⟨fun hj=>?_,fun hj=>?_⟩⟩
 ·rw [el] at hj;refine ⟨⟨h H' k,tk,hj⟩,?_⟩;rintro x H'' ⟨p,y,hp,rfl,hy,rfl⟩;obtain ⟨c,d,e1,d1,d2⟩:=wg hd hy;refine ⟨.tuple [c,d],?_,.inr ⟨p,y.2.1,y.2.2,c,d,rfl,rfl,hp,rfl,d1,d2⟩⟩;rw [Hl,e1];rfl
 ·rw [el] at hj;exact ⟨h H' k,tk,hj⟩
theorem D3 {e:XE} (ie:SE K ga gd e):SI K ga gd (.itm e):=by
 intro env ds lock env' h F0 H₀ I σ H Q R q;simp only [dI] at h;split at h
 ·rename_i rv e1 h1;split at h
  ·rename_i kvs hv;split at h
   ·rename_i hk;cases h;refine ie _ _ _ h1 F0 H₀ I σ H _ R fun v H1 R1 k1 r1=>?_;have a1:=r1.av;rw [hv] at a1;obtain ⟨a,ep,xs,rfl,n,l,z,r⟩:=(show Dm K (FF F0 env' σ) H1 (.dict kvs) v from a1);exact ⟨a,ep,xs,rfl,l,yy r hk,q _ H1 R1 k1 (fun i z=>by cases z) (Ag r (yy r hk) z fun H' k=>k _ _ l fun z=>n (R1.ia z.1))⟩
   ·cases h
  ·cases h
 ·cases h
theorem Bi {e:XE} (ie:SE K ga gd e):SI K ga gd (.tup e):=by
 intro env ds lock env' h F0 H₀ I σ H Q R q;simp only [dI] at h;split at h
 ·rename_i rv e1 h1;split at h
  ·rename_i ds' hv;cases h;refine ie _ _ _ h1 F0 H₀ I σ H _ R fun v H1 R1 k1 r1=>?_;have a1:=r1.av;rw [hv] at a1;obtain ⟨a,xs,rfl,l,z,r⟩:=(show Dm K (FF F0 env' σ) H1 (.tuple ds) v from a1);refine ⟨a,rfl,⟨xs,l⟩,q _ H1 R1 k1 (fun i z=>by cases z) (BS r z fun H' k=>?_)⟩;exact l.pr (R1.pQ fun b o e n=>k b o e fun z=>n z.1)
  ·cases h
 ·cases h
theorem G0 {e:XE} (ie:SE K ga gd e):SI K ga gd (.sq e):=by
 intro env ds lock env' h F0 H₀ I σ H Q R q;simp only [dI] at h;split at h
 ·rename_i rv e1 h1;split at h
  ·rename_i ds' hv;exact .inl (zk ie env ds lock env' (by simp only [dI,h1,hv];exact h) F0 H₀ I σ H Q R q)
  ·rename_i ds' hv;exact .inr (Bi ie env ds lock env' (by simp only [dI,h1,hv];exact h) F0 H₀ I σ H Q R q)
  ·cases h
  ·rename_i i hv;exact .inl (zk ie env ds lock env' (by simp only [dI,h1,hv];exact h) F0 H₀ I σ H Q R q)
 ·cases h
theorem zy:∀ {cs:List Nat},(∀ c∈cs,c < 0x110000)->DmL K F H (cs.map fun c=>.str ⟨#[c]⟩) (cs.map fun c=>.str ⟨#[c]⟩)
 | [],_=>rfl
 | c :: cs,h=>⟨_,_,rfl,⟨rfl,by show 1<=sizeLine;decide,by have:=h c Hw;simp [PyData.strOk,this]⟩,zy fun x hx=>h x (Hk _ hx)⟩
theorem gh {x:Str} (h:PyData.strOk x=true):∀ c∈x.cps.toList,c < 0x110000:=fun c hc=>by
 unfold PyData.strOk at h;have:=Array.all_eq_true'.mp h c (by simpa using hc);simpa using this
theorem Ey {e:XE} (ie:SE K ga gd e):SI K ga gd (.str e):=by
 intro env ds lock env' h F0 H₀ I σ H Q R q;simp only [dI] at h;split at h
 ·rename_i rv e1 h1;split at h
  ·rename_i x hv;cases h;refine ie _ _ _ h1 F0 H₀ I σ H _ R fun v H1 R1 k1 r1=>?_;have a1:=r1.av;rw [hv] at a1;obtain ⟨rfl,hl,ok⟩:=(show v=.str x/\x.length<=sizeLine/\PyData.strOk x=true from a1);have ez:x.cps.toList.length=x.length:=by simp [Str.length]
   refine ⟨x,rfl,q _ H1 R1 k1 (fun i z=>by cases z) (iI (zy (gh ok)) (by rw [Hf,ez];exact hl) fun H' k j=>⟨fun hj=>?_,fun hj=>?_⟩)⟩
   ·rw [Hf,ez] at hj;refine ⟨hj,fun y H'' hy=>?_⟩;obtain ⟨e,c,hc,rfl⟩:=hy;refine ⟨e,?_⟩;rw [Hl];have:x.cps.toList[j]?=some c:=by rw [<- hc];simp
    rw [this];rfl
   ·rw [Hf,ez] at hj;exact hj
  ·cases h
 ·cases h
theorem xb {f:Nat->Int}:∀ {cs:List Nat},DmL K F H (cs.map fun c=>.int (f c)) (cs.map fun c=>.int (f c))
 | []=>rfl
 | c :: cs=>⟨_,_,rfl,rfl,xb⟩
theorem xf {lo:Int} {n:Nat} (hn:n<=sizeLine):uJ K F I H (Itr lo n) ((List.range n).map fun (k:Nat)=>.int (lo+(k:Int))):=by
 refine iI (vs:=(List.range n).map fun (k:Nat)=>.int (lo+(k:Int))) (xb (f:=fun k=>lo+(k:Int))) (by rw [Hf,Iy];exact hn) fun H' k j=>⟨fun hj=>?_,fun hj=>?_⟩
 ·rw [Hf,Iy] at hj;refine ⟨hj,fun y H'' hy=>⟨hy.1,?_⟩⟩;rw [Hl,List.getElem?_range hj,hy.2];rfl
 ·rw [Hf,Iy] at hj;exact hj
theorem zY {as:XA} (ia:SA K ga gd as):SI K ga gd (.rng1 as):=by
 intro env ds lock env' h F0 H₀ I σ H Q R q;simp only [dI] at h;split at h
 ·rename_i avs e1 h1;split at h
  ·rename_i j;split at h
   ·rename_i hj;cases h;refine ia _ _ _ h1 F0 H₀ I σ H _ R fun vs H1 R1 k1 a1=>?_;obtain ⟨v,r,rfl,hv,rfl⟩:=a1;have hv:v=.int j:=hv;subst hv;refine ⟨j,rfl,hj.1,by have:=hj.2;omega,q _ H1 R1 k1 (fun i z=>by cases z) (xf ?_)⟩;have:=hj.2;show j.toNat<=2 ^ 24;omega
   ·cases h
  ·cases h
 ·cases h
theorem BK {a b:Addr} {xs ys:List V} {ds es:List PyData} (hd:DmL K F H ds xs) (he:DmL K F H es ys) (hl:xs.length<=sizeLine) (h1:∀ H',(∀ b o,H b=some o->¬I b->H' b=some o)->SqL K H' a xs) (h2:∀ H',(∀ b o,H b=some o->¬I b->H' b=some o)->SqL K H' b ys):uJ K F I H (Itz K a b xs ys) ((ds.zip es).map fun p=>.tuple [p.1,p.2]):=by
 have e1:=hd.len;have e2:=he.len;have el:((ds.zip es).map fun p=>PyData.tuple [p.1,p.2]).length=min xs.length ys.length:=by rw [Hf,List.length_zip,e1,e2]
 refine ⟨by rw [el];omega,fun H' k j=>⟨fun hj=>?_,fun hj=>?_⟩⟩
 ·rw [el] at hj;refine ⟨⟨h1 H' k,h2 H' k,by omega,by omega⟩,?_⟩;rintro x H'' ⟨p,u,v,hp,rfl,hu,hv,rfl⟩;obtain ⟨d,d1,d2⟩:=hd.get' hu;obtain ⟨e,e3,e4⟩:=he.get' hv;refine ⟨.tuple [d,e],?_,.inr ⟨p,u,v,d,e,rfl,rfl,hp,rfl,d2,e4⟩⟩;rw [Hl,show (ds.zip es)[j]?=some (d,e) from List.getElem?_zip_eq_some.mpr ⟨d1,e3⟩];rfl
 ·rw [el] at hj;exact ⟨h1 H' k,h2 H' k,by omega⟩
theorem FA {as:XA} (ia:SA K ga gd as):SI K ga gd (.zip as):=by
 intro env ds lock env' h F0 H₀ I σ H Q R q;simp only [dI] at h;split at h
 ·rename_i avs e1 h1;split at h
  ·rename_i x y;split at h
   ·rename_i xs ys hx hy;cases h;refine ia _ _ _ h1 F0 H₀ I σ H _ R fun vs H1 R1 k1 a1=>?_;obtain ⟨v,r,rfl,hv,w,r2,rfl,hw,rfl⟩:=a1;have one:∀ {x:AV} {xs:List PyData} {v:V},roL env' x=some xs->wQ K F0 env' σ H1 x v->∃ a us,v=.ref a/\us.length<=sizeLine/\DmL K (FF F0 env' σ) H1 xs us/\∀ H',(∀ b o,H1 b=some o->¬(IA env' σ b/\∀ i,none=some i->mu env' i->σ[i]?≠some (some (.ref b)))->H' b=some o)->SqL K H' a us:=by
     intro x xs v hx hv;unfold roL at hx;split at hx
     ·cases hx;obtain ⟨a,us,rfl,l,z,r⟩:=(show Dm K (FF F0 env' σ) H1 (.list xs) v from hv);refine ⟨a,us,rfl,z,r,fun H' k=>?_⟩;rcases l with ⟨n,l | ⟨o,l⟩⟩ | l
      ·exact .inl (.inl (k _ _ l fun z=>n (R1.ia z.1)))
      ·exact .inl (.inr ⟨o,k _ _ l fun z=>n (R1.ia z.1)⟩)
      ·exact .inr l
     ·rename_i i;split at hx
      ·rename_i e;cases hx;have s:σ[i]?=some (some v):=hv;obtain ⟨a,s',us,l,z,r⟩:=R1.ro i _ e;rw [s] at s';cases s';refine ⟨a,us,rfl,z,r,fun H' k=>?_⟩;rcases l with ⟨n,l | ⟨o,l⟩⟩ | l
       ·exact .inl (.inl (k _ _ l fun z=>n z.1))
       ·exact .inl (.inr ⟨o,k _ _ l fun z=>n z.1⟩)
       ·exact .inr l
      ·cases hx
     ·cases hx
    obtain ⟨a,us,rfl,za,ra,sa⟩:=one hx hv;obtain ⟨b,ws,rfl,zb,rb,sb⟩:=one hy hw;exact ⟨a,b,us,ws,rfl,sa H1 fun _ _ e _=>e,sb H1 fun _ _ e _=>e,q _ H1 R1 k1 (fun i z=>by cases z) (BK ra rb za sa sb)⟩
   ·cases h
  ·cases h
 ·cases h
theorem AO {as:XA} (ia:SA K ga gd as):SI K ga gd (.rng2 as):=by
 intro env ds lock env' h F0 H₀ I σ H Q R q;simp only [dI] at h;split at h
 ·rename_i avs e1 h1;split at h
  ·rename_i i j;split at h
   ·rename_i hj;cases h;refine ia _ _ _ h1 F0 H₀ I σ H _ R fun vs H1 R1 k1 a1=>?_;obtain ⟨v,r,rfl,hv,w,r2,rfl,hw,rfl⟩:=a1;have hv:v=.int i:=hv;have hw:w=.int j:=hw;subst hv hw;refine ⟨i,j,rfl,⟨hj.1,hj.2.1,hj.2.2.1,hj.2.2.2.1⟩,q _ H1 R1 k1 (fun i z=>by cases z) (xf ?_)⟩;have:=hj.2.2.2.2;show (j - i).toNat<=2 ^ 24;omega
   ·cases h
  ·cases h
 ·cases h
end
open PySem
section
variable {K:Fg} {F F' I I' F0:Addr->Prop} {H H' H₀:Hp} {env env':En} {σ σ':St} {ga:Nat->V} {gd:List PyData}
theorem fx.carry {d:PyData} {p:Addr} (h:fx K F0 H₀ I env σ H (.frs d) (.ref p)) (S:Rel K (fun b=>F0 b\/b=p) H (IA env σ) env' σ H') (k:KpE env env'):fx K F0 H₀ I env' σ H' (.frs d) (.ref p):=by
 obtain ⟨a,ea,R,t,w,nF,hi,hr⟩:=h;cases ea;have cIA:¬IA env σ p:=fun z=>by
  obtain ⟨i,⟨c,e | e⟩,s⟩:=z
  ·exact nF (.inr ⟨i,c,e,s⟩)
  ·exact hi i c e s
 have R':=R.bZ S;have hk:∀ b o,H b=some o->¬IA env σ b->H' b=some o:=S.eH;have pF:Pr (fun b=>FF F0 env σ b\/b=p) H H':=by
  have:=R.pQ hk
  rwa [fZ] at this
 have hf:∀ b,(FF F0 env' σ b\/b=p)->(FF F0 env σ b\/b=p):=fun b z=>z.imp (fun z=>k.ff z) id;refine ⟨p,rfl,R',t.pr pF hf fun o e=>hk p o e cIA,w,fun z=>nF (k.ff z),fun i c e s=>cIA ⟨i,k.mu ⟨c,.inr e⟩,s⟩,fun i c e=>?_⟩;obtain ⟨s,e0,ev⟩:=k.back e;have es:s=.ro c:=by
  cases s with
  | un=>cases ev
  | dat _=>cases ev
  | own _=>rcases ev with ⟨_,v⟩ | ⟨_,v⟩ | v <;> cases v
  | ino _=>obtain ⟨_,v⟩:=ev;cases v
  | ro d'=>cases ev;rfl
 subst es;obtain ⟨b,q,t'⟩:=hr i c e0;exact ⟨b,q,t'.pr pF hf (fun b z=>z.imp (fun z=>k.ia z) id) fun b o e n=>hk b o e fun z=>n (.inl z)⟩
theorem fx.put {d d':PyData} {p:Addr} {o:HO} (h:fx K F0 H₀ I env σ H (.frs d) (.ref p)) (ht:Top K (fun b=>FF F0 env σ b\/b=p) (upd H p o) d' p):fx K F0 H₀ I env σ (upd H p o) (.frs d') (.ref p):=by
 obtain ⟨a,ea,R,t,w,nF,hi,hr⟩:=h;cases ea;have cIA:¬IA env σ p:=fun z=>by
  obtain ⟨i,⟨c,e | e⟩,s⟩:=z
  ·exact nF (.inr ⟨i,c,e,s⟩)
  ·exact hi i c e s
 have pF:Pr (fun b=>FF F0 env σ b\/b=p) H (upd H p o):=fun b u e n=>by
  by_cases z:b=p
  ·subst z;rcases n with n | n
   ·exact absurd (.inr rfl) n
   ·obtain ⟨o',h',w'⟩:=t.wr;rw [e] at h';cases h';rw [n] at w';cases w'
  ·rw [aC z];exact e
 have eF:FF (fun b=>F0 b\/b=p) env σ=fun b=>FF F0 env σ b\/b=p:=fZ;have nea:∀ i b,mu env i->σ[i]?=some (some (.ref b))->b≠p:=fun i b m s z=>cIA (z▸⟨i,m,s⟩);have hro:∀ (i:Nat) (d':PyData),env[i]?=some (.ro d')->∃ b,σ[i]?=some (some (.ref b))/\fT K (fun b=>FF F0 env σ b\/b=p) (fun b=>IA env σ b\/b=p) (upd H p o) d' b:=fun i c e=>by
  obtain ⟨b,q,t'⟩:=hr i c e;exact ⟨b,q,t'.pr pF (fun _ z=>z) (fun _ z=>z) fun b u e n=>by rw [aC (fun z=>n (.inr z))];exact e⟩
 refine ⟨p,rfl,⟨R.len,fun i c e=>?_,fun i c e=>?_,fun i c e=>?_,fun i c e=>?_,R.sep,fun b hb=>?_,fun b u e n=>?_⟩,ht,w,nF,hi,hro⟩
 ·obtain ⟨v,s,r⟩:=R.dat i c e;rw [eF] at r ⊢;exact ⟨v,s,r.pr pF fun _ z=>z⟩
 ·obtain ⟨b,s,n,w',t'⟩:=R.own i c e;rw [eF] at t' ⊢;exact ⟨b,s,n,w',t'.pr pF (fun _ z=>z) fun u e'=>by rw [aC (nea i b ⟨c,.inl e⟩ s)];exact e'⟩
 ·obtain ⟨b,s,n,w',t'⟩:=R.ino i c e;rw [eF] at t' ⊢;exact ⟨b,s,n,w',t'.pr pF (fun _ z=>z) fun u e'=>by rw [aC (nea i b ⟨c,.inr e⟩ s)];exact e'⟩
 ·obtain ⟨b,s,t'⟩:=hro i c e;rw [eF];exact ⟨b,s,t'.pr Pr.refl (fun _ z=>z) (fun _ z=>.inl z) fun _ _ z _=>z⟩
 ·by_cases z:b=p
  ·subst z;rw [ay];exact nofun
  ·rw [aC z];exact R.dom b hb
 ·have:=R.eH b u e n;by_cases z:b=p
  ·subst z;rcases w with w | w
   ·rw [e] at w;cases w
   ·exact absurd w n
  ·rw [aC z];exact this
theorem wG (a b:Key):PyData.eqv (kD a) (kD b)=decide (a=b):=by
 cases a with
 | inl i=>cases b with
  | inl j=>by_cases z:i=j <;> simp [kD,PyData.eqv,z]
  | inr y=>simp [kD,PyData.eqv]
 | inr x=>cases b with
  | inl j=>simp [kD,PyData.eqv]
  | inr y=>by_cases z:x=y <;> simp [kD,PyData.eqv,z]
theorem wW {k:PyData}:∀ {ds:List (PyData×PyData)} {xs:List (PyData×V×V)},DmP K F H ds xs->(ds.any fun kv=>PyData.eqv kv.1 k)=xs.any fun x=>PyData.eqv x.1 k
 | [],xs,h=>by rw [show xs=[] from h];rfl
 | (k',d) :: ds,xs,h=>by
  obtain ⟨j,v,r,rfl,_,_,_,h2⟩:=h;rw [Jw,Jw,wW h2]
theorem t9 {k d:PyData} {v:V} (hd:Dm K F H d v):∀ {ds:List (PyData×PyData)} {xs:List (PyData×V×V)},DmP K F H ds xs->DmP K F H (ds.map fun kv=>if PyData.eqv kv.1 k=true then (kv.1,d) else kv) (xs.map fun x=>if PyData.eqv x.1 k=true then (x.1,x.2.1,v) else x)
 | [],xs,h=>by rw [show xs=[] from h];rfl
 | (k',d') :: ds,xs,h=>by
  obtain ⟨j,w,r,rfl,e,h0,h1,h2⟩:=h;rw [List.map_cons,List.map_cons];by_cases z:PyData.eqv k' k=true
  ·rw [Hy z,Hy z];exact ⟨j,v,_,rfl,e,h0,hd,t9 hd h2⟩
  ·rw [HC z,HC z];exact ⟨j,w,_,rfl,e,h0,h1,t9 hd h2⟩
theorem xi {k d:PyData} {j v:V} (hk:hk6 k=true) (hj:Dm K F H k j) (hd:Dm K F H d v):∀ {ds:List (PyData×PyData)} {xs:List (PyData×V×V)},DmP K F H ds xs->DmP K F H (ds++[(k,d)]) (xs++[(k,j,v)])
 | [],xs,h=>by rw [show xs=[] from h];exact ⟨j,v,[],rfl,hk,hj,hd,rfl⟩
 | (k',d') :: ds,xs,h=>by
  obtain ⟨i,w,r,rfl,e,h0,h1,h2⟩:=h;exact ⟨i,w,_,rfl,e,h0,h1,xi hk hj hd h2⟩
theorem wU {k d:PyData} {j v:V} {ds:List (PyData×PyData)} {xs:List (PyData×V×V)} (h:DmP K F H ds xs) (hk:hk6 k=true) (hj:Dm K F H k j) (hd:Dm K F H d v):DmP K F H (putD ds k d) (pL xs k j v):=by
 unfold putD pL;rw [wW h];split
 ·exact t9 hd h
 ·exact xi hk hj hd h
theorem Ak {kvs:List (Key×V)} {k:Key} {v:V}:(putK kvs k v).map cvK=pL (kvs.map cvK) (kD k) (kV k) v:=by
 unfold putK pL;have e:((kvs.map cvK).any fun x=>PyData.eqv x.1 (kD k))=kvs.any fun kv=>decide (kv.1=k):=by
  rw [List.any_map];congr 1;funext kv;exact wG _ _
 rw [e];split
 ·rw [Jz,Jz];refine List.map_congr_left fun kv _=>?_;show cvK (if kv.1=k then (kv.1,v) else kv)=if PyData.eqv (kD kv.1) (kD k)=true then _ else _
  rw [wG];by_cases z:kv.1=k
  ·rw [Hy z,Hy (Ii z)];rfl
  ·rw [HC z,HC (by simp [z])]
 ·rw [HL];rfl
theorem u7 {kvs:List (Key×V)} {k:Key} {v:V}:(putK kvs k v).length<=kvs.length+1:=by
 unfold putK;split
 ·rw [Hf];exact IP _
 ·rw [Ho];exact Hu _
theorem Bu (k:Key):hk6 (kD k)=true:=by cases k <;> rfl
theorem pB:∀ {kvs:List (Key×PyData)} {vs:List (Key×V)} {ds:List (PyData×PyData)} {xs:List (Key×V)},BP K F H kvs vs->DmP K F H ds (xs.map cvK)->DmP K F H (kvs.foldl (fun acc kv=>putD acc (kD kv.1) kv.2) ds) ((eQ xs vs).map cvK)/\(eQ xs vs).length<=xs.length+vs.length
 | [],vs,ds,xs,h,q=>by rw [show vs=[] from h];exact ⟨q,Hu _⟩
 | (k,d) :: kvs,vs,ds,xs,h,q=>by
  obtain ⟨v,r,rfl,h0,h1,h2⟩:=h;have:=pB h2 (xs:=putK xs k v) (by rw [Ak];exact wU q (Bu k) h0 h1);refine ⟨this.1,HA this.2 ?_⟩;have:=u7 (kvs:=xs) (k:=k) (v:=v);rw [HD];omega
theorem BP.len:∀ {kvs:List (Key×PyData)} {vs:List (Key×V)},BP K F H kvs vs->vs.length=kvs.length
 | [],vs,h=>by rw [show vs=[] from h];rfl
 | (k,d) :: kvs,vs,h=>by
  obtain ⟨v,r,rfl,h0,h1,h2⟩:=h;rw [HD,HD,h2.len]
theorem FI:SPs K ga gd .nil:=by
 intro env kvs env' h F0 H₀ I σ H Q R q;simp only [dP] at h;cases h;exact q [] H R (KpE.refl _) rfl
theorem Cy {k e:XE} {r:XP} (ik:SE K ga gd k) (ie:SE K ga gd e) (ir:SPs K ga gd r):SPs K ga gd (.cons k e r):=by
 intro env kvs env' h F0 H₀ I σ H Q R q;simp only [dP] at h;split at h
 ·rename_i rk e1 h1;split at h
  ·rename_i rv e2 h2;split at h
   ·rename_i kvs' e3 h3;split at h
    ·rename_i dk d hk hd;split at h
     ·rename_i key hkey;cases h;refine ik _ _ _ h1 F0 H₀ I σ H _ R fun v H1 R1 k1 r1=>?_;refine ie _ _ _ h2 F0 _ _ σ H1 _ R1.rebase fun u H2 S2 k2 r2=>?_;have R2:=R1.bZ S2;refine ir _ _ _ h3 F0 _ _ σ H2 _ R2.rebase fun vs H3 S3 k3 r3=>?_;have a1:=r1.av;rw [hk] at a1;have a2:=r2.av;rw [hd] at a2;have ev:v=kV key:=by
       cases dk with
       | int i=>cases hkey;exact (show v=.int i from a1)
       | str x=>cases hkey;exact (show v=.str x/\_ from a1).1
       | _=>cases hkey
      have dd:Dm K (FF F0 env' σ) H3 d u:=R2.pf S3 k3 a2;have dk':Dm K (FF F0 env' σ) H3 (kD key) (kV key):=by
       cases dk with
       | int i=>cases hkey;rfl
       | str x=>cases hkey;exact ⟨rfl,(show v=.str x/\_ from a1).2⟩
       | _=>cases hkey
      rw [ev];exact q ((key,u) :: vs) H3 (R2.bZ S3) ((k1.trans k2).trans k3) ⟨u,vs,rfl,dk',dd,r3⟩
     ·cases h
    ·cases h
   ·cases h
  ·cases h
 ·cases h
theorem EU {as:XP} (ih:SPs K ga gd as):SE K ga gd (.dsp as):=by
 intro env rv env' h F0 H₀ I σ H Q R q;simp only [dE] at h;split at h
 ·rename_i kvs e1 h1;split at h
  ·rename_i hl;cases h;intro p hp;have s:=bq.nw (.dD 0 []) hp;have r0:fx K F0 H₀ I env σ (upd H p (.dD 0 [])) (.frs (.dict [])) (.ref p):=R.lS (pr:=.frs (.dict [])) s ⟨p,rfl,hp,0,[],ay,by decide,rfl⟩;have R0:=r0;obtain ⟨a,ea,R0,_,_,nF,hi,_⟩:=R0;cases ea;have cIA:¬IA env σ p:=fun z=>by
    obtain ⟨i,⟨c,e | e⟩,s⟩:=z
    ·exact nF (.inr ⟨i,c,e,s⟩)
    ·exact hi i c e s
   refine ih _ _ _ h1 _ _ _ σ _ _ R0.rebase fun vs H2 S2 k2 ps=>?_;have r2:=r0.carry S2 k2;rw [fZ] at ps;have hm:=pB ps (xs:=[]) (show DmP K (fun b=>FF F0 env' σ b\/b=p) H2 [] [] from rfl);have hlen:(eQ [] vs).length<=15:=by
    have:=hm.2;rw [ps.len] at this;simp only [List.length_nil] at this;omega
   refine ⟨S2.eH p _ ay cIA,vs,rfl,by rw [ps.len];exact hl,fun ep=>?_⟩;have r3:fx K F0 H₀ I env' σ (upd H2 p (.dD ep ((eQ [] vs).map cvK))) (.frs (.dict (kvs.foldl (fun acc kv=>putD acc (kD kv.1) kv.2) []))) (.ref p):=by
    refine r2.put ⟨ep,(eQ [] vs).map cvK,ay,by rw [Hf];exact HA hlen (by decide),hm.1.pr ?_ fun _ z=>z⟩;intro b u e n;by_cases z:b=p
    ·subst z;rcases n with n | n
     ·exact absurd (.inr rfl) n
     ·have:=S2.eH b _ ay cIA;rw [e] at this;cases this;cases n
    ·rw [aC z];exact e
   exact q _ _ r3.rel k2 r3
  ·cases h
 ·cases h
end
open PySem
section
variable {K:Fg} {F F' I I' F0:Addr->Prop} {H H' H₀:Hp} {env env':En} {σ σ':St} {ga:Nat->V} {gd:List PyData}
theorem mF {α:Type}:∀ {l:List α} {i j:Nat} {x:α},l.Nodup->l[i]?=some x->l[j]?=some x->i=j
 | [],_,_,_,_,h,_=>by simp at h
 | y :: l,0,0,_,_,_,_=>rfl
 | y :: l,0,j+1,x,nd,h1,h2=>by
  simp at h1 h2;subst h1;exact absurd (HF h2) (Ia.mp nd).1
 | y :: l,i+1,0,x,nd,h1,h2=>by
  simp at h1 h2;subst h2;exact absurd (HF h1) (Ia.mp nd).1
 | y :: l,i+1,j+1,x,nd,h1,h2=>by
  simp at h1 h2;rw [mF (Ia.mp nd).2 h1 h2]
def noOwn (env:En):Prop:=∀ (i:Nat) (d:PyData),env[i]?≠some (.own d)
theorem dN (h:noOwn env):FF F0 env σ=F0:=by
 funext b;apply propext;constructor
 ·rintro (q | ⟨i,d,e,_⟩)
  ·exact q
  ·exact absurd e (h i d)
 ·exact .inl
theorem noOwn.kp (h:noOwn env) (k:KpE env env'):noOwn env':=fun i d e=>by
 obtain ⟨d',e'⟩:=k.own e;exact h i d' e'
def qG:Sl->Prop | .dat _=>True | .un=>True | _=>False
theorem iA {pre:En} {ps:St} (hp:∀ s∈pre,qG s) (hl:pre.length=ps.length):FF F0 (pre++env) (ps++σ)=FF F0 env σ:=by
 funext b;apply propext;constructor
 ·rintro (q | ⟨i,d,e,s⟩)
  ·exact .inl q
  ·by_cases hi:i < pre.length
   ·rw [HG hi] at e;have:=hp _ (HF e);exact absurd this id
   ·rw [Hr (by omega)] at e;rw [Hr (by omega),<-hl] at s;exact .inr ⟨_,d,e,s⟩
 ·rintro (q | ⟨i,d,e,s⟩)
  ·exact .inl q
  ·refine .inr ⟨pre.length+i,d,?_,?_⟩
   ·rw [Hr (by omega)];simpa using e
   ·rw [Hr (by omega),hl];simpa using s
theorem kj {pre:En} (hp:∀ s∈pre,qG s) {i:Nat} (h:mu (pre++env) i):pre.length<=i/\mu env (i - pre.length):=by
 obtain ⟨d,h⟩:=h;by_cases hi:i < pre.length
 ·rw [HG hi] at h;rcases h with h | h <;> exact absurd (hp _ (HF h)) id
 ·rw [Hr (by omega)] at h;exact ⟨by omega,d,h⟩
theorem pS {pre:En} {ps:St} (hp:∀ s∈pre,qG s) (hl:pre.length=ps.length):IA (pre++env) (ps++σ)=IA env σ:=by
 funext b;apply propext;constructor
 ·rintro ⟨i,m,s⟩;obtain ⟨hi,m'⟩:=kj hp m;rw [Hr (by omega),<-hl] at s;exact ⟨_,m',s⟩
 ·rintro ⟨i,⟨d,m⟩,s⟩;refine ⟨pre.length+i,⟨d,?_⟩,?_⟩
  ·rw [Hr (by omega)];simpa using m
  ·rw [Hr (by omega),hl];simpa using s
theorem Rel.front (R:Rel K F0 H₀ I env σ H) {ds:List PyData} {vs:List V} (h:DmL K (FF F0 env σ) H ds vs):Rel K F0 H₀ I (ds.map .dat++env) (vs.map some++σ) H:=by
 have hp:∀ s∈(ds.map Sl.dat),qG s:=fun s hs=>by obtain ⟨d,_,rfl⟩:=HM.mp hs;trivial
 have hl:(ds.map Sl.dat).length=(vs.map some).length:=by rw [Hf,Hf,h.len]
 have hl2:(ds.map Sl.dat).length=ds.length:=Hf _;have eF:=iA (F0:=F0) (env:=env) (σ:=σ) hp hl;have eI:=pS (env:=env) (σ:=σ) hp hl;have back:∀ {i:Nat} {s:Sl},(ds.map Sl.dat++env)[i]?=some s->(∀ d,s≠.dat d)->(ds.map Sl.dat).length<=i/\env[i - (ds.map Sl.dat).length]?=some s:=fun {i s} e n=>by
  by_cases hi:i < (ds.map Sl.dat).length
  ·rw [HG hi] at e;obtain ⟨d,_,z⟩:=HM.mp (HF e);exact absurd z.symm (n d)
  ·rw [Hr (by omega)] at e;exact ⟨by omega,e⟩
 have fs:∀ {i:Nat} {x:Option V},(ds.map Sl.dat).length<=i->σ[i - (ds.map Sl.dat).length]?=some x->(vs.map some++σ)[i]?=some x:=fun {i x} hi e=>by
  rw [Hr (by omega),<-hl];exact e
 refine ⟨by rw [Ho,Ho,hl,R.len],fun i d e=>?_,fun i d e=>?_,fun i d e=>?_,fun i d e=>?_,fun i j a h1 h2 h3 h4=>?_,R.dom,R.eH⟩
 ·rw [eF];by_cases hi:i < (ds.map Sl.dat).length
  ·rw [HG hi,Hl] at e;cases e2:ds[i]? with
   | none=>rw [e2] at e;cases e
   | some d' =>
    rw [e2] at e;cases e;obtain ⟨v,q,r⟩:=h.get e2;refine ⟨v,?_,r⟩;rw [HG (by omega),Hl,q];rfl
  ·rw [Hr (by omega)] at e;obtain ⟨v,s,r⟩:=R.dat _ d e;exact ⟨v,fs (by omega) s,r⟩
 ·rw [eF];obtain ⟨hi,e⟩:=back e (fun _=>nofun);obtain ⟨a,s,q⟩:=R.own _ d e;exact ⟨a,fs hi s,q⟩
 ·rw [eF];obtain ⟨hi,e⟩:=back e (fun _=>nofun);obtain ⟨a,s,q⟩:=R.ino _ d e;exact ⟨a,fs hi s,q⟩
 ·rw [eF,eI];obtain ⟨hi,e⟩:=back e (fun _=>nofun);obtain ⟨a,s,q⟩:=R.ro _ d e;exact ⟨a,fs hi s,q⟩
 ·obtain ⟨i1,m1⟩:=kj hp h1;obtain ⟨i2,m2⟩:=kj hp h2;rw [Hr (by omega),<-hl] at h3 h4;have:=R.sep _ _ a m1 m2 h3 h4;omega
theorem Rel.behind {pre:En} {ps:St} (R:Rel K F0 H₀ I (pre++env) (ps++σ) H) (hp:∀ s∈pre,qG s) (hl:pre.length=ps.length):Rel K F0 H₀ I env σ H:=by
 have eF:=iA (F0:=F0) (env:=env) (σ:=σ) hp hl;have eI:=pS (env:=env) (σ:=σ) hp hl;have up:∀ {i:Nat} {s:Sl},env[i]?=some s->(pre++env)[pre.length+i]?=some s:=fun {i s} e=>by
  rw [Hr (by omega)];simpa using e
 have dn:∀ {i:Nat} {x:Option V},(ps++σ)[pre.length+i]?=some x->σ[i]?=some x:=fun {i x} e=>by
  rw [Hr (by omega),hl] at e;simpa using e
 have us:∀ {i:Nat} {x:Option V},σ[i]?=some x->(ps++σ)[pre.length+i]?=some x:=fun {i x} e=>by
  rw [Hr (by omega),hl];simpa using e
 refine ⟨by have:=R.len;rw [Ho,Ho,hl] at this;omega,fun i d e=>?_,fun i d e=>?_,fun i d e=>?_,fun i d e=>?_,fun i j a h1 h2 h3 h4=>?_,R.dom,R.eH⟩
 ·obtain ⟨v,s,r⟩:=R.dat _ d (up e);rw [eF] at r;exact ⟨v,dn s,r⟩
 ·obtain ⟨v,s,r⟩:=R.own _ d (up e);rw [eF] at r;exact ⟨v,dn s,r⟩
 ·obtain ⟨v,s,r⟩:=R.ino _ d (up e);rw [eF] at r;exact ⟨v,dn s,r⟩
 ·obtain ⟨v,s,r⟩:=R.ro _ d (up e);rw [eF,eI] at r;exact ⟨v,dn s,r⟩
 ·obtain ⟨d1,m1⟩:=h1;obtain ⟨d2,m2⟩:=h2;have:=R.sep (pre.length+i) (pre.length+j) a ⟨d1,m1.imp up up⟩ ⟨d2,m2.imp up up⟩ (us h3) (us h4);omega
theorem KpE.front {ds:List PyData} {e':En} (k:KpE (ds.map .dat++env) e'):∃ env',e'=ds.map .dat++env'/\KpE env env':=by
 have hlen:=k.1;rw [Ho,Hf] at hlen;refine ⟨e'.drop ds.length,?_,?_,fun i s e=>?_⟩
 ·apply List.ext_getElem?;intro i;by_cases hi:i < ds.length
  ·have hm:(ds.map Sl.dat++env)[i]?=some (.dat ds[i]):=by
    rw [HG (by rw [Hf];exact hi),Hl,Hn hi];rfl
   obtain ⟨s',h',ev⟩:=k.2 i _ hm;have ev:s'=.dat ds[i]:=ev;rw [h',ev,HG (by rw [Hf];exact hi),Hl,Hn hi];rfl
  ·rw [Hr (by rw [Hf];omega),List.getElem?_drop,Hf];congr 1;omega
 ·rw [Ik];omega
 ·obtain ⟨s',h',ev⟩:=k.2 (ds.length+i) s (by rw [Hr (by rw [Hf];omega),Hf];simpa using e);exact ⟨s',by rw [List.getElem?_drop];exact h',ev⟩
theorem gp {lock:Option Nat} {js:List Nat} {k:Nat} {s:Sl} (h:(fz env lock js)[k]?=some s):∃ j,js[k]?=some j/\s=nU (decide (lock=some j)) (env[j]?.getD .un):=by
 unfold fz at h;rw [Hl] at h;cases e:js[k]? with
 | none=>rw [e] at h;cases h
 | some j=>rw [e] at h;cases h;exact ⟨j,rfl,rfl⟩
theorem pE {js:List Nat} {k j:Nat} (h:js[k]?=some j):(bX js σ)[k]?=some ((σ[j]?).getD none):=by
 unfold bX;rw [Hl,h];rfl
theorem dc {lock:Option Nat} {js:List Nat}:noOwn (fz env lock js):=fun k d e=>by
 obtain ⟨j,_,e'⟩:=gp e;cases h:env[j]?.getD .un with
 | un=>rw [h] at e';cases e'
 | dat _=>rw [h] at e';cases e'
 | own c=>rw [h] at e';unfold nU at e';simp only at e';split at e' <;> cases e'
 | ino c=>rw [h] at e';unfold nU at e';simp only at e';split at e' <;> cases e'
 | ro _=>rw [h] at e';cases e'
theorem getD_some {j:Nat} {s:Sl} (h:env[j]?.getD .un=s) (n:s≠.un):env[j]?=some s:=by
 cases e:env[j]? with
 | none=>rw [e] at h;exact absurd h.symm n
 | some t=>rw [e] at h;cases h;rfl
theorem o4 {lock:Option Nat} {js:List Nat} {k:Nat} {d:PyData} (h:(fz env lock js)[k]?=some (.ino d)):∃ j,js[k]?=some j/\lock≠some j/\(env[j]?=some (.own d)\/env[j]?=some (.ino d)):=by
 obtain ⟨j,hj,e'⟩:=gp h;refine ⟨j,hj,?_⟩;cases h:env[j]?.getD .un with
 | un=>rw [h] at e';cases e'
 | dat _=>rw [h] at e';cases e'
 | own c =>
  rw [h] at e';unfold nU at e';simp only at e';split at e'
  ·cases e'
  ·rename_i n;cases e';exact ⟨by simpa using n,.inl (getD_some h nofun)⟩
 | ino c =>
  rw [h] at e';unfold nU at e';simp only at e';split at e'
  ·cases e'
  ·rename_i n;cases e';exact ⟨by simpa using n,.inr (getD_some h nofun)⟩
 | ro _=>rw [h] at e';cases e'
theorem eT {lock:Option Nat} {js:List Nat} {k:Nat} (h:mu (fz env lock js) k):∃ j,js[k]?=some j/\lock≠some j/\mu env j:=by
 obtain ⟨d,h | h⟩:=h
 ·exact absurd h (dc k d)
 ·obtain ⟨j,h1,h2,h3⟩:=o4 h;exact ⟨j,h1,h2,d,h3⟩
theorem cq {js:List Nat} {k j:Nat} {a:Addr} (h:js[k]?=some j) (e:(bX js σ)[k]?=some (some (.ref a))):σ[j]?=some (some (.ref a)):=by
 rw [pE h] at e;cases q:σ[j]? with
 | none=>rw [q] at e;cases e
 | some x=>rw [q] at e;cases e;rfl
theorem cY {js:List Nat} {k j:Nat} {v:V} (h:js[k]?=some j) (e:σ[j]?=some (some v)):(bX js σ)[k]?=some (some v):=by rw [pE h,e];rfl
theorem Rel.bX (R:Rel K F0 H₀ I env σ H) {lock:Option Nat} {js:List Nat} (nd:js.Nodup):Rel K (FF F0 env σ) H (IA (fz env lock js) (L2.bX js σ)) (fz env lock js) (L2.bX js σ) H:=by
 have eF:FF (FF F0 env σ) (fz env lock js) (L2.bX js σ)=FF F0 env σ:=dN dc;have sub:∀ b,IA (fz env lock js) (L2.bX js σ) b->IA env σ b:=fun b ⟨k,m,s⟩=>by
  obtain ⟨j,hj,_,mj⟩:=eT m;exact ⟨j,mj,cq hj s⟩
 refine ⟨by unfold fz L2.bX;rw [Hf,Hf],fun k d e=>?_,fun k d e=>absurd e (dc k d),fun k d e=>?_,fun k d e=>?_,fun k l a h1 h2 h3 h4=>?_,fun b h=>R.fy h,fun _ _ h _=>h⟩
 ·rw [eF];obtain ⟨j,hj,e'⟩:=gp e;have ej:env[j]?=some (.dat d):=by
   cases h:env[j]?.getD .un with
   | un=>rw [h] at e';cases e'
   | dat c=>rw [h] at e';cases e';exact getD_some h nofun
   | own c=>rw [h] at e';unfold nU at e';simp only at e';split at e' <;> cases e'
   | ino c=>rw [h] at e';unfold nU at e';simp only at e';split at e' <;> cases e'
   | ro _=>rw [h] at e';cases e'
  obtain ⟨v,s,r⟩:=R.dat j d ej;exact ⟨v,cY hj s,r⟩
 ·rw [eF];obtain ⟨j,hj,_,ej⟩:=o4 e;have:∃ a,σ[j]?=some (some (.ref a))/\FF F0 env σ a/\Top K (FF F0 env σ) H d a:=by
   rcases ej with ej | ej
   ·obtain ⟨a,s,_,_,t⟩:=R.own j d ej;exact ⟨a,s,.inr ⟨j,d,ej,s⟩,t⟩
   ·obtain ⟨a,s,f,_,t⟩:=R.ino j d ej;exact ⟨a,s,.inl f,t⟩
  obtain ⟨a,s,f,t⟩:=this;exact ⟨a,cY hj s,f,⟨k,⟨d,.inr e⟩,cY hj s⟩,t⟩
 ·rw [eF];obtain ⟨j,hj,e'⟩:=gp e;have lk:∀ a,lock=some j->mu env j->σ[j]?=some (some (.ref a))->¬IA (fz env lock js) (L2.bX js σ) a:=fun a hl m s ⟨k',m',s'⟩=>by
   obtain ⟨j',hj',hn,mj'⟩:=eT m';have:=R.sep j' j a mj' m (cq hj' s') s;subst this;exact hn hl
  cases h:env[j]?.getD .un with
  | un=>rw [h] at e';cases e'
  | dat c=>rw [h] at e';cases e'
  | own c =>
   rw [h] at e';unfold nU at e';simp only at e';split at e'
   ·rename_i n;cases e';have ej:=getD_some h nofun;obtain ⟨a,s,_,_,t⟩:=R.own j d ej;exact ⟨a,cY hj s,t.ro (lk a (by simpa using n) ⟨d,.inl ej⟩ s)⟩
   ·cases e'
  | ino c =>
   rw [h] at e';unfold nU at e';simp only at e';split at e'
   ·rename_i n;cases e';have ej:=getD_some h nofun;obtain ⟨a,s,_,_,t⟩:=R.ino j d ej;exact ⟨a,cY hj s,t.ro (lk a (by simpa using n) ⟨d,.inr ej⟩ s)⟩
   ·cases e'
  | ro c =>
   rw [h] at e';cases e';obtain ⟨a,s,t⟩:=R.ro j d (getD_some h nofun);exact ⟨a,cY hj s,t.pr Pr.refl (fun _ z=>z) sub fun _ _ z _=>z⟩
 ·obtain ⟨j1,e1,_,m1⟩:=eT h1;obtain ⟨j2,e2,_,m2⟩:=eT h2;have:=R.sep j1 j2 a m1 m2 (cq e1 h3) (cq e2 h4);subst this;exact mF nd e1 e2
theorem bI:∀ (env:En) (js:List Nat) (es:En),SmK env (bA env js es)
 | env,[],es=>by unfold bA;exact SmK.refl _
 | env,j :: js,[]=>by unfold bA;exact SmK.refl _
 | env,j :: js,s :: es=>by
  cases s with
  | ino d=>unfold bA;exact (fh env j d).trans (bI _ js es)
  | un=>unfold bA;exact bI _ js es
  | dat _=>unfold bA;exact bI _ js es
  | own _=>unfold bA;exact bI _ js es
  | ro _=>unfold bA;exact bI _ js es
theorem bG:∀ (env:En) (js:List Nat) (es:En) (i:Nat),i ∉ js->(bA env js es)[i]?=env[i]?
 | env,[],es,i,_=>by unfold bA;rfl
 | env,j :: js,[],i,_=>by unfold bA;rfl
 | env,j :: js,s :: es,i,h=>by
  have n:i≠j:=fun z=>h (by rw [z];exact Hw);have n':i ∉ js:=fun z=>h (Hk _ z);cases s with
  | ino d=>unfold bA;rw [bG _ js es i n',kN n]
  | un=>unfold bA;exact bG _ js es i n'
  | dat _=>unfold bA;exact bG _ js es i n'
  | own _=>unfold bA;exact bG _ js es i n'
  | ro _=>unfold bA;exact bG _ js es i n'
theorem fk:∀ (env:En) (js:List Nat) (es:En) (k i:Nat) (s:Sl),js.Nodup->js[k]?=some i->es[k]?=some s->(∀ d,s=.ino d->mu env i->bx (bA env js es) i=some d)/\((∀ d,s≠.ino d)->(bA env js es)[i]?=env[i]?)
 | env,[],es,k,i,s,_,h,_=>by simp at h
 | env,j :: js,[],k,i,s,_,_,h=>by simp at h
 | env,j :: js,t :: es,0,i,s,nd,h,h'=>by
  obtain ⟨n1,nd'⟩:=Ia.mp nd;simp at h h';subst h h';constructor
  ·rintro d rfl m;unfold bA;have:=bG (gU env j d) js es j n1;unfold bx;rw [this];exact kX m
  ·intro hn;cases t with
   | ino d=>exact absurd rfl (hn d)
   | un=>unfold bA;exact bG _ js es j n1
   | dat _=>unfold bA;exact bG _ js es j n1
   | own _=>unfold bA;exact bG _ js es j n1
   | ro _=>unfold bA;exact bG _ js es j n1
 | env,j :: js,t :: es,k+1,i,s,nd,h,h'=>by
  obtain ⟨n1,nd'⟩:=Ia.mp nd;simp at h h';have hi:i∈js:=HF h;have ne:i≠j:=fun z=>n1 (z▸hi);cases t with
  | ino d =>
   unfold bA;have ih:=fk (gU env j d) js es k i s nd' h h';refine ⟨fun d' e m=>ih.1 d' e ((fh env j d).symm.kp.mu m),fun hn=>?_⟩;rw [ih.2 hn,kN ne]
  | un=>unfold bA;exact fk env js es k i s nd' h h'
  | dat _=>unfold bA;exact fk env js es k i s nd' h h'
  | own _=>unfold bA;exact fk env js es k i s nd' h h'
  | ro _=>unfold bA;exact fk env js es k i s nd' h h'
theorem KpE.EK (k:KpE env env') {i:Nat} {d:PyData} (e:env[i]?=some (.ino d)):∃ d',env'[i]?=some (.ino d'):=by
 obtain ⟨s',h,ev⟩:=k.2 i _ e;obtain ⟨d',rfl⟩:=ev;exact ⟨d',h⟩
theorem Rel.back (R:Rel K F0 H₀ I env σ H) {lock:Option Nat} {js:List Nat} {ec:En} (nd:js.Nodup) (S:Rel K (FF F0 env σ) H (IA (fz env lock js) (L2.bX js σ)) ec (L2.bX js σ) H') (k:KpE (fz env lock js) ec):Rel K F0 H₀ I (bA env js ec) σ H':=by
 have sub:∀ b,IA (fz env lock js) (L2.bX js σ) b->IA env σ b:=fun b ⟨k,m,s⟩=>by
  obtain ⟨j,hj,_,mj⟩:=eT m;exact ⟨j,mj,cq hj s⟩
 have hk:∀ b o,H b=some o->¬IA env σ b->H' b=some o:=fun b o e n=>S.eH b o e fun z=>n (sub b z);have eFc:FF (FF F0 env σ) ec (L2.bX js σ)=FF F0 env σ:=dN (dc.kp k);refine R.chg (bI env js ec) hk fun i d a hm hs=>?_;have sm:=bI env js ec;have mi:mu env i:=sm.kp.mu ((pW hm).elim (fun e=>⟨d,.inl e⟩) fun e=>⟨d,.inr e⟩);have jL:(bA env js ec)[i]?=env[i]?->¬IA (fz env lock js) (L2.bX js σ) a->Top K (FF F0 env σ) H' d a:=fun e n=>by
  have hm':bx env i=some d:=by unfold bx at hm ⊢;rwa [e] at hm
  obtain ⟨_,a',s',_,t⟩:=R.ee hm';rw [hs] at s';cases s';exact t.pr (R.pQ hk) (fun _ z=>z) fun o e=>S.eH a o e n
 by_cases hi:i∈js
 ·obtain ⟨p,hp⟩:=Ir.mp hi;have hlen:ec.length=js.length:=by rw [k.1];unfold fz;rw [Hf]
  have hpl:p < js.length:=(Hi.mp hp).1;have he:ec[p]?=some (ec[p]'(by omega)):=Hn _;obtain ⟨b1,b2⟩:=fk env js ec p i _ nd hp he;by_cases hl:lock=some i
  ·-- locked
   refine jL (b2 fun d' z=>?_) ?_
   ·rw [z] at he;obtain ⟨s,e0,ev⟩:=k.back he;obtain ⟨j,hj,e'⟩:=gp e0;rw [hp] at hj;cases hj;obtain ⟨c,hc | hc⟩:=mi
    ·rw [hc] at e';simp only [Option.getD_some,nU,hl,decide_true,Jt] at e';subst e';cases ev
    ·rw [hc] at e';simp only [Option.getD_some,nU,hl,decide_true,Jt] at e';subst e';cases ev
   ·rintro ⟨q,mq,sq⟩;obtain ⟨j',hj',hn,mj'⟩:=eT mq;have:=R.sep j' i a mj' mi (cq hj' sq) hs;subst this;exact hn hl
  ·have:∃ c,(fz env lock js)[p]?=some (.ino c):=by
    unfold fz;rw [Hl,hp];obtain ⟨c,hc | hc⟩:=mi
    ·exact ⟨c,by rw [Option.map_some,hc];simp [nU,hl]⟩
    ·exact ⟨c,by rw [Option.map_some,hc];simp [nU,hl]⟩
   obtain ⟨c,hc⟩:=this;obtain ⟨d',hd'⟩:=k.EK hc;rw [he] at hd';have ed:=b1 d' (HQ hd') mi;rw [hm] at ed;cases ed;obtain ⟨a',s',_,_,t⟩:=S.ino p d (by rw [he];exact hd');have:=cq hp s';rw [hs] at this;cases this
   rwa [eFc] at t
 ·refine jL (bG env js ec i hi) ?_;rintro ⟨q,mq,sq⟩;obtain ⟨j',hj',hn,mj'⟩:=eT mq;have:=R.sep j' i a mj' mi (cq hj' sq) hs;subst this;exact hi (HF hj')
end
open PySem
section
variable {K:Fg} {F F' I I' F0:Addr->Prop} {H H' H₀ H1:Hp} {env env' e1:En} {σ σ':St} {ga:Nat->V} {gd:List PyData}
def EB (K:Fg) (F:Addr->Prop) (H:Hp) (acc:List V):Option PyData->List V->Prop
 | none,acc'=>acc'=acc
 | some d,acc'=>∃ v,acc'=acc++[v]/\Dm K F H d v
theorem rD {step:PyData->En->Option (Option PyData×En)} {ds ys:List PyData} {ec:En} {lock:Option Nat} {js:List Nat} {J:It} {Q:VK} {τ:Type} {TI:τ->Prop} {t0:τ} {body:τ->List V->V->Hp->(τ->List V->Hp->Prop)->Prop} (ht0:TI t0)
  (R1:Rel K F0 H₀ I e1 σ H1) (nd:js.Nodup) (hit:uJ K (FF F0 e1 σ) (fun b=>IA e1 σ b/\∀ i,lock=some i->mu e1 i->σ[i]?≠some (some (.ref b))) H1 J ds) (h2:uI step ds (fz e1 lock js)=some (ys,ec))
  (turn:∀ t acc d envc y envc' x H',TI t->step d envc=some (y,envc')->Rel K (FF F0 e1 σ) H1 (IA (fz e1 lock js) (bX js σ)) envc (bX js σ) H'->noOwn envc->Dm K (FF F0 e1 σ) H' d x->∀ N:τ->List V->Hp->Prop,
   (∀ t' acc' H2,TI t'->Rel K (FF F0 e1 σ) H1 (IA (fz e1 lock js) (bX js σ)) envc' (bX js σ) H2->KpE envc envc'->Pr (FF F0 e1 σ) H' H2->EB K (FF F0 e1 σ) H2 acc y acc'->N t' acc' H2)->body t acc x H' N)
  (fin:∀ acc H',Rel K F0 H₀ I (bA e1 js ec) σ H'->DmL K (FF F0 e1 σ) H' ys acc->acc.length<=sizeLine->∀ p,H' p=none->Q (.ref p) (upd H' p (.lst acc))) :
  ∃ W:Nat->Nat->τ->List V->Hp->Prop,(∃ m,W 0 m t0 [] H1)/\∀ i m t acc H,W i m t acc H ->
   (J.stop i H/\acc.length<=sizeLine/\∀ p,H p=none->Q (.ref p) (upd H p (.lst acc)))\/(J.go i H/\acc.length < sizeLine/\∀ x H',J.yld i H x H'->body t acc x H' fun t' acc' H2=>∃ m',m' < m/\W (i+1) m' t' acc' H2):=by
 obtain ⟨hvl,hturn⟩:=hit;have sub:∀ b,IA (fz e1 lock js) (bX js σ) b->IA e1 σ b/\∀ i,lock=some i->mu e1 i->σ[i]?≠some (some (.ref b)):=fun b ⟨k,m,s⟩=>by
  obtain ⟨j,hj,hn,mj⟩:=eT m;refine ⟨⟨j,mj,cq hj s⟩,fun i hl mi si=>?_⟩;have:=R1.sep j i b mj mi (cq hj s) si;subst this;exact hn hl
 have Rc0:=R1.bX (lock:=lock) nd
 refine ⟨fun i m t acc H'=>TI t/\m=ds.length - i/\i<=ds.length/\acc.length<=i/\∃ envc done rest,uI step (ds.drop i) envc=some (rest,ec)/\ys=done++rest/\Rel K (FF F0 e1 σ) H1 (IA (fz e1 lock js) (bX js σ)) envc (bX js σ) H'/\KpE (fz e1 lock js) envc/\DmL K (FF F0 e1 σ) H' done acc,
  ⟨ds.length,ht0,rfl,Iw _,Hu _,fz e1 lock js,[],ys,h2,rfl,Rc0,KpE.refl _,rfl⟩,?_⟩
 rintro i m t acc H' ⟨hti,rfl,hi,hal,envc,done,rest,hc,hy,Rc,kc,hacc⟩;have hkept:∀ b o,H1 b=some o->¬(IA e1 σ b/\∀ i,lock=some i->mu e1 i->σ[i]?≠some (some (.ref b)))->H' b=some o:=fun b o e n=>Rc.eH b o e fun z=>n (sub b z);by_cases hlt:i < ds.length
 ·right;obtain ⟨go,yld⟩:=(hturn H' hkept i).1 (by omega);refine ⟨go,by omega,fun x H'' hx=>?_⟩;obtain ⟨d,hd,hy9⟩:=yld x H'' hx;obtain ⟨sm,hdx'⟩:=hy9.dm (F2:=FF F0 e1 σ) fun d v h=>h.pr (R1.pQ fun b o e n=>hkept b o e fun z=>n z.1) fun _ z=>z;have Rc:=Rc.same sm;have hacc:=hacc.pr (fun b o e _=>sm b o e) fun _ z=>z;have ed:ds.drop i=d :: ds.drop (i+1):=by
   rw [Jr hlt];obtain ⟨_,q⟩:=Hi.mp hd;rw [q]
  rw [ed] at hc;unfold uI at hc;split at hc
  ·rename_i y envc' hs;split at hc
   ·rename_i ys' e2 hr;cases hc;refine turn t acc d envc y envc' x H'' hti hs Rc (dc.kp kc) hdx' _ fun t' acc' H2 ht' R2 k2 p2 ha=>⟨_,by omega,ht',rfl,by omega,?_,envc',done++y.toList,ys',hr,by rw [hy,List.append_assoc],R2,kc.trans k2,?_⟩
    ·cases y with
     | none=>rw [show acc'=acc from ha];omega
     | some dy=>obtain ⟨v,rfl,_⟩:=ha;rw [Ho];simp;omega
    ·have hacc':=hacc.pr p2 fun _ z=>z;cases y with
     | none=>rw [show acc'=acc from ha];simpa using hacc'
     | some dy=>obtain ⟨v,rfl,hv⟩:=ha;exact hacc'.snoc hv
   ·cases hc
  ·cases hc
 ·left;have e:i=ds.length:=by omega
  subst e;have hz:acc.length<=sizeLine:=by omega
  rw [List.drop_length] at hc;unfold uI at hc;cases hc;rw [Ie] at hy;subst hy;exact ⟨(hturn H' hkept _).2 (by omega),hz,fin acc H' (R1.back nd Rc kc) hacc hz⟩
theorem FG {js:List Nat} {it:XI} {c:XT} {e:XE} (ii:SI K ga gd it) (ic:ST K ga gd c) (ie:SE K ga gd e):SE K ga gd (.cmp js it c e):=by
 intro env rv env' h F0 H₀ I σ H Q R q;simp only [dE] at h;split at h
 ·rename_i ds lock e1 h1;split at h
  ·rename_i nd;split at h
   ·rename_i ys ec h2;cases h;refine ii _ _ _ _ h1 F0 H₀ I σ H _ R fun J H1 R1 k1 _ hit=>?_;refine Exists.elim (rD (Q:=Q) (τ:=Unit) (TI:=fun _=>True) (t0:=()) (body:=fun _ acc x H' N=>rT K ga c (some x :: bX js σ) H' fun b H2=>if b=true then rE K ga e (some x :: bX js σ) H2 fun y H3=>N () (acc++[y]) H3 else N () acc H2) trivial R1 nd hit h2 ?_ ?_) fun W hw=>?_
    rotate_right 1
    ·obtain ⟨w0,hW⟩:=hw;exact ⟨fun i m acc H=>W i m () acc H,w0,fun i m acc H w=>hW i m () acc H w⟩
    ·intro _ acc d envc y envc' x H' _ hs Rc no hd N hN;have eF:FF (FF F0 e1 σ) envc (bX js σ)=FF F0 e1 σ:=dN no;have Rx:Rel K (FF F0 e1 σ) H1 (IA (fz e1 lock js) (bX js σ)) (.dat d :: envc) (some x :: bX js σ) H':=Rc.front (ds:=[d]) (vs:=[x]) ⟨x,[],rfl,by rw [eF];exact hd,rfl⟩;have frontF:∀ {e2:En},KpE envc e2->FF (FF F0 e1 σ) (.dat d :: e2) (some x :: bX js σ)=FF F0 e1 σ:=fun {e2} k=>by
      have:=iA (F0:=FF F0 e1 σ) (env:=e2) (σ:=bX js σ) (pre:=[.dat d]) (ps:=[some x]) (fun s hs=>by rw [Hm.mp hs];trivial) rfl;exact this.trans (dN (no.kp k))
     unfold jh at hs;split at hs
     ·rename_i e2 hT;split at hs
      ·rename_i rv e3 hE;split at hs
       ·rename_i dy hv;cases hs;refine ic _ _ _ hT _ _ _ _ H' _ Rx.rebase fun H2 S2 k2=>?_;rw [Hy rfl];have R2:=Rx.bZ S2;refine ie _ _ _ hE _ _ _ _ H2 _ R2.rebase fun v H3 S3 k3 r3=>?_;have R3:=R2.bZ S3;obtain ⟨ex,e3',kx⟩:=(k2.trans k3).front (ds:=[d]);have k23:=k2.trans k3;subst e3';have ht:(([d].map Sl.dat)++ex).tail=ex:=rfl;obtain ⟨e2x,e2',k2x⟩:=k2.front (ds:=[d]);have p12:Pr (FF F0 e1 σ) H' H2:=by have:=Rx.pQ S2.eH;rwa [frontF (KpE.refl _)] at this
        have p23:Pr (FF F0 e1 σ) H2 H3:=by
         have:=R2.pQ S3.eH;rw [e2'] at this
         rwa [show FF (FF F0 e1 σ) ([d].map Sl.dat++e2x) (some x :: bX js σ)=FF F0 e1 σ from frontF k2x] at this
        have a3:=r3.av;rw [hv] at a3;have dv:Dm K (FF F0 e1 σ) H3 dy v:=by
         have:Dm K (FF (FF F0 e1 σ) ([d].map Sl.dat++ex) (some x :: bX js σ)) H3 dy v:=a3
         rwa [show FF (FF F0 e1 σ) ([d].map Sl.dat++ex) (some x :: bX js σ)=FF F0 e1 σ from frontF kx] at this
        exact hN () _ H3 trivial (R3.behind (pre:=[.dat d]) (ps:=[some x]) (fun s hs=>by rw [Hm.mp hs];trivial) rfl) kx (p12.trans p23 fun _ z=>z) ⟨v,rfl,dv⟩
       ·cases hs
      ·cases hs
     ·rename_i e2 hT;cases hs;refine ic _ _ _ hT _ _ _ _ H' _ Rx.rebase fun H2 S2 k2=>?_;rw [HC (by decide)];have R2:=Rx.bZ S2;obtain ⟨ex,e2',kx⟩:=k2.front (ds:=[d]);subst e2';have p12:Pr (FF F0 e1 σ) H' H2:=by have:=Rx.pQ S2.eH;rwa [frontF (KpE.refl _)] at this
      exact hN () _ H2 trivial (R2.behind (pre:=[.dat d]) (ps:=[some x]) (fun s hs=>by rw [Hm.mp hs];trivial) rfl) kx p12 rfl
     ·cases hs
    ·intro acc H' R' hd hz p hp;have eF:=(bI e1 js ec).ff (F0:=F0) (σ:=σ);have s:=bq.nw (.lst acc) hp;exact q _ _ (R'.same s) (k1.trans (bI e1 js ec).kp) (R'.lS (pr:=.frs (.list ys)) s ⟨p,rfl,hp,acc,ay,hz,by rw [eF];exact (hd.fresh hp).pr (Pr.of_same s) fun _ z=>z⟩)
   ·cases h
  ·cases h
 ·cases h
noncomputable def Ay:St->Nat->List V->St
 | σ,_,[]=>σ
 | σ,k,v :: vs=>Ay (σ.set k (some v)) (k+1) vs
theorem mY:∀ {vs:List V} {k:Nat} {σ:St} {H:Hp} {Q:St->Hp->Prop},Q (Ay σ k vs) H->gNs (List.range' k vs.length) vs σ H Q
 | [],_,_,_,_,h=>⟨rfl,h⟩
 | v :: vs,k,σ,H,Q,h=>⟨v,vs,rfl,mY (vs:=vs) (k:=k+1) h⟩
theorem oX:∀ {vs:List V} {pre hd tl:St},hd.length=vs.length->Ay (pre++(hd++tl)) pre.length vs=pre++(vs.map some++tl)
 | [],pre,hd,tl,h=>by
  have:hd=[]:=List.eq_nil_of_length_eq_zero h;subst this;rfl
 | v :: vs,pre,[],tl,h=>by cases h
 | v :: vs,pre,x :: hd,tl,h=>by
  have hl:hd.length=vs.length:=by simpa using h
  have e:(pre++(x :: hd++tl)).set pre.length (some v)=(pre++[some v])++(hd++tl):=by
   rw [List.set_append_right _ _ (Hu _)];simp
  unfold Ay;rw [e];have:=oX (vs:=vs) (pre:=pre++[some v]) (hd:=hd) (tl:=tl) hl;rw [Ho] at this;rw [show pre.length+1=pre.length+[some v].length from rfl,this];simp
theorem qS (n:List Str):(gG n).length=n.length:=by unfold gG;rw [Hf]
theorem Al {n:List Str} {js:List Nat} {it:XI} {e:XE} (ii:SI K ga gd it) (ie:SE K ga gd e):SE K ga gd (.zL n js it e):=by
 intro env rv env' h F0 H₀ I σ H Q R q;simp only [dE] at h;split at h
 ·rename_i ds lock e1 h1;split at h
  ·rename_i nd;split at h
   ·rename_i ys ec h2;cases h;refine ii _ _ _ _ h1 F0 H₀ I σ H _ R fun J H1 R1 k1 _ hit=>?_;refine Exists.elim (rD (Q:=Q) (τ:=St) (TI:=fun t=>∃ hd:St,hd.length=n.length/\t=hd++bX js σ) (t0:=gG n++bX js σ) (body:=fun t acc x H' N=>gTp K (List.range n.length) x t H' fun σ2 H2=>rE K ga e σ2 H2 fun y H3=>N σ2 (acc++[y]) H3) ⟨gG n,qS n,rfl⟩ R1 nd hit h2 ?_ ?_) fun W hw=>?_
    rotate_right 1
    ·obtain ⟨w0,hW⟩:=hw;exact ⟨W,w0,hW⟩
    ·rintro t acc d envc y envc' x H' ⟨hd,hl,rfl⟩ hs Rc no hdx N hN;have eF:FF (FF F0 e1 σ) envc (bX js σ)=FF F0 e1 σ:=dN no;unfold fV at hs;split at hs
     ·rename_i xs;split at hs
      ·rename_i hxl;split at hs
       ·rename_i rv e3 hE;split at hs
        ·rename_i dy hv;cases hs;obtain ⟨a,vs,rfl,hq,hz,hdl⟩:=hdx;have hvl:vs.length=n.length:=by rw [hdl.len,hxl]
         refine ⟨a,vs,rfl,hq,by rw [Iy];exact hvl,?_⟩;rw [List.range_eq_range',<-hvl];refine mY ?_;have es:Ay (hd++bX js σ) 0 vs=vs.map some++bX js σ:=oX (pre:=[]) (by rw [hl,hvl]);rw [es];have Rx:Rel K (FF F0 e1 σ) H1 (IA (fz e1 lock js) (bX js σ)) (xs.map .dat++envc) (vs.map some++bX js σ) H':=Rc.front (by rw [eF];exact hdl);have hpre:∀ s∈(xs.map Sl.dat),qG s:=fun s hs=>by obtain ⟨d,_,rfl⟩:=HM.mp hs;trivial
         have hpl:(xs.map Sl.dat).length=(vs.map some).length:=by rw [Hf,Hf,hdl.len]
         have frontF:∀ {e2:En},KpE envc e2->FF (FF F0 e1 σ) (xs.map .dat++e2) (vs.map some++bX js σ)=FF F0 e1 σ:=fun {e2} k=>(iA hpre hpl).trans (dN (no.kp k));refine ie _ _ _ hE _ _ _ _ H' _ Rx.rebase fun v H3 S3 k3 r3=>?_;have R3:=Rx.bZ S3;obtain ⟨ex,e3',kx⟩:=k3.front;subst e3';have p:Pr (FF F0 e1 σ) H' H3:=by have:=Rx.pQ S3.eH;rwa [frontF (KpE.refl _)] at this
         have a3:=r3.av;rw [hv] at a3;have dv:Dm K (FF F0 e1 σ) H3 dy v:=by
          have:Dm K (FF (FF F0 e1 σ) (xs.map .dat++ex) (vs.map some++bX js σ)) H3 dy v:=a3
          rwa [frontF kx] at this
         have ed:(xs.map Sl.dat++ex).drop n.length=ex:=by rw [<- hxl,<-Hf (f:=Sl.dat),List.drop_left]
         rw [ed] at hN;exact hN _ _ H3 ⟨vs.map some,by rw [Hf];exact hvl,rfl⟩ (R3.behind hpre hpl) kx p ⟨v,rfl,dv⟩
        ·cases hs
       ·cases hs
      ·cases hs
     ·cases hs
    ·intro acc H' R' hd hz p hp;have eF:=(bI e1 js ec).ff (F0:=F0) (σ:=σ);have s:=bq.nw (.lst acc) hp;exact q _ _ (R'.same s) (k1.trans (bI e1 js ec).kp) (R'.lS (pr:=.frs (.list ys)) s ⟨p,rfl,hp,acc,ay,hz,by rw [eF];exact (hd.fresh hp).pr (Pr.of_same s) fun _ z=>z⟩)
   ·cases h
  ·cases h
 ·cases h
mutual
theorem sE (hg:∀ g d,gd[g]?=some d->∀ F H,Dm K F H d (ga g)):∀ e:XE,SE K ga gd e
 | .var i=>Ff i | .mov i=>DK i | .tke i=>Dd i | .cst c=>Dl c | .glb g=>DA hg g
 | .prm p as=>Ej (sA hg as) | .met m o as=>Fv (sE hg o) (sA hg as) | .mtr m i as=>Fw (sA hg as) | .call f as=>s_call (sA hg as)
 | .tup as=>EN (sA hg as) | .lst as=>Er (sA hg as) | .dsp as=>EU (sPs hg as) | .fst as=>Dt (sF hg as)
 | .ifx c a b=>Dy (sT hg c) (sE hg a) (sE hg b) | .Cf a b=>Ae (sE hg a) (sE hg b) | .orv a b=>EX (sE hg a) (sE hg b) | .Cs a=>Ct (sE hg a)
 | .chn p q a b c=>Fj (sE hg a) (sE hg b) (sE hg c) | .sl2 p a b c=>E9 (sE hg a) (sE hg b) (sE hg c)
 | .cmp js it c e=>FG (sI hg it) (sT hg c) (sE hg e) | .zL n js it e=>Al (sI hg it) (sE hg e)
theorem sA (hg:∀ g d,gd[g]?=some d->∀ F H,Dm K F H d (ga g)):∀ e:XA,SA K ga gd e
 | .nil=>FL | .cons e r=>Bn (sE hg e) (sA hg r)
theorem sF (hg:∀ g d,gd[g]?=some d->∀ F H,Dm K F H d (ga g)):∀ e:XA,SF K ga gd e
 | .nil=>EI | .cons e r=>CH (sE hg e) (sF hg r)
theorem sPs (hg:∀ g d,gd[g]?=some d->∀ F H,Dm K F H d (ga g)):∀ e:XP,SPs K ga gd e
 | .nil=>FI | .cons k e r=>Cy (sE hg k) (sE hg e) (sPs hg r)
theorem sT (hg:∀ g d,gd[g]?=some d->∀ F H,Dm K F H d (ga g)):∀ e:XT,ST K ga gd e
 | .tst e=>Es (sE hg e) | .tru e=>DJ (sE hg e) | .and a b=>DM (sT hg a) (sT hg b) | .or a b=>GL (sT hg a) (sT hg b) | .not a=>E5 (sT hg a) | .yes=>D4
theorem sI (hg:∀ g d,gd[g]?=some d->∀ F H,Dm K F H d (ga g)):∀ e:XI,SI K ga gd e
 | .lst e=>zk (sE hg e) | .tup e=>Bi (sE hg e) | .str e=>Ey (sE hg e) | .rng1 as=>zY (sA hg as) | .rng2 as=>AO (sA hg as) | .dct e=>DB (sE hg e) | .sq e=>G0 (sE hg e) | .itm e=>D3 (sE hg e) | .zip as=>FA (sA hg as)
end
end
open PySem
section
variable {K:Fg} {F F' I I' F0:Addr->Prop} {H H' H₀ H1:Hp} {env env' e1:En} {σ σ':St} {ga:Nat->V} {gd:List PyData}
theorem LsF.bO {a:Addr} {xs:List V} (h:LsF K F H a xs):LsF K (fun b=>F b\/H b=none) H a xs:=by
 rcases h with ⟨n,h⟩ | h
 ·refine .inl ⟨fun z=>z.elim n fun e=>?_,h⟩;rcases h with h | ⟨o,h⟩ <;> (rw [e] at h;cases h)
 ·exact .inr h
mutual
theorem Dm.bO:∀ {d:PyData} {v:V},Dm K F H d v->Dm K (fun b=>F b\/H b=none) H d v
 | .none,v,h=>h
 | .bool b,v,h=>h
 | .int i,v,h=>h
 | .str x,v,h=>h
 | .list ds,v,h=>by
  obtain ⟨a,xs,e,l,z,r⟩:=h;exact ⟨a,xs,e,l.bO,z,DmL.bO r⟩
 | .tuple ds,v,h=>by
  obtain ⟨a,xs,e,l,z,r⟩:=h;exact ⟨a,xs,e,l,z,DmL.bO r⟩
 | .dict kvs,v,h=>by
  obtain ⟨a,ep,xs,e,n,l,z,r⟩:=h;exact ⟨a,ep,xs,e,fun q=>q.elim n fun q=>(by rw [q] at l;cases l),l,z,DmP.bO r⟩
theorem DmL.bO:∀ {ds:List PyData} {vs:List V},DmL K F H ds vs->DmL K (fun b=>F b\/H b=none) H ds vs
 | [],vs,h=>h
 | d :: ds,vs,h=>by
  obtain ⟨v,r,e,h1,h2⟩:=h;exact ⟨v,r,e,Dm.bO h1,DmL.bO h2⟩
theorem DmP.bO:∀ {ds:List (PyData×PyData)} {vs:List (PyData×V×V)},DmP K F H ds vs->DmP K (fun b=>F b\/H b=none) H ds vs
 | [],vs,h=>h
 | (k,d) :: ds,vs,h=>by
  obtain ⟨j,v,r,e,e2,h0,h1,h2⟩:=h;exact ⟨j,v,r,e,e2,Dm.bO h0,Dm.bO h1,DmP.bO h2⟩
end
theorem Top.bO {d:PyData} {a:Addr} (h:Top K F H d a):Top K (fun b=>F b\/H b=none) H d a:=by
 cases d with
 | list ds=>obtain ⟨xs,e,z,r⟩:=h;exact ⟨xs,e,z,r.bO⟩
 | dict ds=>obtain ⟨ep,xs,e,z,r⟩:=h;exact ⟨ep,xs,e,z,r.bO⟩
 | _=>exact absurd h id
theorem fT.bO {d:PyData} {a:Addr} (h:fT K F I H d a):fT K (fun b=>F b\/H b=none) (fun b=>I b\/H b=none) H d a:=by
 cases d with
 | list ds=>obtain ⟨xs,e,z,r⟩:=h;exact ⟨xs,e.bO,z,r.bO⟩
 | dict ds =>
  obtain ⟨ep,xs,n,e,z,r⟩:=h;exact ⟨ep,xs,fun q=>q.elim n fun q=>(by rw [q] at e;cases e),e,z,r.bO⟩
 | _=>exact absurd h id
theorem Pr.F4 (p:Pr F H H') (h:∀ b,F b->F' b):Pr F' H H':=fun b o e n=>p b o e (n.imp (fun z q=>z (h _ q)) id)
def Evs:Sl->Sl->Prop
 | .ino _,s=>∃ d,s=.ino d
 | .ro d,s=>s=.ro d
 | _,s=>(∀ d,s≠.ino d)/\∀ d,s≠.ro d
def Bk:Sl->Prop | .ino _=>True | .ro _=>True | _=>False
def KpS (env:En) (σ:St) (env':En) (σ':St):Prop:=env'.length=env.length/\∀ (i:Nat) (s:Sl),env[i]?=some s->∃ s',env'[i]?=some s'/\Evs s s'/\(Bk s->σ'[i]?=σ[i]?)
theorem Evs.refl:∀ s,Evs s s
 | .un=>⟨fun _=>nofun,fun _=>nofun⟩
 | .dat _=>⟨fun _=>nofun,fun _=>nofun⟩
 | .own d=>⟨fun _=>nofun,fun _=>nofun⟩
 | .ino d=>⟨d,rfl⟩
 | .ro _=>rfl
def soft (s:Sl):Prop:=(∀ d,s≠.ino d)/\∀ d,s≠.ro d
theorem Evs.soft {s s':Sl} (h:Evs s s') (q:L2.soft s):L2.soft s':=by
 cases s with
 | ino d=>exact absurd rfl (q.1 d)
 | ro d=>exact absurd rfl (q.2 d)
 | _=>exact h
theorem Evs.of {s s':Sl} (q:L2.soft s) (q':L2.soft s'):Evs s s':=by
 cases s with
 | ino d=>exact absurd rfl (q.1 d)
 | ro d=>exact absurd rfl (q.2 d)
 | _=>exact q'
theorem Evs.trans {a b c:Sl} (h:Evs a b) (q:Evs b c):Evs a c:=by
 cases a with
 | ino d=>obtain ⟨d',rfl⟩:=h;exact q
 | ro d=>rw [show b=.ro d from h] at q;exact q
 | un=>exact Evs.of ⟨fun _=>nofun,fun _=>nofun⟩ (q.soft h)
 | dat _=>exact Evs.of ⟨fun _=>nofun,fun _=>nofun⟩ (q.soft h)
 | own _=>exact Evs.of ⟨fun _=>nofun,fun _=>nofun⟩ (q.soft h)
theorem Evs.Bk {a b:Sl} (h:Evs a b) (q:L2.Bk a):L2.Bk b:=by
 cases a with
 | ino d=>obtain ⟨d',rfl⟩:=h;trivial
 | ro d=>rw [show b=.ro d from h];trivial
 | _=>exact absurd q id
theorem KpS.refl (env:En) (σ:St):KpS env σ env σ:=⟨rfl,fun i s e=>⟨s,e,.refl s,fun _=>rfl⟩⟩
theorem KpS.trans {a b c:En} {x y z:St} (h:KpS a x b y) (q:KpS b y c z):KpS a x c z:=⟨q.1.trans h.1,fun i s e=>by
 obtain ⟨s1,e1,v1,w1⟩:=h.2 i s e;obtain ⟨s2,e2,v2,w2⟩:=q.2 i s1 e1
 exact ⟨s2,e2,v1.trans v2,fun t=>(w2 (v1.Bk t)).trans (w1 t)⟩⟩
theorem KpE.s (k:KpE env env'):KpS env σ env' σ:=⟨k.1,fun i s e=>by
 obtain ⟨s',e',v⟩:=k.2 i s e;refine ⟨s',e',?_,fun _=>rfl⟩;cases s with
 | un=>rw [show s'=.un from v];exact .refl _
 | dat d=>rw [show s'=.dat d from v];exact .refl _
 | own d=>rcases v with ⟨d',rfl⟩ | ⟨d',rfl⟩ | rfl <;> exact ⟨fun _=>nofun,fun _=>nofun⟩
 | ino d=>exact v
 | ro d=>exact v⟩
theorem jA {i:Nat} (h:free env i=true):∃ s,env[i]?=some s/\L2.soft s:=by
 unfold free at h;split at h
 ·rename_i e;exact ⟨_,e,fun _=>nofun,fun _=>nofun⟩
 ·rename_i e;exact ⟨_,e,fun _=>nofun,fun _=>nofun⟩
 ·rename_i e;exact ⟨_,e,fun _=>nofun,fun _=>nofun⟩
 ·cases h
theorem rB {i:Nat} {s s':Sl} {x:Option V} (e:env[i]?=some s) (q:L2.soft s) (q':L2.soft s'):KpS env σ (env.set i s') (σ.set i x):=by
 have hi:i < env.length:=(Hi.mp e).1;refine ⟨HI,fun j t h=>?_⟩;by_cases z:i=j
 ·subst z;rw [e] at h;cases h;refine ⟨s',Hq hi,.of q q',fun t=>?_⟩;cases s with
  | ino d=>exact absurd rfl (q.1 d)
  | ro d=>exact absurd rfl (q.2 d)
  | _=>exact absurd t id
 ·exact ⟨t,by rw [Hh z];exact h,.refl t,fun _=>by rw [Hh z]⟩
def ml (K:Fg) (F0:Addr->Prop) (H₀:Hp) (I:Addr->Prop) (env:En) (σ:St) (D:Ends):Out->Prop
 | .nx e=>∀ σ' H',Rel K F0 H₀ I e σ' H'->KpS env σ e σ'->D.nx σ' H'
 | .bk e=>∀ σ' H',Rel K F0 H₀ I e σ' H'->KpS env σ e σ'->D.bk σ' H'
 | .ct e=>∀ σ' H',Rel K F0 H₀ I e σ' H'->KpS env σ e σ'->D.ct σ' H'
 | .rt rv e=>∀ v σ' H',Rel K F0 H₀ I e σ' H'->KpS env σ e σ'->fx K F0 H₀ I e σ' H' rv v->D.rt v H'
def SS (K:Fg) (ga:Nat->V) (gd:List PyData) (s:XS):Prop:=∀ (env:En) (out:Out),dS gd s env=some out->∀ (F0:Addr->Prop) (H₀:Hp) (I:Addr->Prop) (σ:St) (H:Hp) (D:Ends),Rel K F0 H₀ I env σ H->ml K F0 H₀ I env σ D out->rS K ga s D σ H
theorem ml.from {D:Ends} {out:Out} (k:KpS env σ env' σ') (h:ml K F0 H₀ I env σ D out):ml K F0 H₀ I env' σ' D out:=by
 cases out with
 | nx e=>exact fun s h1 r q=>h s h1 r (k.trans q)
 | bk e=>exact fun s h1 r q=>h s h1 r (k.trans q)
 | ct e=>exact fun s h1 r q=>h s h1 r (k.trans q)
 | rt rv e=>exact fun v s h1 r q w=>h v s h1 r (k.trans q) w
theorem AU {a b:XS} (ia:SS K ga gd a) (ib:SS K ga gd b):SS K ga gd (.seq a b):=by
 intro env out h F0 H₀ I σ H D R q;simp only [dS] at h;split at h
 ·rename_i e h1;refine ia _ _ h1 F0 H₀ I σ H _ R fun σ' H' R' k'=>?_;exact ib _ _ h F0 H₀ I σ' H' D R' (q.from k')
 ·rename_i hn;refine ia _ _ h F0 H₀ I σ H _ R ?_;cases out with
  | nx e=>exact absurd h (hn e)
  | bk e=>exact q
  | ct e=>exact q
  | rt rv e=>exact q
theorem Rel.Dk (R:Rel K F0 H₀ I env σ H) {i:Nat} {d:PyData} {v:V} (hf:free env i=true) (h:Dm K (FF F0 env σ) H d v):Rel K F0 H₀ I (env.set i (.dat d)) (σ.set i (some v)) H/\KpS env σ (env.set i (.dat d)) (σ.set i (some v)):=by
 obtain ⟨s,e,q⟩:=jA hf;have hi:i < env.length:=(Hi.mp e).1;have R1:=R.forget i (some v);have:=R1.putD (i:=i) (d:=d) (v:=v) (Hq hi) (h.mono (R.sub i _).1);rw [Im,Im] at this;exact ⟨this,rB e q ⟨fun _=>nofun,fun _=>nofun⟩⟩
theorem zj {i:Nat} {e:XE} (ie:SE K ga gd e):SS K ga gd (.cp i e):=by
 intro env out h F0 H₀ I σ H D R q;simp only [dS] at h;split at h
 ·rename_i rv e1 h1;split at h
  ·rename_i d hv;split at h
   ·rename_i hf;cases h;refine ie _ _ _ h1 F0 H₀ I σ H _ R fun v H1 R1 k1 r1=>?_;have a1:=r1.av;rw [hv] at a1;obtain ⟨R2,k2⟩:=R1.Dk hf (show Dm K _ H1 d v from a1);exact q _ H1 R2 (k1.s.trans k2)
   ·cases h
  ·cases h
 ·cases h
theorem fx.forget {d:PyData} {v:V} (h:fx K F0 H₀ I env σ H (.frs d) v) (i:Nat) (x:Option V) (hs:∀ s,env[i]?=some s->L2.soft s):fx K F0 H₀ I (env.set i .un) (σ.set i x) H (.frs d) v:=by
 obtain ⟨a,ea,R,t,w,nF,hi,hr⟩:=h;have R0:=R.less hi;obtain ⟨hf,hia⟩:=R0.sub i x;have hf':∀ b,(FF F0 (env.set i .un) (σ.set i x) b\/b=a)->(FF F0 env σ b\/b=a):=fun b z=>z.imp (hf b) id;refine ⟨a,ea,R.forget i x,t.pr Pr.refl hf' fun _ z=>z,w,fun z=>nF (hf _ z),fun j c e s=>?_,fun j c e=>?_⟩
 ·rcases get_set e with ⟨_,z⟩ | ⟨n,e⟩
  ·cases z
  ·rw [Hh n] at s;exact hi j c e s
 ·rcases get_set e with ⟨_,z⟩ | ⟨n,e⟩
  ·cases z
  ·obtain ⟨b,s,r⟩:=hr j c e;exact ⟨b,by rw [Hh n];exact s,r.pr Pr.refl hf' (fun b z=>z.imp (hia b) id) fun _ _ z _=>z⟩
theorem yQ {i:Nat} {e:XE} (ie:SE K ga gd e):SS K ga gd (.nq i e):=by
 intro env out h F0 H₀ I σ H D R q;simp only [dS] at h;split at h
 ·rename_i d e1 h1;split at h
  ·rename_i hf;cases h;refine ie _ _ _ h1 F0 H₀ I σ H _ R fun v H1 R1 k1 r1=>?_;obtain ⟨s,e,qs⟩:=jA hf;have hi:i < e1.length:=(Hi.mp e).1;have ev:∃ a,v=.ref a:=let ⟨a,e,_⟩:=r1;⟨a,e⟩
   obtain ⟨a,rfl⟩:=ev;have r2:=r1.forget i (some (.ref a)) (fun s' h=>by rw [e] at h;cases h;exact qs);have R2:=Rel.FY (i:=i) (Hq hi) r2;rw [Im,Im] at R2;exact q _ H1 R2 (k1.s.trans (rB e qs ⟨fun _=>nofun,fun _=>nofun⟩))
  ·cases h
 ·cases h
theorem nO:∀ {is:List Nat} {ds:List PyData} {vs:List V} {env env':En} {σ:St} {Q:St->Hp->Prop},fQ env is ds=some env'->Rel K F0 H₀ I env σ H->DmL K (FF F0 env σ) H ds vs->(∀ σ',Rel K F0 H₀ I env' σ' H->KpS env σ env' σ'->Q σ' H)->gNs is vs σ H Q
 | [],[],vs,env,env',σ,Q,h,R,hd,q=>by
  cases h;exact ⟨hd,q σ R (KpS.refl _ _)⟩
 | [],d :: ds,vs,env,env',σ,Q,h,R,hd,q=>by cases h
 | i :: is,[],vs,env,env',σ,Q,h,R,hd,q=>by cases h
 | i :: is,d :: ds,vs,env,env',σ,Q,h,R,hd,q=>by
  unfold fQ at h;split at h
  ·rename_i hf;obtain ⟨v,r,rfl,h1,h2⟩:=hd;obtain ⟨R1,k1⟩:=R.Dk hf h1;obtain ⟨s,e,qs⟩:=jA hf;refine ⟨v,r,rfl,?_⟩;refine nO h R1 (h2.mono fun b z=>?_) fun σ' R' k'=>q σ' R' (k1.trans k');rcases z with z | ⟨j,c,e',s'⟩
   ·exact .inl z
   ·rcases get_set e' with ⟨_,y⟩ | ⟨n,e'⟩
    ·cases y
    ·rw [Hh n] at s';exact .inr ⟨j,c,e',s'⟩
  ·cases h
theorem yb {is:List Nat} {e:XE} (ie:SE K ga gd e):SS K ga gd (.Cm is e):=by
 intro env out h F0 H₀ I σ H D R q;simp only [dS] at h;split at h
 ·rename_i rv e1 h1;split at h
  ·rename_i ds hv;split at h
   ·rename_i e2 hset;cases h;refine ie _ _ _ h1 F0 H₀ I σ H _ R fun v H1 R1 k1 r1=>?_;have a1:=r1.av;rw [hv] at a1;obtain ⟨a,xs,rfl,l,z,r⟩:=(show Dm K (FF F0 e1 σ) H1 (.tuple ds) v from a1);have hlen:∀ {is:List Nat} {ds:List PyData} {e e':En},fQ e is ds=some e'->is.length=ds.length:=by
     intro is;induction is with
     | nil=>intro ds e e' h;cases ds with
      | nil=>rfl
      | cons _ _=>cases h
     | cons i is ih=>intro ds e e' h;cases ds with
      | nil=>cases h
      | cons d ds =>
       unfold fQ at h;split at h
       ·rw [HD,HD,ih h]
       ·cases h
    exact ⟨a,xs,rfl,l,by rw [r.len,hlen hset],nO hset R1 r fun σ' R' k'=>q σ' H1 R' (k1.s.trans k')⟩
   ·cases h
  ·cases h
 ·cases h
theorem zo {e:XE} (ie:SE K ga gd e):SS K ga gd (.drop e):=by
 intro env out h F0 H₀ I σ H D R q;simp only [dS] at h;split at h
 ·rename_i rv e1 h1;cases h;exact ie _ _ _ h1 F0 H₀ I σ H _ R fun v H1 R1 k1 r1=>q σ H1 R1 k1.s
 ·cases h
theorem Au {e:XE} (ie:SE K ga gd e):SS K ga gd (.ret e):=by
 intro env out h F0 H₀ I σ H D R q;simp only [dS] at h;split at h
 ·rename_i rv e1 h1;cases h;exact ie _ _ _ h1 F0 H₀ I σ H _ R fun v H1 R1 k1 r1=>q v σ H1 R1 k1.s r1
 ·cases h
theorem Bw {c:XT} {a b:XS} (ic:ST K ga gd c) (ia:SS K ga gd a) (ib:SS K ga gd b):SS K ga gd (.ifs c a b):=by
 intro env out h F0 H₀ I σ H D R q;simp only [dS] at h;split at h
 ·rename_i e1 h1;refine ic _ _ _ h1 F0 H₀ I σ H _ R fun H1 R1 k1=>?_;rw [Hy rfl];exact ia _ _ h F0 H₀ I σ H1 D R1 (q.from k1.s)
 ·rename_i e1 h1;refine ic _ _ _ h1 F0 H₀ I σ H _ R fun H1 R1 k1=>?_;rw [HC (by decide)];exact ib _ _ h F0 H₀ I σ H1 D R1 (q.from k1.s)
 ·cases h
theorem A0 {m:vC} {i:Nat} {k e:XE} (ik:SE K ga gd k) (ie:SE K ga gd e):SS K ga gd (.sto m i k e):=by
 intro env out h F0 H₀ I σ H D R q;simp only [dS] at h;split at h
 ·rename_i rv e1 h1;split at h
  ·rename_i x hv;split at h
   ·rename_i d0 hm0;split at h
    ·rename_i rk e2 h2;split at h
     ·rename_i dk d hvk hm;split at h
      ·rename_i d' hf;cases h;refine ie _ _ _ h1 F0 H₀ I σ H _ R fun v H1 R1 k1 r1=>?_;obtain ⟨_,a,s,_⟩:=R1.ee hm0;refine ⟨.ref a,s,?_⟩;refine ik _ _ _ h2 F0 _ _ σ H1 _ R1.rebase fun u H2 S2 k2 r2=>?_;have R2:=R1.bZ S2;have a1:=r1.av;rw [hv] at a1;have dx:=R1.pf S2 k2 (show Dm K _ H1 x v from a1);obtain ⟨m2,a',s',f2,t2⟩:=R2.ee hm;rw [s] at s';cases s';refine m.ok K _ H2 d a dk x u v d' _ hf f2 t2 (r2.av.vw R2 hvk) dx fun H3 hk ht=>?_;exact q σ H3 (R2.FW hm s hk ht) ((k1.trans k2).trans (tO _ _ _)).s
      ·cases h
     ·cases h
    ·cases h
   ·cases h
  ·cases h
 ·cases h
theorem Dw {n:Nat} {c:XT} {b:XS} (ic:ST K ga gd c) (ib:SS K ga gd b):SS K ga gd (.wh n c b):=by
 intro env out h F0 H₀ I σ H D R q;simp only [dS] at h;refine ⟨fun m σ' H'=>∃ env',whL (dT gd c) (dS gd b) m env'=some out/\Rel K F0 H₀ I env' σ' H'/\KpS env σ env' σ',⟨n,env,h,R,KpS.refl _ _⟩,?_⟩;rintro m σ' H' ⟨env',hw,R',k'⟩;cases m with
 | zero=>cases hw
 | succ m =>
  unfold whL at hw;split at hw
  ·rename_i e1 h1;refine ic _ _ _ h1 F0 H₀ I σ' H' _ R' fun H2 R2 k2=>?_;rw [Hy rfl];refine ⟨fun σ3 H3=>∃ env3,whL (dT gd c) (dS gd b) m env3=some out/\Rel K F0 H₀ I env3 σ3 H3/\KpS env σ env3 σ3,fun σ3 H3 z=>⟨m,Jf _,z⟩,?_⟩;split at hw
   ·rename_i e hb;exact ib _ _ hb F0 H₀ I σ' H2 _ R2 fun σ3 H3 R3 k3=>⟨e,hw,R3,(k'.trans k2.s).trans k3⟩
   ·rename_i e hb;exact ib _ _ hb F0 H₀ I σ' H2 _ R2 fun σ3 H3 R3 k3=>⟨e,hw,R3,(k'.trans k2.s).trans k3⟩
   ·rename_i e hb;cases hw;exact ib _ _ hb F0 H₀ I σ' H2 _ R2 fun σ3 H3 R3 k3=>q σ3 H3 R3 ((k'.trans k2.s).trans k3)
   ·rename_i r e hb;cases hw;exact ib _ _ hb F0 H₀ I σ' H2 _ R2 fun v σ3 H3 R3 k3 r3=>q v σ3 H3 R3 ((k'.trans k2.s).trans k3) r3
   ·cases hw
  ·rename_i e1 h1;cases hw;refine ic _ _ _ h1 F0 H₀ I σ' H' _ R' fun H2 R2 k2=>?_;rw [HC (by decide)];exact q σ' H2 R2 (k'.trans k2.s)
  ·cases hw
end
open PySem
section
variable {K:Fg} {F F' I I' F0:Addr->Prop} {H H' H₀ H1:Hp} {env env' e1:En} {σ σ':St} {ga:Nat->V} {gd:List PyData}
theorem Rel.Fm (R:Rel K F0 H₀ I env σ H) (h:∀ b,I b->I' b):Rel K F0 H₀ I' env σ H :=
 ⟨R.len,R.dat,fun i d e=>let ⟨a,s,n,w,t⟩:=R.own i d e;⟨a,s,n,w.imp id (h _),t⟩,fun i d e=>let ⟨a,s,n,w,t⟩:=R.ino i d e;⟨a,s,n,h _ w,t⟩,R.ro,R.sep,R.dom,fun b o e n=>R.eH b o e fun z=>n (h _ z)⟩
theorem Rel.eqF {F1:Addr->Prop} (R:Rel K F0 H₀ I env σ H) (h:∀ b,F0 b↔F1 b):Rel K F1 H₀ I env σ H:=by
 have:F0=F1:=funext fun b=>propext (h b);exact this▸R
theorem Rel.Ef (R:Rel K F0 H₀ I env σ H) {i:Nat} {d:PyData} {a:Addr} (hu:env[i]?=some .un) (s:σ[i]?=some (some (.ref a))) (h:fT K (FF F0 env σ) (IA env σ) H d a):Rel K F0 H₀ I (env.set i (.ro d)) σ H:=by
 have hi:i < env.length:=(Hi.mp hu).1;have eF:FF F0 (env.set i (.ro d)) σ=FF F0 env σ:=by
  have:=j8 (F0:=F0) (σ:=σ) (s:=.ro d) (x:=some (.ref a)) hu (fun _=>nofun)
  rwa [set_same s] at this
 have eI:IA (env.set i (.ro d)) σ=IA env σ:=by
  have:=tj (σ:=σ) (s:=.ro d) (x:=some (.ref a)) hu (fun _=>⟨nofun,nofun⟩)
  rwa [set_same s] at this
 have mm:∀ j,mu (env.set i (.ro d)) j->mu env j:=fun j h=>by
  obtain ⟨c,e | e⟩:=h
  ·rcases get_set e with ⟨_,z⟩ | ⟨n,e⟩
   ·cases z
   ·exact ⟨c,.inl e⟩
  ·rcases get_set e with ⟨_,z⟩ | ⟨n,e⟩
   ·cases z
   ·exact ⟨c,.inr e⟩
 refine ⟨by rw [HI];exact R.len,fun j c e=>?_,fun j c e=>?_,fun j c e=>?_,fun j c e=>?_,fun j k b h1 h2 h3 h4=>R.sep j k b (mm j h1) (mm k h2) h3 h4,R.dom,R.eH⟩
 ·rw [eF];rcases get_set e with ⟨_,z⟩ | ⟨n,e⟩
  ·cases z
  exact R.dat j c e
 ·rw [eF];rcases get_set e with ⟨_,z⟩ | ⟨n,e⟩
  ·cases z
  exact R.own j c e
 ·rw [eF];rcases get_set e with ⟨_,z⟩ | ⟨n,e⟩
  ·cases z
  exact R.ino j c e
 ·rw [eF,eI];rcases get_set e with ⟨z,y⟩ | ⟨n,e⟩
  ·subst z;cases y;exact ⟨a,s,h⟩
  exact R.ro j c e
theorem Rel.GO (R:Rel K F0 H₀ I env σ H) {i:Nat} {d:PyData} {a:Addr} (hu:env[i]?=some .un) (s:σ[i]?=some (some (.ref a))) (h:Top K (FF F0 env σ) H d a) (hF:F0 a) (hI:I a) (na:∀ j,mu env j->σ[j]?≠some (some (.ref a)))
  (hro:∀ (j:Nat) (c:PyData),env[j]?=some (.ro c)->∃ b,σ[j]?=some (some (.ref b))/\fT K (FF F0 env σ) (fun b=>IA env σ b\/b=a) H c b):Rel K F0 H₀ I (env.set i (.ino d)) σ H:=by
 have hi:i < env.length:=(Hi.mp hu).1;have eF:FF F0 (env.set i (.ino d)) σ=FF F0 env σ:=by
  have:=j8 (F0:=F0) (σ:=σ) (s:=.ino d) (x:=some (.ref a)) hu (fun _=>nofun)
  rwa [set_same s] at this
 have mm:∀ j,mu (env.set i (.ino d)) j->i=j\/(mu env j/\i≠j):=fun j h=>by
  obtain ⟨c,e | e⟩:=h
  ·rcases get_set e with ⟨z,_⟩ | ⟨n,e⟩
   ·exact .inl z
   ·exact .inr ⟨⟨c,.inl e⟩,n⟩
  ·rcases get_set e with ⟨z,_⟩ | ⟨n,e⟩
   ·exact .inl z
   ·exact .inr ⟨⟨c,.inr e⟩,n⟩
 have eI:∀ b,IA (env.set i (.ino d)) σ b->IA env σ b\/b=a:=by
  rintro b ⟨j,m,q⟩;rcases mm j m with z | ⟨m',n⟩
  ·subst z;rw [s] at q;cases q;exact .inr rfl
  ·exact .inl ⟨j,m',q⟩
 refine ⟨by rw [HI];exact R.len,fun j c e=>?_,fun j c e=>?_,fun j c e=>?_,fun j c e=>?_,fun j k b h1 h2 h3 h4=>?_,R.dom,R.eH⟩
 ·rw [eF];rcases get_set e with ⟨_,z⟩ | ⟨n,e⟩
  ·cases z
  exact R.dat j c e
 ·rw [eF];rcases get_set e with ⟨_,z⟩ | ⟨n,e⟩
  ·cases z
  exact R.own j c e
 ·rw [eF];rcases get_set e with ⟨z,y⟩ | ⟨n,e⟩
  ·subst z;cases y;exact ⟨a,s,hF,hI,h⟩
  exact R.ino j c e
 ·rw [eF];rcases get_set e with ⟨_,z⟩ | ⟨n,e⟩
  ·cases z
  obtain ⟨b,q,r⟩:=hro j c e;exact ⟨b,q,r.pr Pr.refl (fun _ z=>z) eI fun _ _ z _=>z⟩
 ·rcases mm j h1 with z1 | ⟨m1,n1⟩
  ·rcases mm k h2 with z2 | ⟨m2,n2⟩
   ·rw [<- z1,<-z2]
   ·rw [<- z1,s] at h3;cases h3;exact absurd h4 (na k m2)
  ·rcases mm k h2 with z2 | ⟨m2,n2⟩
   ·rw [<- z2,s] at h4;cases h4;exact absurd h3 (na j m1)
   ·exact R.sep j k b m1 m2 h3 h4
structure Lk (K:Fg) (F0:Addr->Prop) (H₀:Hp) (I:Addr->Prop) (e1:En) (σ:St) (H1:Hp) (lock:Option Nat) (F1:Addr->Prop):Prop where
 rel:Rel K F1 H₀ I (cz e1 lock) σ H1
 ff:FF F1 (cz e1 lock) σ=FF F0 e1 σ
 ia:∀ b,IA (cz e1 lock) σ b->IA e1 σ b/\∀ i,lock=some i->mu e1 i->σ[i]?≠some (some (.ref b))
 un:∀ env' σ' H',Rel K F1 H1 (IA (cz e1 lock) σ) env' σ' H'->KpS (cz e1 lock) σ env' σ'->Rel K F0 H₀ I (aO e1 lock env') σ' H'/\KpS e1 σ (aO e1 lock env') σ'/\FF F0 (aO e1 lock env') σ'=FF F1 env' σ'
theorem Lk.tT (R:Rel K F0 H₀ I e1 σ H1) {lock:Option Nat} (h1:cz e1 lock=e1) (h2:∀ env',aO e1 lock env'=env') (h3:∀ i,lock=some i->¬mu e1 i):Lk K F0 H₀ I e1 σ H1 lock F0 :=
 ⟨by rw [h1];exact R,by rw [h1],fun b hb=>by rw [h1] at hb;exact ⟨hb,fun i hi m=>absurd m (h3 i hi)⟩,fun env' σ' H' S k=>by rw [h1] at S k;rw [h2];exact ⟨R.bZ S,k,rfl⟩⟩
theorem Lk.CI (R:Rel K F0 H₀ I e1 σ H1) {i:Nat} {d:PyData} {a:Addr} (e:e1[i]?=some (.own d)\/e1[i]?=some (.ino d)) (s:σ[i]?=some (some (.ref a))):Lk K F0 H₀ I e1 σ H1 (some i) (fun b=>F0 b\/b=a):=by
 have hi:i < e1.length:=by rcases e with e | e <;> exact (Hi.mp e).1
 have mi:mu e1 i:=⟨d,e⟩;have el:cz e1 (some i)=e1.set i (.ro d):=by simp only [cz];rcases e with e | e <;> rw [e]
 have hm:bx e1 i=some d:=by unfold bx;rcases e with e | e <;> rw [e]
 obtain ⟨_,a',s',fa,ta⟩:=R.ee hm;rw [s] at s';cases s';have hu:(e1.set i .un)[i]?=some .un:=Hq hi;have mmu:∀ j,mu (e1.set i .un) j->mu e1 j/\i≠j:=fun j h=>by
  obtain ⟨c,e | e⟩:=h
  ·rcases get_set e with ⟨_,z⟩ | ⟨n,e⟩
   ·cases z
   ·exact ⟨⟨c,.inl e⟩,n⟩
  ·rcases get_set e with ⟨_,z⟩ | ⟨n,e⟩
   ·cases z
   ·exact ⟨⟨c,.inr e⟩,n⟩
 have nIA:¬IA (e1.set i .un) σ a:=fun ⟨j,m,q⟩=>(mmu j m).2 (R.sep i j a mi (mmu j m).1 s q);have eFu:FF (fun b=>F0 b\/b=a) (e1.set i .un) σ=FF F0 e1 σ:=by
  funext b;apply propext;constructor
  ·rintro ((h | h) | ⟨j,c,e',q⟩)
   ·exact .inl h
   ·exact h▸fa
   ·rcases get_set e' with ⟨_,z⟩ | ⟨n,e'⟩
    ·cases z
    ·exact .inr ⟨j,c,e',q⟩
  ·rintro (h | ⟨j,c,e',q⟩)
   ·exact .inl (.inl h)
   ·by_cases n:i=j
    ·subst n;rw [s] at q;cases q;exact .inl (.inr rfl)
    ·exact .inr ⟨j,c,by rw [Hh n];exact e',q⟩
 have Ru:Rel K (fun b=>F0 b\/b=a) H₀ I (e1.set i .un) σ H1:=by
  rcases e with e | e
  ·obtain ⟨a2,s2,r⟩:=R.take e;rw [s] at s2;cases s2;obtain ⟨a3,ea,R',_⟩:=r;cases ea;exact R'
  ·have:=R.forget i (some (.ref a));rw [set_same s] at this;obtain ⟨a2,s2,f2,_⟩:=R.ino i d e;rw [s] at s2;cases s2;exact this.eqF fun b=>⟨.inl,fun z=>z.elim id fun z=>z▸f2⟩
 have Rl:Rel K (fun b=>F0 b\/b=a) H₀ I (e1.set i (.ro d)) σ H1:=by
  have:=Ru.Ef (d:=d) hu s (by rw [eFu];exact ta.ro nIA)
  rwa [Im] at this
 have eFl:FF (fun b=>F0 b\/b=a) (e1.set i (.ro d)) σ=FF F0 e1 σ:=by
  rw [<- eFu];have:=j8 (F0:=fun b=>F0 b\/b=a) (σ:=σ) (s:=.ro d) (x:=some (.ref a)) hu (fun _=>nofun)
  rwa [set_same s,Im] at this
 have eIl:IA (e1.set i (.ro d)) σ=IA (e1.set i .un) σ:=by
  have:=tj (σ:=σ) (s:=.ro d) (x:=some (.ref a)) hu (fun _=>⟨nofun,nofun⟩)
  rwa [set_same s,Im] at this
 have iaSub:∀ b,IA (e1.set i (.ro d)) σ b->IA e1 σ b:=fun b hb=>by rw [eIl] at hb;obtain ⟨j,m,q⟩:=hb;exact ⟨j,(mmu j m).1,q⟩
 refine ⟨by rw [el];exact Rl,by rw [el];exact eFl,fun b hb=>?_,fun env' σ' H' S k=>?_⟩
 ·rw [el,eIl] at hb;obtain ⟨j,m,q⟩:=hb;refine ⟨⟨j,(mmu j m).1,q⟩,fun i' hi' mi' si'=>?_⟩;cases hi';exact (mmu j m).2 (R.sep i j b mi (mmu j m).1 si' q)
 ·rw [el] at S k;have hro:(e1.set i (.ro d))[i]?=some (.ro d):=Hq hi;obtain ⟨si,he,hv,hs⟩:=k.2 i _ hro;have hv:si=.ro d:=hv;subst hv;have hs:=(hs trivial).trans s;have hi':i < env'.length:=(Hi.mp he).1;have na1:¬IA (e1.set i (.ro d)) σ a:=by rw [eIl];exact nIA
  have keepA:∀ o,H1 a=some o->H' a=some o:=fun o z=>S.eH a o z na1;have fSub:∀ b,FF (fun b=>F0 b\/b=a) env' σ' b->(FF F0 e1 σ b\/H1 b=none):=fun b z=>by
   rcases z with (z | z) | ⟨j,c,e',q⟩
   ·exact .inl (.inl z)
   ·exact .inl (z▸fa)
   ·obtain ⟨b',q',_,w,_⟩:=S.own j c e';rw [q] at q';cases q';rcases w with w | w
    ·exact .inr w
    ·exact .inl (R.ia (iaSub b w))
  have pF:Pr (fun b=>FF F0 e1 σ b\/H1 b=none) H1 H':=(R.pQ fun b o z n=>S.eH b o z fun y=>n (iaSub b y)).F4 fun b z=>.inl z;have tA:Top K (FF (fun b=>F0 b\/b=a) env' σ') H' d a:=ta.bO.pr pF fSub keepA;have iaEnd:∀ b,IA env' σ' b->(IA e1 σ b\/H1 b=none):=fun b z=>by
   rcases S.iaI z with w | w
   ·exact .inr w
   ·exact .inl (iaSub b w)
  have roOld:∀ (j:Nat) (c:PyData),env'[j]?=some (.ro c)->i≠j->∃ b,σ'[j]?=some (some (.ref b))/\fT K (FF (fun b=>F0 b\/b=a) env' σ') (fun b=>IA env' σ' b\/b=a) H' c b:=fun j c e' n=>by
   have hj:j < e1.length:=by
    have:=(Hi.mp e').1;rw [k.1,HI] at this;exact this
   have e0:(e1.set i (.ro d))[j]?=some e1[j]:=by rw [Hh n];exact Hn hj
   obtain ⟨s',h',v',w'⟩:=k.2 j _ e0;rw [e'] at h';cases h';have es:e1[j]=.ro c:=by
    cases hh:e1[j] with
    | ino _=>rw [hh] at v';obtain ⟨_,z⟩:=v';cases z
    | ro c'=>rw [hh] at v';have:Sl.ro c=.ro c':=v';rw [this]
    | un=>rw [hh] at v';exact absurd rfl (v'.2 c)
    | dat _=>rw [hh] at v';exact absurd rfl (v'.2 c)
    | own _=>rw [hh] at v';exact absurd rfl (v'.2 c)
   have er:e1[j]?=some (.ro c):=by rw [Hn hj,es]
   obtain ⟨b,q,r⟩:=R.ro j c er;rw [es] at w';refine ⟨b,(w' trivial).trans q,r.bO.pr pF fSub (fun b z=>?_) fun b o z n=>S.eH b o z fun y=>n (.inl (iaSub b y))⟩;rcases z with z | z
   ·exact iaEnd b z
   ·exact .inl (z▸⟨i,mi,s⟩)
  have inoNe:∀ (j:Nat) (c:PyData),env'[j]?=some (.ino c)->σ'[j]?≠some (some (.ref a)):=fun j c e' q=>by
   have n:i≠j:=fun z=>by subst z;rw [he] at e';cases e'
   have hj:j < e1.length:=by
    have:=(Hi.mp e').1;rw [k.1,HI] at this;exact this
   have e0:(e1.set i (.ro d))[j]?=some e1[j]:=by rw [Hh n];exact Hn hj
   obtain ⟨s',h',v',w'⟩:=k.2 j _ e0;rw [e'] at h';cases h';have es:∃ c',e1[j]=.ino c':=by
    cases hh:e1[j] with
    | ino c'=>exact ⟨c',rfl⟩
    | ro c'=>rw [hh] at v';cases v'
    | un=>rw [hh] at v';exact absurd rfl (v'.1 c)
    | dat _=>rw [hh] at v';exact absurd rfl (v'.1 c)
    | own _=>rw [hh] at v';exact absurd rfl (v'.1 c)
   obtain ⟨c',es⟩:=es;have er:e1[j]?=some (.ino c'):=by rw [Hn hj,es]
   rw [es] at w';rw [w' trivial] at q;exact n (R.sep i j a mi ⟨c',.inr er⟩ s q)
  have Sf:Rel K (fun b=>F0 b\/b=a) H1 (IA e1 σ) (env'.set i .un) σ' H':=by
   have:=S.forget i (some (.ref a));rw [set_same hs] at this;exact this.Fm iaSub
  have hu':(env'.set i .un)[i]?=some .un:=Hq hi';have eFe:FF (fun b=>F0 b\/b=a) (env'.set i .un) σ'=FF (fun b=>F0 b\/b=a) env' σ':=by
   funext b;apply propext;constructor
   ·rintro (h | ⟨j,c,e',q⟩)
    ·exact .inl h
    ·rcases get_set e' with ⟨_,z⟩ | ⟨n,e'⟩
     ·cases z
     ·exact .inr ⟨j,c,e',q⟩
   ·rintro (h | ⟨j,c,e',q⟩)
    ·exact .inl h
    ·have n:i≠j:=fun z=>by subst z;rw [he] at e';cases e'
     exact .inr ⟨j,c,by rw [Hh n];exact e',q⟩
  have iaE:∀ b,IA (env'.set i .un) σ' b->IA env' σ' b:=by
   rintro b ⟨j,⟨c,m⟩,q⟩;refine ⟨j,⟨c,?_⟩,q⟩;rcases m with m | m
   ·rcases get_set m with ⟨_,z⟩ | ⟨n,m⟩
    ·cases z
    ·exact .inl m
   ·rcases get_set m with ⟨_,z⟩ | ⟨n,m⟩
    ·cases z
    ·exact .inr m
  have kEnd:∀ t:Sl,Evs (e1[i]) t->KpS e1 σ (env'.set i t) σ':=fun t ht=>by
   refine ⟨by rw [HI,k.1,HI],fun j s0 e0=>?_⟩;by_cases z:i=j
   ·subst z;rw [Hn hi] at e0;cases e0;exact ⟨t,Hq hi',ht,fun _=>hs.trans s.symm⟩
   ·obtain ⟨s',h',v',w'⟩:=k.2 j s0 (by rw [Hh z];exact e0);exact ⟨s',by rw [Hh z];exact h',v',w'⟩
  rcases e with e | e
  ·have eu:aO e1 (some i) env'=env'.set i (.own d):=by simp only [aO];rw [e,he]
   obtain ⟨a2,s2,nF,_⟩:=R.own i d e;rw [s] at s2;cases s2;have nFF:¬FF F0 (env'.set i .un) σ' a:=by
    rintro (h | ⟨j,c,e',q⟩)
    ·exact nF h
    ·obtain ⟨b',q',n',_⟩:=Sf.own j c e';rw [q] at q';cases q';exact n' (.inr rfl)
   have rv:fx K F0 H1 (IA e1 σ) (env'.set i .un) σ' H' (.frs d) (.ref a):=by
    refine ⟨a,rfl,Sf,?_,.inr ⟨i,mi,s⟩,nFF,fun j c e' q=>?_,fun j c e'=>?_⟩
    ·rw [<- fZ,eFe];exact tA
    ·rcases get_set e' with ⟨_,z⟩ | ⟨n,e'⟩
     ·cases z
     ·exact inoNe j c e' q
    ·rcases get_set e' with ⟨_,z⟩ | ⟨n,e'⟩
     ·cases z
     ·obtain ⟨b,q,r⟩:=roOld j c e' n;refine ⟨b,q,?_⟩;rw [<- fZ,eFe];exact r.pr Pr.refl (fun _ z=>z) (fun b z=>z.imp (iaE b) id) fun _ _ z _=>z
   have Rn:=Rel.FY hu' rv;rw [Im,set_same hs] at Rn;rw [eu];refine ⟨R.bZ Rn,kEnd _ ?_,?_⟩
   ·have:e1[i]=.own d:=by have:=Hn hi;rw [e] at this;exact (HQ this).symm
    rw [this];exact ⟨fun _=>nofun,fun _=>nofun⟩
   ·rw [<- eFe,fZ];funext b;apply propext;constructor
    ·rintro (h | ⟨j,c,e',q⟩)
     ·exact .inl (.inl h)
     ·rcases get_set e' with ⟨z,_⟩ | ⟨n,e'⟩
      ·subst z;rw [hs] at q;cases q;exact .inr rfl
      ·exact .inl (.inr ⟨j,c,by rw [Hh n];exact e',q⟩)
    ·rintro ((h | ⟨j,c,e',q⟩) | rfl)
     ·exact .inl h
     ·rcases get_set e' with ⟨_,z⟩ | ⟨n,e'⟩
      ·cases z
      ·exact .inr ⟨j,c,by rw [Hh n];exact e',q⟩
     ·exact .inr ⟨i,d,Hq hi',hs⟩
  ·have eu:aO e1 (some i) env'=env'.set i (.ino d):=by simp only [aO];rw [e,he]
   obtain ⟨a2,s2,f2,i2,_⟩:=R.ino i d e;rw [s] at s2;cases s2;have Sf2:Rel K F0 H1 (IA e1 σ) (env'.set i .un) σ' H':=Sf.eqF fun b=>⟨fun z=>z.elim id fun z=>z▸f2,.inl⟩;have eF0:FF F0 (env'.set i .un) σ'=FF (fun b=>F0 b\/b=a) env' σ':=by
    rw [<- eFe];have:(fun b=>F0 b\/b=a)=F0:=funext fun b=>propext ⟨fun z=>z.elim id fun z=>z▸f2,.inl⟩;rw [this]
   have Rn:=Sf2.GO (d:=d) hu' hs (by rw [eF0];exact tA) f2 ⟨i,mi,s⟩ (fun j m q=>?_) (fun j c e'=>?_)
   ·rw [Im] at Rn;rw [eu];refine ⟨R.bZ Rn,kEnd _ ?_,?_⟩
    ·have:e1[i]=.ino d:=by have:=Hn hi;rw [e] at this;exact (HQ this).symm
     rw [this];exact ⟨d,rfl⟩
    ·rw [<- eF0];have:=j8 (F0:=F0) (σ:=σ') (s:=.ino d) (x:=some (.ref a)) hu' (fun _=>nofun)
     rwa [set_same hs,Im] at this
   ·obtain ⟨c,m | m⟩:=m
    ·obtain ⟨b',q',n',_⟩:=Sf.own j c m;rw [q] at q';cases q';exact n' (.inr rfl)
    ·rcases get_set m with ⟨_,z⟩ | ⟨n,m⟩
     ·cases z
     ·exact inoNe j c m q
   ·rcases get_set e' with ⟨_,z⟩ | ⟨n,e'⟩
    ·cases z
    ·obtain ⟨b,q,r⟩:=roOld j c e' n;refine ⟨b,q,?_⟩;rw [eF0];exact r.pr Pr.refl (fun _ z=>z) (fun b z=>z.imp (iaE b) id) fun _ _ z _=>z
theorem Lk.of (R:Rel K F0 H₀ I e1 σ H1) (lock:Option Nat):∃ F1,Lk K F0 H₀ I e1 σ H1 lock F1/\(lkd e1 lock=false->F1=F0/\cz e1 lock=e1/\∀ env',aO e1 lock env'=env'):=by
 cases lock with
 | none=>exact ⟨F0,Lk.tT R rfl (fun _=>rfl) (fun i z=>by cases z),fun _=>⟨rfl,rfl,fun _=>rfl⟩⟩
 | some i =>
  cases e:e1[i]? with
  | none =>
   have h1:cz e1 (some i)=e1:=by simp only [cz];rw [e]
   have h2:∀ env',aO e1 (some i) env'=env':=fun env'=>by simp only [aO];rw [e]
   exact ⟨F0,Lk.tT R h1 h2 (fun j z m=>by cases z;obtain ⟨d,m | m⟩:=m <;> (rw [e] at m;cases m)),fun _=>⟨rfl,h1,h2⟩⟩
  | some s =>
   cases s with
   | own d =>
    obtain ⟨a,q,_⟩:=R.own i d e;exact ⟨_,Lk.CI R (.inl e) q,fun z=>by simp only [lkd] at z;rw [e] at z;cases z⟩
   | ino d =>
    obtain ⟨a,q,_⟩:=R.ino i d e;exact ⟨_,Lk.CI R (.inr e) q,fun z=>by simp only [lkd] at z;rw [e] at z;cases z⟩
   | un =>
    have h1:cz e1 (some i)=e1:=by simp only [cz];rw [e]
    have h2:∀ env',aO e1 (some i) env'=env':=fun env'=>by simp only [aO];rw [e]
    exact ⟨F0,Lk.tT R h1 h2 (fun j z m=>by cases z;obtain ⟨d,m | m⟩:=m <;> (rw [e] at m;cases m)),fun _=>⟨rfl,h1,h2⟩⟩
   | dat d =>
    have h1:cz e1 (some i)=e1:=by simp only [cz];rw [e]
    have h2:∀ env',aO e1 (some i) env'=env':=fun env'=>by simp only [aO];rw [e]
    exact ⟨F0,Lk.tT R h1 h2 (fun j z m=>by cases z;obtain ⟨d,m | m⟩:=m <;> (rw [e] at m;cases m)),fun _=>⟨rfl,h1,h2⟩⟩
   | ro d =>
    have h1:cz e1 (some i)=e1:=by simp only [cz];rw [e]
    have h2:∀ env',aO e1 (some i) env'=env':=fun env'=>by simp only [aO];rw [e]
    exact ⟨F0,Lk.tT R h1 h2 (fun j z m=>by cases z;obtain ⟨d,m | m⟩:=m <;> (rw [e] at m;cases m)),fun _=>⟨rfl,h1,h2⟩⟩
theorem tX {b:PyData->En->Option Out} {ds:List PyData} {out:Out} {J:It} {F1 I1:Addr->Prop} {el:En} {g:TG} {tb:TS} {D:Ends} (R:Rel K F1 H1 I1 el σ H1) (hI:I1=IA el σ) (hit:uJ K (FF F1 el σ) I1 H1 J ds) (h:forL b ds el=some out)
  (turn:∀ d o env' σ' H' x,b d env'=some o->Rel K F1 H1 I1 env' σ' H'->KpS el σ env' σ'->Dm K (FF F1 env' σ') H' d x->∀ D':Ends,ml K F1 H1 I1 env' σ' D' o->g x σ' H' fun σ2 H2=>tb D' σ2 H2)
  (q:ml K F1 H1 I1 el σ D out) :
  ∃ W:Nat->Nat->St->Hp->Prop,(∃ m,W 0 m σ H1)/\∀ i m σ H,W i m σ H ->
   (J.stop i H/\D.nx σ H)\/(J.go i H/\∃ N:St->Hp->Prop,(∀ σ' H',N σ' H'->∃ m',m' < m/\W (i+1) m' σ' H')/\∀ x H',J.yld i H x H'->g x σ H' fun σ2 H2=>tb { D with nx:=N,ct:=N,bk:=D.nx } σ2 H2):=by
 subst hI;obtain ⟨hvl,hturn⟩:=hit;refine ⟨fun i m σ' H'=>m=ds.length - i/\i<=ds.length/\∃ env',forL b (ds.drop i) env'=some out/\Rel K F1 H1 (IA el σ) env' σ' H'/\KpS el σ env' σ',⟨ds.length,rfl,Iw _,el,h,R,KpS.refl _ _⟩,?_⟩;rintro i m σ' H' ⟨rfl,hi,env',hf,R',k'⟩;have hkept:∀ b o,H1 b=some o->¬IA el σ b->H' b=some o:=R'.eH;by_cases hlt:i < ds.length
 ·right;obtain ⟨go,yld⟩:=(hturn H' hkept i).1 (by omega);refine ⟨go,fun σ3 H3=>(ds.length - (i+1))=ds.length - (i+1)/\i+1<=ds.length/\∃ env',forL b (ds.drop (i+1)) env'=some out/\Rel K F1 H1 (IA el σ) env' σ3 H3/\KpS el σ env' σ3,fun σ3 H3 z=>⟨ds.length - (i+1),by omega,z⟩,fun x H'' hx=>?_⟩;obtain ⟨d,hd,hy9⟩:=yld x H'' hx;have fSub:∀ b,FF F1 env' σ' b->(FF F1 el σ b\/H1 b=none):=fun b z=>by
   rcases z with z | ⟨j,c,e',s'⟩
   ·exact .inl (.inl z)
   ·obtain ⟨b',q',_,w,_⟩:=R'.own j c e';rw [s'] at q';cases q';exact w.elim .inr fun w=>.inl (R.ia w)
  obtain ⟨sm,hdx'⟩:=hy9.dm (F2:=FF F1 env' σ') fun d v h=>h.bO.pr ((R.pQ hkept).F4 fun b z=>.inl z) fSub;have R':=R'.same sm;have ed:ds.drop i=d :: ds.drop (i+1):=by
   rw [Jr hlt];obtain ⟨_,z⟩:=Hi.mp hd;rw [z]
  rw [ed] at hf;unfold forL at hf;split at hf
  ·rename_i e hb;exact turn d _ env' σ' H'' x hb R' k' hdx' _ fun σ3 H3 R3 k3=>⟨rfl,by omega,e,hf,R3,k'.trans k3⟩
  ·rename_i e hb;exact turn d _ env' σ' H'' x hb R' k' hdx' _ fun σ3 H3 R3 k3=>⟨rfl,by omega,e,hf,R3,k'.trans k3⟩
  ·rename_i e hb;cases hf;exact turn d _ env' σ' H'' x hb R' k' hdx' _ fun σ3 H3 R3 k3=>q σ3 H3 R3 (k'.trans k3)
  ·rename_i r e hb;cases hf;exact turn d _ env' σ' H'' x hb R' k' hdx' _ fun v σ3 H3 R3 k3 r3=>q v σ3 H3 R3 (k'.trans k3) r3
  ·cases hf
 ·left;have e:i=ds.length:=by omega
  subst e;rw [List.drop_length] at hf;unfold forL at hf;cases hf;exact ⟨(hturn H' hkept _).2 (by omega),q σ' H' R' k'⟩
theorem fx.unl {rv:RV} {v:V} {F1:Addr->Prop} {e2:En} (h:fx K F1 H₀ I env σ H rv v) (hn:∀ d,rv≠.frs d) (eF:FF F0 e2 σ=FF F1 env σ) {H₁:Hp} {I₁:Addr->Prop}:fx K F0 H₁ I₁ e2 σ H rv v:=by
 cases rv with
 | dat d=>show Dm K _ H d v;rw [eF];exact h
 | bor i=>exact h
 | frs d=>exact absurd rfl (hn d)
theorem fx.Fc {rv:RV} {v:V} (h:fx K F0 H₀ I env σ H rv v):fx K F0 H₀ I env σ H (rv.soft true) v:=by
 cases rv with
 | dat d=>exact h
 | bor i=>exact h
 | frs d=>exact h.av
theorem fx.bZ {rv:RV} {v:V} (R:Rel K F0 H₀ I env σ H) (h:fx K F0 H (IA env σ) env' σ' H' rv v):fx K F0 H₀ I env' σ' H' rv v:=by
 cases rv with
 | dat d=>exact h
 | bor i=>exact h
 | frs d =>
  obtain ⟨a,ea,S,t,w,nF,hi,hr⟩:=h;have S0:=R.bZ (S.less hi);refine ⟨a,ea,⟨S.len,S.dat,fun i c e=>?_,fun i c e=>?_,S.ro,S.sep,S.dom,S0.eH⟩,t,R.oi w,nF,hi,hr⟩
  ·obtain ⟨b,s,n,w',t'⟩:=S.own i c e;exact ⟨b,s,n,R.oi w',t'⟩
  ·obtain ⟨b,s,n,w',t'⟩:=S.ino i c e;obtain ⟨b2,s2,_,i2,_⟩:=S0.ino i c e;rw [s] at s2;cases s2;exact ⟨b,s,n,i2,t'⟩
theorem Lk.out {lock:Option Nat} {F1:Addr->Prop} {D:Ends} {out:Out} (R1:Rel K F0 H₀ I e1 σ H1) (L:Lk K F0 H₀ I e1 σ H1 lock F1) (hno:lkd e1 lock=false->F1=F0/\cz e1 lock=e1/\∀ env',aO e1 lock env'=env')
  (q:ml K F0 H₀ I e1 σ D (out.map (lkd e1 lock) (aO e1 lock))):ml K F1 H1 (IA (cz e1 lock) σ) (cz e1 lock) σ D out:=by
 cases out with
 | nx e=>exact fun σ' H' R' k'=>let ⟨A,B,_⟩:=L.un e σ' H' R' k';q σ' H' A B
 | bk e=>exact fun σ' H' R' k'=>let ⟨A,B,_⟩:=L.un e σ' H' R' k';q σ' H' A B
 | ct e=>exact fun σ' H' R' k'=>let ⟨A,B,_⟩:=L.un e σ' H' R' k';q σ' H' A B
 | rt rv e =>
  intro v σ' H' R' k' r;obtain ⟨A,B,C⟩:=L.un e σ' H' R' k';refine q v σ' H' A B ?_;cases hl:lkd e1 lock with
  | true=>exact r.Fc.unl (fun d z=>by cases rv <;> cases z) C
  | false =>
   obtain ⟨rfl,h1,h2⟩:=hno hl;rw [h1] at r;rw [h2];have:rv.soft false=rv:=by cases rv <;> rfl
   rw [this];exact r.bZ R1
theorem FK {i:Nat} {it:XI} {b:XS} (ii:SI K ga gd it) (ib:SS K ga gd b):SS K ga gd (.fr i it b):=by
 intro env out h F0 H₀ I σ H D R q;simp only [dS] at h;split at h
 ·rename_i ds lock e1 h1;cases ho:forL (jX i (dS gd b)) ds (cz e1 lock) with
  | none=>rw [ho] at h;cases h
  | some o =>
   rw [ho] at h;cases h;refine ii _ _ _ _ h1 F0 H₀ I σ H _ R fun J H1 R1 k1 _ hit=>?_;obtain ⟨F1,L,hno⟩:=Lk.of R1 lock;have Rb:=L.rel.rebase;refine tX Rb rfl ?_ ho ?_ (L.out R1 hno (q.from k1.s))
   ·rw [L.ff];obtain ⟨a2,a3⟩:=hit;exact ⟨a2,fun H' hk=>a3 H' fun b o e n=>hk b o e fun z=>n (L.ia b z)⟩
   ·intro d o env' σ' H' x hb R' k' hd D' hD;unfold jX at hb;split at hb
    ·rename_i hf;obtain ⟨R2,k2⟩:=R'.Dk hf hd;exact ib _ _ hb _ _ _ _ H' D' R2 (hD.from k2)
    ·cases hb
 ·cases h
theorem z7 {is:List Nat} {it:XI} {b:XS} (ii:SI K ga gd it) (ib:SS K ga gd b):SS K ga gd (.frT is it b):=by
 intro env out h F0 H₀ I σ H D R q;simp only [dS] at h;split at h
 ·rename_i ds lock e1 h1
  ·obtain ⟨o,ho,e0⟩:=Hv.mp h;subst e0;refine ii _ _ _ _ h1 F0 H₀ I σ H _ R fun J H1 R1 k1 _ hit=>?_;obtain ⟨F1,L,hno⟩:=Lk.of R1 lock;have Rb:=L.rel.rebase;refine tX Rb rfl ?_ ho ?_ (L.out R1 hno (q.from k1.s))
   ·rw [L.ff];obtain ⟨a2,a3⟩:=hit;exact ⟨a2,fun H' hk=>a3 H' fun b o e n=>hk b o e fun z=>n (L.ia b z)⟩
   ·intro d o env' σ' H' x hb R' k' hd D' hD;unfold jt at hb;split at hb
    ·rename_i xs;split at hb
     ·rename_i e2 hset;obtain ⟨a,vs,rfl,l,z,r⟩:=hd;have hlen:∀ {is:List Nat} {ds:List PyData} {e e':En},fQ e is ds=some e'->is.length=ds.length:=by
       intro is;induction is with
       | nil=>intro ds e e' h;cases ds with
        | nil=>rfl
        | cons _ _=>cases h
       | cons i is ih=>intro ds e e' h;cases ds with
        | nil=>cases h
        | cons d ds =>
         unfold fQ at h;split at h
         ·rw [HD,HD,ih h]
         ·cases h
      exact ⟨a,vs,rfl,l,by rw [r.len,hlen hset],nO hset R' r fun σ2 R2 k2=>ib _ _ hb _ _ _ _ H' D' R2 (hD.from k2)⟩
     ·cases hb
    ·cases hb
 ·cases h
theorem sS (hg:∀ g d,gd[g]?=some d->∀ F H,Dm K F H d (ga g)):∀ s:XS,SS K ga gd s
 | .skip=>fun env out h F0 H₀ I σ H D R q=>by cases h;exact q σ H R (KpS.refl _ _)
 | .seq a b=>AU (sS hg a) (sS hg b)
 | .cp i e=>zj (sE hg e) | .nq i e=>yQ (sE hg e) | .Cm is e=>yb (sE hg e) | .drop e=>zo (sE hg e) | .ret e=>Au (sE hg e)
 | .CV=>fun env out h F0 H₀ I σ H D R q=>by cases h;exact q .non σ H R (KpS.refl _ _) rfl
 | .ifs c a b=>Bw (sT hg c) (sS hg a) (sS hg b)
 | .fr i it b=>FK (sI hg it) (sS hg b) | .frT is it b=>z7 (sI hg it) (sS hg b) | .wh n c b=>Dw (sT hg c) (sS hg b)
 | .brk=>fun env out h F0 H₀ I σ H D R q=>by cases h;exact q σ H R (KpS.refl _ _)
 | .cnt=>fun env out h F0 H₀ I σ H D R q=>by cases h;exact q σ H R (KpS.refl _ _)
 | .nev=>fun env out h F0 H₀ I σ H D R q=>by cases h
 | .sto m i k e=>A0 (sE hg k) (sE hg e)
end
open PySem
section
variable {K:Fg} {F F' G I I' F0:Addr->Prop} {H H' H₀ H1:Hp} {env env' e1:En} {σ σ':St} {ga:Nat->V} {gd:List PyData}
theorem dh:∀ {ms:List PM} {ds:List PyData} {n:Nat},ds.length=ms.length->ms.length<=n->(aA ms ds n).length=n
 | [],[],n,_,_=>by simp [aA]
 | [],_ :: _,n,h,_=>by cases h
 | _ :: _,[],n,h,_=>by cases h
 | m :: ms,d :: ds,n,h,hn=>by
  have ih:=dh (ms:=ms) (ds:=ds) (n:=n - 1) (by simpa using h) (by simp at hn;omega);simp at hn;cases m <;> (simp only [aA,HD,ih];omega)
theorem cD.len:∀ {ms:List PM} {ds:List PyData} {vs:List V} {is:List Addr},cD K G I H ms ds vs is->ds.length=ms.length/\vs.length=ms.length
 | [],[],[],_,_=>⟨rfl,rfl⟩
 | [],[],_ :: _,_,h=>by exact absurd h id
 | [],_ :: _,_,_,h=>by exact absurd h id
 | m :: ms,[],_,_,h=>by cases m <;> exact absurd h id
 | m :: ms,d :: ds,[],_,h=>by cases m <;> exact absurd h id
 | .dat :: ms,d :: ds,v :: vs,is,h=>by obtain ⟨a,b⟩:=cD.len h.2;exact ⟨by simp [a],by simp [b]⟩
 | .bor :: ms,d :: ds,v :: vs,is,h=>by obtain ⟨a,b⟩:=cD.len h.2;exact ⟨by simp [a],by simp [b]⟩
 | .ino :: ms,d :: ds,v :: vs,is,h=>by obtain ⟨_,_,_,_,_,_,_,h⟩:=h;obtain ⟨a,b⟩:=cD.len h;exact ⟨by simp [a],by simp [b]⟩
def At (K:Fg) (G I:Addr->Prop) (H:Hp) (is:List Addr) (s:Sl) (x:Option V):Prop:=match s with
 | .un=>True
 | .dat d=>∃ v,x=some v/\Dm K G H d v
 | .ino d=>∃ a,x=some (.ref a)/\a∈is/\G a/\Top K G H d a
 | .ro d=>∃ a,x=some (.ref a)/\fT K G I H d a
 | .own _=>False
theorem At.more {is is':List Addr} {s:Sl} {x:Option V} (h:At K G I H is s x) (q:∀ a∈is,a∈is'):At K G I H is' s x:=by
 cases s with
 | ino d=>obtain ⟨a,e,m,r⟩:=h;exact ⟨a,e,q a m,r⟩
 | _=>exact h
theorem cL:∀ {ms:List PM} {ds:List PyData} {vs:List V} {is:List Addr} {n:Nat} {tl:St},cD K G I H ms ds vs is->∀ {i:Nat} {s:Sl},(aA ms ds n)[i]?=some s->∀ {x:Option V},(vs.map some++tl)[i]?=some x->At K G I H is s x
 | [],[],[],is,n,tl,h,i,s,e,x,_=>by
  simp only [aA,List.getElem?_replicate] at e;split at e
  ·cases e;trivial
  ·cases e
 | [],[],_ :: _,_,_,_,h,_,_,_,_,_=>by exact absurd h id
 | [],_ :: _,_,_,_,_,h,_,_,_,_,_=>by exact absurd h id
 | m :: ms,[],_,_,_,_,h,_,_,_,_,_=>by cases m <;> exact absurd h id
 | m :: ms,d :: ds,[],_,_,_,h,_,_,_,_,_=>by cases m <;> exact absurd h id
 | .dat :: ms,d :: ds,v :: vs,is,n,tl,h,0,s,e,x,ex=>by
  simp [aA] at e ex;subst e ex;exact ⟨v,rfl,h.1⟩
 | .dat :: ms,d :: ds,v :: vs,is,n,tl,h,i+1,s,e,x,ex=>by
  simp [aA] at e;exact cL h.2 e (by simpa using ex)
 | .bor :: ms,d :: ds,v :: vs,is,n,tl,h,0,s,e,x,ex=>by
  simp [aA] at e ex;subst e ex;have h1:y7 K G I H d v:=h.1;cases d <;> first | exact h1 | exact ⟨v,rfl,h1⟩ | (obtain ⟨a,rfl,r⟩:=h1;exact ⟨a,rfl,r⟩)
 | .bor :: ms,d :: ds,v :: vs,is,n,tl,h,i+1,s,e,x,ex=>by
  simp [aA] at e;exact cL h.2 e (by simpa using ex)
 | .ino :: ms,d :: ds,v :: vs,is,n,tl,h,0,s,e,x,ex=>by
  simp [aA] at e ex;subst e ex;obtain ⟨a,r,rfl,rfl,g,t,_,_⟩:=h;exact ⟨a,rfl,Hw,g,t⟩
 | .ino :: ms,d :: ds,v :: vs,is,n,tl,h,i+1,s,e,x,ex=>by
  simp [aA] at e;obtain ⟨a,r,rfl,rfl,g,t,_,h⟩:=h;exact (cL h e (by simpa using ex)).more fun b hb=>Hk _ hb
theorem j9:∀ {ms:List PM} {ds:List PyData} {vs:List V} {is:List Addr} {n:Nat} {tl:St},cD K G I H ms ds vs is->∀ {i j:Nat} {c c':PyData} {a:Addr},(aA ms ds n)[i]?=some (.ino c)->(aA ms ds n)[j]?=some (.ino c') ->
  (vs.map some++tl)[i]?=some (some (.ref a))->(vs.map some++tl)[j]?=some (some (.ref a))->i=j
 | [],[],[],is,n,tl,h,i,j,c,c',a,e,_,_,_=>by
  simp only [aA,List.getElem?_replicate] at e;split at e <;> cases e
 | [],[],_ :: _,_,_,_,h,_,_,_,_,_,_,_,_,_=>by exact absurd h id
 | [],_ :: _,_,_,_,_,h,_,_,_,_,_,_,_,_,_=>by exact absurd h id
 | m :: ms,[],_,_,_,_,h,_,_,_,_,_,_,_,_,_=>by cases m <;> exact absurd h id
 | m :: ms,d :: ds,[],_,_,_,h,_,_,_,_,_,_,_,_,_=>by cases m <;> exact absurd h id
 | m :: ms,d :: ds,v :: vs,is,n,tl,h,0,0,c,c',a,e,e',s,s'=>rfl
 | m :: ms,d :: ds,v :: vs,is,n,tl,h,i+1,j+1,c,c',a,e,e',s,s'=>by
  have hr:∃ r,cD K G I H ms ds vs r:=by
   cases m with
   | dat=>exact ⟨is,h.2⟩
   | bor=>exact ⟨is,h.2⟩
   | ino=>obtain ⟨_,r,_,_,_,_,_,h⟩:=h;exact ⟨r,h⟩
  obtain ⟨r,hr⟩:=hr;have:i=j:=j9 (n:=n - 1) (tl:=tl) hr (by cases m <;> simpa [aA] using e) (by cases m <;> simpa [aA] using e') (by simpa using s) (by simpa using s');rw [this]
 | m :: ms,d :: ds,v :: vs,is,n,tl,h,0,j+1,c,c',a,e,e',s,s'=>by
  cases m with
  | dat=>simp [aA] at e
  | bor=>cases d <;> simp [aA,xJ] at e
  | ino =>
   obtain ⟨b,r,rfl,rfl,g,t,nr,h⟩:=h;simp [aA] at e' s;subst s;obtain ⟨a',ea,m',_⟩:=cL (tl:=tl) h e' (by simpa using s');cases ea;exact absurd m' nr
 | m :: ms,d :: ds,v :: vs,is,n,tl,h,i+1,0,c,c',a,e,e',s,s'=>by
  cases m with
  | dat=>simp [aA] at e'
  | bor=>cases d <;> simp [aA,xJ] at e'
  | ino =>
   obtain ⟨b,r,rfl,rfl,g,t,nr,h⟩:=h;simp [aA] at e s';subst s';obtain ⟨a',ea,m',_⟩:=cL (tl:=tl) h e (by simpa using s);cases ea;exact absurd m' nr
theorem gB {G':Addr->Prop}:∀ {ms:List PM} {ds:List PyData} {vs:List V} {is:List Addr} {n:Nat} {tl:St} {env':En} {σ':St} {outs:List PyData},cD K G I H ms ds vs is->ms.length<=env'.length ->
  (∀ (i:Nat) (c:PyData),(aA ms ds n)[i]?=some (.ino c)->∃ c',env'[i]?=some (.ino c')/\σ'[i]?=(vs.map some++tl)[i]?)->(∀ (i:Nat) (c:PyData) (a:Addr),env'[i]?=some (.ino c)->σ'[i]?=some (some (.ref a))->Top K G' H' c a) ->
  jw ms env'=some outs->iT K G' H' outs is
 | [],[],[],is,n,tl,env',σ',outs,h,_,_,_,e=>by
  rw [show is=[] from h];cases env' <;> (simp only [jw] at e;cases e;trivial)
 | [],[],_ :: _,_,_,_,_,_,_,h,_,_,_,_=>by exact absurd h id
 | [],_ :: _,_,_,_,_,_,_,_,h,_,_,_,_=>by exact absurd h id
 | m :: ms,[],_,_,_,_,_,_,_,h,_,_,_,_=>by cases m <;> exact absurd h id
 | m :: ms,d :: ds,[],_,_,_,_,_,_,h,_,_,_,_=>by cases m <;> exact absurd h id
 | m :: ms,d :: ds,v :: vs,is,n,tl,[],σ',outs,h,hl,h1,h2,e=>by simp at hl
 | m :: ms,d :: ds,v :: vs,is,n,tl,s :: es,σ',outs,h,hl,h1,h2,e=>by
  have hl':ms.length<=es.length:=by simpa using hl
  have t1:∀ (i:Nat) (c:PyData),(aA ms ds (n - 1))[i]?=some (.ino c)->∃ c',es[i]?=some (.ino c')/\σ'.tail[i]?=(vs.map some++tl)[i]?:=fun i c z=>by
   obtain ⟨c',e',q⟩:=h1 (i+1) c (by cases m <;> simpa [aA] using z);exact ⟨c',by simpa using e',by simpa using q⟩
  have t2:∀ (i:Nat) (c:PyData) (a:Addr),es[i]?=some (.ino c)->σ'.tail[i]?=some (some (.ref a))->Top K G' H' c a:=fun i c a z q=>h2 (i+1) c a (by simpa using z) (by simpa using q);cases m with
  | dat=>exact gB h.2 hl' t1 t2 (by simpa [jw] using e)
  | bor=>exact gB h.2 hl' t1 t2 (by simpa [jw] using e)
  | ino =>
   obtain ⟨b,r,rfl,rfl,g,t,nr,h⟩:=h;obtain ⟨c',e',q⟩:=h1 0 d (by simp [aA]);simp at e' q;subst e';simp only [jw] at e;split at e
   ·rename_i os ho;cases e;exact ⟨h2 0 c' b (by simp) (by simpa using q),gB h hl' t1 t2 ho⟩
   ·cases e
theorem bQ (hg:∀ g d,gd[g]?=some d->∀ F H,Dm K F H d (ga g)) {ms:List PM} {N:List Str} {b:XS} {vs:List V} {H:Hp} {Q:VK} {E:XK} (h:fP (jZ gd ms N.length b) K vs H Q E) (hn:ms.length<=N.length) :
  rS K ga b { nx:=fun _ H'=>Q .non H',rt:=Q } (start N vs) H:=by
 obtain ⟨G,ds,is,pr,outs,hF,ha,hd,post⟩:=h;have ha:cD K G (·∈is) H ms ds vs is:=ha;obtain ⟨hl1,hl2⟩:=ha.len;have hstart:start N vs=vs.map some++List.replicate (N.length - vs.length) none:=rfl;have no:noOwn (aA ms ds N.length):=fun i d e=>by
  have hi:i < (aA ms ds N.length).length:=(Hi.mp e).1;rw [dh hl1 hn] at hi;have hx:(vs.map some++List.replicate (N.length - vs.length) none)[i]?=some ((vs.map some++List.replicate (N.length - vs.length) none)[i]'(by rw [Ho,Hf,JH];omega)):=Hn _;exact (cL ha e hx:False)
 have at':∀ {i:Nat} {s:Sl},(aA ms ds N.length)[i]?=some s->∃ x,(start N vs)[i]?=some x/\At K G (·∈is) H is s x:=fun {i s} e=>by
  have hi:i < (aA ms ds N.length).length:=(Hi.mp e).1;rw [dh hl1 hn] at hi;have hx:(start N vs)[i]?=some ((start N vs)[i]'(by rw [hstart,Ho,Hf,JH];omega)):=Hn _;exact ⟨_,hx,cL ha e hx⟩
 have eF:FF G (aA ms ds N.length) (start N vs)=G:=dN no;have muI:∀ i,mu (aA ms ds N.length) i->∃ c,(aA ms ds N.length)[i]?=some (.ino c):=fun i ⟨c,m⟩=>m.elim (fun z=>absurd z (no i c)) fun z=>⟨c,z⟩;have R:Rel K G H (·∈is) (aA ms ds N.length) (start N vs) H:=by
  refine ⟨by rw [dh hl1 hn,hstart,Ho,Hf,JH];omega,fun i d e=>?_,fun i d e=>absurd e (no i d),fun i d e=>?_,fun i d e=>?_,fun i j a h1 h2 h3 h4=>?_,hd,fun _ _ h _=>h⟩
  ·rw [eF];obtain ⟨x,hx,v,rfl,r⟩:=at' e;exact ⟨v,hx,r⟩
  ·rw [eF];obtain ⟨x,hx,a,rfl,m,g,t⟩:=at' e;exact ⟨a,hx,g,m,t⟩
  ·rw [eF];obtain ⟨x,hx,a,rfl,r⟩:=at' e;refine ⟨a,hx,r.pr Pr.refl (fun _ z=>z) (fun b hb=>?_) fun _ _ z _=>z⟩;obtain ⟨j,m,s⟩:=hb;obtain ⟨c,m⟩:=muI j m;obtain ⟨x,hx,a,rfl,m,g,t⟩:=at' m;rw [s] at hx;cases hx;exact m
  ·obtain ⟨c,m1⟩:=muI i h1;obtain ⟨c',m2⟩:=muI j h2;exact j9 ha m1 m2 h3 h4
 simp only [jZ] at hF;rw [Hy hl1] at hF
 ·have inoK:∀ {env':En} {σ':St},KpS (aA ms ds N.length) (start N vs) env' σ'->∀ (i:Nat) (c:PyData),(aA ms ds N.length)[i]?=some (.ino c)->∃ c',env'[i]?=some (.ino c')/\σ'[i]?=(vs.map some++List.replicate (N.length - vs.length) none)[i]?:=fun {env' σ'} k i c e=>by
   obtain ⟨s',e',v,w⟩:=k.2 i _ e;obtain ⟨c',rfl⟩:=v;exact ⟨c',e',w trivial⟩
  have hlE:∀ {env':En} {σ':St},KpS (aA ms ds N.length) (start N vs) env' σ'->ms.length<=env'.length:=fun {env' σ'} k=>by rw [k.1,dh hl1 hn];exact hn
  split at hF
  ·rename_i rv env' hS;split at hF
   ·rename_i pr' outs' hpr houts;cases hF;refine sS hg b _ _ hS G H (·∈is) _ H _ R fun v σ' H' R' k' r'=>?_;have mono:∀ b,G b->FF G env' σ' b:=fun b z=>.inl z;cases rv with
    | bor i=>cases hpr
    | dat d =>
     cases hpr
     exact post v H' (fun b o e n=>R'.eH b o e n) ⟨Dm.mono mono r',gB ha (hlE k') (inoK k') (fun i c a e s=>by
      obtain ⟨a',s',_,_,t⟩:=R'.ino i c e;rw [s] at s';cases s'
      exact t.pr Pr.refl mono fun _ z=>z) houts⟩
    | frs d =>
     cases hpr;obtain ⟨a,rfl,Ra,t,w,nF,hino,_⟩:=r';have mono':∀ b,(G b\/b=a)->FF (fun b=>G b\/b=a) env' σ' b:=fun b z=>.inl z
     refine post _ H' (fun b o e n=>R'.eH b o e n) ⟨a,rfl,?_,t.pr Pr.refl (fun b z=>z.imp (mono b) id) (fun _ z=>z),gB ha (hlE k') (inoK k') (fun i c a' e s=>by
      obtain ⟨a2,s',_,_,t'⟩:=Ra.ino i c e;rw [s] at s';cases s'
      exact t'.pr Pr.refl mono' fun _ z=>z) houts⟩
     rcases w with w | w
     ·exact w
     ·-- it would be one that was handed in to be changed
      exfalso;have key:∀ {ms:List PM} {ds:List PyData} {vs:List V} {is:List Addr} {I:Addr->Prop} {n:Nat} {tl:St},cD K G I H ms ds vs is->a∈is->∃ (i:Nat) (c:PyData),(aA ms ds n)[i]?=some (.ino c)/\(vs.map some++tl)[i]?=some (some (.ref a)):=by
       intro ms;induction ms with
       | nil =>
        intro ds vs is I n tl h m;cases ds with
        | cons _ _=>exact absurd h id
        | nil=>cases vs with
         | cons _ _=>exact absurd h id
         | nil=>rw [show is=[] from h] at m;cases m
       | cons p ms ih =>
        intro ds vs is I n tl h m;cases ds with
        | nil=>cases p <;> exact absurd h id
        | cons d ds =>
         cases vs with
         | nil=>cases p <;> exact absurd h id
         | cons v vs =>
          cases p with
          | dat=>obtain ⟨i,c,e,s⟩:=ih (n:=n - 1) (tl:=tl) h.2 m;exact ⟨i+1,c,by simpa [aA] using e,by simpa using s⟩
          | bor=>obtain ⟨i,c,e,s⟩:=ih (n:=n - 1) (tl:=tl) h.2 m;exact ⟨i+1,c,by simpa [aA] using e,by simpa using s⟩
          | ino =>
           obtain ⟨b,r,rfl,rfl,g,t,nr,h⟩:=h;rcases Hs.mp m with rfl | m
           ·exact ⟨0,d,by simp [aA],by simp⟩
           ·obtain ⟨i,c,e,s⟩:=ih (n:=n - 1) (tl:=tl) h m;exact ⟨i+1,c,by simpa [aA] using e,by simpa using s⟩
      obtain ⟨i,c,e,s⟩:=key (n:=N.length) (tl:=List.replicate (N.length - vs.length) none) ha w;obtain ⟨c',e',s'⟩:=inoK k' i c e;exact hino i c' e' (s'.trans s)
   ·cases hF
  ·rename_i env' hS;split at hF
   ·rename_i outs' houts;cases hF;refine sS hg b _ _ hS G H (·∈is) _ H _ R fun σ' H' R' k'=>?_;have mono:∀ b,G b->FF G env' σ' b:=fun b z=>.inl z
    exact post .non H' (fun b o e n=>R'.eH b o e n) ⟨rfl,gB ha (hlE k') (inoK k') (fun i c a e s=>by
      obtain ⟨a',s',_,_,t⟩:=R'.ino i c e;rw [s] at s';cases s'
      exact t.pr Pr.refl mono fun _ z=>z) houts⟩
   ·cases hF
  ·cases hF
theorem bt {f:Fn} {vs:List V} {H:Hp} {Q:VK} {E:XK} (h:fP f K vs H Q E):vs.length=f.ms.length:=by
 obtain ⟨G,ds,is,pr,outs,_,ha,_⟩:=h;exact ha.len.2
end
open PySem PySem.Spec PyProof.Rows
noncomputable def Prm.two (r:Fg->R2) (f:PyData->PyData->Option PR) (ok:∀ (K:Fg) (F:Addr->Prop) (H:Hp) (x y:PyData) (u v:V) (pr:PR) (Q:VK),f x y=some pr->Vw K F H x u->Vw K F H y v->(∀ b,F b->H b≠none)->(∀ w H',bq H H'->wH K F H H' pr w->Q w H')->r K u v H Q):Prm where
 r:=fun K vs H Q=>match vs with | [u,v]=>r K u v H Q | _=>False
 f:=fun ds=>match ds with | [x,y]=>f x y | _=>none
 ok:=fun K F H ds vs pr Q hf hv hd q=>by
  match ds,hf with
  | [x,y],hf =>
   obtain ⟨u,r1,rfl,h1,v,r2,rfl,h2,rfl⟩:=hv;exact ok K F H x y u v pr Q hf h1 h2 hd q
noncomputable def Prm.one (r:Fg->V->Hp->VK->Prop) (f:PyData->Option PR) (ok:∀ (K:Fg) (F:Addr->Prop) (H:Hp) (x:PyData) (u:V) (pr:PR) (Q:VK),f x=some pr->Vw K F H x u->(∀ b,F b->H b≠none)->(∀ w H',bq H H'->wH K F H H' pr w->Q w H')->r K u H Q):Prm where
 r:=fun K vs H Q=>match vs with | [u]=>r K u H Q | _=>False
 f:=fun ds=>match ds with | [x]=>f x | _=>none
 ok:=fun K F H ds vs pr Q hf hv hd q=>by
  match ds,hf with
  | [x],hf =>
   obtain ⟨u,r1,rfl,h1,rfl⟩:=hv;exact ok K F H x u pr Q hf h1 hd q
section
variable {K:Fg} {F F':Addr->Prop} {H:Hp}
theorem vInt {i:Int} {v:V} (h:Vw K F H (.int i) v):v=.int i:=h
theorem vBl {b:Bool} {v:V} (h:Vw K F H (.bool b) v):v=.bl b:=h
theorem CZ {v:V} (h:Vw K F H .none v):v=.non:=h
theorem vStr {x:Str} {v:V} (h:Vw K F H (.str x) v):v=.str x/\x.length<=sizeLine/\PyData.strOk x=true:=h
theorem p0 {ds:List PyData} {v:V} (h:Vw K F H (.list ds) v):∃ a xs,v=.ref a/\SqL K H a xs/\xs.length<=sizeLine/\DmL K F H ds xs:=let ⟨a,e,xs,r⟩:=h;⟨a,xs,e,r⟩
theorem uG {ds:List PyData} {v:V} (h:Vw K F H (.tuple ds) v):∃ a xs,v=.ref a/\SqT K H a xs/\xs.length<=sizeLine/\DmL K F H ds xs:=h
theorem zD {p:Addr} {xs:List V} {ds:List PyData} (hp:H p=none) (hz:xs.length<=sizeLine) (h:DmL K F H ds xs):wH K F H (upd H p (.lst xs)) (.frs (.list ds)) (.ref p) :=
 ⟨p,rfl,hp,xs,ay,hz,(h.fresh hp).pr (Pr.of_same (bq.nw _ hp)) fun _ z=>z⟩
theorem Ep {p:Addr} {xs:List V} {ds:List PyData} (hp:H p=none) (hz:xs.length<=sizeLine) (h:DmL K F H ds xs):wH K F H (upd H p (.tup xs)) (.dat (.tuple ds)) (.ref p) :=
 ⟨p,xs,rfl,.inl (.inl ay),hz,h.pr (Pr.of_same (bq.nw _ hp)) fun _ z=>z⟩
end
noncomputable def FU:PyData->PyData->Option PR
 | .int i,.int j=>some (.dat (.int (i+j)))
 | .str x,.str y=>if x.length+y.length<=sizeLine then some (.dat (.str (x++y))) else none
 | .list xs,.list ys=>if xs.length+ys.length<=sizeLine then some (.frs (.list (xs++ys))) else none
 | .tuple (x :: xs),.tuple ys=>if (x :: xs).length+ys.length<=sizeLine then some (.dat (.tuple ((x :: xs)++ys))) else none
 | _,_=>none
def De (K:Fg):R2:=rOr (rI0 fun i j=>.int (i+j)) (rOr AB (rOr (CA K) (Am K)))
theorem ja (x y:Str):(x++y).length=x.length+y.length:=by
 show (x.cps++y.cps).size=_;rw [Array.size_append];rfl
noncomputable def bE:Prm:=Prm.two De FU fun K F H x y u v pr Q hf hx hy hd q=>by
 unfold FU at hf;split at hf
 ·cases hf;rw [vInt hx,vInt hy];exact .inl ⟨_,_,rfl,rfl,q _ H (bq.rf H) rfl⟩
 ·split at hf
  ·rename_i x y hl;cases hf;obtain ⟨rfl,l1,o1⟩:=vStr hx;obtain ⟨rfl,l2,o2⟩:=vStr hy;exact .inr (.inl ⟨_,_,rfl,rfl,hl,q _ H (bq.rf H) ⟨rfl,by rw [ja];exact hl,mO o1 o2⟩⟩)
  ·cases hf
 ·split at hf
  ·rename_i xs ys hl;cases hf;obtain ⟨a,us,rfl,s1,z1,d1⟩:=p0 hx;obtain ⟨b,ws,rfl,s2,z2,d2⟩:=p0 hy;have hl':us.length+ws.length<=sizeLine:=by rw [d1.len,d2.len];exact hl
   exact .inr (.inr (.inl ⟨a,b,us,ws,rfl,rfl,s1,s2,hl',fun p hp=>q _ _ (bq.nw _ hp) (zD hp (by rw [Ho];exact hl') (d1.app d2))⟩))
  ·cases hf
 ·split at hf
  ·rename_i x xs ys hl;cases hf;obtain ⟨a,us,rfl,s1,z1,d1⟩:=uG hx;obtain ⟨b,ws,rfl,s2,z2,d2⟩:=uG hy;have hl':us.length+ws.length<=sizeLine:=by rw [d1.len,d2.len];exact hl
   have hne:us≠[]:=fun z=>by rw [z] at d1;obtain ⟨v,r,e,_⟩:=d1;cases e
   refine .inr (.inr (.inr ⟨a,b,us,ws,rfl,rfl,s1,s2,hne,hl',fun z=>?_,fun z p hp=>q _ _ (bq.nw _ hp) (Ep hp (by rw [Ho];exact hl') (d1.app d2))⟩));subst z;have hys:ys=[]:=by
    cases ys with
    | nil=>rfl
    | cons y ys=>obtain ⟨v,r,e,_⟩:=d2;cases e
   subst hys;exact q _ H (bq.rf H) ⟨a,us,rfl,s1,z1,by rw [Ie];exact d1⟩
  ·cases hf
 ·cases hf
theorem az {X:Cx}:OpR X (binaryOp .Add) (fun x y=>bE.r X.K [x,y]):=orR CN (orR zm (orR yW yE))
noncomputable def wD (c:Int->Int->Bool) (g:Int->Int->PyData):PyData->PyData->Option PR
 | .int i,.int j=>if c i j=true then some (.dat (g i j)) else none
 | _,_=>none
noncomputable def Prm.ints (C:Int->Int->Prop) (c:Int->Int->Bool) (hc:∀ i j,c i j=true->C i j) (g:Int->Int->Int):Prm:=Prm.two (fun _=>rI C fun i j=>.int (g i j)) (wD c fun i j=>.int (g i j)) fun K F H x y u v pr Q hf hx hy hd q=>by
 unfold wD at hf;split at hf
 ·split at hf
  ·rename_i h;cases hf;rw [vInt hx,vInt hy];exact ⟨_,_,rfl,rfl,hc _ _ h,q _ H (bq.rf H) rfl⟩
  ·cases hf
 ·cases hf
noncomputable def Prm.Bt (g:Int->Int->Bool):Prm:=Prm.two (fun _=>rI0 fun i j=>.bl (g i j)) (wD (fun _ _=>true) fun i j=>.bool (g i j)) fun K F H x y u v pr Q hf hx hy hd q=>by
 unfold wD at hf;split at hf
 ·rw [Hy rfl] at hf;cases hf;rw [vInt hx,vInt hy];exact ⟨_,_,rfl,rfl,q _ H (bq.rf H) rfl⟩
 ·cases hf
noncomputable def zc:Prm:=Prm.two (fun _=>rI0 fun i j=>.int (i - j)) (wD (fun _ _=>true) fun i j=>.int (i - j)) fun K F H x y u v pr Q hf hx hy hd q=>by
 unfold wD at hf;split at hf
 ·rw [Hy rfl] at hf;cases hf;rw [vInt hx,vInt hy];exact ⟨_,_,rfl,rfl,q _ H (bq.rf H) rfl⟩
 ·cases hf
theorem oS {X:Cx}:OpR X (binaryOp .Sub) (fun x y=>zc.r X.K [x,y]):=AI
noncomputable def mulC (i j:Int):Bool:=(decide (-(2 ^ 64) < i)&&decide (i < 2 ^ 64))||(decide (-(2 ^ 64) < j)&&decide (j < 2 ^ 64))
noncomputable def kP:Prm:=Prm.ints CG mulC (fun i j h=>by simpa [mulC,CG,Bool.or_eq_true,HK,Ju] using h) (fun i j=>i*j)
theorem dZ {X:Cx}:OpR X (binaryOp .Mult) (fun x y=>kP.r X.K [x,y]):=Br
noncomputable def kH:Prm:=Prm.ints (fun _ j=>0 < j) (fun _ j=>decide (0 < j)) (fun i j h=>by simpa using h) (fun i j=>i % j)
theorem dC {X:Cx}:OpR X (binaryOp .Mod) (fun x y=>kH.r X.K [x,y]):=B8
noncomputable def nV:Prm:=Prm.ints (fun _ j=>0 < j/\j.natAbs.log2 < 9000) (fun _ j=>decide (0 < j)&&decide (j < 2 ^ 200)) (fun i j h=>by
 simp only [HK,Ju] at h;refine ⟨h.1,?_⟩;have hz:j.natAbs≠0:=by omega
 have:j.natAbs < 2 ^ 200:=by omega
 exact Hx ((Nat.log2_lt hz).mpr this) (by decide)) (fun i j=>i / j)
theorem kL {X:Cx}:OpR X (binaryOp .FloorDiv) (fun x y=>nV.r X.K [x,y]):=uP
noncomputable def Av:Prm:=Prm.ints Ge (fun i j=>decide (0<=j)&&decide (j<=1000000)&&decide (i.natAbs < 2 ^ 64)) (fun i j h=>by simp only [HK,Ju] at h;exact ⟨h.1.1,h.1.2,h.2⟩) (fun i j=>i ^ j.toNat)
theorem sV {X:Cx}:OpR X (binaryOp .Pow) (fun x y=>Av.r X.K [x,y]):=Ar
noncomputable def yS:Prm:=Prm.one (fun _=>rU fun i=>.int (-i)) (fun x=>match x with | .int i=>some (.dat (.int (-i))) | _=>none) fun K F H x u pr Q hf hx hd q=>by
 split at hf
 ·cases hf;rw [vInt hx];exact ⟨_,rfl,q _ H (bq.rf H) rfl⟩
 ·cases hf
noncomputable def C5 (g:Int->Int->Bool) (h:Str->Str->Bool):PyData->PyData->Option PR
 | .int i,.int j=>some (.dat (.bool (g i j)))
 | .str x,.str y=>some (.dat (.bool (h x y)))
 | _,_=>none
noncomputable def ltS (x y:Str):Bool:=decide (x.cps.toList < y.cps.toList)
noncomputable def leS (x y:Str):Bool:=!decide (y.cps.toList < x.cps.toList)
noncomputable def ltP:Prm:=Prm.two (fun _=>rOr (rI0 fun i j=>.bl (decide (i < j))) Gi) (C5 (fun i j=>decide (i < j)) ltS) fun K F H x y u v pr Q hf hx hy hd q=>by
 unfold C5 at hf;split at hf
 ·cases hf;rw [vInt hx,vInt hy];exact .inl ⟨_,_,rfl,rfl,q _ H (bq.rf H) rfl⟩
 ·cases hf;rw [(vStr hx).1,(vStr hy).1];exact .inr ⟨_,_,rfl,rfl,q _ H (bq.rf H) rfl⟩
 ·cases hf
theorem wO {X:Cx}:OpR X (compareOp .Lt) (fun x y=>ltP.r X.K [x,y]):=orR Fb BN
noncomputable def leP:Prm:=Prm.two (fun _=>rOr (rI0 fun i j=>.bl (decide (i<=j))) F7) (C5 (fun i j=>decide (i<=j)) leS) fun K F H x y u v pr Q hf hx hy hd q=>by
 unfold C5 at hf;split at hf
 ·cases hf;rw [vInt hx,vInt hy];exact .inl ⟨_,_,rfl,rfl,q _ H (bq.rf H) rfl⟩
 ·cases hf;rw [(vStr hx).1,(vStr hy).1];exact .inr ⟨_,_,rfl,rfl,q _ H (bq.rf H) rfl⟩
 ·cases hf
theorem xw {X:Cx}:OpR X (compareOp .LtE) (fun x y=>leP.r X.K [x,y]):=orR Ez CM
noncomputable def gtP:Prm:=Prm.Bt fun i j=>decide (i > j)
theorem hG {X:Cx}:OpR X (compareOp .Gt) (fun x y=>gtP.r X.K [x,y]):=ES
noncomputable def geP:Prm:=Prm.Bt fun i j=>decide (i>=j)
theorem BA {X:Cx}:OpR X (compareOp .GtE) (fun x y=>geP.r X.K [x,y]):=DN
mutual
noncomputable def noD:PyData->Bool
 | .dict _=>false
 | .list xs=>fg xs
 | .tuple xs=>fg xs
 | _=>true
noncomputable def fg:List PyData->Bool
 | []=>true
 | x :: xs=>noD x&&fg xs
end
section
variable {K:Fg} {F:Addr->Prop} {H:Hp}
mutual
theorem Dm.lay:∀ {d:PyData} {v:V},Dm K F H d v->noD d=true->d.canLay0=true
 | .none,v,h,_=>by simp [PyData.canLay0]
 | .bool b,v,h,_=>by simp [PyData.canLay0]
 | .int i,v,h,_=>by simp [PyData.canLay0]
 | .str x,v,h,_=>by simpa [PyData.canLay0] using h.2.2
 | .list ds,v,h,n=>by obtain ⟨a,xs,e,l,z,r⟩:=h;simpa [PyData.canLay0] using DmL.lay r (by simpa [noD] using n)
 | .tuple ds,v,h,n=>by obtain ⟨a,xs,e,l,z,r⟩:=h;simpa [PyData.canLay0] using DmL.lay r (by simpa [noD] using n)
 | .dict kvs,v,h,n=>by simp [noD] at n
theorem DmL.lay:∀ {ds:List PyData} {vs:List V},DmL K F H ds vs->fg ds=true->PyData.canLayAll0 ds=true
 | [],vs,h,_=>by simp [PyData.canLayAll0]
 | d :: ds,vs,h,n=>by
  obtain ⟨v,r,e,h1,h2⟩:=h;have n':noD d=true/\fg ds=true:=by simpa [fg] using n
  simp [PyData.canLayAll0,Dm.lay h1 n'.1,DmL.lay h2 n'.2]
end
theorem Vw.lay {d:PyData} {v:V} (h:Vw K F H d v) (n:noD d=true):d.canLay0=true:=by
 cases d with
 | list ds=>obtain ⟨a,xs,e,l,z,r⟩:=p0 h;simpa [PyData.canLay0] using DmL.lay r (by simpa [noD] using n)
 | dict ds=>simp [noD] at n
 | _=>exact Dm.lay (K:=K) (F:=F) (H:=H) h n
variable {X:Cx} {pins:List (Addr×Obj)} {σ:St} {s:Shared}
mutual
theorem Dm.reads (I:Inv X pins σ H s):∀ {d:PyData} {v:V} {u:Value},Dm X.K F H d v->noD d=true->RelV v u->∃ as,Reads s.heap u d as
 | .none,v,u,hd,_,r=>by
  have e:v=.non:=hd;subst e;cases (show u=Value.none from r);exact ⟨_,.none⟩
 | .bool b,v,u,hd,_,r=>by
  have e:v=.bl b:=hd;subst e;cases (show u=Value.bool b from r);exact ⟨_,.bool b⟩
 | .int i,v,u,hd,_,r=>by
  have e:v=.int i:=hd;subst e;obtain ⟨t,e⟩:=(show ∃ t,u=Value.int i t from r);subst e;exact ⟨_,.int i t⟩
 | .str y,v,u,hd,_,r=>by
  have e:v=.str y:=hd.1;subst e;obtain ⟨t,e⟩:=(show ∃ t,u=Value.str y t from r);subst e;exact ⟨_,.str y t⟩
 | .list ds,v,u,hd,n,r=>by
  obtain ⟨a,xs,e,l,z,rs⟩:=hd;subst e;cases (show u=Value.ref a from r);obtain ⟨its,rv,⟨o,k,h1,h2,h3,h4⟩,_⟩:=I.list (l.elim (fun q=>.inl q.2) .inr);obtain ⟨as,ra⟩:=DmL.reads I rs (by simpa [noD] using n) rv;exact ⟨_,.list h1 h2 h4 (by simpa using ra)⟩
 | .tuple ds,v,u,hd,n,r=>by
  obtain ⟨a,xs,e,l,z,rs⟩:=hd;subst e;cases (show u=Value.ref a from r);obtain ⟨its,rv,⟨o,h1,h2,k,h4⟩,_⟩:=I.tuple l;obtain ⟨as,ra⟩:=DmL.reads I rs (by simpa [noD] using n) rv;exact ⟨_,.tuple h1 h2 h4 (by simpa using ra)⟩
 | .dict kvs,v,u,hd,n,r=>by simp [noD] at n
theorem DmL.reads (I:Inv X pins σ H s):∀ {ds:List PyData} {vs:List V} {us:List Value},DmL X.K F H ds vs->fg ds=true->Vals vs us->∃ as,ReadsAll s.heap us ds as
 | [],vs,us,hd,_,r=>by
  have e:vs=[]:=hd;subst e;cases r;exact ⟨_,.nil⟩
 | d :: ds,vs,us,hd,n,r=>by
  obtain ⟨v,rr,e,h1,h2⟩:=hd;have n':noD d=true/\fg ds=true:=by simpa [fg] using n
  subst e;cases r with
  | cons r1 r2 =>
   obtain ⟨as,q1⟩:=Dm.reads I h1 n'.1 r1;obtain ⟨bs,q2⟩:=DmL.reads I h2 n'.2 r2;exact ⟨_,.cons q1 q2⟩
end
theorem Vw.reads (I:Inv X pins σ H s) {d:PyData} {v:V} {u:Value} (h:Vw X.K F H d v) (n:noD d=true) (r:RelV v u):∃ as,Reads s.heap u d as:=by
 cases d with
 | list ds =>
  obtain ⟨a,xs,rfl,l,z,rs⟩:=p0 h;cases (show u=Value.ref a from r);obtain ⟨its,rv,⟨o,k,h1,h2,h3,h4⟩,_⟩:=I.list l;obtain ⟨as,ra⟩:=DmL.reads I rs (by simpa [noD] using n) rv;exact ⟨_,.list h1 h2 h4 (by simpa using ra)⟩
 | dict ds=>simp [noD] at n
 | _=>exact Dm.reads (F:=F) I h n r
end
noncomputable def gr (d:PyData):Bool:=noD d&&decide (d.depth<=64)
def Gp (neg:Bool) (K:Fg):R2:=fun x y H Q=>∃ F d e,Vw K F H d x/\Vw K F H e y/\gr d=true/\gr e=true/\Q (.bl (if neg then !PyData.eqv d e else PyData.eqv d e)) H
noncomputable def eqD (neg:Bool) (d e:PyData):Option PR:=if gr d=true/\gr e=true then some (.dat (.bool (if neg then !PyData.eqv d e else PyData.eqv d e))) else none
noncomputable def C6 (neg:Bool):Prm:=Prm.two (Gp neg) (eqD neg) fun K F H x y u v pr Q hf hx hy hd q=>by
 unfold eqD at hf;split at hf
 ·rename_i h;cases hf;exact ⟨F,x,y,hx,hy,h.1,h.2,q _ H (bq.rf H) rfl⟩
 ·cases hf
noncomputable abbrev eqP:Prm:=C6 false
noncomputable abbrev neP:Prm:=C6 true
theorem gj {K:Fg} {F:Addr->Prop} {H:Hp} {d:PyData} {v:V} (h:Vw K F H d v) (o:gr d=true):SeqAt.shaped d=true:=by
 have o':noD d=true/\d.depth<=64:=by simpa [gr] using o
 simp [SeqAt.shaped,h.lay o'.1,o'.2]
theorem cb {X:Cx} (hu:X.A.units+64 < cLine):OpR X (compareOp .Eq) (fun x y=>eqP.r X.K [x,y]):=by
 intro pins s σ H x y v u Q I rx ry h;obtain ⟨F,d,e,h1,h2,o1,o2,hq⟩:=h;obtain ⟨as,r1⟩:=h1.reads I (by have:=o1;simp [gr] at this;exact this.1) rx;obtain ⟨bs,r2⟩:=h2.reads I (by have:=o2;simp [gr] at this;exact this.1) ry;exact SeqAt.compareEq_shaped r1 r2 (gj h1 o1) (gj h2 o2) hu ⟨.bl _,H,I,rfl,hq⟩
theorem gW {X:Cx} (hu:X.A.units+64 < cLine):OpR X (compareOp .NotEq) (fun x y=>neP.r X.K [x,y]):=by
 intro pins s σ H x y v u Q I rx ry h;obtain ⟨F,d,e,h1,h2,o1,o2,hq⟩:=h;obtain ⟨as,r1⟩:=h1.reads I (by have:=o1;simp [gr] at this;exact this.1) rx;obtain ⟨bs,r2⟩:=h2.reads I (by have:=o2;simp [gr] at this;exact this.1) ry;exact SeqAt.compareNe_shaped r1 r2 (gj h1 o1) (gj h2 o2) hu ⟨.bl _,H,I,rfl,hq⟩
noncomputable def nL:PyData->Bool | .none=>true | _=>false
theorem pG {K:Fg} {F:Addr->Prop} {H:Hp} {d:PyData} {v:V} (h:Vw K F H d v):decide (v=.non)=nL d:=by
 cases d with
 | none=>rw [CZ h];rfl
 | bool b=>rw [vBl h];rfl
 | int i=>rw [vInt h];rfl
 | str x=>rw [(vStr h).1];rfl
 | list ds=>obtain ⟨a,xs,rfl,_⟩:=p0 h;rfl
 | tuple ds=>obtain ⟨a,xs,rfl,_⟩:=uG h;rfl
 | dict ds=>obtain ⟨a,rfl,_⟩:=h;rfl
noncomputable def isP:Prm:=Prm.two (fun _=>F5) (fun x y=>match y with | .none=>some (.dat (.bool (nL x))) | _=>none) fun K F H x y u v pr Q hf hx hy hd q=>by
 split at hf
 ·cases hf;exact ⟨CZ hy,q _ H (bq.rf H) (by rw [pG hx];rfl)⟩
 ·cases hf
theorem zZ {X:Cx}:OpR X (compareOp .Is) (fun x y=>isP.r X.K [x,y]):=zi
noncomputable def lW:Prm:=Prm.two (fun _=>BF) (fun x y=>match y with | .none=>some (.dat (.bool (!nL x))) | _=>none) fun K F H x y u v pr Q hf hx hy hd q=>by
 split at hf
 ·cases hf;exact ⟨CZ hy,q _ H (bq.rf H) (by rw [pG hx];rfl)⟩
 ·cases hf
theorem lD {X:Cx}:OpR X (compareOp .IsNot) (fun x y=>lW.r X.K [x,y]):=vq
noncomputable def ixD:PyData->PyData->Option PR
 | .list xs,.int i=>(atI xs i).map .dat
 | .tuple xs,.int i=>(atI xs i).map .dat
 | .str x,.int i=>(atI x.cps.toList i).map fun c=>.dat (.str ⟨#[c]⟩)
 | _,_=>none
theorem wZ {K:Fg} {F:Addr->Prop} {H:Hp} {ds:List PyData} {xs:List V} {i:Int} {d:PyData} (h:DmL K F H ds xs) (e:atI ds i=some d):∃ v,atI xs i=some v/\Dm K F H d v:=by
 unfold atI at e ⊢;rw [h.len];cases q:ixN ds.length i with
 | none=>rw [q] at e;cases e
 | some j =>
  rw [q] at e;have e:ds[j]?=some d:=e;exact h.get e
theorem xx {α:Type} {xs:List α} {i:Int} {x:α} (e:atI xs i=some x):x∈xs:=by
 unfold atI at e;cases q:ixN xs.length i with
 | none=>rw [q] at e;cases e
 | some j=>rw [q] at e;exact HF (show xs[j]?=some x from e)
noncomputable def ixP:Prm:=Prm.two rIx ixD fun K F H x y u v pr Q hf hx hy hd q=>by
 unfold ixD at hf;split at hf
 ·obtain ⟨d,e,rfl⟩:=Hv.mp hf;obtain ⟨a,us,rfl,s1,z1,d1⟩:=p0 hx;rw [vInt hy];obtain ⟨v,ev,dv⟩:=wZ d1 e;exact .inl ⟨a,us,_,v,rfl,rfl,s1,ev,q _ H (bq.rf H) dv⟩
 ·obtain ⟨d,e,rfl⟩:=Hv.mp hf;obtain ⟨a,us,rfl,s1,z1,d1⟩:=uG hx;rw [vInt hy];obtain ⟨v,ev,dv⟩:=wZ d1 e;exact .inr (.inl ⟨a,us,_,v,rfl,rfl,s1,ev,q _ H (bq.rf H) dv⟩)
 ·rename_i x i;obtain ⟨c,e,rfl⟩:=Hv.mp hf;obtain ⟨rfl,l1,o1⟩:=vStr hx;rw [vInt hy];have hc:=gh o1 c (xx e);exact .inr (.inr ⟨_,_,c,rfl,rfl,l1,e,q _ H (bq.rf H) ⟨rfl,by show 1<=sizeLine;decide,by simp [PyData.strOk,hc]⟩⟩)
 ·cases hf
theorem ai {X:Cx}:IxR X (fun x y=>ixP.r X.K [x,y]):=Bf
noncomputable def cutD {α:Type} (xs:List α) (lo hi:Option Int):List α:=(xs.drop (HT.sIx xs.length 0 lo)).take (HT.sIx xs.length xs.length hi - HT.sIx xs.length 0 lo)
noncomputable def slD (lo hi:Option Int):PyData->Option PR
 | .list xs=>some (.frs (.list (cutD xs lo hi)))
 | .tuple xs=>if HT.sIx xs.length 0 lo=0/\HT.sIx xs.length xs.length hi=xs.length then none else some (.dat (.tuple (cutD xs lo hi)))
 | .str x=>some (.dat (.str (ly x lo hi)))
 | _=>none
def C3 (K:Fg) (lo hi:Option Int):V->Hp->VK->Prop:=fun x H Q=>fo mz (fo (mI K) (mr K)) x lo hi H Q
section
variable {K:Fg} {F:Addr->Prop} {H:Hp}
theorem DmL.drop:∀ {ds:List PyData} {xs:List V} (n:Nat),DmL K F H ds xs->DmL K F H (ds.drop n) (xs.drop n)
 | ds,xs,0,h=>h
 | [],xs,n+1,h=>by rw [show xs=[] from h];rfl
 | d :: ds,xs,n+1,h=>by obtain ⟨v,r,rfl,_,h2⟩:=h;exact DmL.drop n h2
theorem DmL.take:∀ {ds:List PyData} {xs:List V} (n:Nat),DmL K F H ds xs->DmL K F H (ds.take n) (xs.take n)
 | ds,xs,0,h=>by rw [List.take_zero,List.take_zero];rfl
 | [],xs,n+1,h=>by rw [show xs=[] from h];rfl
 | d :: ds,xs,n+1,h=>by obtain ⟨v,r,rfl,h1,h2⟩:=h;exact ⟨v,_,rfl,h1,DmL.take n h2⟩
theorem DmL.cut {ds:List PyData} {xs:List V} (lo hi:Option Int) (h:DmL K F H ds xs):DmL K F H (cutD ds lo hi) (uF xs lo hi):=by
 unfold cutD uF;rw [h.len];exact (h.drop _).take _
theorem pO (xs:List V) (lo hi:Option Int):(uF xs lo hi).length<=xs.length:=by
 unfold uF;rw [HW,Ik];omega
theorem sO {x:Str} (lo hi:Option Int) (h:PyData.strOk x=true):PyData.strOk (ly x lo hi)=true:=by
 have hm:=gh h;unfold PyData.strOk ly;rw [Array.all_eq_true'];intro c hc;have:c∈(x.cps.toList.drop (HT.sIx x.length 0 lo)).take (HT.sIx x.length x.length hi - HT.sIx x.length 0 lo):=by simpa using hc
 have:=hm c (List.mem_of_mem_drop (Jh this));simpa using this
theorem zq {lo hi:Option Int} {x:PyData} {u:V} {pr:PR} {Q:VK} (hf:slD lo hi x=some pr) (hx:Vw K F H x u) (q:∀ w H',bq H H'->wH K F H H' pr w->Q w H'):C3 K lo hi u H Q:=by
 unfold slD at hf;split at hf
 ·cases hf;obtain ⟨a,us,rfl,s1,z1,d1⟩:=p0 hx;exact .inr (.inl ⟨a,us,rfl,s1,fun p hp=>q _ _ (bq.nw _ hp) (zD hp (HA (pO _ _ _) z1) (d1.cut lo hi))⟩)
 ·split at hf
  ·cases hf
  rename_i hn;cases hf;obtain ⟨a,us,rfl,s1,z1,d1⟩:=uG hx;exact .inr (.inr ⟨a,us,rfl,s1,by rw [d1.len];exact hn,fun p hp=>q _ _ (bq.nw _ hp) (Ep hp (HA (pO _ _ _) z1) (d1.cut lo hi))⟩)
 ·cases hf;obtain ⟨rfl,l1,o1⟩:=vStr hx;exact .inl ⟨_,rfl,l1,q _ H (bq.rf H) ⟨rfl,HA (cN _ _ _) l1,sO lo hi o1⟩⟩
 ·cases hf
end
noncomputable def yG:Prm:=Prm.two (fun K x y H Q=>∃ i,y=.int i/\C3 K (some i) none x H Q) (fun x y=>match y with | .int i=>slD (some i) none x | _=>none) fun K F H x y u v pr Q hf hx hy hd q=>by
 split at hf
 ·exact ⟨_,vInt hy,zq hf hx q⟩
 ·cases hf
noncomputable def uY:Prm:=Prm.two (fun K x y H Q=>∃ i,y=.int i/\C3 K none (some i) x H Q) (fun x y=>match y with | .int i=>slD none (some i) x | _=>none) fun K F H x y u v pr Q hf hx hy hd q=>by
 split at hf
 ·exact ⟨_,vInt hy,zq hf hx q⟩
 ·cases hf
noncomputable def G4 (i j:Int):Prm:=Prm.one (fun K=>C3 K (some i) (some j)) (slD (some i) (some j)) fun K F H x u pr Q hf hx hd q=>zq hf hx q
noncomputable def F6:PyData->Option PR
 | .str x=>some (.dat (.int x.length))
 | .list xs=>some (.dat (.int xs.length))
 | .tuple xs=>some (.dat (.int xs.length))
 | _=>none
noncomputable def gE:Prm:=Prm.one (fun K x=>BH K [x]) F6 fun K F H x u pr Q hf hx hd q=>by
 unfold F6 at hf;split at hf
 ·cases hf;obtain ⟨rfl,l1,o1⟩:=vStr hx;exact B3 l1 (q _ H (bq.rf H) rfl)
 ·cases hf;obtain ⟨a,us,rfl,s1,z1,d1⟩:=p0 hx;exact AJ s1 (q _ H (bq.rf H) (by rw [d1.len];rfl))
 ·cases hf;obtain ⟨a,us,rfl,s1,z1,d1⟩:=uG hx;exact Cq s1 (q _ H (bq.rf H) (by rw [d1.len];rfl))
 ·cases hf
theorem mw {X:Cx} {f:Value} {r:List V->Hp->VK->Prop} {r':V->Hp->VK->Prop} (h:bN X f r) (e:∀ x H Q,r' x H Q->r [x] H Q):bN X f (fun vs H Q=>match vs with | [u]=>r' u H Q | _=>False):=by
 intro pins s σ H xs us Q I rv q
 match xs,q with
 | [x],q=>exact h pins s σ H [x] us Q I rv (e x H Q q)
theorem cf {X:Cx}:bN X (.builtin "len") (gE.r X.K):=mw q0 fun _ _ _ h=>h
noncomputable def x4:Prm:=Prm.one (fun _ x=>DF [x]) (fun x=>match x with | .int i=>some (.dat (.int (if i < 0 then -i else i))) | _=>none) fun K F H x u pr Q hf hx hd q=>by
 split at hf
 ·cases hf;rw [vInt hx];exact Ea (q _ H (bq.rf H) rfl)
 ·cases hf
theorem oE {X:Cx}:bN X (.builtin "abs") (x4.r X.K):=mw sg fun _ _ _ h=>h
noncomputable def D2:Prm:=Prm.two (fun _ x y=>Bh [x,y]) (wD (fun _ _=>true) fun i j=>.int (if j < i then j else i)) fun K F H x y u v pr Q hf hx hy hd q=>by
 unfold wD at hf;split at hf
 ·rw [Hy rfl] at hf;cases hf;rw [vInt hx,vInt hy];exact ⟨_,_,rfl,q _ H (bq.rf H) rfl⟩
 ·cases hf
theorem Cz {X:Cx} {f:Value} {r:List V->Hp->VK->Prop} {r':R2} (h:bN X f r) (e:∀ x y H Q,r' x y H Q->r [x,y] H Q):bN X f (fun vs H Q=>match vs with | [u,v]=>r' u v H Q | _=>False):=by
 intro pins s σ H xs us Q I rv q
 match xs,q with
 | [x,y],q=>exact h pins s σ H [x,y] us Q I rv (e x y H Q q)
theorem yw {X:Cx} (hc:X.calm=true):bN X (.builtin "min") (D2.r X.K):=Cz (qO hc) fun _ _ _ _ h=>h
noncomputable def chars (x:Str):List PyData:=x.cps.toList.map fun c=>.str ⟨#[c]⟩
noncomputable def gb (x:Str):List V:=x.cps.toList.map fun c=>.str ⟨#[c]⟩
def Ab (K:Fg):V->Hp->VK->Prop:=fun x H Q=>BV K [x] H Q\/∃ z,x=.str z/\z.length<=sizeLine/\∀ p,H p=none->Q (.ref p) (upd H p (.lst (gb z)))
noncomputable def Af:PyData->Option PR
 | .list xs=>some (.frs (.list xs))
 | .tuple xs=>some (.frs (.list xs))
 | .str x=>some (.frs (.list (chars x)))
 | _=>none
noncomputable def qZ:Prm:=Prm.one Ab Af fun K F H x u pr Q hf hx hd q=>by
 unfold Af at hf;split at hf
 ·cases hf;obtain ⟨a,us,rfl,s1,z1,d1⟩:=p0 hx;exact .inl ⟨a,us,rfl,.inl s1,fun p hp=>q _ _ (bq.nw _ hp) (zD hp z1 d1)⟩
 ·cases hf;obtain ⟨a,us,rfl,s1,z1,d1⟩:=uG hx;exact .inl ⟨a,us,rfl,.inr s1,fun p hp=>q _ _ (bq.nw _ hp) (zD hp z1 d1)⟩
 ·cases hf;obtain ⟨rfl,l1,o1⟩:=vStr hx;refine .inr ⟨_,rfl,l1,fun p hp=>q _ _ (bq.nw _ hp) (zD hp ?_ (zy (gh o1)))⟩;rw [show (gb _).length=_ from Hf _];simpa [Str.length] using l1
 ·cases hf
theorem o8:∀ {xs:List V} {us:List Value},xs.length=us.length->(∀ (i:Nat) (x:V) (u:Value),xs[i]?=some x->us[i]?=some u->RelV x u)->Vals xs us
 | [],[],_,_=>.nil
 | [],_ :: _,h,_=>by cases h
 | _ :: _,[],h,_=>by cases h
 | x :: xs,u :: us,h,q=>.cons (q 0 x u rfl rfl) (o8 (by simpa using h) fun i y w h1 h2=>q (i+1) y w (by simpa using h1) (by simpa using h2))
theorem qR {z:Str} {acc:Array Value} (h:ItemsOf (SignAt z) acc z.cps.size):Vals (gb z) acc.toList:=by
 refine o8 ?_ fun i x u h1 h2=>?_
 ·rw [show (gb z).length=_ from Hf _];simp [h.1]
 ·obtain ⟨c,t,hc,rfl⟩:=h.2 i u (by simpa using h2);unfold gb at h1;rw [Hl] at h1;have:z.cps.toList[i]?=some c:=by rw [<- hc];simp
  rw [this] at h1;cases h1;exact ⟨t,rfl⟩
theorem mD {X:Cx} (hc:X.calm=true):bN X (.type "list") (fun xs H Q=>∃ z,xs=[.str z]/\z.length<=sizeLine/\∀ p,H p=none->Q (.ref p) (upd H p (.lst (gb z)))):=by
 intro pins s σ H xs us Q I r h;obtain ⟨z,rfl,hl,q⟩:=h;obtain ⟨u,rfl,r1⟩:=vals1 r;obtain ⟨t,rfl⟩:=r1;have hz:(gb z).length<=sizeLine:=by rw [show (gb z).length=_ from Hf _];simpa [Str.length] using hl
 refine call_list_str (I.ok.hd hc) z t (fun h' tk acc' c' hk hS hacc=>?_) hl;refine ⟨.ref s.heap.objs.size,_,I.laid (t':=tk) hk (Hu _) (show bY X.prog X.w _ h' _ (.lst (gb z)) from ⟨hz,acc'.toList,c',?_,by rw [Jj];exact hS⟩),rfl,q _ (I.hok.fresh (Hu _))⟩;exact qR hacc
theorem uS {X:Cx} {f:Value} {r r':List V->Hp->VK->Prop} (h:bN X f r) (h':bN X f r'):bN X f (fun xs H Q=>r xs H Q\/r' xs H Q):=by
 intro pins s σ H xs us Q I rv q;rcases q with q | q
 ·exact h pins s σ H xs us Q I rv q
 ·exact h' pins s σ H xs us Q I rv q
theorem o9 {X:Cx} (hc:X.calm=true):bN X (.type "list") (qZ.r X.K):=mw (uS qK (mD hc)) fun x H Q h=>h.imp id fun ⟨z,e,r⟩=>⟨z,by rw [e],r⟩
noncomputable def v5:PyData->Option PR
 | .list xs=>some (.dat (.tuple xs))
 | .tuple xs=>some (.dat (.tuple xs))
 | _=>none
noncomputable def aP:Prm:=Prm.one (fun K x=>wk K [x]) v5 fun K F H x u pr Q hf hx hd q=>by
 unfold v5 at hf;split at hf
 ·cases hf;obtain ⟨a,us,rfl,s1,z1,d1⟩:=p0 hx;exact ⟨a,us,rfl,.inl ⟨s1,fun p hp=>q _ _ (bq.nw _ hp) (Ep hp z1 d1)⟩⟩
 ·cases hf;obtain ⟨a,us,rfl,s1,z1,d1⟩:=uG hx;exact ⟨a,us,rfl,.inr ⟨s1,q _ H (bq.rf H) ⟨a,us,rfl,s1,z1,d1⟩⟩⟩
 ·cases hf
theorem aR {X:Cx}:bN X (.type "tuple") (aP.r X.K):=mw m6 fun _ _ _ h=>h
theorem af (s:String):PyData.strOk (Str.ofString s)=true:=by
 rw [Str.ofString_eq_toList];unfold PyData.strOk;rw [Array.all_eq_true'];intro c hc;have:c∈s.toList.map Char.toNat:=by simpa using hc
 obtain ⟨ch,_,rfl⟩:=HM.mp this;have:=ch.valid;simp only [Ju];rcases this with h | ⟨_,h⟩
 ·show ch.val.toNat < _;have:ch.val.toNat < 0xD800:=h;omega
 ·exact h
theorem uy {K:Fg} {F:Addr->Prop} {H:Hp} {k:PyData}:∀ {ds:List (PyData×PyData)} {xs:List (PyData×V×V)},DmP K F H ds xs->(∀ d,getD ds k=some d->∃ v,tU xs k=some v/\Dm K F H d v)/\(getD ds k=none->tU xs k=none)
 | [],xs,h=>by
  rw [show xs=[] from h];exact ⟨fun d e=>(nomatch e),fun _=>rfl⟩
 | (k',d') :: ds,xs,h=>by
  obtain ⟨j,v,r,rfl,e,_,h1,h2⟩:=h;have ih:=uy (k:=k) h2;unfold getD tU at ih ⊢;rw [List.find?_cons,List.find?_cons];cases PyData.eqv k' k with
  | true=>exact ⟨fun d e=>(by cases e;exact ⟨v,rfl,h1⟩),fun e=>(nomatch e)⟩
  | false=>exact ih
mutual
theorem m3:∀ (d:PyData),hkB d=true->noD d=true
 | .int _,_=>rfl
 | .str _,_=>rfl
 | .tuple ds,h=>by rw [noD];exact r9 ds h
 | .none,h=>by cases h
 | .bool _,h=>by cases h
 | .list _,h=>by cases h
 | .dict _,h=>by cases h
theorem r9:∀ (ds:List PyData),uH ds=true->fg ds=true
 | [],_=>rfl
 | d :: ds,h=>by
  simp only [uH,HK] at h;rw [fg,m3 d h.1,r9 ds h.2];rfl
end
theorem kI {d:PyData}:hk6 d=true↔hkB d=true/\d.depth<=6:=by simp [hk6]
theorem zB {K:Fg} {F:Addr->Prop} {H:Hp} {d:PyData} {v:V} (h:Vw K F H d v) (hk:hk6 d=true):kyB d=true:=by
 rw [kI] at hk;exact bc.mpr ⟨hk.1,h.lay (m3 d hk.1),hk.2⟩
theorem xE {X:Cx} {pins:List (Addr×Obj)} {σ:St} {s:Shared} {F:Addr->Prop} {H:Hp} (I:Inv X pins σ H s):∀ {ds:List (PyData×PyData)} {xs:List (PyData×V×V)},DmP X.K F H ds xs->km s.heap xs
 | [],xs,h=>by rw [show xs=[] from h];intro x hx;cases hx
 | (k,d) :: ds,xs,h=>by
  obtain ⟨j,v,r,rfl,hk,h0,_,h2⟩:=h;intro x hx;rcases Hs.mp hx with rfl | hx
  ·exact ⟨zB h0.vw hk,fun u ru=>h0.reads I (m3 _ (kI.mp hk).1) ru⟩
  ·exact xE I h2 x hx
def FJ (K:Fg) (H:Hp) (x y:V) (k:PyData) (a:Addr) (ep:Nat) (xs:List (PyData×V×V)):Prop:=∃ (F:Addr->Prop) (kvs:List (PyData×PyData)),x=.ref a/\H a=some (.dD ep xs)/\DmP K F H kvs xs/\Vw K F H k y/\hk6 k=true
noncomputable def AN:PyData->PyData->Option PR
 | .dict kvs,k=>if hk6 k=true then (getD kvs k).map .dat else none
 | _,_=>none
def B0 (K:Fg):R2:=fun x y H Q=>∃ k a ep xs v,FJ K H x y k a ep xs/\tU xs k=some v/\Q v H
noncomputable def i3:Prm:=Prm.two B0 AN fun K F H x y u v pr Q hf hx hy hd q=>by
 unfold AN at hf;split at hf
 ·split at hf
  ·rename_i kvs _ hk;obtain ⟨d,e,rfl⟩:=Hv.mp hf;obtain ⟨a,rfl,ep,xs,ea,_,r⟩:=hx;obtain ⟨w,ew,dw⟩:=(uy r).1 d e;exact ⟨_,a,ep,xs,w,⟨F,_,rfl,ea,r,hy,hk⟩,ew,q _ H (bq.rf H) dw⟩
  ·cases hf
 ·cases hf
def Ec (neg:Bool) (K:Fg):R2:=fun y x H Q=>∃ k a ep xs,FJ K H x y k a ep xs/\Q (.bl (if neg then !(tU xs k).isSome else (tU xs k).isSome)) H
noncomputable def Hd (neg:Bool):Prm:=Prm.two (Ec neg) (fun k d=>match d with
  | .dict kvs=>if hk6 k=true then some (.dat (.bool (if neg then !(getD kvs k).isSome else (getD kvs k).isSome))) else none
  | _=>none) fun K F H y x v u pr Q hf hy hx hd q=>by
 split at hf
 ·rename_i kvs;split at hf
  ·rename_i hk;cases hf;obtain ⟨a,rfl,ep,xs,ea,_,r⟩:=hx;have g:=uy (k:=y) r;refine ⟨_,a,ep,xs,⟨F,kvs,rfl,ea,r,hy,hk⟩,q _ H (bq.rf H) ?_⟩;have e:(tU xs y).isSome=(getD kvs y).isSome:=by
    cases z:getD kvs y with
    | none=>rw [g.2 z];rfl
    | some d=>obtain ⟨w,ew,_⟩:=g.1 d z;rw [ew];rfl
   rw [e];cases neg <;> rfl
  ·cases hf
 ·cases hf
section
variable {X:Cx} {a b o i e value:Expr} {pos pos':Pos} {ta tb td ty tv:TE}
theorem ui (hu:X.A.units+64 < cLine) (ho:JE X a ta) (hi:JE X b tb) (hs:F9 b):JE X (.Subscript a b pos) (tOp (fun x y=>i3.r X.K [x,y]) ta tb):=⟨by
 intro pins s σ H Q I h;refine zA PySem.F.slot_dict_getitem.lookup hs (thn (ho.h pins s σ H _ I h) fun u s1 ⟨x,H1,I1,rx,q1⟩=>thn (hi.h pins s1 σ H1 _ I1 q1) fun iv s2 ⟨y,H2,I2,ry,k,p,ep,xs,v,⟨F,kvs,ex,ea,r,hk,hk6'⟩,gv,q2⟩=>?_);subst ex;obtain rfl:u=Value.ref p:=rx;obtain ⟨as,rk⟩:=hk.reads I2 (m3 _ (kI.mp hk6').1) ry
 exact ⟨(m7 I2 ea).1,Bl (by omega) I2 ea (xE I2 r) rk (zB hk hk6') gv fun t w' rw'=>⟨v,H2,I2.tok t,rw',q2⟩⟩⟩
theorem AM {keys:List (Option Expr)} {values:List Expr} {trs:List (TE×TE)} (h:JP X pos keys values trs) (hall:keys.all (·.isSome)=true) (hl:keys.length=values.length) (h0:keys≠[]) (h15:keys.length<=15):JE X (.Dict keys values pos) (pM trs):=⟨uN h.h hall hl h0 h15⟩
end
theorem wo {K:Fg} {F:Addr->Prop} {H:Hp}:∀ {ds:List (PyData×PyData)} {xs:List (PyData×V×V)},DmP K F H ds xs->xs.length=ds.length
 | [],xs,h=>by rw [show xs=[] from h];rfl
 | (k,d) :: ds,xs,h=>by obtain ⟨j,v,r,rfl,_,_,_,h2⟩:=h;rw [HD,HD,wo h2]
theorem Ed {K:Fg} {F:Addr->Prop} {H:Hp} {d:PyData} {v:V} (h:Vw K F H d v) (hk:hk6 d=true):Dm K F H d v:=by
 cases d with
 | list ds=>cases hk
 | dict ds=>cases hk
 | _=>exact h
noncomputable def vW:vC where
 r:=fun K o y x H Q=>∃ k a ep xs,FJ K H o y k a ep xs/\xs.length < sizeLine/\∀ ep',Q (upd H a (.dD ep' (pL xs k y x)))
 f:=fun d k x=>match d with
  | .dict kvs=>if hk6 k=true/\kvs.length < sizeLine then some (.dict (putD kvs k x)) else none
  | _=>none
 ok:=fun K F H d a k x vk vx d' Q hf ha ht hk hx q=>by
  split at hf
  ·split at hf
   ·rename_i kvs h;cases hf;obtain ⟨ep,xs,ea,z,r⟩:=ht;have hlen:xs.length < sizeLine:=by rw [wo r];exact h.2
    refine ⟨k,a,ep,xs,⟨F,kvs,rfl,ea,r,hk,h.1⟩,hlen,fun ep'=>q _ (fun b o n e=>by rw [aC n];exact e) ?_⟩;have p:Pr F H (upd H a (.dD ep' (pL xs k vk vx))):=fun b o e n=>by
     by_cases y:b=a
     ·subst y;rcases n with n | n
      ·exact absurd ha n
      ·rw [ea] at e;cases e;cases n
     ·rw [aC y];exact e
    exact ⟨_,_,ay,by have:=pq (xs:=xs) (k:=k) (j:=vk) (v:=vx);omega,(wU r h.1 (Ed hk h.1) hx).pr p fun _ z=>z⟩
   ·cases hf
  ·cases hf
def u6 (K:Fg) (td ty tv:TE):TS:=fun D σ H=>tv σ H fun v H1=>td σ H1 fun x H2=>ty σ H2 fun y H3=>vW.r K x y v H3 (D.nx σ)
theorem yu {X:Cx} {o i value:Expr} {pos pos':Pos} {td ty tv:TE} (hu:X.A.units+64 < cLine) (ho:JE X o td) (hi:JE X i ty) (hv:JE X value tv) (hs:swapsWith value (some (.Subscript o i pos')) pos.line X.env=pure false) :
  JS X (.Assign [.Subscript o i pos'] value pos) (u6 X.K td ty tv):=⟨by
 intro pins s σ H D I h;refine wpAny_Assign_Subscript (thn (hv.h pins s σ H _ I h) fun r s1 ⟨v,H1,I1,rv,q1⟩=>thn (ho.h pins s1 σ H1 _ I1 q1) fun u s2 ⟨x,H2,I2,rx,q2⟩=>thn (hi.h pins s2 σ H2 _ I2 q2) fun iv s3 ⟨y,H3,I3,ry,k,p,ep,xs,⟨F,kvs,ex,ea,r,hk,hk6'⟩,hl,q3⟩=>?_) hs;subst ex;obtain rfl:u=Value.ref p:=rx;obtain ⟨as,rk⟩:=hk.reads I3 (m3 _ (kI.mp hk6').1) ry
 exact DX (by omega) I3 ea (xE I3 r) rk (zB hk hk6') ry rv hl fun ep' s4 I4=>⟨σ,_,I4,q3 ep'⟩⟩
theorem xr {F:Addr->Prop} {H:Hp} {a:Addr} {o o':HO} (ha:F a) (e:H a=some o') (w:Wr o'=true):Pr F H (upd H a o):=fun b u q n=>by
 by_cases y:b=a
 ·subst y;rcases n with n | n
  ·exact absurd ha n
  ·rw [e] at q;cases q;rw [n] at w;cases w
 ·rw [aC y];exact q
theorem DmL.set {K:Fg} {F:Addr->Prop} {H:Hp}:∀ {ds:List PyData} {xs:List V} {d:PyData} {v:V} (j:Nat),DmL K F H ds xs->Dm K F H d v->DmL K F H (ds.set j d) (xs.set j v)
 | [],xs,d,v,j,h,q=>by rw [show xs=[] from h];rfl
 | e :: ds,xs,d,v,0,h,q=>by obtain ⟨w,r,rfl,_,h2⟩:=h;exact ⟨v,r,rfl,q,h2⟩
 | e :: ds,xs,d,v,j+1,h,q=>by obtain ⟨w,r,rfl,h1,h2⟩:=h;exact ⟨w,_,rfl,h1,DmL.set j h2 q⟩
noncomputable def uC:vC where
 r:=fun _ o i x H Q=>tS o i x H Q
 f:=fun d k x=>match d,k with
  | .list xs,.int i=>(ixN xs.length i).map fun j=>.list (xs.set j x)
  | _,_=>none
 ok:=fun K F H d a k x vk vx d' Q hf ha ht hk hx q=>by
  split at hf
  ·obtain ⟨j,e,rfl⟩:=Hv.mp hf;obtain ⟨xs,ea,z,r⟩:=ht;rw [vInt hk];refine ⟨a,xs,_,j,rfl,rfl,ea,by rw [r.len];exact e,q _ (fun b o n e=>by rw [aC n];exact e) ⟨_,ay,by rw [HI];exact z,(r.set j hx).pr (xr ha ea rfl) fun _ z=>z⟩⟩
  ·cases hf
theorem Cn {K:Fg} {F:Addr->Prop} {H:Hp} {d:PyData} {a:Addr} (h:isL d=true) (t:Top K F H d a):tyV K "list" (.ref a) H:=by
 cases d with
 | list ds=>obtain ⟨xs,e,_⟩:=t;exact .inl ⟨rfl,xs,.inl (.inl e)⟩
 | _=>cases h
noncomputable def mS:Mtr where
 T := "list"
 r:=fun _=>ux
 ty:=isL
 f:=fun d as=>match d,as with
  | .list xs,[(true,x)]=>if xs.length < sizeLine then some (.list (xs++[x]),.none) else none
  | _,_=>none
 Cu:=fun K F H d a h t=>Cn h t
 ok:=fun K F H d a as vs d' x Q hf ha ht hv q=>by
  split at hf
  ·split at hf
   ·rename_i hl;cases hf;obtain ⟨v,r,rfl,hv,rfl⟩:=hv;obtain ⟨xs,ea,z,rx⟩:=ht;refine ⟨a,xs,v,rfl,rfl,ea,by rw [rx.len];exact hl,q _ _ (fun b o n e=>by rw [aC n];exact e) ⟨_,ay,by rw [Ho,rx.len];simp;omega,(rx.snoc hv).pr (xr ha ea rfl) fun _ z=>z⟩ rfl⟩
   ·cases hf
  ·cases hf
noncomputable def strsOf:List PyData->Option (List Str)
 | []=>some []
 | .str x :: r=>match strsOf r with | some xs=>some (x :: xs) | none=>none
 | _ :: _=>none
theorem ua {K:Fg} {F:Addr->Prop} {H:Hp}:∀ {ds:List PyData} {xs:List V} {ss:List Str},strsOf ds=some ss->DmL K F H ds xs->xs=ss.map V.str/\∀ s∈ss,PyData.strOk s=true
 | [],xs,bs,h,q=>by cases h;exact ⟨q,fun s z=>by cases z⟩
 | .str b :: r,xs,bs,h,q=>by
  unfold strsOf at h;split at h
  ·rename_i bs' h';cases h;obtain ⟨v,vr,rfl,h1,h2⟩:=q;obtain ⟨i1,i2⟩:=ua h' h2;refine ⟨by rw [i1,show v=.str b from h1.1];rfl,fun s z=>?_⟩;rcases Hs.mp z with rfl | z
   ·exact h1.2.2
   ·exact i2 s z
  ·cases h
 | .none :: r,xs,bs,h,q=>by cases h
 | .int _ :: r,xs,bs,h,q=>by cases h
 | .bool _ :: r,xs,bs,h,q=>by cases h
 | .list _ :: r,xs,bs,h,q=>by cases h
 | .tuple _ :: r,xs,bs,h,q=>by cases h
 | .dict _ :: r,xs,bs,h,q=>by cases h
theorem ty_str {K:Fg} {F:Addr->Prop} {H:Hp} {d:PyData} {v:V} (h:isS d=true) (t:Vw K F H d v):tyV K "str" v H:=by
 cases d with
 | str x=>rw [(vStr t).1];rfl
 | _=>cases h
theorem wN {K:Fg} {F:Addr->Prop} {H:Hp}:∀ {ns:List Int},DmL K F H (ns.map .int) (ns.map .int)
 | []=>rfl
 | n :: ns=>⟨_,_,rfl,rfl,wN⟩
theorem AE {f:Fn} {K:Fg} {H:Hp} {a:Addr} {ns:List Int} (hm:f.ms=[.dat]) (hl:ns.length<=63) (hS:SqL K H a (ns.map V.int)) (hF:f.F [.list (ns.map .int)]=some (.dat (.bool true),[])):fP f K [.ref a] H (fun v _=>v=.bl true) fun _ _ _=>False:=by
 refine ⟨fun _=>False,[.list (ns.map .int)],[],.dat (.bool true),[],hF,?_,fun _ h=>absurd h id,fun v' H' _ r=>r.1⟩;rw [hm];refine ⟨⟨a,ns.map .int,rfl,?_,?_,wN⟩,rfl⟩
 ·rcases hS with hS | hS
  ·exact .inl ⟨id,hS⟩
  ·exact .inr hS
 ·rw [Hf];exact HA hl (by decide)
open PySem PySem.Spec PyProof.Rows
section
variable {X:Cx} {pos:Pos} {s:Stmt}
theorem wX:JS X s oW:=⟨fun _ _ _ _ _ _ h=>absurd h id⟩
end
open PySem PySem.Spec PyProof.Rows
noncomputable def wa (d:PyData):Bool:=noD d&&decide (d.depth<=32)
noncomputable def mQ (ds:List PyData) (x:PyData):Bool:=ds.any fun d=>PyData.eqv d x
noncomputable def ngB (neg b:Bool):Bool:=if neg then !b else b
def GI (neg:Bool) (K:Fg):R2:=rOr (fun x y H Q=>∃ i j,x=.str i/\y=.str j/\Q (.bl (ngB neg (!(Builtin.Str.occurrences j i 0 j.length 1).isEmpty))) H)
 fun x y H Q=>∃ (p:Addr) (xs:List V) (F:Addr->Prop) (d:PyData) (ds:List PyData),y=.ref p/\(SqL K H p xs\/SqT K H p xs)/\Vw K F H d x/\DmL K F H ds xs/\wa d=true/\fg ds=true/\Q (.bl (ngB neg (mQ ds d))) H
noncomputable def inD (neg:Bool):PyData->PyData->Option PR
 | .str i,.str j=>some (.dat (.bool (ngB neg (!(Builtin.Str.occurrences j i 0 j.length 1).isEmpty))))
 | x,.list ds=>if wa x=true/\fg ds=true then some (.dat (.bool (ngB neg (mQ ds x)))) else none
 | x,.tuple ds=>if wa x=true/\fg ds=true then some (.dat (.bool (ngB neg (mQ ds x)))) else none
 | _,_=>none
noncomputable def FO (neg:Bool):Prm:=Prm.two (GI neg) (inD neg) fun K F H x y u v pr Q hf hx hy hd q=>by
 unfold inD at hf;split at hf
 ·cases hf;exact .inl ⟨_,_,(vStr hx).1,(vStr hy).1,q _ H (bq.rf H) rfl⟩
 ·split at hf
  ·rename_i h;cases hf;obtain ⟨a,us,rfl,s1,z1,d1⟩:=p0 hy;exact .inr ⟨a,us,F,_,_,rfl,.inl s1,hx,d1,h.1,h.2,q _ H (bq.rf H) rfl⟩
  ·cases hf
 ·split at hf
  ·rename_i h;cases hf;obtain ⟨a,us,rfl,s1,z1,d1⟩:=uG hy;exact .inr ⟨a,us,F,_,_,rfl,.inr s1,hx,d1,h.1,h.2,q _ H (bq.rf H) rfl⟩
  ·cases hf
 ·cases hf
noncomputable abbrev inP:Prm:=FO false
noncomputable abbrev pV:Prm:=FO true
open Classical in
noncomputable def eqR (h:Heap) (x:PyData) (u:Value):Bool:=if q:∃ d as,Reads h u d as then PyData.eqv (Classical.choose q) x else false
theorem xq {h:Heap} {x d:PyData} {u:Value} {as:List Addr} (r:Reads h u d as):eqR h x u=PyData.eqv d x:=by
 have q:∃ d as,Reads h u d as:=⟨d,as,r⟩;unfold eqR;rw [dif_pos q];obtain ⟨bs,r2⟩:=Classical.choose_spec q;rw [(PySem.Reads.unique r _ _ r2).1]
section
variable {X:Cx} {pins:List (Addr×Obj)} {σ:St} {s:Shared} {H:Hp} {F:Addr->Prop}
theorem iW (I:Inv X pins σ H s) (x:PyData):∀ {ds:List PyData} {xs:List V} {us:List Value},DmL X.K F H ds xs->fg ds=true->Vals xs us->us.any (eqR s.heap x)=mQ ds x
 | [],xs,us,h,_,r=>by rw [show xs=[] from h] at r;cases r;rfl
 | d :: ds,xs,us,h,n,r=>by
  obtain ⟨v,t,rfl,h1,h2⟩:=h;have n':noD d=true/\fg ds=true:=by simpa [fg] using n
  cases r with
  | cons r1 r2 =>
   obtain ⟨as,ra⟩:=h1.reads I n'.1 r1;rw [Jw,xq ra,iW I x h2 n'.2 r2];rfl
theorem iM (I:Inv X pins σ H s) {A:Around} {x:PyData} {b:Value} {bs:List Addr} (rb:Reads s.heap b x bs) (hb:x.canLay0=true) (hu:A.units+x.depth < cLine):∀ {ds:List PyData} {xs:List V} {us:List Value},DmL X.K F H ds xs->fg ds=true->Vals xs us->∀ u∈us,SeqAt.EqAt A s u b (eqR s.heap x u)
 | [],xs,us,h,_,r=>by rw [show xs=[] from h] at r;cases r;intro u hu;cases hu
 | d :: ds,xs,us,h,n,r=>by
  obtain ⟨v,t,rfl,h1,h2⟩:=h;have n':noD d=true/\fg ds=true:=by simpa [fg] using n
  cases r with
  | cons r1 r2 =>
   intro u hm;rcases Hs.mp hm with rfl | hm
   ·obtain ⟨as,ra⟩:=h1.reads I n'.1 r1;rw [xq ra];exact SeqAt.eqAt_reads d x A s _ b as bs ra rb (h1.lay n'.1) hb (by omega)
   ·exact iM I rb hb hu h2 n'.2 r2 u hm
end
theorem wB {X:Cx} (hu:X.A.units+64 < cLine):OpR X (compareOp .In) (fun x y=>inP.r X.K [x,y]):=by
 refine orR Bj ?_;intro pins s σ H x y v u Q I rx ry h;obtain ⟨p,xs,F,d,ds,rfl,hq,hd,hs,o1,o2,q⟩:=h;have o1':noD d=true/\d.depth<=32:=by simpa [wa] using o1
 cases ry;obtain ⟨bs,rb⟩:=hd.reads I o1'.1 rx;rcases hq with hq | hq
 ·obtain ⟨its,r,pl,hz⟩:=I.list hq;refine SeqAt.in_listAt (eqR s.heap d) pl.isList (fun w hw=>iM I rb (hd.lay o1'.1) (by have:X.A.in1.units=X.A.units+1:=rfl;omega) hs o2 r w (by simpa using hw)) ⟨.bl _,H,I,rfl,?_⟩;rw [show its.toArray.any (eqR s.heap d)=its.any (eqR s.heap d) by simp,iW I d hs o2 r];exact q
 ·obtain ⟨its,r,pl,hz⟩:=I.tuple hq;refine SeqAt.in_tupleAt (eqR s.heap d) pl (fun w hw=>iM I rb (hd.lay o1'.1) (by have:X.A.in1.units=X.A.units+1:=rfl;omega) hs o2 r w (by simpa using hw)) ⟨.bl _,H,I,rfl,?_⟩;rw [show its.toArray.any (eqR s.heap d)=its.any (eqR s.heap d) by simp,iW I d hs o2 r];exact q
theorem uk {X:Cx} (hu:X.A.units+64 < cLine):OpR X (compareOp .NotIn) (fun x y=>pV.r X.K [x,y]):=by
 refine orR sM ?_;intro pins s σ H x y v u Q I rx ry h;obtain ⟨p,xs,F,d,ds,rfl,hq,hd,hs,o1,o2,q⟩:=h;have o1':noD d=true/\d.depth<=32:=by simpa [wa] using o1
 cases ry;obtain ⟨bs,rb⟩:=hd.reads I o1'.1 rx;rcases hq with hq | hq
 ·obtain ⟨its,r,pl,hz⟩:=I.list hq;refine SeqAt.notIn_listAt (eqR s.heap d) pl.isList (fun w hw=>iM I rb (hd.lay o1'.1) (by have:X.A.in1.units=X.A.units+1:=rfl;omega) hs o2 r w (by simpa using hw)) ⟨.bl _,H,I,rfl,?_⟩;rw [show its.toArray.any (eqR s.heap d)=its.any (eqR s.heap d) by simp,iW I d hs o2 r];exact q
 ·obtain ⟨its,r,pl,hz⟩:=I.tuple hq;refine SeqAt.notIn_tupleAt (eqR s.heap d) pl (fun w hw=>iM I rb (hd.lay o1'.1) (by have:X.A.in1.units=X.A.units+1:=rfl;omega) hs o2 r w (by simpa using hw)) ⟨.bl _,H,I,rfl,?_⟩;rw [show its.toArray.any (eqR s.heap d)=its.any (eqR s.heap d) by simp,iW I d hs o2 r];exact q
open PySem PySem.Spec PyProof.Rows
noncomputable def hU (ww:World):Bool:=ww.params.followText "set-order"
structure CO (ww:World) (tb:SetTable) (n:Nat):Prop where
 fit:tb.fits n=true
 led:tb.led=!hU ww
 pln:n≠0->tb.plain=false
theorem ku (tb:SetTable) (n:Nat):(tb.orStandIn n).led=tb.led:=by
 unfold SetTable.orStandIn;split <;> rfl
theorem xK (tb:SetTable) (es:Array (Int×Value)) (hs:Int) (x:Value):(layNew tb es hs x).2.1.led=tb.led:=by
 unfold layNew;cases q:tb.freeSlot hs with
 | none=>rfl
 | some p =>
  obtain ⟨sl,wd⟩:=p;exact ku _ _
theorem qW (tb:SetTable) (es:Array (Int×Value)) (k:Nat):(relayAll tb es k).2.1.led=tb.led/\(tb.plain=false->(relayAll tb es k).2.1.plain=false):=by
 unfold relayAll;cases q:tb.relaid (es.map (·.1)) k with
 | none=>exact ⟨rfl,fun _=>rfl⟩
 | some p =>
  obtain ⟨t2,ord⟩:=p;dsimp only;split
  ·unfold SetTable.relaid SetTable.laid at q;cases ho:SetTable.layClean (SetTable.sizeAbove k - 1) (es.map (·.1)) with
   | none=>rw [ho] at q;cases q
   | some ow =>
    rw [ho] at q;simp only [Option.bind_eq_bind,Option.bind_some,Option.pure_def,Option.some.injEq,Prod.mk.injEq] at q;obtain ⟨rfl,_⟩:=q;exact ⟨rfl,fun z=>z⟩
  ·exact ⟨rfl,fun _=>rfl⟩
def ey (pr:Program) (ww:World) (h:Heap) (a:Addr) (ss:List Str):Prop :=
 ∃ ob es ep tb,h.get? a=some ob/\ob.ExactSet/\ob.data=.set es ep tb/\ElemsOf (strKind pr ww) es.toList/\(∃ zs,StrsAre (es.toList.map (·.2)) zs/\zs.Perm ss)/\es.size < scanBound/\CO ww tb es.size
noncomputable def jJ (ss:List Str) (x:Str):List Str:=if x∈ss then ss else ss++[x]
theorem pz {x:Str}:∀ {es:List (Int×Value)} {zs:List Str},StrsAre (es.map (·.2)) zs->((∃ e∈es,Value.isStrOf x e.2=true)↔x∈zs)
 | [],[],_=>by simp
 | e :: es,_,h=>by
  obtain ⟨hs,v⟩:=e;rw [List.map_cons] at h;cases h with
  | cons y tk h =>
   have ih:=pz (x:=x) h;have hd:Value.isStrOf x (.str y tk)=true↔x=y:=by
    constructor
    ·intro q;obtain ⟨_,q⟩:=Value.isStrOf_shape q;injection q with q _;exact q.symm
    ·rintro rfl;simp [Value.isStrOf]
   simp only [Hs,exists_eq_or_imp];rw [ih];exact or_congr hd Iff.rfl
theorem dg:∀ {us vs:List Value},us.Perm vs->∀ {zs:List Str},StrsAre vs zs->∃ ws,StrsAre us ws/\ws.Perm zs
 | _,_,.nil,zs,h=>by cases h;exact ⟨[],.nil,.nil⟩
 | _,_,.cons v p,zs,h=>by
  cases h with
  | cons y tk h =>
   obtain ⟨ws,a,b⟩:=dg p h;exact ⟨y :: ws,.cons y tk a,.cons y b⟩
 | _,_,.swap v u l,zs,h=>by
  cases h with
  | cons y tk h =>
   cases h with
   | cons z tk' h=>exact ⟨_,.cons z tk' (.cons y tk h),.swap _ _ _⟩
 | _,_,.trans p q,zs,h=>by
  obtain ⟨ws,a,b⟩:=dg q h;obtain ⟨vs,c,d⟩:=dg p a;exact ⟨vs,c,d.trans b⟩
theorem strs_snoc {x:Str} {tk:Tok}:∀ {us:List Value} {zs:List Str},StrsAre us zs->StrsAre (us++[.str x tk]) (zs++[x])
 | _,_,.nil=>.cons x tk .nil
 | _,_,.cons y t h=>.cons y t (strs_snoc h)
theorem cO:∀ {us:List Value} {zs:List Str},StrsAre us zs->us.length=zs.length
 | _,_,.nil=>rfl
 | _,_,.cons y t h=>by rw [HD,HD,cO h]
section
variable {pr:Program} {ww:World} {AA:Around} {EE:Value->Shared->Prop} {st:Shared}
theorem ey.size {h:Heap} {a:Addr} {ss:List Str} (z:ey pr ww h a ss):∃ ob es ep tb,h.get? a=some ob/\ob.data=.set es ep tb/\es.size=ss.length:=by
 obtain ⟨ob,es,ep,tb,h1,_,h2,_,⟨zs,h3,h4⟩,_⟩:=z;refine ⟨ob,es,ep,tb,h1,h2,?_⟩;have:=cO h3;rw [Hf,HZ] at this;rw [this,h4.length_eq]
theorem rg {a:Addr} {ob:Obj} {es es':Array (Int×Value)} {ep:Nat} {tb tb':SetTable} {ss:List Str} {h:Heap} (ho:h.get? a=some ob) (hx:ob.ExactSet) (hd:ob.data=.set es ep tb)
  (he:ElemsOf (strKind pr ww) es'.toList) (hz:∃ zs,StrsAre (es'.toList.map (·.2)) zs/\zs.Perm ss) (hb:es'.size < scanBound) (ht:CO ww tb' es'.size) :
  (h.update a (Obj.putSet es' tb')).get? a=some { ob with data:=.set es' (ep+1) tb' }/\ey pr ww (h.update a (Obj.putSet es' tb')) a ss:=by
 have hg:(h.update a (Obj.putSet es' tb')).get? a=some { ob with data:=.set es' (ep+1) tb' }:=by
  have q:=HR (Obj.putSet es' tb') ho (by rw [putSet_of es' tb' hd];rfl);rw [putSet_of es' tb' hd] at q;exact q
 exact ⟨hg,_,es',ep+1,tb',hg,hx,rfl,he,hz,hb,ht⟩
theorem xm {gg:Bool->Sem Unit} (hg:∀ (b:Bool) (s1:Shared) (Q':Unit->Shared->Prop),Q' () s1->wpAny (model pr ww) AA (gg b) Q' EE s1)
  {a:Addr} {ob:Obj} {es e1:Array (Int×Value)} {ep:Nat} {tb t2:SetTable} {ss:List Str} {wd:Bool} {RR:Option Bool->Shared->Prop} (ho:st.heap.get? a=some ob) (hx:ob.ExactSet) (hd:ob.data=.set es ep tb)
  (he:ElemsOf (strKind pr ww) e1.toList) (hz:∃ zs,StrsAre (e1.toList.map (·.2)) zs/\zs.Perm ss) (hb:e1.size < scanBound) (ht:CO ww t2 e1.size) (hp:t2.plain=false)
  (h:∀ h',Heap.SameBut a st.heap h'->ey pr ww h' a ss->RR (some true) { st with heap:=h' }) :
  wpAny (model pr ww) AA (do
    storeSet a e1 t2
    if (!wd&&t2.tooFull)=true then do
      gg (relayAll t2 e1 (SetTable.grown e1.size)).2.2
      storeSet a (relayAll t2 e1 (SetTable.grown e1.size)).1 (relayAll t2 e1 (SetTable.grown e1.size)).2.1
      pure (some true)
     else pure (some true)) RR EE st:=by
 refine He (wpAny_storeSet_of ho hd ?_ (fits_of_scanBound hb));obtain ⟨ho1,hS1⟩:=rg (pr:=pr) (ww:=ww) ho hx hd he hz hb ht;have sb:=Heap.SameBut.update st.heap a (Obj.putSet e1 t2);split
 ·have pm:=relayAll_perm t2 e1 (SetTable.grown e1.size);have ft:=relayAll_fits t2 e1 (SetTable.grown e1.size);have ld:=qW t2 e1 (SetTable.grown e1.size);generalize relayAll t2 e1 (SetTable.grown e1.size)=Y at pm ft ld ⊢;obtain ⟨e2,t3,gv⟩:=Y;dsimp only at pm ft ld ⊢;have sz:e2.size=e1.size:=by rw [<- HZ,pm.length_eq,HZ]
  have hb2:e2.size < scanBound:=by rw [sz];exact hb
  have hz2:∃ zs,StrsAre (e2.toList.map (·.2)) zs/\zs.Perm ss:=by
   obtain ⟨zs,z1,z2⟩:=hz;obtain ⟨ws,w1,w2⟩:=dg (pm.map (·.2)) z1;exact ⟨ws,w1,w2.trans z2⟩
  refine He (hg _ _ _ ?_);refine He (wpAny_storeSet_of ho1 rfl ?_ (fits_of_scanBound hb2));obtain ⟨_,hS2⟩:=rg (pr:=pr) (ww:=ww) (tb':=t3) ho1 hx rfl (he.perm pm) hz2 hb2 ⟨ft,ld.1.trans ht.led,fun _=>ld.2 hp⟩;exact Hg (h _ (sb.trans (Heap.SameBut.update _ a _)) hS2)
 ·exact Hg (h _ sb hS1)
theorem Fz {a:Addr} {ss:List Str} {x:Str} {tk:Tok} {Q:Bool->Shared->Prop} (hS:ey pr ww st.heap a ss) (room:ss.length+1 < scanBound)
  (h:∀ b h',Heap.SameBut a st.heap h'->ey pr ww h' a (jJ ss x)->Q b { st with heap:=h' }) :
  wpAny (model pr ww) AA (setAddHashed a (.str x tk) (hashStr ww x)) Q EE st:=by
 obtain ⟨ob,es,ep,tb,ho,hx,hd,he,⟨zs,hz1,hz2⟩,hb,ht⟩:=hS;have key:(strKind pr ww).is x (.str x tk)=true:=by show Value.isStrOf x (.str x tk)=true;simp [Value.isStrOf]
 have sc:(Value.str x tk).scannable=true:=rfl;have sz:es.size=ss.length:=by
  have:=cO hz1;rw [Hf,HZ] at this;rw [this,hz2.length_eq]
 unfold setAddHashed setAddHashedIn;refine HY (He (Jb ho hd ht.fit ?_));dsimp only;rw [byScan_of sc hb he];simp only [↓reduceIte];unfold setAddByScan;refine He ?_;refine He (IK ?_);refine He (wpAny_setScan_of (knd:=strKind pr ww) (k:=x) key ho hd ht.fit he ?_);have mem:(∃ e∈es.toList,Value.isStrOf x e.2=true)↔x∈ss:=(pz hz1).trans hz2.mem_iff;cases hr:List.findIdx? (fun e:Int×Value=>(strKind pr ww).is x e.2) es.toList with
 | some j =>
  dsimp only;obtain ⟨hj,hpj,_⟩:=List.findIdx?_eq_some_iff_getElem.mp hr;have hin:x∈ss:=mem.mp ⟨es.toList[j],List.getElem_mem hj,hpj⟩;refine Hg (Hg ?_);have q:=h false st.heap (Heap.SameBut.refl a st.heap) ⟨ob,es,ep,tb,ho,hx,hd,he,⟨zs,hz1,by unfold jJ;rw [Hy hin];exact hz2⟩,hb,ht⟩;cases st;exact q
 | none =>
  dsimp only;have hin:x ∉ ss:=fun hh=>by
   obtain ⟨e,hm,hp⟩:=mem.mpr hh;have:=List.findIdx?_eq_none_iff.mp hr e hm;rw [show (strKind pr ww).is x e.2=true from hp] at this;cases this
  have gw:∀ (b:Bool) (s1:Shared) (Q':Unit->Shared->Prop),Q' () s1->wpAny (model pr ww) AA (match b with | true=>rule "set.scan.the-table-gave-way" | false=>pure ()) Q' EE s1 :=
   fun b s1 Q' hq=>by cases b <;> first | exact Hg hq | exact IK hq
  have pm:=layNew_perm tb es (hashStr ww x) (.str x tk);have ft:=layNew_fits tb es (hashStr ww x) (.str x tk);have ld:=xK tb es (hashStr ww x) (.str x tk);have hkk:(strKind pr ww).hash x=hashStr ww x:=rfl;generalize layNew tb es (hashStr ww x) (.str x tk)=Y at pm ft ld ⊢;obtain ⟨e1,t1,wd,gv⟩:=Y;dsimp only at pm ft ld ⊢;rw [Jd] at pm;have he1:ElemsOf (strKind pr ww) e1.toList:=(he.push key sc).perm pm;have sz1:e1.size=ss.length+1:=by rw [<- HZ,pm.length_eq,Ho,HZ,sz];rfl
  have hz':∃ zs,StrsAre (e1.toList.map (·.2)) zs/\zs.Perm (jJ ss x):=by
   have p2:=pm.map (·.2);rw [HL] at p2;obtain ⟨ws,w1,w2⟩:=dg p2 (strs_snoc (x:=x) (tk:=tk) hz1);refine ⟨ws,w1,w2.trans ?_⟩;unfold jJ;rw [HC hin];exact hz2.append_right _
  have hb1:e1.size < scanBound:=by rw [sz1];exact room
  refine He (gw _ _ _ ?_);split
  ·refine He ?_;rw [hashByValue_scannable 8 sc];refine Hg ?_;refine xm (gg:=fun b=>match b with | true=>rule "set.scan.the-table-gave-way" | false=>pure ()) gw ho hx hd he1 hz' hb1 (t2:={ t1 with plain:=false }) ⟨SetTable.fits_plain_off ft,ld.trans ht.led,fun _=>rfl⟩ rfl ?_;intro h' sb hS';dsimp only;exact Hg (h _ h' sb hS')
  ·rename_i npl;have npl:t1.plain=false:=by simpa using npl
   refine He (Hg ?_);simp only [↓reduceIte];refine xm (gg:=fun b=>match b with | true=>rule "set.scan.the-table-gave-way" | false=>pure ()) gw ho hx hd he1 hz' hb1 (t2:=t1) ⟨ft,ld.trans ht.led,fun _=>npl⟩ npl ?_;intro h' sb hS';dsimp only;exact Hg (h _ h' sb hS')
end
open PySem PySem.Spec PyProof.Rows
noncomputable def vP (val:Nat->Str) (i:Nat):List Str:=((List.range i).map val).foldl jJ []
theorem mR (val:Nat->Str) (i:Nat):vP val (i+1)=jJ (vP val i) (val i):=by
 unfold vP;rw [List.range_succ,HL,List.foldl_append];rfl
theorem pJ (val:Nat->Str):∀ i,(vP val i).length<=i
 | 0=>Hu _
 | i+1=>by
  have ih:=pJ val i;rw [mR];unfold jJ;split
  ·omega
  ·rw [Ho];show _+1<=_;omega
section
variable {pr:Program} {ww:World} {AA:Around} {RR:Result->Shared->Prop} {IT:Addr} {fp wr:List Addr} {GG:Array GenState->Array GenState->Prop} {n:Nat} {PP:Nat->Value->Prop} {SS:Nat->Shared->Prop}
theorem ey.at {h h':Heap} {a:Addr} {ss:List Str} (z:ey pr ww h a ss) (k:∀ o,h.get? a=some o->h'.get? a=some o):ey pr ww h' a ss:=by
 obtain ⟨ob,es,ep,tb,ho,r⟩:=z;exact ⟨ob,es,ep,tb,k _ ho,r⟩
theorem Dq (W:WalksS pr ww AA.in1 IT fp wr GG n PP SS) (a:Addr) (ha:a ∉ fp) (val:Nat->Str) (hv:∀ i v,PP i v->∃ t,v=.str (val i) t) (hb:n+1 < scanBound) :
  ∀ (k i:Nat) (s:Shared),n - i=k->i<=n->SS i s->ey pr ww s.heap a (vP val i) ->
   (∀ s',Moved (a :: wr) GG s s'->ey pr ww s'.heap a (vP val n)->RR (.ok (.ret .none)) s') ->
   codeAny (model pr ww) AA (.builtin "set.update.loop" ⟨[.ref a,.ref IT],[]⟩) RR s:=by
 have haw:a ∉ wr:=fun z=>ha (W.sub _ z);have hsb:∀ b∈wr,b∈a :: wr:=fun b z=>Hk _ z;intro k;induction k with
 | zero =>
  intro i s hk hi hst hS hR;obtain rfl:i=n:=by omega
  refine IX F.entry_set_update_loop ?_;rw [Jk F.plain_set_update_loop _];show wpAny _ AA.in1 (pyNext (.ref IT)>>=_) _ _ s;refine He (W.done s _ _ hst fun s' hm=>?_);exact Hg (hR s' (hm.mono hsb) (hS.at fun o q=>hm.heap a _ haw q))
 | succ k ih =>
  intro i s hk hi hst hS hR;have hlt:i < n:=by omega
  refine IX F.entry_set_update_loop ?_;rw [Jk F.plain_set_update_loop _];show wpAny _ AA.in1 (pyNext (.ref IT)>>=_) _ _ s;refine He (W.item i s _ _ hlt hst fun v s' hP hst' hm=>?_);obtain ⟨t,rfl⟩:=hv i v hP;have hS':ey pr ww s'.heap a (vP val i):=hS.at fun o q=>hm.heap a _ haw q;show wpAny _ AA.in1 (holding [Value.str (val i) t] (setAdd a (.str (val i) t))>>=_) _ _ s';refine He (HY ?_);unfold setAdd;refine HY ?_;refine He ((strKind pr ww).pyHash (k:=val i) (by show Value.isStrOf (val i) (.str (val i) t)=true;simp [Value.isStrOf]) ?_);refine Fz (st:={ s' with toks:=s'.toks+1 }) hS' (by have:=pJ val i;omega) fun bb h' hsm hS2=>?_;rw [<- mR] at hS2;refine Hg ⟨plainId_quiet F.plain_set_update_loop _,ih (i+1) _ (by omega) hlt (W.frame _ s' _ _ hst' (IP _) fun b hb o e=>?_) hS2 fun s'' hm'' hS''=>?_⟩
  ·rw [hsm.2 b (fun z:b=a=>ha (by rw [<- z];exact hb))];exact e
  ·refine hR s'' (Moved.trans W.gtrans ((hm.mono hsb).then_heap (IP _) fun b o hb e=>?_) hm'') hS'';rw [hsm.2 b (fun z:b=a=>hb (by rw [z];exact Hw))];exact e
end
theorem sW:∀ {us:List Value} {zs:List Str},StrsAre us zs->∀ (i:Nat) (v:Value),us[i]?=some v->∃ t,v=.str (zs.getD i Str.empty) t
 | _,_,.nil,i,v,h=>by simp at h
 | _,_,.cons y t h,0,v,q=>by
  simp only [List.getElem?_cons_zero,Option.some.injEq] at q;exact ⟨t,q.symm⟩
 | _,_,.cons y t h,i+1,v,q=>by
  simp only [List.getElem?_cons_succ] at q;exact sW h i v q
theorem map_getD (ss:List Str):(List.range ss.length).map (fun i=>ss.getD i Str.empty)=ss:=by
 apply List.ext_getElem
 ·simp
 ·intro i h1 h2;simp [h2]
section
variable {pr:Program} {ww:World} {AA:Around} {EE:Value->Shared->Prop} {st:Shared}
noncomputable abbrev iq (ww:World):Obj:={ cls:=.type "set", dict:=none,data:=.set #[] 0 (.fresh 0 0 (!hU ww)) }
theorem D9 (v:Value) {Q:Value->Shared->Prop} (h:Q (.ref st.heap.objs.size) { st with heap:=st.heap.push (iq ww) }) :
  codeAny (model pr ww) AA (.call (.builtin "set.__new__") ⟨[.type "set", v],[]⟩) (wants Q EE) st:=by
 refine codeAny_of_tree ?_;show wpAny _ AA.in1 (do checkBuiltinCall "set.__new__" ⟨[.type "set", v],[]⟩;again (.builtin "set.__new__" ⟨[.type "set", v],[]⟩)) _ _ st;refine He (wpAny_of_eq (F.newCall_set_1 v) (Hg ⟨plainId_quiet F.plain_set_new _,IX F.entry_set_new ?_⟩));rw [Jk F.plain_set_new _];unfold Builtin.«set.__new__» Builtin.Frozenset.newClass
 have hsub:=sub_set_self;obtain ⟨h0,g0,d0,t0,o0⟩:=st;dsimp only at h ⊢
 wp_walk
 refine wpAny_askSetting (Hg ?_);dsimp only;simp only [newObj];refine He (wpAny_alloc (Hg ?_));exact Hg h
theorem yz {h:Heap} {a:Addr} (hg:h.get? a=some (iq ww)):ey pr ww h a [] :=
 ⟨_,#[],0,_,hg,⟨rfl,rfl,rfl⟩,rfl,fun e he=>by simp at he,⟨[],.nil,.nil⟩,by decide,⟨rfl,rfl,fun z=>absurd rfl z⟩⟩
theorem qT {l:Addr} {its:Array Value} {ss:List Str} {Q:Value->Shared->Prop} (hh:AA.handled=none) (hl:st.heap.IsList l its) (hi:StrsAre its.toList ss) (hb:its.size+1 < scanBound)
  (h:∀ (h':Heap) (tk:Nat),ey pr ww h' st.heap.objs.size (ss.foldl jJ [])->(∀ b o,b < st.heap.objs.size->st.heap.get? b=some o->h'.get? b=some o)->Q (.ref st.heap.objs.size) { st with heap:=h',toks:=tk }) :
  wpAny (model pr ww) AA (call (.type "set") [.ref l]) Q EE st:=by
 obtain ⟨cc,tl,hmro⟩:=F.called_set.mro;have hmade:=F.called_set.made;have hsub:=F.called_set.sub;refine wpAny_call (codeAny_of_tree ?_);show wpAny _ _ (callAny (.type "set") _) _ _ _;refine Hg ⟨Code.quiet_builtin _ (by decide +kernel),IX F.entry_type_call ?_⟩;rw [Around.under_plain (weight_type_call_type "set" [.ref l] []) rfl];have h1:=F.called_set.notType;have h2:=F.called_set.canCreate;have hct:=F.typeCall_set_1 (.ref l)
 repeat (any_goals (first | assumption | wp_step))
 refine Jn (D9 (.ref l) (EE:=EE) (Q:=fun obj s1=>obj=.ref st.heap.objs.size/\s1={ st with heap:=st.heap.push (iq ww) }) ⟨rfl,rfl⟩) fun r s1 hr=>?_;cases r with
 | error e=>exact hr
 | ok fl =>
  cases fl with
  | ret obj =>
   obtain ⟨rfl,rfl⟩:=hr;have hS:(st.heap.push (iq ww)).get? st.heap.objs.size=some (iq ww):=HE _ rfl;have hT:Shared.TypeIs { st with heap:=st.heap.push (iq ww) } (.ref st.heap.objs.size) "set" := ⟨_,hS,rfl⟩;have hli:=F.called_set.init.lookup;have hbi:=F.called_set.init.bind (.ref st.heap.objs.size)
   repeat (any_goals (first | assumption | wp_step))
   refine Jn (IL (R:=wants (fun r s2=>r=.none/\∃ h' tk,s2={ st with heap:=h',toks:=tk }/\ey pr ww h' st.heap.objs.size (ss.foldl jJ []) /\
     (∀ b o,b < st.heap.objs.size->st.heap.get? b=some o->h'.get? b=some o)) EE) F.called_set.init.plain F.entry_set_init (check_set_init_1 hT ?_)) fun r2 s2 hr2=>?_
   ·obtain ⟨ol,hol,hcl,nl,hdl⟩:=hl;obtain ⟨c1,c2,c3,c4⟩:=ol;simp only at hcl hdl;subst hcl;subst hdl;have hol2:(st.heap.push (iq ww)).get? l=some { cls:=.type "list", dict:=c2,data:=.seq its nl,slots:=c4 }:=Hj _ hol;have hsls:=F.sub_list_set;have hslf:=F.sub_list_frozenset;have hne:(Value.type "list" == Value.type "dict")=false:=by decide
    have hl1:(st.heap.push (iq ww)).IsList l its:=⟨_,hol2,rfl,nl,rfl⟩;unfold Builtin.«set.__init__» noKeywords Builtin.Frozenset.updateFrom
    generalize hPI:pyIter=PI
    wp_walk
    subst hPI;refine wpAny_pyIter_list hl1 ?_;refine He (wpAny_runValue ?_);have hlS:l < st.heap.objs.size:=Ht hol;have hh3:AA.in1.in1.in1.handled=none:=by simp [hh]
    have sz1:(st.heap.push (iq ww)).objs.size=st.heap.objs.size+1:=Heap.size_push ..;have hneI:l≠(st.heap.push (iq ww)).objs.size:=by rw [sz1];exact HH (IJ hlS)
    have hSf:st.heap.objs.size ∉ [(st.heap.push (iq ww)).objs.size,l]:=by
     rw [sz1];simp only [Hs,Hm,List.not_mem_nil,Iv,not_or];exact ⟨HH (Jf _),Jy hlS⟩
    have hval:∀ (i:Nat) (v:Value),its[i]?=some v->∃ t,v=.str ((fun i=>ss.getD i Str.empty) i) t:=fun i v hv=>sW hi i v (by rw [II];exact hv);have hmet:vP (fun i=>ss.getD i Str.empty) its.size=ss.foldl jJ []:=by
     have e1:its.size=ss.length:=by rw [<- cO hi,HZ]
     rw [e1];unfold vP;rw [map_getD]
    refine Dq ((Walks.list hh3 _ l hneI its).toS) st.heap.objs.size hSf (fun i=>ss.getD i Str.empty) hval hb (its.size - 0) 0 _ (by omega) (Iw _)
     ⟨⟨_,HE _ rfl,rfl,rfl⟩,(hl1.push _)⟩ (yz (Hj _ hS)) ?hR
    intro s' hm hS';rw [hmet] at hS';obtain ⟨h',g',d',tk',os'⟩:=s';have eg:g'=st.gens:=hm.gens;have ed:d'=st.drawn:=hm.drawn;have eo:os'=st.os:=hm.os;subst eg;subst ed;subst eo;show wpAny _ _ _ _ _ _;refine Hg ?_;show wpAny _ _ (ret Value.none) _ _ _;refine Hg ⟨rfl,h',tk',rfl,hS',fun b o hb e=>?_⟩;have hb1:b≠st.heap.objs.size:=HH hb;have hb2:b≠(st.heap.push (iq ww)).objs.size:=by rw [sz1];exact HH (IJ hb)
    exact hm.heap b o (by simp only [Hs,Hm,List.not_mem_nil,Iv,not_or];exact ⟨hb1,hb2⟩) (Hj _ (Hj _ e))
   ·cases r2 with
    | error e=>exact hr2
    | ok fl2 =>
     cases fl2 with
     | ret r =>
      obtain ⟨rfl,h',tk,rfl,hS',hk'⟩:=hr2
      repeat (any_goals (first | assumption | wp_step))
      exact h _ _ hS' hk'
     | _=>exact hr2.elim
  | _=>exact hr.elim
end
open PySem PySem.Spec PyProof.Rows
namespace SF
theorem fD:Slot "set_iterator" "__next__" "set_iterator.__next__" :=
 .of (owner := "set_iterator") (n := "__next__") (by rw [typeLookup_type,builtinLookup_eq_fast];kernel_rfl) (by decide +kernel) (by decide +kernel) (by decide +kernel) (by first | exact .inl (by decide +kernel) | exact .inr (by decide +kernel)) (by rw [isSubtype_type];kernel_rfl)
theorem rR:entryFor table "set_iterator.__next__" = some Builtin.«set_iterator.__next__»:=entryFor_of_tree (by kernel_rfl)
theorem sU (v:Value):argsOk "set_iterator.__next__" ⟨[v],[]⟩:=by kernel_rfl
theorem yI:entryFor table "set.__iter__" = some Builtin.«frozenset.__iter__»:=entryFor_alias (id' := "frozenset.__iter__") (by kernel_rfl) rfl (by decide +kernel) (by kernel_rfl)
theorem x8:typeLookup (.type "set") "__len__" = pure (some (.builtin "set.__len__")):=by rw [typeLookup_type,builtinLookup_eq_fast];kernel_rfl
end SF
theorem DV {M:Model} {AA:Around} {EE:Value->Shared->Prop} {st:Shared} {src:Source} {n:Nat} {Q:Nat->Shared->Prop} (hn:n≠0) (h:∀ k d',k < n->Q k { st with drawn:=d' }):wpAny M AA (choose src n) Q EE st:=fun _ _ _=>by
 unfold choose;exact ⟨hn,h _ _ (Nat.mod_lt _ (Nat.pos_of_ne_zero hn))⟩
theorem gF {α:Type}:∀ (xs:List α) (i:Nat) (h:i < xs.length),(xs[i] :: xs.eraseIdx i).Perm xs
 | x :: xs,0,h=>by simp
 | x :: xs,i+1,h=>by
  have ih:=gF xs i (by simpa using h);simp only [List.getElem_cons_succ,List.eraseIdx_cons_succ];exact (List.Perm.swap _ _ _).trans (ih.cons x)
theorem ug {α:Type} {M:Model} {AA:Around} {EE:Value->Shared->Prop}:∀ (n:Nat) (xs:List α) {st:Shared} {Q:List α->Shared->Prop},xs.length=n->(∀ ys d',ys.Perm xs->Q ys { st with drawn:=d' })->wpAny M AA (drawOrder n xs) Q EE st
 | 0,xs,st,Q,hn,h=>by
  obtain rfl:xs=[]:=List.length_eq_zero_iff.mp hn;unfold drawOrder;have q:=h [] st.drawn .nil;cases st;exact Hg q
 | n+1,[],st,Q,hn,h=>by simp at hn
 | n+1,x :: xs,st,Q,hn,h=>by
  unfold drawOrder;refine He (DV (by simp) fun k d' hk=>?_);have hk':(x :: xs)[k]?=some (x :: xs)[k]:=Hn hk;rw [hk'];dsimp only;refine He (ug n _ (by rw [List.length_eraseIdx_of_lt hk,hn];rfl) fun ys d2 hp=>?_);refine Hg (h _ d2 ?_);exact (hp.cons _).trans (gF _ _ hk)
theorem sJ {α:Type} (nx:Nat->Nat):∀ (f k:Nat) (left:List α) (out:Array α),left.length=f->(pickOrder.go nx f k left out).toList.Perm (out.toList++left)
 | 0,k,left,out,h=>by
  obtain rfl:left=[]:=List.length_eq_zero_iff.mp h;unfold pickOrder.go;simp
 | f+1,k,left,out,h=>by
  unfold pickOrder.go;have hlt:nx k % left.length < left.length:=Nat.mod_lt _ (by omega);rw [Hn hlt];dsimp only;refine (sJ nx f (k+1) _ _ (by rw [List.length_eraseIdx_of_lt hlt,h];rfl)).trans ?_;rw [Jd,List.append_assoc];exact (gF _ _ hlt).append_left _
theorem ud {α:Type} (nx:Nat->Nat) (xs:Array α):(pickOrder nx xs).toList.Perm xs.toList:=by
 unfold pickOrder;have:=sJ nx xs.size 0 xs.toList #[] (by simp);simpa using this
theorem wR (j:Nat):SetTable.below #[j] 0=0/\SetTable.below #[j] (j+1)=1:=by
 unfold SetTable.below;constructor
 ·show SetTable.below.go #[j] 0 1 0 1=0;simp [SetTable.below.go]
 ·show SetTable.below.go #[j] (j+1) 1 0 1=1;simp [SetTable.below.go]
abbrev Bc (f0:Value) (i:Nat) (d:Value) (n ep:Nat):Obj:={ cls:=.type "set_iterator", dict:=none,data:=.fields #[f0,.int i 0,d,.int n 0,.int ep 0],slots:=#[] }
def Way (ww:World) (h:Heap) (d:Addr) (es:Array (Int×Value)) (ep:Nat) (tb:SetTable) (vs:List Value) (T:Addr) (f0:Value) (i:Nat):Prop :=
 (hU ww=true/\f0=.int 0 0/\vs=(pickOrder (ww.params.setOrder d ep) es).toList.map (·.2)) \/
 (hU ww=false/\(!tb.plain&&decide (es.size > 1))=true/\∃ ps:List Nat,f0=.ref T/\h.get? T=some { cls:=.type "tuple", data:=.seq (ps.map fun (k:Nat)=>rawInt k).toArray }/\(∀ p∈ps,p < es.size)/\vs=ps.map fun p=>(es.getD p (0,.none)).2) \/
 (hU ww=false/\es.size<=1/\tb.led=true/\(∃ k:Nat,f0=.int k 0/\SetTable.below tb.place k=i)/\vs=es.toList.map (·.2))
section
variable {pr:Program} {ww:World} {AA:Around} {EE:Value->Shared->Prop} {st:Shared}
theorem sbt {Q:Bool->Shared->Prop} (h:Q (hU ww) st):wpAny (model pr ww) AA setsByText Q EE st:=by
 unfold setsByText;exact He (wpAny_askSetting (Hg h))
theorem snA {d:Addr} {ob:Obj} {es:Array (Int×Value)} {ep sl g:Nat} {tb:SetTable} {Q:Option (Value×Nat)->Shared->Prop} (hd:st.heap.get? d=some ob) (hdd:ob.data=.set es ep tb) (hf:tb.fits es.size=true) (hb:hU ww=true)
  (h:Q (((pickOrder (ww.params.setOrder d ep) es)[g]?).map fun e=>(e.2,sl)) st):wpAny (model pr ww) AA (setNext d sl g ep) Q EE st:=by
 unfold setNext;refine He (Jb hd hdd hf ?_);dsimp only;refine He (sbt ?_);rw [hb,Hy rfl,HC (by simp)];unfold setWalk;refine He (He (Jb hd hdd hf ?_));dsimp only;refine He (sbt ?_);rw [hb,Hy rfl];refine He (wpAny_askSetting (Hg ?_));exact Hg h
theorem snC {d:Addr} {ob:Obj} {es:Array (Int×Value)} {ep sl g:Nat} {tb:SetTable} {Q:Option (Value×Nat)->Shared->Prop} (hd:st.heap.get? d=some ob) (hdd:ob.data=.set es ep tb) (hf:tb.fits es.size=true) (hb:hU ww=false) (h1:es.size<=1) (hl:tb.led=true)
  (h:Q (match es[SetTable.below tb.place sl]?,tb.place[SetTable.below tb.place sl]? with | some (_,x),some j=>some (x,j+1) | _,_=>none) st):wpAny (model pr ww) AA (setNext d sl g ep) Q EE st:=by
 unfold setNext;refine He (Jb hd hdd hf ?_);dsimp only;refine He (sbt ?_);rw [hb,HC (by simp)];show wpAny _ _ (if (!tb.plain&&decide (es.size > 1))=true then _ else _) _ _ _;rw [HC (by have:decide (es.size > 1)=false:=HS (by omega);rw [this,Bool.and_false];simp)];refine He ?_;show wpAny _ _ (if (!tb.led&&!es.isEmpty)=true then _ else _) _ _ _;rw [hl,HC (by simp)];refine Hg ?_;exact Hg h
theorem snB {d:Addr} {ob:Obj} {es:Array (Int×Value)} {ep p:Nat} {tb:SetTable} {Q:Value->Shared->Prop} {e:Int×Value} (hd:st.heap.get? d=some ob) (hdd:ob.data=.set es ep tb) (hf:tb.fits es.size=true) (he:es[p]?=some e)
  (h:Q e.2 st):wpAny (model pr ww) AA (setNextDrawn d p ep) Q EE st:=by
 unfold setNextDrawn;refine He (Jb hd hdd hf ?_);dsimp only;rw [HC (by simp),he];exact Hg h
theorem AK {IT d T:Addr} {f0:Value} {i ep:Nat} {es:Array (Int×Value)} {tb:SetTable} {ob:Obj} {vs:List Value} {Q:Option Value->Shared->Prop}
  (hit:st.heap.get? IT=some (Bc f0 i (.ref d) es.size ep)) (hd:st.heap.get? d=some ob) (hdd:ob.data=.set es ep tb) (hf:tb.fits es.size=true) (hw:Way ww st.heap d es ep tb vs T f0 i) {v:Value} (hv:vs[i]?=some v)
  (h:∀ f1 h',h'.get? IT=some (Bc f1 (i+1) (.ref d) es.size ep)->Heap.SameBut IT st.heap h'->Way ww h' d es ep tb vs T f1 (i+1)->Q (some v) { st with heap:=h' }) :
  wpAny (model pr ww) AA (pyNext (.ref IT)) Q EE st:=by
 have hT:st.TypeIs (.ref IT) "set_iterator" := ⟨_,hit,rfl⟩;unfold pyNext;refine He (wpAny_attempt (IZ (name:=Str.ofString "__next__") hT SF.fD (Ip SF.fD hT SF.rR ?_ (SF.sU _))));unfold Builtin.«set_iterator.__next__»
 refine He (m:=slotArgs "__next__" 0 ⟨[.ref IT],[]⟩) (Hg ?_);dsimp only;refine He (wpAny_fieldsOf hit rfl ?_);dsimp only;refine He (wpAny_setEntries_of hd hdd hf ?_);rw [HC (by simp)];simp only [Jv];rcases hw with ⟨hb,rfl,rfl⟩ | ⟨hb,hdr,ps,rfl,hTo,hps,rfl⟩ | ⟨hb,h1,hl,⟨k,rfl,hk⟩,rfl⟩
 ·dsimp only;refine He (snA hd hdd hf hb ?_);rw [Hl,II] at hv;obtain ⟨e,he,rfl⟩:=Hv.mp hv;rw [he];dsimp only [Option.map_some];refine He (Ij hit (by simp) fun h1 g1 s1=>?_);refine He (Ij g1 (by simp) fun h2 g2 s2=>?_);refine Hg ⟨_,rfl,Hg (h (.int 0 0) h2 ?_ (s1.trans s2) (.inl ⟨hb,rfl,rfl⟩))⟩;exact g2
 ·dsimp only;refine He (wpAny_seqItems hTo rfl ?_);dsimp only;rw [Hl] at hv;obtain ⟨p,hp,hpv⟩:=Hv.mp hv;have hpl:p < es.size:=hps p (HF hp);have e1:((ps.map fun (k:Nat)=>rawInt k).toArray)[i]?=some (.int p 0):=by
   rw [List.getElem?_toArray,Hl,hp];rfl
  rw [e1];dsimp only;have e2:es[p]?=some (es.getD p (0,.none)):=by
   rw [Array.getD_eq_getD_getElem?,Iu hpl];rfl
  refine He (snB (p:=(p:Int).toNat) hd hdd hf (by rw [Jv];exact e2) ?_);refine He (Ij hit (by simp) fun h1 g1 s1=>?_);have hne:T≠IT:=fun z=>by rw [z,hit] at hTo;exact absurd (congrArg Obj.cls (HQ hTo)) (show ¬(Value.type "set_iterator" = Value.type "tuple") from by decide)
  rw [hpv];exact Hg ⟨_,rfl,Hg (h (.ref T) h1 g1 s1 (.inr (.inl ⟨hb,hdr,ps,rfl,by rw [s1.2 T hne];exact hTo,hps,rfl⟩)))⟩
 ·dsimp only;refine He (snC (sl:=(k:Int).toNat) hd hdd hf hb h1 hl ?_);rw [Hl,II] at hv;obtain ⟨e,he,rfl⟩:=Hv.mp hv;have hi:i < es.size:=by
   rcases IV i es.size with z | z
   ·exact z
   ·rw [Array.getElem?_eq_none z] at he;cases he
  obtain rfl:i=0:=by omega
  have hpl:tb.place.size=es.size:=by
   simp only [SetTable.fits,HK,IF] at hf;exact hf.1
  obtain ⟨j,hj⟩:∃ j,tb.place=#[j]:=by
   have:tb.place.size=1:=by omega
   exact Array.size_eq_one_iff.mp this
  rw [Jv,hk,he,hj];obtain ⟨hs,x⟩:=e;refine He (Ij hit (by simp) fun h1 g1 s1=>?_);refine He (Ij g1 (by simp) fun h2 g2 s2=>?_);exact Hg ⟨_,rfl,Hg (h (.int ((j+1:Nat):Int) 0) h2 g2 (s1.trans s2) (.inr (.inr ⟨hb,by assumption,hl,⟨j+1,rfl,by rw [hj];exact (wR j).2⟩,rfl⟩)))⟩
theorem rY {Q:Option Value->Shared->Prop} {IT:Addr} (hh:AA.handled=none) (h:∀ h',Heap.ExtBut IT st.heap h'->Q none { st with heap:=h' }) :
  wpAny (model pr ww) AA.in1 (do
     let z<-newExc (Value.type "StopIteration") []
     raiseNew z:Sem Fin)
  (fun fin s'=>∃ v,fin=Fin.done (Flow.ret v)/\wpAny (model pr ww) AA (pure (some v)) Q EE s')
  (fun e s' =>
   wpAny (model pr ww) AA
    (do
     let z<-isInstance e (Value.type "StopIteration")
     if z=true then pure none else throw e)
    Q EE s')
  st:=by
 refine He ?_;simp only [newExc,newTuple];refine He (H9 ?_ (by size_fits));refine He (m:=firstArgMember _ _) (wpAny_of_eq (a:=Value.none) (by first | rfl | (simp only [firstArgMember];rfl)) ?_);refine H9 ?_ (by size_fits);simp only [raiseNew];refine He (wpAny_handled ?_);rw [show AA.in1.handled=none from hh];refine He (Hg (wpAny_throw ?_));refine He (wpAny_isInstance (T := "StopIteration") (b:=true) ⟨_,HE _ rfl,rfl⟩ isSubtype_stop ?_);rw [Hy rfl];exact Hg (h _ fun b o _ e=>Hj _ (Hj _ e))
theorem Em {IT d T:Addr} {f0:Value} {i ep:Nat} {es:Array (Int×Value)} {tb:SetTable} {ob:Obj} {vs:List Value} {Q:Option Value->Shared->Prop} (hh:AA.handled=none)
  (hit:st.heap.get? IT=some (Bc f0 i (.ref d) es.size ep)) (hd:st.heap.get? d=some ob) (hdd:ob.data=.set es ep tb) (hf:tb.fits es.size=true) (hw:Way ww st.heap d es ep tb vs T f0 i) (hv:vs[i]?=none)
  (h:∀ h',Heap.ExtBut IT st.heap h'->Q none { st with heap:=h' }) :
  wpAny (model pr ww) AA (pyNext (.ref IT)) Q EE st:=by
 have hT:st.TypeIs (.ref IT) "set_iterator" := ⟨_,hit,rfl⟩;unfold pyNext;refine He (wpAny_attempt (IZ (name:=Str.ofString "__next__") hT SF.fD (Ip SF.fD hT SF.rR ?_ (SF.sU _))));unfold Builtin.«set_iterator.__next__»
 refine He (m:=slotArgs "__next__" 0 ⟨[.ref IT],[]⟩) (Hg ?_);dsimp only;refine He (wpAny_fieldsOf hit rfl ?_);dsimp only;refine He (wpAny_setEntries_of hd hdd hf ?_);rw [HC (by simp)];simp only [Jv];have fin:∀ h1,Heap.SameBut IT st.heap h1->∀ h',Heap.ExtBut IT h1 h'->Q none { st with heap:=h' }:=fun h1 s1 h' x=>h h' fun b o hb e=>x b o hb (by rw [s1.2 b hb];exact e);rcases hw with ⟨hb,rfl,rfl⟩ | ⟨hb,hdr,ps,rfl,hTo,hps,rfl⟩ | ⟨hb,h1,hl,⟨k,rfl,hk⟩,rfl⟩
 ·dsimp only;refine He (snA hd hdd hf hb ?_);rw [Hl,II] at hv;rw [Option.map_eq_none_iff.mp hv];dsimp only [Option.map_none];refine He (Ij hit (by simp) fun h1 g1 s1=>?_);exact rY (IT:=IT) (st:={ st with heap:=h1 }) hh (fin h1 s1)
 ·dsimp only;refine He (wpAny_seqItems hTo rfl ?_);dsimp only;rw [Hl] at hv;have e1:((ps.map fun (k:Nat)=>rawInt k).toArray)[i]?=none:=by
   rw [List.getElem?_toArray,Hl,Option.map_eq_none_iff.mp hv];rfl
  rw [e1];dsimp only;refine He (Ij hit (by simp) fun h1 g1 s1=>?_);refine He (Ij g1 (by simp) fun h2 g2 s2=>?_);exact rY (IT:=IT) (st:={ st with heap:=h2 }) hh (fin h2 (s1.trans s2))
 ·dsimp only;refine He (snC (sl:=(k:Int).toNat) hd hdd hf hb h1 hl ?_);rw [Hl,II] at hv;have hv:=Option.map_eq_none_iff.mp hv;rw [Jv,hk,hv];refine He (Ij hit (by simp) fun h1 g1 s1=>?_);exact rY (IT:=IT) (st:={ st with heap:=h1 }) hh (fin h1 s1)
end
open PySem PySem.Spec PyProof.Rows
namespace SF
theorem wF:Slot "set_iterator" "__iter__" "set_iterator.__iter__" :=
 .of (owner := "set_iterator") (n := "__iter__") (by rw [typeLookup_type,builtinLookup_eq_fast];kernel_rfl) (by decide +kernel) (by decide +kernel) (by decide +kernel) (by first | exact .inl (by decide +kernel) | exact .inr (by decide +kernel)) (by rw [isSubtype_type];kernel_rfl)
theorem AZ:entryFor table "set_iterator.__iter__" = some Builtin.«dict_keyiterator.__iter__»:=entryFor_alias (id' := "dict_keyiterator.__iter__") (by kernel_rfl) rfl (by decide +kernel) (by kernel_rfl)
theorem Ck (v:Value):argsOk "set_iterator.__iter__" ⟨[v],[]⟩:=by kernel_rfl
end SF
section
variable {pr:Program} {ww:World} {AA:Around} {EE:Value->Shared->Prop} {st:Shared}
theorem Way.frame {h h':Heap} {d T:Addr} {es:Array (Int×Value)} {ep i:Nat} {tb:SetTable} {vs:List Value} {f0:Value} (w:Way ww h d es ep tb vs T f0 i) (k:∀ o,h.get? T=some o->h'.get? T=some o):Way ww h' d es ep tb vs T f0 i:=by
 rcases w with w | ⟨hb,hdr,ps,e,hTo,r⟩ | w
 ·exact .inl w
 ·exact .inr (.inl ⟨hb,hdr,ps,e,k _ hTo,r⟩)
 ·exact .inr (.inr w)
theorem BR (hh:AA.handled=none) (IT d T:Addr) (h1:d≠IT) (h2:T≠IT) {es:Array (Int×Value)} {ep:Nat} {tb:SetTable} {ob:Obj} (hdd:ob.data=.set es ep tb) (hf:tb.fits es.size=true) (vs:List Value) :
  WalksS pr ww AA IT [IT,d,T] [IT] (fun a b=>b=a) vs.length (fun i v=>vs[i]?=some v) (fun i s=>∃ f0,s.heap.get? IT=some (Bc f0 i (.ref d) es.size ep)/\s.heap.get? d=some ob/\Way ww s.heap d es ep tb vs T f0 i) where
 sub:=fun b hb=>by simp at hb;simp [hb]
 grefl:=fun _=>rfl
 gtrans:=fun _ _ _ x y=>y.trans x
 frame:=fun i s h' tk st _ k=>by
  obtain ⟨f0,a,b,c⟩:=st;exact ⟨f0,k IT (by simp) _ a,k d (by simp) _ b,c.frame (k T (by simp))⟩
 item:=fun i s Q E hi st hQ=>by
  obtain ⟨f0,a,b,c⟩:=st;refine AK a b hdd hf c (v:=vs[i]) (Hn hi) fun f1 h' g1 s1 w1=>?_;exact hQ _ _ (Hn hi) ⟨f1,g1,by show h'.get? d=_;rw [s1.2 d h1];exact b,w1⟩ ⟨fun b' o hb e=>by show h'.get? b'=_;rw [s1.2 b' (fun z=>hb (by simp [z]))];exact e,rfl,rfl,rfl,Hu _⟩
 done:=fun s Q E st hQ=>by
  obtain ⟨f0,a,b,c⟩:=st;refine Em hh a b hdd hf c (Je (Hu _)) fun h' x=>?_;exact hQ _ ⟨fun b' o hb e=>x b' o (fun z=>hb (by simp [z])) e,rfl,rfl,rfl,Hu _⟩
 self:=fun i s Q E st hQ=>by
  obtain ⟨f0,a,b,c⟩:=st;have hT:s.TypeIs (.ref IT) "set_iterator" := ⟨_,a,rfl⟩;refine wpAny_pyIter_slot hT SF.wF (Ip SF.wF hT SF.AZ ?_ (SF.Ck _));show wpAny _ _ (ret (.ref IT)) _ _ s;exact Hg ⟨_,rfl, "set_iterator", _,hT,SF.fD.lookup,hQ⟩
theorem range_getD (es:Array (Int×Value)):(List.range es.size).map (fun p=>(es.getD p (0,.none)).2)=es.toList.map (·.2):=by
 apply List.ext_getElem
 ·simp
 ·intro i h1 h2;have h3:i < es.size:=by simpa using h1
  simp [h3]
theorem Bb {d:Addr} {es:Array (Int×Value)} {ep:Nat} {tb:SetTable} {ob:Obj} {Q:Value->Shared->Prop} (hd:st.heap.get? d=some ob) (hc:ob.ExactSet) (hdd:ob.data=.set es ep tb) (ht:CO ww tb es.size) (hsz:es.size < scanBound)
  (h:∀ vs f0 T IT h' d',vs.Perm (es.toList.map (·.2))->h'.get? IT=some (Bc f0 0 (.ref d) es.size ep)->Way ww h' d es ep tb vs T f0 0->st.heap.objs.size<=IT->T≠IT->(T=d\/st.heap.objs.size<=T)->(∀ b o,st.heap.get? b=some o->h'.get? b=some o)->Q (.ref IT) { st with heap:=h',drawn:=d' }) :
  wpAny (model pr ww) AA (pyIter (.ref d)) Q EE st:=by
 have hT:st.TypeIs (.ref d) "set" := ⟨_,hd,hc.1⟩;have hlt:d < st.heap.objs.size:=Ht hd;refine wpAny_pyIter_slot hT F.slot_set_iter (Ip F.slot_set_iter hT SF.yI ?_ (F.args_set_iter_1 _));unfold Builtin.«frozenset.__iter__» Builtin.Frozenset.slot0 Builtin.Frozenset.sizeOf
 refine He (He (m:=slotArgs "__iter__" 0 ⟨[.ref d],[]⟩) (Hg (Hg ?_)));refine He (He (wpAny_setEntries_of hd hdd ht.fit (Hg ?_)));unfold setDrawn;refine He (He (Jb hd hdd ht.fit ?_));dsimp only;refine He (sbt (Hg ?_));show wpAny _ _ (if (!hU ww&&(!tb.plain&&decide (es.size > 1)))=true then _ else _) _ _ _;have hpl:tb.place.size=es.size:=by
  have hf:=ht.fit;simp only [SetTable.fits,HK,IF] at hf;exact hf.1
 split
 ·rename_i hdr;simp only [HK,Bool.not_eq_true'] at hdr;obtain ⟨hb,hdr⟩:=hdr;refine He (ug es.size (List.range es.size) (by simp) fun ps d' hps=>?_);have hpsl:ps.length=es.size:=by rw [hps.length_eq,Iy]
  refine He (wpAny_newTuple ?_ (by rw [Hf,hpsl];exact fits_of_scanBound hsz));have g0:(st.heap.push { cls:=.type "tuple", data:=.seq (ps.map fun (k:Nat)=>rawInt k).toArray }).get? d=some ob:=Hj _ hd;refine He (wpAny_setEpoch_of (s:={ st with heap:=st.heap.push { cls:=.type "tuple", data:=.seq (ps.map fun (k:Nat)=>rawInt k).toArray },drawn:=d' }) g0 hdd ht.fit ?_);refine He (m:=newFields _ _) (H9 ?_ (by size_fits));have e1:(st.heap.push { cls:=.type "tuple", data:=.seq (ps.map fun (k:Nat)=>rawInt k).toArray }).objs.size=st.heap.objs.size+1:=Heap.size_push ..;have gT:(st.heap.push { cls:=.type "tuple", data:=.seq (ps.map fun (k:Nat)=>rawInt k).toArray }).get? st.heap.objs.size=some { cls:=.type "tuple", data:=.seq (ps.map fun (k:Nat)=>rawInt k).toArray }:=HE _ rfl;refine Hg ⟨_,rfl, "set_iterator", _,⟨_,HE _ rfl,rfl⟩,SF.fD.lookup,?_⟩;refine h (ps.map fun p=>(es.getD p (0,.none)).2) (.ref st.heap.objs.size) st.heap.objs.size _ _ d' ?_ (HE _ rfl) (.inr (.inl ⟨hb,by rw [HK,Bool.not_eq_true'];exact hdr,ps,rfl,Hj _ gT,fun p hp=>by have:=hps.mem_iff.mp hp;simpa using this,rfl⟩)) ?_ ?_ (.inr (Hu _)) fun b o e=>Hj _ (Hj _ e)
  ·rw [<- range_getD];exact hps.map _
  ·show st.heap.objs.size<=(st.heap.push _).objs.size;rw [e1];exact IP _
  ·show st.heap.objs.size≠(st.heap.push _).objs.size;rw [e1];exact HH (Jf _)
 ·rename_i hdr;refine He (Hg ?_);refine He (wpAny_setEpoch_of hd hdd ht.fit ?_);refine He (m:=newFields _ _) (H9 ?_ (by size_fits));refine Hg ⟨_,rfl, "set_iterator", _,⟨_,HE _ rfl,rfl⟩,SF.fD.lookup,?_⟩;have fin:∀ vs:List Value,vs.Perm (es.toList.map (·.2))->(hU ww=true/\vs=(pickOrder (ww.params.setOrder d ep) es).toList.map (·.2)\/hU ww=false/\es.size<=1/\vs=es.toList.map (·.2))->Q (.ref st.heap.objs.size) { st with heap:=st.heap.push { cls:=.type "set_iterator", data:=.fields #[rawInt 0,rawInt 0,.ref d,rawInt es.size,rawInt ep] } }:=by
   intro vs pm cs;refine h vs (.int 0 0) d _ _ st.drawn pm (HE _ rfl) ?_ (Hu _) (HH hlt) (.inl rfl) fun b o e=>Hj _ e;rcases cs with ⟨hb,rfl⟩ | ⟨hb,h1,rfl⟩
   ·exact .inl ⟨hb,rfl,rfl⟩
   ·refine .inr (.inr ⟨hb,h1,by rw [ht.led,hb];rfl,⟨0,rfl,?_⟩,rfl⟩);rcases IV 0 es.size with z | z
    ·obtain ⟨j,hj⟩:∃ j,tb.place=#[j]:=Array.size_eq_one_iff.mp (by omega);rw [hj];exact (wR j).1
    ·have:tb.place=#[]:=Array.size_eq_zero_iff.mp (by omega);rw [this];rfl
  cases hb:hU ww with
  | true=>exact fin _ ((ud _ es).map _) (.inl ⟨hb,rfl⟩)
  | false =>
   refine fin _ (List.Perm.refl _) (.inr ⟨hb,?_,rfl⟩);rcases IV 1 es.size with z | z
   ·have hp:=ht.pln (by omega);rw [hb,hp,Ii z] at hdr;exact absurd rfl hdr
   ·exact z
theorem Aq {d:Addr} {ss:List Str} {Q:List Value->Shared->Prop} (hh:AA.handled=none) (hS:ey pr ww st.heap d ss)
  (h:∀ vs ss' h' d' tk,StrsAre vs ss'->ss'.Perm ss->st.heap.objs.size<=h'.objs.size->(∀ b o,st.heap.get? b=some o->h'.get? b=some o)->Q vs { st with heap:=h',drawn:=d',toks:=tk }) :
  wpAny (model pr ww) AA (collect (.ref d)) Q EE st:=by
 obtain ⟨ob,es,ep,tb,ho,hx,hdd,he,⟨zs,hz1,hz2⟩,hb,ht⟩:=hS;unfold collect;refine He (wpAny_runValue (IX F.entry_proto_collect ?_));rw [Jk F.plain_proto_collect _];show wpAny _ AA.in1 (newList []>>=fun l=>again (.builtin "list.__iadd__" ⟨[l,.ref d],[]⟩)) _ _ st;refine He (H9 ?_);refine Hg ⟨plainId_quiet F.plain_list_iadd _,IX F.entry_list_iadd ?_⟩;rw [Jk F.plain_list_iadd _];have hlt:d < st.heap.objs.size:=Ht ho;have ne:st.heap.objs.size≠d:=Jy hlt;have g1:(st.heap.push { cls:=.type "list", data:=.seq ([]:List Value).toArray }).get? d=some ob:=Hj _ ho;have g2:(st.heap.push { cls:=.type "list", data:=.seq ([]:List Value).toArray }).get? st.heap.objs.size=some { cls:=.type "list", data:=.seq ([]:List Value).toArray }:=HE _ rfl;have e1:(st.heap.push { cls:=.type "list", data:=.seq ([]:List Value).toArray }).objs.size=st.heap.objs.size+1:=Heap.size_push ..;have sr:Builtin.List.listSameRef (.ref st.heap.objs.size) (.ref d)=false:=by simp [Builtin.List.listSameRef,ne]
 show wpAny _ AA.in1 (Builtin.List.listExtendWith (.ref st.heap.objs.size) (.ref d) (.ref st.heap.objs.size)) _ _ _;unfold Builtin.List.listExtendWith;have hT:∀ (s:Shared),s.heap.get? d=some ob->s.TypeIs (.ref d) "set" := fun s z=>⟨_,z,hx.1⟩;refine He (wpAny_typeOf (hT _ g1) ?_);rw [HC (by rw [sr];decide)];refine He (Bb (st:={ st with heap:=st.heap.push { cls:=.type "list", data:=.seq ([]:List Value).toArray } }) g1 hx hdd ht hb fun vs f0 T IT h' d' pm gI wy lI nT lT kp=>?_);refine He (HY ?_);unfold Builtin.List.listLengthHint;refine He (JB (hT _ (kp _ _ g1)) SF.x8 ?_)
 (generalize hid:("set.__len__" : String)=id0;(fail_if_success (clear hid id0));wp_delta;rw [show splitId id0=some ("set", "__len__") from by subst hid;decide +kernel];subst hid)
 refine He (wpAny_isInstance (b:=true) (hT _ (kp _ _ g1)) sub_set_self ?_);show wpAny _ _ (typeOf (.ref d)>>=_) _ _ _;refine He (wpAny_typeOf (hT _ (kp _ _ g1)) ?_);refine Hg ?_;show wpAny _ AA.in1 (rule "list.extend.makes-room" >>= fun _=>Builtin.List.listTouch (.ref st.heap.objs.size)>>=fun _=>again (.builtin "list.extend.loop" ⟨[.ref st.heap.objs.size,.ref IT,.ref st.heap.objs.size],[]⟩)) _ _ _;refine He (IK ?_);have g3:h'.get? st.heap.objs.size=some { cls:=.type "list", data:=.seq ([]:List Value).toArray }:=kp _ _ g2;refine He ?_;show wpAny _ AA.in1 (updateSeq st.heap.objs.size (·.push .none)>>=fun _=>updateSeq st.heap.objs.size (·.pop)) _ _ _;refine He (wpAny_updateSeq g3 rfl ?_);have g4:=HR (Obj.mapSeq (·.push Value.none)) g3 rfl;refine wpAny_updateSeq g4 rfl ?_;have g5:=HR (Obj.mapSeq (·.pop)) g4 rfl;have oth:∀ b o,b≠st.heap.objs.size->h'.get? b=some o->((h'.update st.heap.objs.size (Obj.mapSeq (·.push Value.none))).update st.heap.objs.size (Obj.mapSeq (·.pop))).get? b=some o :=
  fun b o hb e=>(HU _ _ (Ne.symm hb)).trans ((HU _ _ (Ne.symm hb)).trans e)
 have lI:st.heap.objs.size+1<=IT:=by rw [<- e1];exact lI
 have nI:IT≠st.heap.objs.size:=Jy lI;have nT2:T≠st.heap.objs.size:=by
  rcases lT with z | z
  ·rw [z];exact Ne.symm ne
  ·have z:st.heap.objs.size+1<=T:=by rw [<- e1];exact z
   exact Jy z
 have nd:d≠IT:=HH (Hx (IJ hlt) lI);have hh2:AA.in1.handled=none:=hh;have hsl:vs.length<=sizeLine:=by
  rw [pm.length_eq,Hf,HZ];exact fits_of_scanBound hb
 refine Hg ⟨plainId_quiet F.plain_extend_loop _,codeAny_extend_loopS (BR hh2 IT d T nd nT hdd ht.fit vs) hsl st.heap.objs.size (by simp [ne,Ne.symm nI,Ne.symm nT2]) _ vs.length 0 _ _ _ rfl (Iw _)
  ⟨f0,oth _ _ nI gI,oth _ _ (Ne.symm ne) (kp _ _ g1),wy.frame fun o e=>oth _ _ nT2 e⟩ g5 (ItemsOf.nil _) fun s' acc' c' hm hS' hacc=>?_⟩
 show wpAny _ AA (load st.heap.objs.size>>=_) _ _ s';refine He (wpAny_load hS' ?_);have eacc:acc'.toList=vs:=by
  apply List.ext_getElem?;intro j;rw [II];rcases IV j acc'.size with z | z
  ·rw [Iu z];exact (hacc.2 j _ (Iu z)).symm
  ·rw [Array.getElem?_eq_none z];exact (Je (by rw [<- hacc.1];exact z)).symm
 refine Hg ?_;show Q acc'.toList s';rw [eacc];obtain ⟨ws,w1,w2⟩:=dg pm hz1;obtain ⟨h2,gn,dr,tk,os⟩:=s';have eg:gn=st.gens:=hm.gens;have ed:dr=d':=hm.drawn;have eo:os=st.os:=hm.os;subst eg;subst ed;subst eo;refine h vs ws h2 dr tk w1 (w2.trans hz2) (Jo (Ht hS')) fun b o e=>hm.heap b o ?_ (oth b o ?_ (kp _ _ (Hj _ e)))
 ·have hb:b < st.heap.objs.size:=Ht e;simp only [Hs,List.not_mem_nil,Iv,not_or];exact ⟨HH hb,HH (Hx (IJ hb) lI)⟩
 ·exact HH (Ht e)
end
open PySem PySem.Spec PyProof.Rows
noncomputable def leT (x y:Str):Bool:=!ltCps y.cps.toList x.cps.toList
theorem la (x y:Str):leT x y=true↔x.cps.toList<=y.cps.toList:=by
 unfold leT;rw [ltCps_eq,Bool.not_eq_true',decide_eq_false_iff_not];exact List.not_lt
theorem mn {x y z:Str} (h:leT x y=true) (h':leT y z=true):leT x z=true:=by
 rw [la] at *;exact List.le_trans h h'
theorem sY (x y:Str):leT x y=true\/leT y x=true:=by
 rw [la,la];exact List.le_total _ _
theorem kq {x y:Str} (h:leT x y=true) (h':leT y x=true):x=y:=by
 rw [la] at *;have:=List.le_antisymm h h';cases x;cases y;simp only [Str.mk.injEq];exact Array.toList_inj.mp this
noncomputable def zh (x:Str):List Str->List Str
 | []=>[x]
 | y :: r=>if leT x y=true then x :: y :: r else y :: zh x r
noncomputable def ig:List Str->List Str
 | []=>[]
 | x :: r=>zh x (ig r)
theorem i4 (x:Str):∀ l:List Str,(zh x l).Perm (x :: l)
 | []=>List.Perm.refl _
 | y :: r=>by
  unfold zh;split
  ·exact List.Perm.refl _
  ·exact ((i4 x r).cons y).trans (List.Perm.swap ..)
theorem bU:∀ l:List Str,(ig l).Perm l
 | []=>List.Perm.refl _
 | x :: r=>(i4 x _).trans ((bU r).cons x)
theorem qU (x:Str):∀ l:List Str,l.Pairwise (fun a b=>leT a b=true)->(zh x l).Pairwise fun a b=>leT a b=true
 | [],_=>by simp [zh]
 | y :: r,h=>by
  obtain ⟨h1,h2⟩:=IG.mp h;unfold zh;split
  ·rename_i c;refine IG.mpr ⟨fun b hb=>?_,h⟩;rcases Hs.mp hb with rfl | hb
   ·exact c
   ·exact mn c (h1 b hb)
  ·rename_i c;refine IG.mpr ⟨fun b hb=>?_,qU x r h2⟩;rcases Hs.mp ((i4 x r).mem_iff.mp hb) with rfl | hb
   ·exact (sY b y).resolve_left c
   ·exact h1 b hb
theorem jj:∀ l:List Str,(ig l).Pairwise fun a b=>leT a b=true
 | []=>by simp [ig]
 | x :: r=>qU x _ (jj r)
theorem lJ:∀ (p:Str) (l:List Str),risingS p l=true->(p :: l).Pairwise fun a b=>leT a b=true
 | p,[],_=>by simp
 | p,x :: r,h=>by
  have h:(!ltCps x.cps.toList p.cps.toList&&risingS x r)=true:=h;rw [HK] at h;have ih:=lJ x r h.2;refine IG.mpr ⟨fun b hb=>?_,ih⟩;rcases Hs.mp hb with rfl | hb
  ·exact h.1
  ·exact mn h.1 ((IG.mp ih).1 b hb)
theorem rh:∀ {l:List Str},sortedS l=true->l.Pairwise fun a b=>leT a b=true
 | [],_=>by simp
 | x :: r,h=>lJ x r h
theorem ma {l l':List Str} (h:sortedS l=true) (p:l.Perm l'):l=ig l' :=
 List.Perm.eq_of_pairwise (fun _ _ _ _ a b=>kq a b) (rh h) (jj l') (p.trans (bU l').symm)
noncomputable def dG (ss:List Str):List Str:=ss.foldl jJ []
theorem g8 (x:Str):∀ (ss acc:List Str),x∈ss.foldl jJ acc↔x∈acc\/x∈ss
 | [],acc=>by simp
 | y :: r,acc=>by
  rw [List.foldl_cons,g8 x r];have:x∈jJ acc y↔x∈acc\/x=y:=by
   unfold jJ;split
   ·rename_i h;constructor
    ·exact .inl
    ·rintro (h' | rfl)
     ·exact h'
     ·exact h
   ·simp
  rw [this,Hs,or_assoc]
theorem pN {x:Str} {ss:List Str}:x∈dG ss↔x∈ss:=by
 unfold dG;rw [g8];simp
theorem g9:∀ (ss acc:List Str),(ss.foldl jJ acc).length<=acc.length+ss.length
 | [],acc=>by simp
 | y :: r,acc=>by
  rw [List.foldl_cons];have:=g9 r (jJ acc y);have h:(jJ acc y).length<=acc.length+1:=by
   unfold jJ;split
   ·omega
   ·simp
  rw [HD];omega
theorem pU (ss:List Str):(dG ss).length<=ss.length:=by
 have:=g9 ss [];unfold dG;simpa using this
section
variable {pr:Program} {ww:World} {AA:Around} {EE:Value->Shared->Prop} {st:Shared}
theorem Aj {d:Addr} {ss:List Str} {Q:Value->Shared->Prop} (hh:AA.handled=none) (hS:ey pr ww st.heap d ss) (h64:ss.length < 64)
  (h:∀ (out:List Value) h' d' tk p e,StrsAre out (ig ss)->(∀ b o,st.heap.get? b=some o->h'.get? b=some o)->st.heap.objs.size<=p->h'.get? p=some (seqObj "list" out.toArray e)->Q (.ref p) { st with heap:=h',drawn:=d',toks:=tk }) :
  wpAny (model pr ww) AA (call (.builtin "sorted") [.ref d]) Q EE st:=by
 refine Calls.call_function_entry kind_sorted plain_sorted entry_sorted (args_sorted1 _) ?_;unfold Builtin.«sorted»
 refine He (m:=checkCount "sorted" 1 1 _) (Hg ?_);refine He (Aq hh hS fun vs ss' h1 d1 tk h2 h3 le h4=>?_);have hl:vs.length < 64:=by rw [cO h2,h3.length_eq];exact h64
 refine He (wpAny_newList ?_ (by rw [Jg];omega));have g1:(h1.push (seqObj "list" vs.toArray 0)).get? h1.objs.size=some (seqObj "list" vs.toArray 0):=HE _ rfl;refine He (HY (Ip slot_list_sort ⟨_,g1,rfl⟩ entry_list_sort (list_sort_treeK strKind_oneLt g1 h2.keysOf (fun v1 v2 rest e=>keyKind_strs (by rw [<- e];exact h2)) hl fun st' a1 a2=>⟨_,rfl,?_⟩) (args_list_sort _)));obtain ⟨zs,z1,z2,z3⟩:=sorted_out_str h2 a1 a2;have ez:zs=ig ss:=ma z3 (z2.trans h3);rw [ez] at z1;obtain ⟨e,he⟩:=sortedHeap_at (out:=(arrOf st').map (·.2)) (vs:=vs) (n:=0) g1;refine Hg ⟨_,rfl,h _ _ d1 tk h1.objs.size e z1 (fun b o q=>?_) le ?_⟩
 ·have lt:b < h1.objs.size:=Ht (h4 b o q);rw [sortedHeap_old (HH lt) (by rw [size_push'];exact IJ lt)];exact Hj _ (h4 b o q)
 ·rw [Jj];exact he
end
open PySem PySem.Spec PyProof.Rows
theorem nu:∀ {ds:List PyData} {ss:List Str},strsOf ds=some ss->ds=ss.map .str
 | [],ss,h=>by cases h;rfl
 | d :: ds,ss,h=>by
  unfold strsOf at h;split at h
  ·cases h;rename_i e;cases e
  ·rename_i x r e;cases e;split at h
   ·rename_i xs hx;cases h;rw [nu hx];rfl
   ·cases h
  ·cases h
theorem ny {K:Fg} {F:Addr->Prop} {H:Hp}:∀ {ss:List Str},(∀ s∈ss,s.length<=sizeLine/\PyData.strOk s=true)->DmL K F H (ss.map .str) (ss.map V.str)
 | [],_=>rfl
 | s :: ss,h=>⟨_,_,rfl,⟨rfl,h s Hw⟩,ny fun x hx=>h x (Hk _ hx)⟩
theorem tf {K:Fg} {F:Addr->Prop} {H:Hp}:∀ {ss:List Str} {us:List V},DmL K F H (ss.map .str) us->∀ s∈ss,s.length<=sizeLine/\PyData.strOk s=true
 | [],_,_,s,hs=>by cases hs
 | s :: ss,us,h,x,hx=>by
  obtain ⟨v,r,rfl,h1,h2⟩:=h;rcases Hs.mp hx with rfl | hx
  ·exact h1.2
  ·exact tf h2 x hx
noncomputable def vp:PyData->Option PR
 | .list ds=>match strsOf ds with | some ss=>if ss.length < 64 then some (.frs (.list ((ig ss).map .str))) else none | none=>none
 | _=>none
noncomputable def ki:Prm:=Prm.one (fun K x=>wt K [x]) vp fun K F H x u pr Q hf hx hd q=>by
 unfold vp at hf;split at hf
 ·rename_i ds;split at hf
  ·rename_i ss hss;split at hf
   ·rename_i h64;cases hf;obtain ⟨a,us,rfl,s1,z1,d1⟩:=p0 hx;obtain ⟨e,os⟩:=ua hss d1;rw [e] at s1;rw [nu hss] at d1;refine ⟨a,ss,rfl,s1,h64,fun p ss' hp pm so=>?_⟩;have es:ss'=ig ss:=ma so pm;subst es;refine q _ _ (bq.nw _ hp) (zD hp (by rw [Hf,(bU ss).length_eq,Jg];omega) (ny fun s hs=>tf d1 s ((bU ss).mem_iff.mp hs)))
   ·cases hf
  ·cases hf
 ·cases hf
theorem qg {X:Cx}:bN X (.builtin "sorted") (ki.r X.K):=mw lO fun _ _ _ h=>h
noncomputable def CW (X:Cx) (p:Addr) (ss:List Str):HO:=.ext fun h=>ey X.prog X.w h p ss
def D1 (X:Cx):List V->Hp->VK->Prop:=fun xs H Q=>∃ (a:Addr) (ss:List Str),xs=[.ref a]/\SqL X.K H a (ss.map V.str)/\ss.length < 1000/\∀ p,H p=none->Q (.ref p) (upd H p (CW X p (dG ss)))
theorem uj {X:Cx} (hc:X.calm=true):bN X (.type "set") (D1 X):=by
 intro pins s σ H xs us Q I r h;obtain ⟨a,ss,rfl,hq,hl,q⟩:=h;obtain ⟨u,rfl,r1⟩:=vals1 r;cases (show u=Value.ref a from r1);obtain ⟨its,rv,p,hz⟩:=I.list hq;have hS:=gH rv;have hl2:its.length=ss.length:=by rw [<- rv.length,Hf]
 refine qT (I.ok.hd hc) p.isList (by simpa using hS) (by show its.toArray.size+1 < 4096;rw [HB];omega) fun h' tk hS' hk=>?_;have hn:H s.heap.objs.size=none:=I.hok.fresh (Hu _);refine ⟨.ref s.heap.objs.size,_,I.laid (t':=tk) (o:=CW X s.heap.objs.size (dG ss)) (fun b o hb=>hk b o (Ht hb) hb) (Hu _) ?_,rfl,q _ hn⟩;obtain ⟨ob,es,ep,tb,ho,_⟩:=hS'.size;exact ⟨hS',⟨_,ho⟩,fun h1 h2 z k=>z.at k⟩
def z9 (X:Cx):List V->Hp->VK->Prop:=fun xs H Q=>∃ (d:Addr) (ss:List Str),xs=[.ref d]/\H d=some (CW X d ss)/\ss.length < 64/\∀ p,H p=none->Q (.ref p) (upd H p (.lst ((ig ss).map V.str)))
theorem Inv.drew {X:Cx} {pins:List (Addr×Obj)} {σ:St} {H:Hp} {s:Shared} {d':Drawn} (I:Inv X pins σ H s):Inv X pins σ H { s with drawn:=d' } :=
 ⟨I.ok,I.os,I.bare,I.base,I.loc,I.cell,I.free,I.fq,I.pin,I.hok,I.len⟩
theorem qf {X:Cx} (hc:X.calm=true):bN X (.builtin "sorted") (z9 X):=by
 intro pins s σ H xs us Q I r h;obtain ⟨d,ss,rfl,hq,h64,q⟩:=h;obtain ⟨u,rfl,r1⟩:=vals1 r;cases (show u=Value.ref d from r1);obtain ⟨hS,_⟩:=I.hok _ _ hq;refine Aj (I.ok.hd hc) hS h64 fun out h' d' tk p e ho hk hp hg=>?_;have hn:H p=none:=I.hok.fresh hp;refine ⟨.ref p,_,Inv.drew (d':=d') (I.laid (t':=tk) (o:=.lst ((ig ss).map V.str)) hk hp ?_),rfl,q _ hn⟩;exact ⟨by rw [Hf,(bU ss).length_eq,Jg];omega,out,e,nE ho,hg⟩
def rSS (K:Fg):V->Hp->VK->Prop:=fun x H Q=>∃ (a:Addr) (ss:List Str),x=.ref a/\SqL K H a (ss.map V.str)/\ss.length < 64/\∀ H1 p,bq H H1->H1 p=none->Q (.ref p) (upd H1 p (.lst ((ig (dG ss)).map V.str)))
noncomputable def vF:PyData->Option PR
 | .list ds=>match strsOf ds with | some ss=>if ss.length < 64 then some (.frs (.list ((ig (dG ss)).map .str))) else none | none=>none
 | _=>none
noncomputable def vG:Prm:=Prm.one rSS vF fun K F H x u pr Q hf hx hd q=>by
 unfold vF at hf;split at hf
 ·rename_i ds;split at hf
  ·rename_i ss hss;split at hf
   ·rename_i h64;cases hf;obtain ⟨a,us,rfl,s1,z1,d1⟩:=p0 hx;obtain ⟨e,os⟩:=ua hss d1;rw [e] at s1;rw [nu hss] at d1;refine ⟨a,ss,rfl,s1,h64,fun H1 p sm hp=>?_⟩;have hp0:H p=none:=sm.free hp;have dl:DmL K F H ((ig (dG ss)).map .str) ((ig (dG ss)).map V.str):=ny fun s hs=>tf d1 s (pN.mp ((bU _).mem_iff.mp hs));refine q _ _ (sm.trans (bq.nw _ hp)) ?_;refine ⟨p,rfl,hp0,_,ay,?_,(dl.fresh hp0).pr (Pr.of_same (sm.trans (bq.nw _ hp))) fun _ z=>z⟩;rw [Hf,(bU _).length_eq,Jg];have:=pU ss;omega
   ·cases hf
  ·cases hf
 ·cases hf
theorem eSS {X:Cx} {e:Expr} {te:TE} {p1 p2 pos1 pos2:Pos} (hc:X.calm=true) (hg1:Gl X "sorted") (hm1:X.mg "sorted" = none) (hg2:Gl X "set") (hm2:X.mg "set" = none) (h:PySem.W.isStarred e=false) (ha:JE X e te) :
  JE X (.Call (.Name "sorted" p1) [.Call (.Name "set" p2) [e] [] pos2] [] pos1) (tCB (vG.r X.K) (aa te aj)):=by
 let te':TE:=fun σ H P=>∃ P0:VK,te σ H P0/\∀ x H1,P0 x H1->P x H1
 have ha':JE X e te':=⟨fun pins s σ H P I ⟨P0,h0,h1⟩=>HP (ha.h pins s σ H P0 I h0) (fun v s' ⟨x,H',I',r,q⟩=>⟨x,H',I',r,h1 _ _ q⟩) fun _ _ z=>z⟩;have inner:=eTy (p:=p2) (pos:=pos2) (uj hc) hg2 hm2 (by decide +kernel) (eA ha' ao h) h rfl (by decide) rfl;have outer:=eB (p:=p1) (pos:=pos1) (qf hc) hg1 hm1 (by decide +kernel) (eA inner ao rfl) rfl rfl (by decide) rfl;refine ⟨?_⟩;intro pins s σ H Q I hT;refine outer.h pins s σ H Q I ⟨_,hT,fun x H1 z=>?_⟩;have z:rSS X.K x H1 Q:=z;obtain ⟨a,ss,rfl,sq,h64,q⟩:=z;refine ⟨a,ss,rfl,sq,by omega,fun p hp=>?_⟩;refine ⟨p,dG ss,rfl,ay,by have:=pU ss;omega,fun p2 hp2=>?_⟩;exact q _ p2 (bq.nw _ hp) hp2
open PySem PySem.Spec PyProof.Rows
noncomputable def t8:PyData->List PyData->Option PR
 | .str z,[.str y]=>some (.dat (.bool (decide (y.length<=z.length)&&Builtin.Str.subAt z y 0)))
 | _,_=>none
noncomputable def nP:Mtd where
 T := "str"
 r:=fun _=>t5
 ty:=isS
 f:=t8
 Cu:=fun K F H d v h t=>ty_str h t
 ok:=fun K F H d v ds vs pr Q hf hx hv hd q=>by
  unfold t8 at hf;split at hf
  ·cases hf;obtain ⟨rfl,_⟩:=vStr hx;obtain ⟨w,r,rfl,hw,rfl⟩:=hv;obtain ⟨rfl,_⟩:=vStr hw;exact ⟨_,_,rfl,rfl,q _ H (bq.rf H) rfl⟩
  ·cases hf
open PySem
structure Kn where
 nx:En->Prop
 rt:RV->En->Prop
 bk:En->Prop
 ct:En->Prop
def Kn.at (E:Kn):Out->Prop | .nx e=>E.nx e | .rt r e=>E.rt r e | .bk e=>E.bk e | .ct e=>E.ct e
def WS (gd:List PyData) (s:XS) (env:En) (E:Kn):Prop:=∃ o,dS gd s env=some o/\E.at o
def WE (gd:List PyData) (e:XE) (env:En) (Q:RV->En->Prop):Prop:=∃ r e',dE gd e env=some (r,e')/\Q r e'
def WA (gd:List PyData) (e:XA) (env:En) (Q:List AV->En->Prop):Prop:=∃ r e',dA gd e env=some (r,e')/\Q r e'
def WT (gd:List PyData) (e:XT) (env:En) (Q:Bool->En->Prop):Prop:=∃ r e',dT gd e env=some (r,e')/\Q r e'
def WI (gd:List PyData) (e:XI) (env:En) (Q:List PyData->Option Nat->En->Prop):Prop:=∃ ds lk e',dI gd e env=some (ds,lk,e')/\Q ds lk e'
def WF (f:Fn) (ds:List PyData) (Q:PR->List PyData->Prop):Prop:=∃ pr outs,f.F ds=some (pr,outs)/\Q pr outs
def WPr (p:Prm) (avs:List AV) (e:En) (Q:RV->En->Prop):Prop:=∃ ds pr,bS e avs=some ds/\p.f ds=some pr/\Q pr.rv e
def Cv (i:Nat) (r:RV) (e:En) (N:En->Prop):Prop:=∃ d,r.av=.dat d/\free e i=true/\N (e.set i (.dat d))
def sG (i:Nat) (r:RV) (e:En) (N:En->Prop):Prop:=∃ d,r=.frs d/\free e i=true/\N (e.set i (.own d))
def Fp (b:PyData->En->Option Out) (ds:List PyData) (lk:Option Nat) (e1:En) (E:Kn):Prop:=∃ o,forL b ds (cz e1 lk)=some o/\E.at (o.map (lkd e1 lk) (aO e1 lk))
def qN (f:Fn) (avs:List AV) (e:En) (Q:RV->En->Prop):Prop:=∃ rv e',vN f avs e=some (rv,e')/\Q rv e'
def zI (ms:List PM) (QF:PR->List PyData->Prop) (r:RV) (e:En):Prop:=∃ pr outs,r.pr=some pr/\jw ms e=some outs/\QF pr outs
def uV (ms:List PM) (QF:PR->List PyData->Prop) (e:En):Prop:=∃ outs,jw ms e=some outs/\QF (.dat .none) outs
def zN (m:vC) (i:Nat) (v:PyData) (rk:RV) (e2:En) (N:En->Prop):Prop:=∃ dk d d',rk.view e2=some dk/\bx e2 i=some d/\m.f d dk v=some d'/\N (gU e2 i d')
def CT (gd:List PyData) (m:vC) (i:Nat) (a:XE) (r:RV) (e:En) (N:En->Prop):Prop:=∃ v,r.av=.dat v/\(bx e i).isSome=true/\WE gd a e fun rk e2=>zN m i v rk e2 N
def C1 (m:Mtd) (r:RV) (avs:List AV) (e2:En) (Q:RV->En->Prop):Prop:=∃ d ds pr,r.view e2=some d/\bS e2 avs=some ds/\m.f d ds=some pr/\Q pr.rv e2
def CY (gd:List PyData) (m:Mtd) (as:XA) (r:RV) (e:En) (Q:RV->En->Prop):Prop:=∃ d0,r.view e=some d0/\m.ty d0=true/\WA gd as e fun avs e2=>C1 m r avs e2 Q
def WMr (m:Mtr) (i:Nat) (avs:List AV) (e2:En) (Q:RV->En->Prop):Prop:=∃ d ds d' x,bx e2 i=some d/\fF e2 avs=some ds/\m.f d ds=some (d',x)/\Q (.dat x) (gU e2 i d')
def WTp (mk:List PyData->RV) (avs:List AV) (e:En) (Q:RV->En->Prop):Prop:=∃ ds,mG avs=some ds/\ds.length<=sizeLine/\Q (mk ds) e
def C7 (is:List Nat) (r:RV) (e:En) (N:En->Prop):Prop:=∃ ds e2,r.av=.dat (.tuple ds)/\fQ e is ds=some e2/\N e2
section
variable {gd:List PyData} {env e1:En} {E:Kn} {Q:RV->En->Prop} {QA:List AV->En->Prop} {QT:Bool->En->Prop} {QI:List PyData->Option Nat->En->Prop} {i:Nat} {d:PyData} {a b c:XE} {as:XA} {s t:XS} {p:Prm} {f:Fn} {x y:XT}
theorem fA {ms:List PM} {n:Nat} {ds:List PyData} {QF:PR->List PyData->Prop} (hl:ds.length=ms.length) (h:WS gd s (aA ms ds n) ⟨uV ms QF,zI ms QF,fun _=>False,fun _=>False⟩):WF (jZ gd ms n s) ds QF:=by
 obtain ⟨o,ho,q⟩:=h;unfold WF jZ;simp only;rw [Hy hl,ho];cases o with
 | nx e=>obtain ⟨outs,h1,h2⟩:=q;simp only [h1];exact ⟨_,_,rfl,h2⟩
 | rt r e=>obtain ⟨pr,outs,h1,h2,h3⟩:=q;simp only [h1,h2];exact ⟨_,_,rfl,h3⟩
 | bk e=>exact absurd q id
 | ct e=>exact absurd q id
theorem A6 (h:WS gd s env { E with nx:=fun e=>WS gd t e E }):WS gd (.seq s t) env E:=by
 obtain ⟨o,ho,q⟩:=h;unfold WS;simp only [dS,ho];cases o with
 | nx e=>exact q
 | rt r e=>exact ⟨_,rfl,q⟩
 | bk e=>exact ⟨_,rfl,q⟩
 | ct e=>exact ⟨_,rfl,q⟩
theorem kd (h:∀ N:En->Prop,N=(fun e=>WS gd t e E)->WS gd s env { E with nx:=N }):WS gd (.seq s t) env E:=A6 (h _ rfl)
theorem iQ {e:En} {x y:AV} {i:Int} {xs:List PyData} (h1:bS e [x,y]=some [.list xs,.int i]) (h:atI xs i=some d) (q:Q (.dat d) e):WPr ixP [x,y] e Q:=⟨_,.dat d,h1,by show (atI xs i).map PR.dat=_;rw [h];rfl,q⟩
theorem iP {e:En} {x y:AV} {i:Int} {xs:List PyData} (h1:bS e [x,y]=some [.tuple xs,.int i]) (h:atI xs i=some d) (q:Q (.dat d) e):WPr ixP [x,y] e Q:=⟨_,.dat d,h1,by show (atI xs i).map PR.dat=_;rw [h];rfl,q⟩
theorem A4 {e:En} {x y:AV} {i:Int} {z:Str} {c:Nat} (h1:bS e [x,y]=some [.str z,.int i]) (h:atI z.cps.toList i=some c) (q:Q (.dat (.str ⟨#[c]⟩)) e):WPr ixP [x,y] e Q:=⟨_,.dat (.str ⟨#[c]⟩),h1,by show (atI z.cps.toList i).map _=_;rw [h];rfl,q⟩
theorem Bv (h:E.nx env):WS gd .skip env E:=⟨_,rfl,h⟩
theorem Ex (h:E.bk env):WS gd .brk env E:=⟨_,rfl,h⟩
theorem DY (h:E.ct env):WS gd .cnt env E:=⟨_,rfl,h⟩
theorem Ci (h:E.rt (.dat .none) env):WS gd .CV env E:=⟨_,rfl,h⟩
theorem AY (h:WE gd a env fun r e=>Cv i r e E.nx):WS gd (.cp i a) env E:=by
 obtain ⟨r,e',h1,d,h2,h3,h4⟩:=h;unfold WS;simp only [dS,h1,h2];rw [Hy h3];exact ⟨_,rfl,h4⟩
theorem BU (h:WE gd a env fun r e=>sG i r e E.nx):WS gd (.nq i a) env E:=by
 obtain ⟨r,e',h1,d,rfl,h3,h4⟩:=h;unfold WS;simp only [dS,h1];rw [Hy h3];exact ⟨_,rfl,h4⟩
theorem BL {is:List Nat} (h:WE gd a env fun r e=>C7 is r e E.nx):WS gd (.Cm is a) env E:=by
 obtain ⟨r,e',h1,ds,e2,h2,h3,h4⟩:=h;unfold WS;simp only [dS,h1,h2,h3];exact ⟨_,rfl,h4⟩
theorem B6 (h:WE gd a env fun _ e=>E.nx e):WS gd (.drop a) env E:=by
 obtain ⟨r,e',h1,h2⟩:=h;unfold WS;simp only [dS,h1];exact ⟨_,rfl,h2⟩
theorem EY (h:WE gd a env E.rt):WS gd (.ret a) env E:=by
 obtain ⟨r,e',h1,h2⟩:=h;unfold WS;simp only [dS,h1];exact ⟨_,rfl,h2⟩
theorem D7 (h:WT gd x env fun b e=>if b=true then WS gd s e E else WS gd t e E):WS gd (.ifs x s t) env E:=by
 obtain ⟨b,e',h1,h2⟩:=h;unfold WS;simp only [dS,h1];cases b with
 | true=>exact h2
 | false=>exact h2
theorem Gs {it:XI} (h:WI gd it env fun ds lk e=>Fp (jX i (dS gd s)) ds lk e E):WS gd (.fr i it s) env E:=by
 obtain ⟨ds,lk,e',h1,o,h2,h3⟩:=h;unfold WS;simp only [dS,h1,h2];exact ⟨_,rfl,h3⟩
theorem DO {is:List Nat} {it:XI} (h:WI gd it env fun ds lk e=>Fp (jt is (dS gd s)) ds lk e E):WS gd (.frT is it s) env E:=by
 obtain ⟨ds,lk,e',h1,o,h2,h3⟩:=h;unfold WS;simp only [dS,h1,h2];exact ⟨_,rfl,h3⟩
theorem Eu {m:vC} (h:WE gd b env fun r e=>CT gd m i a r e E.nx):WS gd (.sto m i a b) env E:=by
 obtain ⟨r,e',h1,v,h2,h3,rk,e2,h4,dk,d,d',h5,h6,h7,h8⟩:=h;obtain ⟨d0,hd0⟩:=Option.isSome_iff_exists.mp h3;unfold WS;simp only [dS,h1,h2,hd0,h4,h5,h6,h7];exact ⟨_,rfl,h8⟩
theorem w_var (h:env[i]?=some (.dat d)) (q:Q (.dat d) env):WE gd (.var i) env Q:=⟨_,_,by simp only [dE,h],q⟩
theorem B5 (h:env[i]?=some (.own d)) (q:Q (.bor i) env):WE gd (.var i) env Q:=⟨_,_,by simp only [dE,h],q⟩
theorem zU (h:env[i]?=some (.ino d)) (q:Q (.bor i) env):WE gd (.var i) env Q:=⟨_,_,by simp only [dE,h],q⟩
theorem Ax (h:env[i]?=some (.ro d)) (q:Q (.bor i) env):WE gd (.var i) env Q:=⟨_,_,by simp only [dE,h],q⟩
theorem Dx (h:env[i]?=some (.own d)) (q:Q (.dat d) (env.set i (.dat d))):WE gd (.mov i) env Q:=⟨_,_,by simp only [dE,h],q⟩
theorem Fo (h:env[i]?=some (.own d)) (q:Q (.frs d) (env.set i .un)):WE gd (.tke i) env Q:=⟨_,_,by simp only [dE,h],q⟩
theorem DH {c:Cst} (q:Q (.dat c.d) env):WE gd (.cst c) env Q:=⟨_,_,rfl,q⟩
theorem DR {g:Nat} (h:gd[g]?=some d) (q:Q (.dat d) env):WE gd (.glb g) env Q:=⟨_,_,by simp only [dE,h],q⟩
theorem FC (h:WA gd as env fun avs e=>WPr p avs e Q):WE gd (.prm p as) env Q:=by
 obtain ⟨avs,e',h1,ds,pr,h2,h3,h4⟩:=h;exact ⟨_,_,by simp only [dE,h1,h2,h3],h4⟩
theorem BO (h:WA gd as env fun avs e=>qN f avs e Q):WE gd (.call f as) env Q:=by
 obtain ⟨avs,e',h1,rv,e2,h2,h3⟩:=h;exact ⟨_,_,by simp only [dE,h1];exact h2,h3⟩
theorem aM {avs:List AV} {ds:List PyData} {is:List Nat} (h1:jG e1 f.ms avs=some ds) (h2:du f.ms avs=is) (h:WF f ds fun pr outs=>ckA is (rZ f.ms avs) outs.length=true/\Q pr.rv (eD e1 is outs)):qN f avs e1 Q:=by
 obtain ⟨pr,outs,h3,h4,h5⟩:=h;subst h2;unfold qN vN;simp only [h1,h3];rw [Hy h4];exact ⟨_,_,rfl,h5⟩
theorem DD {m:Mtd} {o:XE} (h:WE gd o env fun r e=>CY gd m as r e Q):WE gd (.met m o as) env Q:=by
 obtain ⟨r,e',h1,d0,h2,h3,avs,e2,h4,d,ds,pr,h5,h6,h7,h8⟩:=h;exact ⟨_,_,by simp only [dE,h1,h2];rw [Hy h3];simp only [h4,h5,h6,h7],h8⟩
theorem EA {m:Mtr} (h0:bx env i=some d) (h1:m.ty d=true) (h:WA gd as env fun avs e2=>WMr m i avs e2 Q):WE gd (.mtr m i as) env Q:=by
 obtain ⟨avs,e2,h4,d,ds,d',x,h5,h6,h7,h8⟩:=h;exact ⟨_,_,by simp only [dE,h0];rw [Hy h1];simp only [h4,h5,h6,h7],h8⟩
theorem z6 (h:WA gd as env fun avs e=>WTp (fun ds=>.dat (.tuple ds)) avs e Q):WE gd (.tup as) env Q:=by
 obtain ⟨avs,e2,h4,ds,h5,h6,h7⟩:=h;exact ⟨_,_,by simp only [dE,h4,h5];rw [Hy h6],h7⟩
theorem A9 (h:WA gd as env fun avs e=>WTp (fun ds=>.frs (.list ds)) avs e Q):WE gd (.lst as) env Q:=by
 obtain ⟨avs,e2,h4,ds,h5,h6,h7⟩:=h;exact ⟨_,_,by simp only [dE,h4,h5];rw [Hy h6],h7⟩
theorem E3 (h:WT gd x env fun k e=>if k=true then WE gd a e Q else WE gd b e Q):WE gd (.ifx x a b) env Q:=by
 obtain ⟨k,e',h1,h2⟩:=h;unfold WE;simp only [dE,h1];cases k with
 | true=>exact h2
 | false=>exact h2
theorem BB (h:WE gd a env fun r e=>∃ k,r=.dat (.bool k)/\if k=true then WE gd b e Q else Q (.dat (.bool false)) e):WE gd (.Cf a b) env Q:=by
 obtain ⟨r,e',h1,k,rfl,h2⟩:=h;unfold WE;cases k with
 | true=>simp only [dE,h1];exact h2
 | false=>simp only [dE,h1];exact ⟨_,_,rfl,h2⟩
theorem ED (h:WE gd a env fun r e=>∃ k,r=.dat (.bool k)/\if k=true then Q (.dat (.bool true)) e else WE gd b e Q):WE gd (.orv a b) env Q:=by
 obtain ⟨r,e',h1,k,rfl,h2⟩:=h;unfold WE;cases k with
 | true=>simp only [dE,h1];exact ⟨_,_,rfl,h2⟩
 | false=>simp only [dE,h1];exact h2
theorem BQ (h:WE gd a env fun r e=>∃ k,r=.dat (.bool k)/\Q (.dat (.bool (!k))) e):WE gd (.Cs a) env Q:=by
 obtain ⟨r,e',h1,k,rfl,h2⟩:=h;exact ⟨_,_,by simp only [dE,h1],h2⟩
theorem EL {p':Prm} (h:WE gd a env fun r e=>WE gd b e fun r2 e2=>∃ x y k,r.av=.dat x/\r2.av=.dat y/\p.f [x,y]=some (.dat (.bool k))/\if k=true then WE gd c e2 fun r3 e3=>∃ z pr,r3.av=.dat z/\p'.f [y,z]=some pr/\Q pr.rv e3 else Q (.dat (.bool false)) e2):WE gd (.chn p p' a b c) env Q:=by
 obtain ⟨r,e',h1,r2,e2,h2,x,y,k,h3,h4,h5,h6⟩:=h;unfold WE;cases k with
 | true =>
  rw [Hy rfl] at h6;obtain ⟨r3,e3,h7,z,pr,h8,h9,h10⟩:=h6;simp only [dE,h1,h2,h3,h4,h5,h7,h8,h9];exact ⟨_,_,rfl,h10⟩
 | false =>
  rw [HC (by decide)] at h6;simp only [dE,h1,h2,h3,h4,h5];exact ⟨_,_,rfl,h6⟩
theorem DU {g:Int->Int->Prm} (h:WE gd a env fun r e=>WE gd b e fun r2 e2=>∃ i,r2=.dat (.int i)/\WE gd c e2 fun r3 e3=>∃ j,r3=.dat (.int j)/\∃ d pr,r.view e3=some d/\(g i j).f [d]=some pr/\Q pr.rv e3):WE gd (.sl2 g a b c) env Q:=by
 obtain ⟨r,e',h1,r2,e2,h2,i,rfl,r3,e3,h3,j,rfl,d,pr,h4,h5,h6⟩:=h;exact ⟨_,_,by simp only [dE,h1,h2,h3,h4,h5],h6⟩
def Fi (st:PyData->En->Option (Option PyData×En)) (js:List Nat) (ds:List PyData) (lk:Option Nat) (e1:En) (Q:RV->En->Prop):Prop :=
 ∃ ys ec,uI st ds (fz e1 lk js)=some (ys,ec)/\Q (.frs (.list ys)) (bA e1 js ec)
theorem Fh {js:List Nat} {it:XI} (hn:x9 js=true) (h:WI gd it env fun ds lk e1=>Fi (jh (dT gd x) (dE gd a)) js ds lk e1 Q):WE gd (.cmp js it x a) env Q:=by
 obtain ⟨ds,lk,e1,h1,ys,ec,h2,h3⟩:=h;refine ⟨_,_,?_,h3⟩;simp only [dE,h1];rw [Hy (iy hn),h2]
theorem Bx {n:List Str} {js:List Nat} {it:XI} (hn:x9 js=true) (h:WI gd it env fun ds lk e1=>Fi (fV n.length (dE gd a)) js ds lk e1 Q):WE gd (.zL n js it a) env Q:=by
 obtain ⟨ds,lk,e1,h1,ys,ec,h2,h3⟩:=h;refine ⟨_,_,?_,h3⟩;simp only [dE,h1];rw [Hy (iy hn),h2]
def rV (st:PyData->En->Option (Option PyData×En)) (d:PyData) (ec:En) (Q:Option PyData->En->Prop):Prop:=∃ y e,st d ec=some (y,e)/\Q y e
theorem g6 {QS:Option PyData->En->Prop} {ec:En} (h:WT gd x (.dat d :: ec) fun k e2=>if k=true then WE gd a e2 fun r e3=>∃ y,r.av=.dat y/\QS (some y) e3.tail else QS none e2.tail):rV (jh (dT gd x) (dE gd a)) d ec QS:=by
 obtain ⟨k,e2,h1,h2⟩:=h;unfold rV jh;rw [h1];cases k with
 | true =>
  rw [Hy rfl] at h2;obtain ⟨r,e3,h3,y,h4,h5⟩:=h2;simp only [h3,h4];exact ⟨_,_,rfl,h5⟩
 | false =>
  rw [HC (by decide)] at h2;exact ⟨_,_,rfl,h2⟩
theorem zg {QS:Option PyData->En->Prop} {ec:En} {n:Nat} {xs:List PyData} (hl:xs.length=n) (h:WE gd a (xs.map .dat++ec) fun r e3=>∃ y,r.av=.dat y/\QS (some y) (e3.drop n)):rV (fV n (dE gd a)) (.tuple xs) ec QS:=by
 obtain ⟨r,e3,h3,y,h4,h5⟩:=h;unfold rV fV;simp only;rw [Hy hl];simp only [h3,h4];exact ⟨_,_,rfl,h5⟩
theorem dJ {st:PyData->En->Option (Option PyData×En)} {js:List Nat} {ds:List PyData} {lk:Option Nat} (Inv:Nat->List PyData->En->Prop) (h0:Inv 0 [] (fz e1 lk js))
  (hs:∀ i d ys ec,ds[i]?=some d->Inv i ys ec->rV st d ec fun y e=>Inv (i+1) (ys++y.toList) e)
  (hq:∀ ys ec,Inv ds.length ys ec->Q (.frs (.list ys)) (bA e1 js ec)):Fi st js ds lk e1 Q:=by
 have key:∀ (rest:List PyData) (i:Nat) (ys:List PyData) (ec:En),ds.drop i=rest->i<=ds.length->Inv i ys ec->∃ zs ec',uI st rest ec=some (zs,ec')/\Inv ds.length (ys++zs) ec':=by
  intro rest;induction rest with
  | nil =>
   intro i ys ec hd hi hI;have:ds.length<=i:=List.drop_eq_nil_iff.mp hd;have:i=ds.length:=by omega
   subst this;exact ⟨[],ec,rfl,by rw [Ie];exact hI⟩
  | cons d rest ih =>
   intro i ys ec hd hi hI;have hlt:i < ds.length:=by
    apply Classical.byContradiction;intro h;rw [List.drop_eq_nil_iff.mpr (by omega)] at hd;cases hd
   rw [Jr hlt] at hd;injection hd with hd1 hd2;obtain ⟨y,e,h1,h2⟩:=hs i d ys ec (by rw [Hn hlt,hd1]) hI;obtain ⟨zs,ec',h3,h4⟩:=ih (i+1) _ e hd2 hlt h2;refine ⟨y.toList++zs,ec',?_,by rw [<- List.append_assoc];exact h4⟩;unfold uI;simp only [h1,h3]
 obtain ⟨zs,ec,h1,h2⟩:=key ds 0 [] _ rfl (Iw _) h0;exact ⟨zs,ec,h1,hq zs ec h2⟩
def WB (b:PyData->En->Option Out) (d:PyData) (e:En) (E:Kn):Prop:=∃ o,b d e=some o/\E.at o
theorem ql {e:En} (hf:free e i=true) (h:WS gd s (e.set i (.dat d)) E):WB (jX i (dS gd s)) d e E:=by
 obtain ⟨o,h1,h2⟩:=h;exact ⟨o,by unfold jX;rw [Hy hf];exact h1,h2⟩
theorem Cr {e e2:En} {is:List Nat} {xs:List PyData} (hf:fQ e is xs=some e2) (h:WS gd s e2 E):WB (jt is (dS gd s)) (.tuple xs) e E:=by
 obtain ⟨o,h1,h2⟩:=h;exact ⟨o,by unfold jt;simp only [hf];exact h1,h2⟩
theorem dR {b:PyData->En->Option Out} {ds:List PyData} {lk:Option Nat} (Inv:Nat->En->Prop) (h0:Inv 0 (cz e1 lk))
  (hs:∀ i d e,ds[i]?=some d->Inv i e->WB b d e ⟨Inv (i+1),fun r e=>E.rt (r.soft (lkd e1 lk)) (aO e1 lk e),fun e=>E.nx (aO e1 lk e),Inv (i+1)⟩)
  (hq:∀ e,Inv ds.length e->E.nx (aO e1 lk e)):Fp b ds lk e1 E:=by
 have key:∀ (rest:List PyData) (i:Nat) (e:En),ds.drop i=rest->i<=ds.length->Inv i e->∃ o,forL b rest e=some o/\E.at (o.map (lkd e1 lk) (aO e1 lk)):=by
  intro rest;induction rest with
  | nil =>
   intro i e hd hi hI;have:ds.length<=i:=List.drop_eq_nil_iff.mp hd;have:i=ds.length:=by omega
   subst this;exact ⟨_,rfl,hq e hI⟩
  | cons d rest ih =>
   intro i e hd hi hI;have hlt:i < ds.length:=by
    apply Classical.byContradiction;intro h;rw [List.drop_eq_nil_iff.mpr (by omega)] at hd;cases hd
   rw [Jr hlt] at hd;injection hd with hd1 hd2;obtain ⟨o,h1,h2⟩:=hs i d e (by rw [Hn hlt,hd1]) hI;unfold forL;simp only [h1];cases o with
   | nx e'=>exact ih (i+1) e' hd2 hlt h2
   | ct e'=>exact ih (i+1) e' hd2 hlt h2
   | bk e'=>exact ⟨_,rfl,h2⟩
   | rt r e'=>exact ⟨_,rfl,h2⟩
 exact key ds 0 _ rfl (Iw _) h0
theorem D5 (q:QA [] env):WA gd .nil env QA:=⟨_,_,rfl,q⟩
theorem A7 (h:WE gd a env fun r e=>WA gd as e fun avs e2=>QA (r.av :: avs) e2):WA gd (.cons a as) env QA:=by
 obtain ⟨r,e',h1,avs,e2,h2,h3⟩:=h;exact ⟨_,_,by simp only [dA,h1,h2],h3⟩
theorem EM (h:WE gd a env fun r e=>∃ k,r=.dat (.bool k)/\QT k e):WT gd (.tst a) env QT:=by
 obtain ⟨r,e',h1,k,rfl,h2⟩:=h;exact ⟨_,_,by simp only [dT,h1],h2⟩
theorem EH (h:WE gd a env fun r e=>∃ d,r.view e=some d/\E6 d=false/\QT (EF d) e):WT gd (.tru a) env QT:=by
 obtain ⟨r,e',h1,d,h2,h4,h3⟩:=h;exact ⟨_,e',by simp only [dT,h1,h2,h4];rfl,h3⟩
theorem w_and (h:WT gd x env fun k e=>if k=true then WT gd y e QT else QT false e):WT gd (.and x y) env QT:=by
 obtain ⟨k,e',h1,h2⟩:=h;unfold WT;cases k with
 | true=>simp only [dT,h1];exact h2
 | false=>simp only [dT,h1];exact ⟨_,_,rfl,h2⟩
theorem w_or (h:WT gd x env fun k e=>if k=true then QT true e else WT gd y e QT):WT gd (.or x y) env QT:=by
 obtain ⟨k,e',h1,h2⟩:=h;unfold WT;cases k with
 | true=>simp only [dT,h1];exact ⟨_,_,rfl,h2⟩
 | false=>simp only [dT,h1];exact h2
theorem w_not (h:WT gd x env fun k e=>QT (!k) e):WT gd (.not x) env QT:=by
 obtain ⟨k,e',h1,h2⟩:=h;exact ⟨_,_,by simp only [dT,h1],h2⟩
theorem Ee (h:QT true env):WT gd .yes env QT:=⟨_,_,rfl,h⟩
def zJ (r:RV) (e:En) (QI:List PyData->Option Nat->En->Prop):Prop:=(∃ ds,r.av=.dat (.list ds)/\QI ds none e)\/∃ i ds,r.av=.bor i/\cont e i=some (.list ds)/\QI ds (some i) e
theorem GR (h:WE gd a env fun r e=>zJ r e QI):WI gd (.lst a) env QI:=by
 obtain ⟨r,e',h1,⟨ds,h2,h3⟩ | ⟨i,ds,h2,h3,h4⟩⟩:=h
 ·exact ⟨_,_,_,by simp only [dI,h1,h2],h3⟩
 ·exact ⟨_,_,_,by simp only [dI,h1,h2,h3],h4⟩
theorem lG {r:RV} {e:En} {ds:List PyData} (h:r.av=.dat (.list ds)) (q:QI ds none e):zJ r e QI:=.inl ⟨ds,h,q⟩
theorem FH {r:RV} {e:En} {ds:List PyData} (h:r.av=.bor i) (hc:cont e i=some (.list ds)) (q:QI ds (some i) e):zJ r e QI:=.inr ⟨i,ds,h,hc,q⟩
theorem Gy (h:WE gd a env fun r e=>∃ ds,r.av=.dat (.tuple ds)/\QI ds none e):WI gd (.tup a) env QI:=by
 obtain ⟨r,e',h1,ds,h2,h3⟩:=h;exact ⟨_,_,_,by simp only [dI,h1,h2],h3⟩
def WSq (r:RV) (e:En) (QI:List PyData->Option Nat->En->Prop):Prop:=zJ r e QI\/∃ ds,r.av=.dat (.tuple ds)/\QI ds none e
theorem Hb (h:WE gd a env fun r e=>WSq r e QI):WI gd (.sq a) env QI:=by
 obtain ⟨r,e',h1,(⟨ds,h2,h3⟩ | ⟨i,ds,h2,h3,h4⟩) | ⟨ds,h2,h3⟩⟩:=h
 ·exact ⟨_,_,_,by simp only [dI,h1,h2],h3⟩
 ·exact ⟨_,_,_,by simp only [dI,h1,h2,h3],h4⟩
 ·exact ⟨_,_,_,by simp only [dI,h1,h2],h3⟩
theorem Gq (h:WE gd a env fun r e=>∃ z,r.av=.dat (.str z)/\QI (z.cps.toList.map fun c=>.str ⟨#[c]⟩) none e):WI gd (.str a) env QI:=by
 obtain ⟨r,e',h1,ds,h2,h3⟩:=h;exact ⟨_,_,_,by simp only [dI,h1,h2],h3⟩
theorem G8 (h:WA gd as env fun avs e=>∃ j:Int,avs=[.dat (.int j)]/\(-(2 ^ 62)<=j/\j<=2 ^ 24)/\QI ((List.range j.toNat).map fun (k:Nat)=>.int ((0:Int)+(k:Int))) none e):WI gd (.rng1 as) env QI:=by
 obtain ⟨r,e',h1,j,rfl,h2,h3⟩:=h;exact ⟨_,_,_,by simp only [dI,h1];rw [Hy h2],h3⟩
end
open PySem
theorem lb {e:En} {i:Nat} {s:Sl} (h:e[i]?=some s) (q:soft s):free e i=true:=by
 unfold free;rw [h];cases s with
 | ino d=>exact absurd rfl (q.1 d)
 | ro d=>exact absurd rfl (q.2 d)
 | _=>rfl
theorem m5:soft .un:=⟨fun _=>nofun,fun _=>nofun⟩
theorem DQ {d:PyData}:soft (.dat d):=⟨fun _=>nofun,fun _=>nofun⟩
theorem ET {d:PyData}:soft (.own d):=⟨fun _=>nofun,fun _=>nofun⟩
theorem lK {e:En} {i:Nat} {avs:List AV} {xs:List PyData} {d:PyData} {Q:RV->En->Prop} (h1:bx e i=some (.list xs)) (h2:xs.length < sizeLine) (h3:fF e avs=some [(true,d)]) (q:Q (.dat .none) (gU e i (.list (xs++[d])))):WMr mS i avs e Q :=
 ⟨_,_,.list (xs++[d]),.none,h1,h3,by show (if xs.length < sizeLine then _ else _)=_;rw [Hy h2],q⟩
theorem nR:∀ (ss:List Str),strsOf (ss.map .str)=some ss
 | []=>rfl
 | s :: ss=>by simp only [List.map_cons,strsOf,nR ss]
theorem qa {e:En} {x y:AV} {xs ys:Str} {Q:RV->En->Prop} (h1:bS e [x,y]=some [.str xs,.str ys]) (h2:xs.length+ys.length<=sizeLine) (q:Q (.dat (.str (xs++ys))) e):WPr bE [x,y] e Q :=
 ⟨_,.dat (.str (xs++ys)),h1,by show (if xs.length+ys.length<=sizeLine then _ else _)=_;rw [Hy h2],q⟩
theorem w_eq {e:En} {x y:AV} {d d':PyData} {Q:RV->En->Prop} (h1:bS e [x,y]=some [d,d']) (h2:gr d=true) (h3:gr d'=true) (q:Q (.dat (.bool (PyData.eqv d d'))) e):WPr eqP [x,y] e Q :=
 ⟨_,.dat (.bool (PyData.eqv d d')),h1,by show (if gr d=true/\gr d'=true then _ else _)=_;rw [Hy ⟨h2,h3⟩];rfl,q⟩
theorem F8 {e:En} {x y:AV} {d d':PyData} {Q:RV->En->Prop} (h1:bS e [x,y]=some [d,d']) (h2:gr d=true) (h3:gr d'=true) (q:Q (.dat (.bool (!PyData.eqv d d'))) e):WPr neP [x,y] e Q :=
 ⟨_,.dat (.bool (!PyData.eqv d d')),h1,by show (if gr d=true/\gr d'=true then _ else _)=_;rw [Hy ⟨h2,h3⟩];rfl,q⟩
theorem wM {i:Nat} {v:PyData} {rk:RV} {e2:En} {N:En->Prop} {k:Int} {xs:List PyData} (h1:rk.view e2=some (.int k)) (h2:bx e2 i=some (.list xs)) (h3:0<=k) (h4:k < xs.length) (q:N (gU e2 i (.list (xs.set k.toNat v)))):zN uC i v rk e2 N:=by
 refine ⟨_,_,.list (xs.set k.toNat v),h1,h2,?_,q⟩;show (ixN xs.length k).map _=_;unfold ixN;rw [Hy h3,Hy h4];rfl
theorem nQ {n i:Nat} {d:PyData} (h:((List.range n).map fun (k:Nat)=>PyData.int ((0:Int)+(k:Int)))[i]?=some d):d=.int i/\i < n:=by
 rw [Hl] at h;cases q:(List.range n)[i]? with
 | none=>rw [q] at h;cases h
 | some j =>
  rw [q] at h;obtain ⟨hi,e⟩:=Hi.mp q;rw [Iy] at hi;have:j=i:=by rw [<- e];simp
  subst this;cases h;exact ⟨by simp,hi⟩
theorem tZ {n:Nat}:((List.range n).map fun (k:Nat)=>PyData.int ((0:Int)+(k:Int))).length=n:=by rw [Hf,Iy]
theorem atV {α:Type} {xs:List α} {r:Int} (h0:0<=r) (h1:r < xs.length):∃ v,v∈xs/\atI xs r=some v:=by
 have hj:r.toNat < xs.length:=by omega
 have ej:r=((r.toNat:Nat):Int):=by omega
 refine ⟨xs[r.toNat],List.getElem_mem hj,?_⟩;have:=rN (xs:=xs) (j:=r.toNat) (v:=xs[r.toNat]) (Hn hj);rw [<- ej] at this;exact this
theorem gC:∀ (ss:List Str),strsOf (ss.map .str)=some ss
 | []=>rfl
 | s :: ss=>by simp only [List.map_cons,strsOf,gC ss]
theorem uO {α:Type} {xs:List α} {k:Int} (h:0<=k):cutD xs none (some k)=xs.take k.toNat:=by
 unfold cutD;simp only [HT.sIx,List.drop_zero,Nat.sub_zero];rw [HC (by omega)];by_cases z:k.toNat<=xs.length
 ·congr 1;omega
 ·rw [Io (by omega),Io (by omega)]
theorem dW (x:Str):x.cps.toList.length=x.length:=by simp [Str.length]
mutual
theorem eqv_refl:∀ d:PyData,noD d=true->PyData.eqv d d=true
 | .none,_=>by simp [PyData.eqv]
 | .bool b,_=>by simp [PyData.eqv]
 | .int i,_=>by simp [PyData.eqv]
 | .str x,_=>by simp [PyData.eqv]
 | .list xs,h=>by simpa [PyData.eqv] using eqvAll_refl xs (by simpa [noD] using h)
 | .tuple xs,h=>by simpa [PyData.eqv] using eqvAll_refl xs (by simpa [noD] using h)
 | .dict _,h=>by simp [noD] at h
theorem eqvAll_refl:∀ ds:List PyData,fg ds=true->PyData.eqvAll ds ds=true
 | [],_=>by simp [PyData.eqvAll]
 | d :: ds,h=>by
  have h':noD d=true/\fg ds=true:=by simpa [fg] using h
  simp [PyData.eqvAll,eqv_refl d h'.1,eqvAll_refl ds h'.2]
end
theorem cS:∀ {ds:List PyData},fg ds=true↔∀ d∈ds,noD d=true
 | []=>by simp [fg]
 | d :: ds=>by simp [fg,cS (ds:=ds)]
theorem fJ {k:Nat}:∀ {ds:List PyData},(∀ d∈ds,d.depth<=k)->PyData.depthAll ds<=k
 | [],_=>by simp [PyData.depthAll]
 | d :: ds,h=>by
  have h1:=h d Hw;have h2:=fJ fun x hx=>h x (Hk _ hx);simp only [PyData.depthAll];omega
theorem gz {k:Nat} {ds:List PyData} (h:∀ d∈ds,d.depth<=k):(PyData.list ds).depth<=k+1:=by
 simp only [PyData.depth];have:=fJ h;omega
theorem bz {k:Nat} {ds:List PyData} (h:∀ d∈ds,d.depth<=k):(PyData.tuple ds).depth<=k+1:=by
 simp only [PyData.depth];have:=fJ h;omega
theorem oU {d:PyData} (h1:noD d=true) (h2:d.depth<=64):gr d=true:=by simp [gr,h1,h2]
open PySem PySem.Spec PyProof.Rows
theorem Cb {e:En} {x:AV} {ss:List Str} {Q:RV->En->Prop} (h1:bS e [x]=some [.list (ss.map .str)]) (h2:ss.length < 64) (q:Q (.frs (.list ((ig ss).map .str))) e):WPr ki [x] e Q:=by
 refine ⟨_,.frs (.list ((ig ss).map .str)),h1,?_,q⟩;show vp (.list (ss.map .str))=_;unfold vp;simp only [gC];rw [Hy h2]
theorem xp {e:En} {x:AV} {ss:List Str} {Q:RV->En->Prop} (h1:bS e [x]=some [.list (ss.map .str)]) (h2:ss.length < 64) (q:Q (.frs (.list ((ig (dG ss)).map .str))) e):WPr vG [x] e Q:=by
 refine ⟨_,.frs (.list ((ig (dG ss)).map .str)),h1,?_,q⟩;show vF (.list (ss.map .str))=_;unfold vF;simp only [gC];rw [Hy h2]
theorem qo {acc:List Str} {x:Str} (h:acc.Nodup):(jJ acc x).Nodup:=by
 unfold jJ;split
 ·exact h
 ·rename_i hx;refine List.nodup_append.mpr ⟨h,by simp,fun a ha b hb=>?_⟩;rw [Hm.mp hb];exact fun z=>hx (z▸ha)
theorem j4:∀ (ss acc:List Str),acc.Nodup->(ss.foldl jJ acc).Nodup
 | [],acc,h=>h
 | y :: r,acc,h=>j4 r _ (qo h)
theorem jN (ss:List Str):(dG ss).Nodup:=j4 ss [] List.nodup_nil
open PySem PySem.Spec PyProof.Rows
def lr:List (Option Sl)->En->Prop
 | [],e=>e=[]
 | some s :: r,e=>∃ e',lr r e'/\e=s :: e'
 | none :: r,e=>∃ x e',soft x/\lr r e'/\e=x :: e'
def uR:List (Option Sl)->(En->Prop)->Prop
 | [],P=>P []
 | some s :: ts,P=>uR ts fun e=>P (s :: e)
 | none :: ts,P=>∀ s,soft s->uR ts fun e=>P (s :: e)
theorem lr.out:∀ {ts:List (Option Sl)} {e:En} {P:En->Prop},lr ts e->uR ts P->P e
 | [],_,_,h,q=>by cases (show _=_ from h);exact q
 | some s :: ts,e,P,h,q=>by obtain ⟨r,hr,rfl⟩:=h;exact hr.out (P:=fun e=>P (s :: e)) q
 | none :: ts,e,P,h,q=>by obtain ⟨s,r,hs,hr,rfl⟩:=h;exact hr.out (P:=fun e=>P (s :: e)) (q s hs)
section
variable {gd:List PyData} {e e':En} {E:Kn} {Q:RV->En->Prop} {QA:List AV->En->Prop} {QT:Bool->En->Prop} {QI:List PyData->Option Nat->En->Prop} {N:En->Prop} {i:Nat} {r:RV}
theorem BJ (h:e=e') (q:Cv i r e' N):Cv i r e N:=h▸q
theorem yA (h:e=e') (q:sG i r e' N):sG i r e N:=h▸q
theorem Cd {is:List Nat} (h:e=e') (q:C7 is r e' N):C7 is r e N:=h▸q
theorem Ha {as:XA} (h:e=e') (q:WA gd as e' QA):WA gd as e QA:=h▸q
theorem G6 {a:XE} (h:e=e') (q:WE gd a e' Q):WE gd a e Q:=h▸q
theorem GJ {s:XS} (h:e=e') (q:WS gd s e' E):WS gd s e E:=h▸q
theorem GH {t:XT} (h:e=e') (q:WT gd t e' QT):WT gd t e QT:=h▸q
theorem Gw {t:XI} (h:e=e') (q:WI gd t e' QI):WI gd t e QI:=h▸q
theorem Dr {p:Prm} {avs:List AV} (h:e=e') (q:WPr p avs e' Q):WPr p avs e Q:=h▸q
theorem zu {f:Fn} {avs:List AV} (h:e=e') (q:qN f avs e' Q):qN f avs e Q:=h▸q
theorem Dp {mk:List PyData->RV} {avs:List AV} (h:e=e') (q:WTp mk avs e' Q):WTp mk avs e Q:=h▸q
theorem Fe {m:Mtr} {avs:List AV} (h:e=e') (q:WMr m i avs e' Q):WMr m i avs e Q:=h▸q
theorem Df {m:Mtd} {avs:List AV} (h:e=e') (q:C1 m r avs e' Q):C1 m r avs e Q:=h▸q
theorem Cc {m:Mtd} {as:XA} (h:e=e') (q:CY gd m as r e' Q):CY gd m as r e Q:=h▸q
theorem Bz {ms:List PM} {QF:PR->List PyData->Prop} (h:e=e') (q:zI ms QF r e'):zI ms QF r e:=h▸q
theorem yH {ms:List PM} {QF:PR->List PyData->Prop} (h:e=e') (q:uV ms QF e'):uV ms QF e:=h▸q
theorem BM (h:e=e') (q:zJ r e' QI):zJ r e QI:=h▸q
theorem zV {m:vC} {a:XE} (h:e=e') (q:CT gd m i a r e' N):CT gd m i a r e N:=h▸q
theorem z0 {m:vC} {v:PyData} (h:e=e') (q:zN m i v r e' N):zN m i v r e N:=h▸q
end
theorem isEq {b:Bool} {avs:List AV} {e:En} {Q:RV->En->Prop} (h:WPr (C6 b) avs e Q):WPr (C6 b) avs e Q:=h
theorem qv {env e2:En} {i:Nat} {is:List Nat} {d:PyData} {ds:List PyData} (h:free env i=true) (q:fQ (env.set i (.dat d)) is ds=some e2):fQ env (i :: is) (d :: ds)=some e2:=by
 simp only [fQ];rw [Hy h];exact q
theorem at0 {x:PyData} {xs:List PyData}:atI (x :: xs) 0=some x:=by
 unfold atI ixN;rw [Hy (Int.le_refl _),Hy (by rw [HD];omega)];rfl
theorem iK {x:PyData} {xs:List PyData}:atI (xs++[x]) (-1)=some x:=by
 unfold atI ixN;rw [HC (by decide),Hy (by rw [Ho];simp;omega)];have:((-1:Int)+(((xs++[x]).length:Nat):Int)).toNat=xs.length:=by rw [Ho];simp;omega
 rw [this];simp
theorem xH {x y:Str}:PyData.eqv (.str x) (.str y)=decide (x=y):=by
 simp only [PyData.eqv];rfl
theorem oA (xs:List Str):gr (.list (xs.map PyData.str))=true:=by
 refine oU ?_ ?_
 ·simp only [noD];exact cS.mpr fun d hd=>by
   obtain ⟨x,_,rfl⟩:=HM.mp hd;rfl
 ·refine HA (gz (k:=0) fun d hd=>?_) (by omega);obtain ⟨x,_,rfl⟩:=HM.mp hd;simp [PyData.depth]
theorem Dg {e:En} {x y:AV} {d:PyData} {Q:RV->En->Prop} (h1:bS e [x,y]=some [d,d]) (h2:gr d=true) (q:Q (.dat (.bool true)) e):WPr eqP [x,y] e Q :=
 w_eq h1 h2 h2 (by rw [eqv_refl d (by have:=h2;simp only [gr,HK] at this;exact this.1)];exact q)
theorem x6 {e:En} {x y:AV} {d:PyData} {Q:RV->En->Prop} (h1:bS e [x,y]=some [d,d]) (h2:gr d=true) (q:Q (.dat (.bool false)) e):WPr neP [x,y] e Q :=
 F8 h1 h2 h2 (by rw [eqv_refl d (by have:=h2;simp only [gr,HK] at this;exact this.1)];exact q)
theorem El {e:En} {x y:AV} {z:PyData} {ds:List PyData} {b:Bool} {Q:RV->En->Prop} (h1:bS e [x,y]=some [z,.list ds]) (h2:wa z=true) (h3:fg ds=true) (h4:mQ ds z=b) (q:Q (.dat (.bool b)) e):WPr inP [x,y] e Q:=by
 refine ⟨_,.dat (.bool b),h1,?_,q⟩;subst h4;cases z with
 | dict kvs=>simp [wa,noD] at h2
 | _=>(show (if wa _=true/\fg ds=true then some (PR.dat (.bool (ngB false (mQ ds _)))) else none)=_);rw [Hy ⟨h2,h3⟩];rfl
def F3 (p:Prm) (r r2:RV) (k:PyData->Bool->Prop):Prop:=∃ x y b,r.av=.dat x/\r2.av=.dat y/\p.f [x,y]=some (.dat (.bool b))/\k y b
def FN (p:Prm) (y:PyData) (r:RV) (e:En) (Q:RV->En->Prop):Prop:=∃ z pr,r.av=.dat z/\p.f [y,z]=some pr/\Q pr.rv e
theorem zR {gd:List PyData} {env:En} {p p':Prm} {a b c:XE} {Q:RV->En->Prop} (h:WE gd a env fun r e=>WE gd b e fun r2 e2=>F3 p r r2 fun y k=>if k=true then WE gd c e2 fun r3 e3=>FN p' y r3 e3 Q else Q (.dat (.bool false)) e2):WE gd (.chn p p' a b c) env Q:=by
 refine EL ?_;obtain ⟨r,e,h1,r2,e2,h2,x,y,k,h3,h4,h5,h6⟩:=h;exact ⟨r,e,h1,r2,e2,h2,x,y,k,h3,h4,h5,h6⟩
theorem i5:∀ (xs ys:List Str),PyData.eqvAll (xs.map .str) (ys.map .str)=decide (xs=ys)
 | [],[]=>by simp [PyData.eqvAll]
 | [],y :: ys=>by simp [PyData.eqvAll]
 | x :: xs,[]=>by simp [PyData.eqvAll]
 | x :: xs,y :: ys=>by
  rw [List.map_cons,List.map_cons];unfold PyData.eqvAll;rw [i5 xs ys,xH];by_cases h:x=y <;> by_cases h2:xs=ys <;> simp [h,h2]
theorem vm (xs ys:List Str):PyData.eqv (.list (xs.map .str)) (.list (ys.map .str))=decide (xs=ys):=by
 unfold PyData.eqv;exact i5 xs ys
theorem ID {α:Type} {xs:List α} {i:Nat} {x:α} (h:xs[i]?=some x):xs.take i++[x]=xs.take (i+1):=by
 rw [List.take_add_one,h];rfl
theorem kO {α:Type} {P:α->Prop} {xs:List α} {y:α} (h:∀ x∈xs,P x) (hy:P y):∀ x∈xs++[y],P x:=fun x hm=>by
 rcases IH.mp hm with hm | hm
 ·exact h x hm
 ·rw [Hm.mp hm];exact hy
theorem uT {ss:List Str} (h1:ss.Pairwise fun a b=>leT a b=true) (h2:ss.Nodup):ig (dG ss)=ss:=by
 have pm:(dG ss).Perm ss:=(List.perm_ext_iff_of_nodup (jN ss) h2).mpr fun x=>pN;exact List.Perm.eq_of_pairwise (fun _ _ _ _ p q=>kq p q) (jj _) h1 ((bU _).trans pm)
open PySem PySem.Spec PyProof.Rows
section
variable {gd:List PyData} {a:XE} {env:En} {QI:List PyData->Option Nat->En->Prop}
def GN (r:RV) (e:En) (QI:List PyData->Option Nat->En->Prop):Prop:=(∃ kvs,r.av=.dat (.dict kvs)/\QI (kvs.map (·.1)) none e)\/∃ i kvs,r.av=.bor i/\cont e i=some (.dict kvs)/\QI (kvs.map (·.1)) (some i) e
theorem GC (h:WE gd a env fun r e=>GN r e QI):WI gd (.dct a) env QI:=by
 obtain ⟨r,e',h1,⟨kvs,h2,h3⟩ | ⟨i,kvs,h2,h4,h3⟩⟩:=h
 ·exact ⟨_,_,_,by simp only [dI,h1,h2],h3⟩
 ·exact ⟨_,_,_,by simp only [dI,h1,h2,h4],h3⟩
end
open PySem PySem.Spec PyProof.Rows
section
variable {prog:Program} {w:World} {A:Around} {E:Value->Shared->Prop} {h:Heap} {g:Array GenState} {d:Drawn} {t:Nat} {os:OsState} {a:Addr} {o:Obj}
 {nm q:Str} {C N:Addr} {bs bm bmB:List Value} {hdct:Bool} {sn:List Str} {sub:List Value} {ab:Bool} {col:Option Bool} {dd:Option Addr} {k0 k1 k2 k3 k5:Option Value} {B newId:String} {K:Fg}
theorem vE {R:Result->Shared->Prop} (hC:h.get? C=some (excClassObj nm q C N bs bm hdct sn sub ab col dd k0 k1 k2 k3 k5 newId)) (hb:bm.contains (.type "object")=true)
  (hx:h.get? a=some o) (hc:o.cls=.ref C) (hq:R (.ok (.ret (.ref C))) ⟨h,g,d,t,os⟩) :
  codeAny (model prog w) A (.call (.builtin "getset_descriptor.__get__") ⟨[.builtin "object.__class__", .ref a,.ref C],[]⟩) R ⟨h,g,d,t,os⟩:=by
 have hT5:(⟨h,g,d,t,os⟩:Shared).TypeIs (.builtin "object.__class__") "getset_descriptor" := F.typeOf_object_class;have hcB:(Value.ref C :: bm).contains (.type (".".intercalate ("object.__class__".cutAt '.').dropLast))=true:=by
  rw [F.owner_object_class,Jq,hb,Bool.or_true]
 refine IL F.slot_gs_get.plain F.entry_gs_get (F.slot_gs_get.check _ _ _ _ _ _ _ _ hT5 (F.args_gs_get _ _ _) ?_)
 repeat (any_goals (first | assumption | (with_reducible refine HX hx ?_;rw [hc]) | (with_reducible refine IW hC ?_;rw [hcB]) | wp_step))
 refine ⟨Code.quiet_builtin _ (by decide +kernel),IX F.entry_object_class ?_⟩
 repeat (any_goals (first | assumption | (with_reducible refine HX hx ?_;rw [hc]) | wp_step))
theorem qz {tk:Tok} {Q:Fin->Shared->Prop} (X:K.In h) (hcl:PySem.W.findIn K (.ref C) "__class__" = some (some (.builtin "object.__class__")))
  (hC:h.get? C=some (excClassObj nm q C N bs bm hdct sn sub ab col dd k0 k1 k2 k3 k5 newId)) (hb:bm.contains (.type "object")=true)
  (hx:h.get? a=some o) (hc:o.cls=.ref C) (hq:Q (.done (.ret (.ref C))) ⟨h,g,d,t,os⟩) :
  wpAny (model prog w) A (Builtin.«object.__getattribute__» ⟨[.ref a,.str "__class__" tk],[]⟩) Q E ⟨h,g,d,t,os⟩:=by
 have hT5:(⟨h,g,d,t,os⟩:Shared).TypeIs (.builtin "object.__class__") "getset_descriptor" := F.typeOf_object_class;have f5:=F.typeOf_object_class;have f6:=F.slot_gs_get.lookup;have f7:=F.slot_gs_set.lookup;have L1:=IM (M:=model prog w) X hcl
 repeat (any_goals (first | assumption | (with_reducible refine HX hx ?_;rw [hc]) | with_reducible refine L1.at ?_ | wp_step))
 refine vE hC hb hx hc ?_
 repeat (any_goals (first | assumption | wp_step))
theorem ka {M:Model} {nameV:Value} {Q:Unit->Shared->Prop} (hC:h.get? C=some (excClassObj nm q C N bs bm hdct sn sub ab col dd k0 k1 k2 k3 k5 newId)) (hb:bm.contains (.type "BaseException")=true)
  (hx:h.get? a=some o) (hc:o.cls=.ref C) (hq:Q () ⟨h,g,d,t,os⟩):wpAny M A (checkBuiltinCall "BaseException.__getattribute__" ⟨[.ref a,nameV],[]⟩) Q E ⟨h,g,d,t,os⟩:=by
 have hk:builtinKind "BaseException.__getattribute__" = some .slot:=by decide +kernel
 have hsplit:splitId "BaseException.__getattribute__" = some ("BaseException", "__getattribute__"):=by decide +kernel
 have hcB:(Value.ref C :: bm).contains (.type "BaseException")=true:=by rw [Jq,hb,Bool.or_true]
 have ha:=F.args_bexc_ga (.ref a) nameV;simp only [checkBuiltinCall,hk,hsplit];refine He ?_
 ·unfold isInstance
  repeat (first | (with_reducible refine HX hx ?_;rw [hc]) | (with_reducible refine IW hC ?_;rw [hcB]) | wp_step)
  exact hq
theorem xV {tk:Tok} {fill expr:Bool} {Q:Value->Shared->Prop} (X:K.In h) (hcl:PySem.W.findIn K (.ref C) "__class__" = some (some (.builtin "object.__class__")))
  (hga:PySem.W.findIn K (.ref C) "__getattribute__" = some (some (.builtin "BaseException.__getattribute__"))) (hgg:PySem.W.findIn K (.ref C) "__getattr__" = some none)
  (hC:h.get? C=some (excClassObj nm q C N bs bm hdct sn sub ab col dd k0 k1 k2 k3 k5 newId)) (hb:bm.contains (.type "object")=true) (hb2:bm.contains (.type "BaseException")=true)
  (hx:h.get? a=some o) (hc:o.cls=.ref C) (hq:Q (.ref C) ⟨h,g,d,t,os⟩) :
  wpAny (model prog w) A (getAttrBy (.ref a) (.str "__class__" tk) fill expr) Q E ⟨h,g,d,t,os⟩:=by
 have f3:=F.excAttr_ValueError.ga.bind (.ref a);have hx0:(expr&&onTheHeap (Value.builtin "BaseException.__getattribute__"))=false:=by cases expr <;> rfl
 have hx2:(Value.builtin "BaseException.__getattribute__" == Value.builtin "object.__getattribute__")=false:=by decide +kernel
 have hx1:(onTheHeap (Value.ref C)&&Value.builtin "BaseException.__getattribute__" == Value.builtin "object.__getattribute__")=false:=by rw [hx2];rfl
 have L1:=IM (M:=model prog w) X hga;have L2:=IM (M:=model prog w) X hgg
 repeat (any_goals (first | assumption | (with_reducible refine HX hx ?_;rw [hc]) | with_reducible refine L1.at ?_ | with_reducible refine L2.at ?_ | wp_step))
 refine IL F.excAttr_ValueError.ga.plain F.entry_bexc_ga (ka hC hb2 hx hc (qz X hcl hC hb hx hc ?_))
 repeat (any_goals (first | assumption | wp_step))
theorem tm {Q:Option Value->Shared->Prop} (X:K.In h) (hcl:PySem.W.findIn K (.ref C) "__class__" = some (some (.builtin "object.__class__")))
  (hga:PySem.W.findIn K (.ref C) "__getattribute__" = some (some (.builtin "BaseException.__getattribute__"))) (hgg:PySem.W.findIn K (.ref C) "__getattr__" = some none)
  (hC:h.get? C=some (excClassObj nm q C N bs bm hdct sn sub ab col dd k0 k1 k2 k3 k5 newId)) (hb:bm.contains (.type "object")=true) (hb2:bm.contains (.type "BaseException")=true)
  (hx:h.get? a=some o) (hc:o.cls=.ref C) (hq:Q (some (.ref C)) ⟨h,g,d,t+1,os⟩) :
  wpAny (model prog w) A (getAttr? (.ref a) "__class__") Q E ⟨h,g,d,t,os⟩:=by
 unfold getAttr? getAttrBy?
 repeat (any_goals (first | assumption | with_reducible apply xV X hcl hga hgg hC hb hb2 hx hc | wp_step))
theorem zX {M:Model} {e D:Addr} {oe:Obj} {b:Bool} {Q:Bool->Shared->Prop}
  {nm' q':Str} {N':Addr} {bs' bm':List Value} {hdct':Bool} {sn':List Str} {sub':List Value} {ab':Bool} {col':Option Bool} {dd':Option Addr} {k0' k1' k2' k3' k5':Option Value} {newId':String}
  (hC:h.get? C=some (excClassObj nm q C N bs bm hdct sn sub ab col dd k0 k1 k2 k3 k5 newId)) (hD:h.get? D=some (excClassObj nm' q' D N' bs' bm' hdct' sn' sub' ab' col' dd' k0' k1' k2' k3' k5' newId'))
  (he:h.get? e=some oe) (hcls:oe.cls=.ref C) (hbase:bm'.contains (.type "BaseException")=true) (hm:(Value.ref C :: bm).contains (.ref D)=b)
  (hq:Q b ⟨h,g,d,t,os⟩):wpAny M A (excMatches (.ref e) (.ref D)) Q E ⟨h,g,d,t,os⟩:=by
 have hcB:(Value.ref D :: bm').contains (.type "BaseException")=true:=by rw [Jq,hbase,Bool.or_true]
 have f:=tc_notTuple;unfold excMatches
 repeat (first | (with_reducible refine HX he ?_;rw [hcls]) | with_reducible refine HX hD ?_ | (with_reducible refine IW hD ?_;rw [hcB]) | (with_reducible refine IW hC ?_;rw [hm]) | wp_step)
 cases b <;> first | exact hq | (wp_walk;exact hq)
end
abbrev bmV:List Value:=[.type "ValueError", .type "Exception", .type "BaseException", .type "object"]
open PySem PySem.Spec PyProof.Rows
theorem bY.got {P:Program} {w:World} {H:Hp} {h:Heap} {a:Addr} {o:HO} (x:bY P w H h a o):∃ ob,h.get? a=some ob:=by
 cases o with
 | lst xs=>obtain ⟨_,_,_,_,e⟩:=x;exact ⟨_,e⟩
 | tup xs=>obtain ⟨_,_,_,ob,e,_⟩:=x;exact ⟨_,e⟩
 | dK kvs=>obtain ⟨_,_,_,_,o,_,_,e,_⟩:=x;exact ⟨_,e⟩
 | dT kvs=>obtain ⟨_,_,_,_,o,_,_,e,_⟩:=x;exact ⟨_,e⟩
 | dD ep xs=>obtain ⟨_,_,_,o,_,e,_⟩:=x;exact ⟨_,e⟩
 | set S n=>obtain ⟨o,_,_,_,e,_⟩:=x;exact ⟨_,e⟩
 | ins C dx fs=>obtain ⟨_,_,_,e,_⟩:=x;exact ⟨_,e⟩
 | own y=>exact x
 | xd fs=>obtain ⟨_,⟨_,_,_,e,_⟩,_⟩:=x;exact ⟨_,e⟩
 | rng lo hi=>obtain ⟨_,_,_,e⟩:=x;exact ⟨_,e⟩
 | frz ob u=>exact ⟨_,x.1⟩
 | tbl ps=>exact ⟨_,x⟩
 | met f y=>exact ⟨_,x⟩
 | ext φ=>exact x.2.1
theorem fR {h b0 b1:Heap}:∀ {l:List Env},h.FunFrames b0 l->(∀ L∈frs l,b1.get? L=none)->h.FunFrames b1 l
 | [],_,_=>trivial
 | env :: rest,⟨hk,⟨L,o,hf,hn,ho,hd⟩,hr⟩,k=>by
  refine ⟨hk,⟨L,o,hf,k L ?_,ho,hd⟩,fR hr fun L' h'=>k L' ?_⟩
  ·unfold frs;rw [IC,hf];exact Hw
  ·unfold frs at h' ⊢;rw [IC,hf];exact Hk _ h'
theorem wz {outer:List Env} {H H':Hp} {h h2 h3 b b0:Heap} (u:Un (frs outer) [] H H' h h2) (k:∀ c o,h.get? c=some o->c ∉ frs outer->∃ o',b.get? c=some o') (st:b.StaysIn h2) (st3:b.StaysIn h3) (sl:h2.UpToSlots h3)
  (ff:h2.FunFrames b0 outer) (fr:∀ c∈frs outer,H c=none):Un (frs outer) [] H H' h h3 where
 keep:=fun c o e n hc hx=>by
  obtain ⟨o',q⟩:=k c o e hc;have z:=u.keep c o e n hc hx;rw [st c o' q] at z;cases z;exact st3 c _ q
 slot:=fun c o e n hc hx=>by
  obtain ⟨s1,z⟩:=u.slot c o e n hc hx;obtain ⟨_,o2,e2,d2⟩:=ff.mem hc;rw [z] at e2;cases e2;obtain ⟨s2,z2⟩:=sl c _ z d2;exact ⟨s2,z2⟩
 free:=u.free
 there:=fun c o e hx=>by
  by_cases hc:c∈frs outer
  ·obtain ⟨s1,z⟩:=u.slot c o e (fr c hc) hc hx;obtain ⟨_,o2,e2,d2⟩:=ff.mem hc;rw [z] at e2;cases e2;obtain ⟨s2,z2⟩:=sl c _ z d2;exact ⟨_,z2⟩
  ·obtain ⟨o',q⟩:=k c o e hc;exact ⟨o',st3 c o' q⟩
 m4:=u.m4
 lz:=u.lz
 pZ:=u.pZ
def Q1 (E:XK) (C:Addr) (Q:VK):VK:=fun v H=>(v=.non->E (.ref C) none H)/\(v≠.non->Q v H)
open PySem PySem.Spec PyProof.Rows
abbrev Xs (X:Cx) (ea:Addr) (oe:Obj) (n:Str):Cx:={ X with A:=X.A.mark (some (.ref ea)),calm:=false,pn:=(ea,oe) :: X.pn,N:=X.N++[n],xe:=fun _ _=>False }
section
variable {X:Cx} {pins:List (Addr×Obj)} {σ:St} {H H':Hp} {s s2:Shared} {ea:Addr} {oe:Obj} {n:Str}
theorem Cx.Ok.nS (ok:X.Ok):(Xs X ea oe n).Ok :=
 ⟨ok.mod,ok.kind,ok.glob,ok.blt,ok.above,ok.inj,ok.has,ok.cab,fun z=>(by cases z),ok.frames,ok.stk,ok.exf,ok.bs,ok.bsz,ok.wI,ok.zK,ok.nX,ok.frf⟩
theorem Inv.nS (I:Inv X pins σ H s) (h1:s.heap.get? ea=some oe) (h2:H ea=none) (h3:ea≠X.env.locals) (h4:ea ∉ X.fs) (h5:∀ v,oe.data≠.cell v):Inv (Xs X ea oe n) pins (σ++[none]) H s:=by
 refine ⟨I.ok.nS,I.os,I.bare,I.base,?_,I.cell,I.free,I.fq,fun p hp=>?_,I.hok,?_⟩
 ·obtain ⟨m,hn,hl⟩:=I.loc;refine ⟨m,hn,fun i x v e1 e2 e3=>?_⟩;by_cases hi:i < σ.length
  ·rw [HG hi] at e2;have e1:(X.N++[n])[i]?=some x:=e1;rw [HG (by rw [<- I.len];exact hi)] at e1;exact hl i x v e1 e2 e3
  ·rw [Hr (by omega)] at e2;cases q:i - σ.length with
   | zero=>rw [q] at e2;cases e2
   | succ k=>rw [q] at e2;cases e2
 ·have hp:p∈(ea,oe) :: (X.pn++pins):=hp;rcases Hs.mp hp with z | z
  ·subst z;exact ⟨h1,h2,h3,h4,h5⟩
  ·exact I.pin p z
 ·show (σ++[none]).length=(X.N++[n]).length;rw [Ho,Ho,I.len];rfl
theorem qA {M:Model} {A:Around} {E:Value->Shared->Prop} {τ:St} {pos:Pos} {Q:Unit->Shared->Prop} (I:Inv (Xs X ea oe n) pins τ H s) (hl:X.env.kindOf n=some .local) (hn:n ∉ X.N)
  (h:∀ s',Inv X pins (τ.take X.N.length) H s'->Q () s') (ok:X.Ok):wpAny M A (do bindName X.env n .none;unbindBehindTheSuite X.env n pos) Q E s:=by
 obtain ⟨m,hns,hlo⟩:=id I.loc;have hcls:(X.env.scope.kind==.class||(X.env.scope.kind==.module&&X.env.locals != X.env.globals))=false:=by rw [ok.kind];rfl
 refine wpAny_nameGoes_keeps hl hns hcls fun h' v hn' hs=>h _ ?_;have ab:=ok.above;have neL:∀ b o,X.s₀.heap.get? b=some o->b≠X.env.locals:=fun b o e=>HH (Hx (Ht e) ab);have cne:∀ y c,X.env.cells.lookup y=some c->c≠X.env.locals:=I.cne;obtain ⟨oL,_,_,hoL,_⟩:=id hns;refine ⟨ok,I.os,I.bare,⟨fun b o e n hb hx=>?_,fun b o e n hb hx=>?_,I.base.free,fun b o e hx=>?_,I.base.m4,I.base.lz,I.base.pZ⟩,⟨_,hn',fun j y v' e1 e2 e3=>?_⟩,fun y c e=>?_,I.free,I.fq,fun p hp=>?_,fun b ob e=>?_,?_⟩
 ·exact (hs.2 b (neL b o e)).trans (I.base.keep b o e n hb hx)
 ·obtain ⟨sl,e1⟩:=I.base.slot b o e n hb hx;exact ⟨sl,(hs.2 b (neL b o e)).trans e1⟩
 ·obtain ⟨o',e1⟩:=I.base.there b o e hx;exact ⟨o',(hs.2 b (neL b o e)).trans e1⟩
 ·have hj:j < X.N.length:=(Hi.mp e1).1;rw [List.getElem?_take_of_lt hj] at e2;obtain ⟨u',r',q⟩:=hlo j y v' (show (X.N++[n])[j]?=some y by rw [HG hj];exact e1) e2 e3;have ne:y≠n:=fun z=>hn (z▸HF e1);refine ⟨u',r',?_⟩;rcases q with ⟨k,e⟩ | ⟨k,c,e,z⟩
  ·exact .inl ⟨k,by simp [ne,e]⟩
  ·exact .inr ⟨k,c,e,z.sameBut hs (cne y c e)⟩
 ·obtain ⟨w',z⟩:=I.cell y c e;exact ⟨w',z.sameBut hs (cne y c e)⟩
 ·obtain ⟨e,n,ne,nf,d⟩:=I.pin p (Hk _ hp);exact ⟨(hs.2 p.1 ne).trans e,n,ne,nf,d⟩
 ·refine (I.hok b ob e).jL (fun c w' hc q=>(hs.2 c ?_).trans q) (fun _ q=>q) fun _ _ q=>q;have fr:H X.env.locals=none:=I.free;rintro rfl;rcases hc with rfl | hc
  ·rw [fr] at e;cases e
  ·rw [fr] at hc;cases hc
 ·have q:τ.length=(X.N++[n]).length:=I.len;rw [Ho] at q;rw [HW];have:[n].length=1:=rfl;omega
theorem t7 {H1:Hp} {s1:Shared} {b h3:Heap} {t C:Addr} (I:Inv X pins σ H1 s1) (ho:s2.os=s1.os) (hb:AllBare s2.gens) (u:Un (frs X.stack) [] H1 H' s1.heap s2.heap)
  (k:∀ c o,s1.heap.get? c=some o->c ∉ frs X.stack->∃ o',b.get? c=some o') (hok:HOk X.prog X.w H' b) (fl:Heap.FlyingW b X.stack ea (.ref C) (.ref t) s2.heap) (st3:b.StaysIn h3) (sl:s2.heap.UpToSlots h3) :
  Inv X pins σ H' { s2 with heap:=h3 } :=
 I.DT (s':={ s2 with heap:=h3 }) (ch:=[]) ho (wz u k fl.1 st3 sl fl.2.2.1 I.jB) (hok.kept st3) hb fun b z=>absurd z (by simp)
end
open PySem PySem.Spec PyProof.Rows
def rX (K:Fg) (ea C:Addr):List V->Hp->VK->Prop:=fun vs H Q=>∃ c cv b,vs=[.ref ea,c]/\(∀ u,RelV c u->u=cv)/\PySem.W.kitOne K (.ref C) cv=some b/\Q (.bl b) H
theorem kF {f:Fn} {K:Fg} {vs:List V} {H:Hp} {Q Q':VK} {E E':XK} (h:fP f K vs H Q E) (k:∀ v H',Q v H'->Q' v H'):fP f K vs H Q' E':=by
 obtain ⟨G,ds,is,pr,outs,h1,h2,h3,h4⟩:=h;exact ⟨G,ds,is,pr,outs,h1,h2,h3,fun v H' a b=>k _ _ (h4 v H' a b)⟩
open PySem PySem.Spec PyProof.Rows
abbrev Xp (X:Cx) (ea:Addr) (oe:Obj):Cx:={ X with pn:=(ea,oe) :: X.pn }
section
variable {X:Cx} {pins:List (Addr×Obj)} {σ:St} {H:Hp} {s:Shared} {ea C:Addr} {oe:Obj}
theorem Cx.Ok.D6 (ok:X.Ok):(Xp X ea oe).Ok :=
 ⟨ok.mod,ok.kind,ok.glob,ok.blt,ok.above,ok.inj,ok.has,ok.cab,ok.hd,ok.frames,ok.stk,ok.exf,ok.bs,ok.bsz,ok.wI,ok.zK,ok.nX,ok.frf⟩
theorem Inv.D6 (I:Inv X ((ea,oe) :: pins) σ H s):Inv (Xp X ea oe) pins σ H s :=
 ⟨I.ok.D6,I.os,I.bare,I.base,I.loc,I.cell,I.free,I.fq,fun p hp=>I.pin p (by
  have hp:p∈(ea,oe) :: (X.pn++pins):=hp;rcases Hs.mp hp with z | z
  ·rw [z];exact Hz _ Hw
  ·rcases IH.mp z with z | z
   ·exact Ji _ z
   ·exact Hz _ (Hk _ z)),I.hok,I.len⟩
theorem Inv.qI (ok:X.Ok) (I:Inv (Xp X ea oe) pins σ H s):Inv X pins σ H s :=
 ⟨ok,I.os,I.bare,I.base,I.loc,I.cell,I.free,I.fq,fun p hp=>I.pin p (Hk _ hp),I.hok,I.len⟩
theorem SP.qI {D:Ends} {f:Flow} (ok:X.Ok) (h:SP (Xp X ea oe) pins D f s):SP X pins D f s:=by
 cases f with
 | next=>obtain ⟨σ',H',I',q⟩:=h;exact ⟨σ',H',I'.qI ok,q⟩
 | brk=>obtain ⟨σ',H',I',q⟩:=h;exact ⟨σ',H',I'.qI ok,q⟩
 | cont=>obtain ⟨σ',H',I',q⟩:=h;exact ⟨σ',H',I'.qI ok,q⟩
 | ret u=>obtain ⟨v,σ',H',I',q⟩:=h;exact ⟨v,σ',H',I'.qI ok,q⟩
def rXt (K:Fg) (ea C:Addr):List V->Hp->VK->Prop:=fun vs H Q=>∃ (tp:Addr) (Bs:List Addr) (b:Bool),vs=[.ref ea,.ref tp]/\H tp=some (.tup (Bs.map V.ref))/\PySem.W.kitAny K (.ref C) (Bs.map Value.ref)=some b/\Q (.bl b) H
theorem mh:∀ {Bs:List Addr} {its:List Value},Vals (Bs.map V.ref) its->its=Bs.map Value.ref
 | [],_,.nil=>rfl
 | B :: Bs,_,.cons r1 r2=>by rw [mh r2,show _=Value.ref B from r1];rfl
theorem mZ {K:Fg} {v:Value}:∀ {Bs:List Addr},(∀ B∈Bs,PySem.W.kitOne K v (.ref B)=some false)->PySem.W.kitAny K v (Bs.map Value.ref)=some false
 | [],_=>rfl
 | B :: Bs,h=>by
  rw [List.map_cons];unfold PySem.W.kitAny;rw [h B Hw];exact mZ fun b hb=>h b (Hk _ hb)
def rNn (K:Fg):List V->Hp->VK->Prop:=fun vs H Q=>∃ A b,vs=[.non,.ref A]/\PySem.W.kitOne K (.type "NoneType") (.ref A)=some b/\Q (.bl b) H
theorem zP:bN X (.builtin "isinstance") (rNn X.K):=by
 intro pins s σ H xs us Q I r h;obtain ⟨A,b,rfl,hk,hq⟩:=h;obtain ⟨u,w',rfl,r1,r2⟩:=vals2 r;cases (show u=Value.none from r1);cases (show w'=Value.ref A from r2);exact PySem.W.kia_one PySem.W.kitx_none I.kIn True.intro hk (fun z=>nomatch z) fun tk=>⟨.bl b,H,I.tok tk,rfl,hq⟩
end
open PySem PySem.Spec PyProof.Rows
section
variable {prog:Program} {w:World} {A:Around} {E:Value->Shared->Prop} {s:Shared} {K:Fg} {C e:Addr} {f:Str} {v:Value} {vs:Array Value}
noncomputable def vK:List Value->Bool
 | .ref _ :: l=>vK l
 | l=>l==bmV
noncomputable def CS (K:Fg) (C:Addr):Bool:=(PySem.W.clsIn K C).any fun c=>vK c.mro
theorem vJ (a:Value) (l:List Value) (h:vK l=true):refuseLoop a "__setattr__" l=pure ()/\l.contains (.type "object")=true:=by
 induction l with
 | nil=>cases IF.mp (show ([]==bmV)=true from h)
 | cons x l ih =>
  unfold vK at h;split at h
  ·rename_i z;cases z;obtain ⟨g1,g2⟩:=ih h;exact ⟨(refuseLoop_ref ..).trans g1,by rw [Jq,g2,Bool.or_true]⟩
  ·rw [IF.mp h];exact ⟨F.store_ValueError.passes a,by decide +kernel⟩
theorem Gn {R:Result->Shared->Prop} {ob:Obj} {od:Option Obj} {tk:Tok} (X:K.In s.heap) (J:PySem.W.InstAt s.heap e ob C od) (hp:CS K C=true) (ht:PySem.W.takerIn K C f=some none)
  (go:∀ b,wpAny (model prog w) A.in1 (Builtin.ObjectAttr.storeInOwnDict (.ref e) (.ref C) (.str f tk) f v b) (fun z s1=>match z with | .done y=>R (.ok y) s1 | .again y=>y.quiet=true/\codeAny (model prog w) A y R s1) (fun y s1=>R (.error y) s1) s) :
  codeAny (model prog w) A (.call (.builtin "object.__setattr__") ⟨[.ref e,.str f tk,v],[]⟩) R s:=by
 have SO:=F.store_object;obtain ⟨c,hc,hv⟩:=PySem.W.any_some hp;obtain ⟨g1,g2⟩:=vJ (.ref e) _ hv;have ty:=J.type (M:=model prog w);have hm:PySem.W.Looks (model prog w) s.heap (mroOf (.ref C)) c.mro:=(PySem.W.looks_clsIn X hc).andThen .now;have isO:PySem.W.mroIn K C (.type "object")=some true:=by
  unfold PySem.W.mroIn;rw [hc];show (if c.mro.isEmpty then none else some (c.mro.contains (.type "object")))=some true;cases z:c.mro with
  | nil=>rw [z] at g2;cases g2
  | cons a l=>rw [z] at g2;rw [g2];rfl
 refine IL SO.slot.plain SO.entry (@PySem.W.check_slot (model prog w) _ _ s "object.__setattr__" "object" "__setattr__" (.ref e) _ [] _ SO.kind SO.split (ty.andThen (PySem.W.looks_mroIn X isO)) (SO.args ..) ?_);obtain ⟨at',ha,hr⟩:=Option.bind_eq_some_iff.mp ht;have L3:PySem.W.Looks (model prog w) s.heap (Builtin.ObjectAttr.storeTaker? at') none:=by
  cases at' with
  | none=>exact .now
  | some a =>
   obtain ⟨b,hb,hn⟩:=Hv.mp hr;refine (PySem.W.looks_takesIn X hb).andThen ?_;cases b with
   | false=>exact .now
   | true=>cases hn
 rw [PySem.W.osa_eq,refuse_eq];refine He (He (ty.here (He (hm.here ?_))));rw [g1];exact Hg (He (ty.here (He ((IM X ha).here (He (L3.here (go _)))))))
theorem GF {Q:Unit->Shared->Prop} (X:K.In s.heap) (he:s.heap.get? e=some { cls:=.ref C,data:=.fields vs })
  (hs:PySem.W.findIn K (.ref C) "__setattr__" = some (some (.builtin "object.__setattr__"))) (hp:CS K C=true) (ht:PySem.W.takerIn K C f=some none) (hh:PySem.W.hasDictIn K C=true)
  (h:∀ h' tk,(∀ b o,b≠e->s.heap.get? b=some o->h'.get? b=some o)->h'.get? e=some { cls:=.ref C,dict:=some s.heap.objs.size,data:=.fields vs }->h'.Ns1 s.heap.objs.size (fun y=>if y=f then some v else none)->Q () { s with heap:=h',toks:=tk }) :
  wpAny (model prog w) A (setAttr (.ref e) f v) Q E s:=by
 have J:PySem.W.InstAt s.heap e { cls:=.ref C,data:=.fields vs } C none:=⟨he,rfl,rfl,trivial⟩;refine PySem.W.set_plain X J hs (Gn (s:={ s with toks:=s.toks+1 }) X J hp ht fun b=>?_);obtain ⟨cd,hc,hd'⟩:=PySem.W.any_some hh;refine He (Hg (He (He (wpAny_loadPart he (He (PySem.W.Looks.here (s:={ s with toks:=s.toks+1 }) (PySem.W.looks_clsIn X hc) ?_))))));rw [hd'];show wpAny _ _ (alloc { cls:=Value.type "dict", data:=Data.dict #[] }>>=_) _ _ _;refine He (wpAny_alloc ?_);have he1:(s.heap.push { cls:=.type "dict", data:=.dict #[] }).get? e=some { cls:=.ref C,data:=.fields vs }:=Hj _ he;have ne:e≠s.heap.objs.size:=HH (Ht he);refine He (wpAny_update he1 (Hg ?_));have he2:=HR (fun o:Obj=>{ o with dict:=some s.heap.objs.size }) he1 rfl;have hd2:((s.heap.push { cls:=.type "dict", data:=.dict #[] }).update e (fun o:Obj=>{ o with dict:=some s.heap.objs.size })).get? s.heap.objs.size=some { cls:=.type "dict", data:=.dict #[] }:=(HU _ _ ne).trans (HE _ rfl);have N0:((s.heap.push { cls:=.type "dict", data:=.dict #[] }).update e (fun o:Obj=>{ o with dict:=some s.heap.objs.size })).Ns1 s.heap.objs.size (fun _=>none):=Heap.Ns1.of_empty ⟨_,#[],_,hd2,rfl,fun e he=>absurd he (by simp),fun _=>rfl⟩;refine He (Hg (He ?_));refine wpAny_nsSet1 (s:={ s with heap:=_,toks:=s.toks+1 }) N0 fun h' hn2 hs2=>?_;obtain ⟨oD,esD,epD,hoD,hdD,hcD⟩:=hn2.count (PySem.Within.cons f v (m:=fun _=>none) (ns:=[]) (fun x hx=>absurd rfl hx));refine He (wpAny_lookBehind hoD (by rw [hdD];exact pastItsLine_dict (HA hcD (by show 1<=sizeLine+1;decide))) ?_);refine Hg (h _ _ (fun b o hb q=>?_) ((hs2.2 e ne).trans he2) hn2);have hbn:b≠s.heap.objs.size:=HH (Ht q);rw [hs2.2 b hbn];exact (HU _ _ (Ne.symm hb)).trans (Hj _ q)
theorem G5 {h:Heap} {g:Array GenState} {d:Drawn} {t:Nat} {os:OsState} {ox:Obj} {od:Option Obj} {expr:Bool} {nm q:Str} {N:Addr} {bs bm:List Value} {hdct:Bool} {sn:List Str} {sub:List Value} {ab:Bool} {col:Option Bool} {dd:Option Addr} {k0 k1 k2 k3 k5:Option Value} {newId:String} {Q:Value->Shared->Prop} (X:K.In h) (J:PySem.W.InstAt h e ox C od)
  (hga:PySem.W.findIn K (.ref C) "__getattribute__" = some (some (.builtin "BaseException.__getattribute__"))) (hgg:PySem.W.findIn K (.ref C) "__getattr__" = some none)
  (hC:h.get? C=some (excClassObj nm q C N bs bm hdct sn sub ab col dd k0 k1 k2 k3 k5 newId)) (hb2:bm.contains (.type "BaseException")=true)
  (hf:PySem.W.findObj K C od f=some (.value v)) (hv:PySem.W.handedIn v=true) (hq:Q v ⟨h,g,d,t+1,os⟩):wpAny (model prog w) A (getAttr (.ref e) f expr) Q E ⟨h,g,d,t,os⟩:=by
 have f3:=F.excAttr_ValueError.ga.bind (.ref e);have hx0:(expr&&onTheHeap (Value.builtin "BaseException.__getattribute__"))=false:=by cases expr <;> rfl
 have hx2:(Value.builtin "BaseException.__getattribute__" == Value.builtin "object.__getattribute__")=false:=by decide +kernel
 have hx1:(onTheHeap (Value.ref C)&&Value.builtin "BaseException.__getattribute__" == Value.builtin "object.__getattribute__")=false:=by rw [hx2];rfl
 have L1:=IM (M:=model prog w) X hga;have L2:=IM (M:=model prog w) X hgg;have L3:=PySem.W.looks_find (M:=model prog w) X J hf;have hx:=J.at_;have hc:=J.cls;have ho:=PySem.W.handedOut_of hv;unfold getAttr
 repeat (any_goals (first | assumption | (with_reducible refine HX hx ?_;rw [hc]) | with_reducible refine L1.at ?_ | with_reducible refine L2.at ?_ | wp_step))
 refine IL F.excAttr_ValueError.ga.plain F.entry_bexc_ga (ka hC hb2 hx hc ?_);refine He (Hg (He (Hg (He (J.type.at (He (L3.at (Hg ?_))))))));show wpAny _ _ (handedOut v) _ _ _;rw [ho];exact Hg hq
end
open PySem PySem.Spec PyProof.Rows
section
variable {prog:Program} {w:World} {A:Around} {E:Value->Shared->Prop} {h:Heap} {g:Array GenState} {d:Drawn} {t:Nat} {os:OsState} {e C N t0:Addr} {nm q:Str} {bs bm:List Value} {hdct:Bool} {sn:List Str} {sub:List Value} {ab:Bool} {col:Option Bool} {dd:Option Addr} {k0 k1 k2 k3 k5:Option Value} {u:Value}
theorem Fs {Q:Value->Shared->Prop} (T:OwnTail h bmV bm) (hC:h.get? C=some (excClassObj nm q C N bs bm hdct sn sub ab col dd k0 k1 k2 k3 k5 "ValueError.__new__"))
  (he:h.get? e=some { cls:=.ref C,data:=.fields #[.ref t0,.none,.none,.none,.bool false,.none] })
  (hq:∀ h' t1,(∀ b o,b≠e->h.get? b=some o->h'.get? b=some o)->h'.get? e=some { cls:=.ref C,data:=.fields #[.ref t1,.none,.none,.none,.bool false,.none] }->Q .none ⟨h',g,d,t,os⟩) :
  wpAny (model prog w) A (call (.builtin "ValueError.__init__") [.ref e,u]) Q E ⟨h,g,d,t,os⟩:=by
 have F:=PySem.F.excBase_ValueError;refine wpAny_call (IL F.init.plain F.initEntry (wpAny_check_init_subT F T hC he rfl ?_))
 wp_walk
 refine hq _ h.objs.size (fun b o hb z=>?_) ?_
 ·rw [HU _ _ (Ne.symm hb)];exact Hj _ z
 ·rw [HR _ (Hj _ he) rfl];rfl
theorem Dv {mN:Str->Option Value} {rest:List Value} {f:Addr} {o:Obj} {Q:Fin->Shared->Prop} (T:OwnTail h bmV bm) (hC:h.get? C=some (excClassObj nm q C N bs bm hdct sn sub ab col dd k0 k1 k2 k3 k5 "ValueError.__new__"))
  (hn:h.Ns N mN) (hi:mN "__init__" = some (.ref f)) (hf:h.get? f=some o) (hfc:o.cls=.type "function")
  (hq:∀ h' e,h.objs.size<=e->Heap.MadeExcOf h h' e (.ref C) rest->wpAny (model prog w) A (call (.ref f) (.ref e :: rest)) (fun r s'=>r=.none/\Q (.done (.ret (.ref e))) s') E ⟨h',g,d,t,os⟩) (hr:rest.length<=sizeLine) :
  wpAny (model prog w) A (Builtin.«type.__call__» ⟨.ref C :: rest,[]⟩) Q E ⟨h,g,d,t,os⟩:=by
 have F:=PySem.F.excBase_ValueError
 repeat (first | with_reducible refine HX hC ?_ | with_reducible refine wpAny_madeBy_exc hC ?_ | wp_step)
 refine codeAny_call_builtin_code (Code.quiet_builtin _ F.quiet) (wpAny_check_new_subT F T hC (codeAny_exc_new_subT F T hC ?_ hr));show wpAny _ _ _ _ _ _;generalize eh:(h.push { cls:=.type "tuple", data:=.seq rest.toArray }).push { cls:=.ref C,data:=.fields #[.ref h.objs.size,.none,.none,.none,.bool false,.none] }=h1;have kp:∀ b o,h.get? b=some o->h1.get? b=some o:=fun b o z=>by rw [<- eh];exact Hj _ (Hj _ z)
 have he:h1.get? (h.objs.size+1)=some { cls:=.ref C,data:=.fields #[.ref h.objs.size,.none,.none,.none,.bool false,.none] }:=by rw [<- eh];heap_get
 have ht:h1.get? h.objs.size=some { cls:=.type "tuple", data:=.seq rest.toArray }:=by rw [<- eh];exact Hj _ (Heap.get?_push_at rfl rfl)
 have hC1:=kp _ _ hC;have cc:(Value.ref C :: bm).contains (.ref C)=true:=by simp
 unfold isInstance
 repeat (first | with_reducible refine HX he ?_ | (with_reducible refine IW hC1 ?_;rw [cc]) | wp_step)
 show wpAny _ _ (typeLookup (.ref C) _) _ _ _;refine wpAny_typeLookup_tail hC1 (hn.keeps kp) (T.keeps kp) F.mroIs F.init.lookup ?_;rw [hi];refine HY (He ?_);unfold bindSpecial;refine He (wpAny_typeOf (T := "function") ⟨_,kp _ _ hf,hfc⟩ ?_);rw [Hy (by decide)];refine Hg (He (HP (hq _ (h.objs.size+1) (IP _) ⟨kp,Heap.get?_none_of_le (IP _),h.objs.size,he,Heap.get?_none_of_le (Hu _),ht⟩) (fun r s' z=>?_) fun _ _ z=>z));obtain ⟨rfl,z⟩:=z
 wp_walk
 exact z
theorem E2 {mN:Str->Option Value} {rest:List Value} {f:Addr} {o:Obj} {Q:Value->Shared->Prop} (T:OwnTail h bmV bm) (hC:h.get? C=some (excClassObj nm q C N bs bm hdct sn sub ab col dd k0 k1 k2 k3 k5 "ValueError.__new__"))
  (hn:h.Ns N mN) (hi:mN "__init__" = some (.ref f)) (hf:h.get? f=some o) (hfc:o.cls=.type "function")
  (hq:∀ h' e,h.objs.size<=e->Heap.MadeExcOf h h' e (.ref C) rest->wpAny (model prog w) (A.under (.builtin "type.__call__" ⟨.ref C :: rest,[]⟩)) (call (.ref f) (.ref e :: rest)) (fun r s'=>r=.none/\Q (.ref e) s') E ⟨h',g,d,t,os⟩) (hr:rest.length<=sizeLine) :
  wpAny (model prog w) A (call (.ref C) rest) Q E ⟨h,g,d,t,os⟩:=by
 have f1:=tc_lookup;have f2:=tc_bind (.ref C);have hT:(⟨h,g,d,t,os⟩:Shared).TypeIs (.ref C) "type" := ⟨_,hC,rfl⟩;refine wpAny_call (codeAny_of_tree ?_);show wpAny _ _ (callAny (.ref C) _) _ _ _
 repeat (any_goals (first | assumption | with_reducible refine HX hC ?_ | wp_step))
 exact ⟨rfl,codeAny_call_builtin_at (Code.quiet_builtin _ (by decide +kernel)) entry_typeCall (wpAny_check_type_call_sub hC (Dv T hC hn hi hf hfc hq hr))⟩
theorem zW {s:Shared} {x:Sem Value} {env:Env} {Q:Flow->Shared->Prop} (hb:bm.contains (.type "BaseException")=true) (hh:A.handled=none)
  (hx:wpAny (model prog w) A x (fun v s1=>∃ e oe vs,v=.ref e/\s1.heap.get? C=some (excClassObj nm q C N bs bm hdct sn sub ab col dd k0 k1 k2 k3 k5 "ValueError.__new__")/\s1.heap.get? e=some oe/\oe.cls=.ref C/\oe.data=.fields vs/\vs[1]?=some .none/\E (.ref e) s1) E s) :
  wpAny (model prog w) A (raiseStmt env (some x) none) Q E s:=by
 have hcB:(Value.ref C :: bm).contains (.type "BaseException")=true:=by rw [Jq,hb,Bool.or_true]
 unfold raiseStmt;refine He (HP hx (fun v s1 z=>?_) fun _ _ z=>z);obtain ⟨e,⟨cls,dct,dat,sl⟩,vs,rfl,hC,he,hc,hd,h1,hE⟩:=z;obtain ⟨hp,g,d,tk,os⟩:=s1;simp only at hc hd;subst hc hd
 repeat (first | with_reducible refine HX he ?_ | with_reducible refine HX hC ?_ | (with_reducible refine IW hC ?_;rw [hcB]) | wp_step)
 rw [h1];refine Hg ?_;rw [HC (by decide)];exact Hg (wpAny_raiseNew_none hh hE)
end
open PySem PySem.Spec PyProof.Rows
def TrD (h base:Heap) (e:Addr) (cls a0:Value) (dx:Option Addr) (fl:Value):Prop :=
 ∃ oe vs T oT ts,h.get? e=some oe/\((oe.cls=cls/\vs[0]?=some a0)/\oe.dict=dx)/\oe.data=.fields vs/\vs[1]?=some (.ref T)/\base.get? T=none/\T≠e/\h.get? T=some oT/\oT.data=.fields ts/\ts[3]?=some fl
def FlD (base:Heap) (l:List Env) (e:Addr) (cls a0:Value) (dx:Option Addr) (fl:Value) (h:Heap):Prop:=base.StaysIn h/\base.get? e=none/\h.FunFrames base l/\TrD h base e cls a0 dx fl
theorem FlD.fly {base h:Heap} {l:List Env} {e:Addr} {cls a0:Value} {dx:Option Addr} (x:FlD base l e cls a0 dx .none h):Heap.FlyingW base l e cls a0 h:=by
 obtain ⟨x1,x2,x3,oe,vs,T,oT,ts,h1,h2,r⟩:=x;exact ⟨x1,x2,x3,oe,vs,T,oT,ts,h1,h2.1,r⟩
section
variable {M:Model} {A:Around} {E:Value->Shared->Prop} {s:Shared} {base:Heap} {env:Env} {l outer:List Env} {L e:Addr} {cls a0 fl:Value} {dx:Option Addr} {Q:Unit->Shared->Prop}
theorem oa (x:FlD base l e cls a0 dx fl s.heap) (q:∀ h',FlD base l e cls a0 dx .none h'->s.heap.UpToSlots h'->Q () { s with heap:=h' }):wpAny M A (setFlight (.ref e) none) Q E s:=by
 obtain ⟨k1,k2,k3,oe,vs,T,oT,ts,he,hc,hd,h1,hn,hne,hT,hdT,h3⟩:=x;have z3:3 < ts.size:=(IQ.mp h3).1;have oth:∀ b,b≠T->(s.heap.update T (Obj.mapFields (·.setIfInBounds 3 ((none:Option Addr).elim Value.none fun f=>rawInt f)))).get? b=s.heap.get? b:=fun b hb=>HU _ _ (Ne.symm hb);have nr:∀ b o,s.heap.get? b=some o->(∀ vs,o.data≠.fields vs)->b≠T:=fun b o hb nf z=>by
  subst z;rw [hT] at hb;cases hb;exact nf ts hdT
 unfold setFlight;refine He (Js he hd h1 ?_);rw [Hy (show (Value.ref T != Value.none)=true by simp)];refine wpAny_setField hT hdT z3 (q _ ⟨fun b o z=>(oth b fun y=>by rw [y,hn] at z;cases z).trans (k1 b o z),k2,k3.of_keeps fun b o hb nf=>⟨o,(oth b (nr b o hb nf)).trans hb,rfl⟩,oe,vs,T,_,_,(oth e (Ne.symm hne)).trans he,hc,hd,h1,hn,hne,HR _ hT (Obj.isFreed_of_fields (Obj.data_mapFields hdT _)),Obj.data_mapFields hdT _,by simp [z3]⟩ fun b o hb nf=>⟨o.slots,(oth b (nr b o hb nf)).trans hb⟩)
theorem vA {f:Array Value->Array Value} {o:Obj}:(Obj.mapFields f o).dict=o.dict:=by
 obtain ⟨c,d,dt,sl⟩:=o;cases dt <;> rfl
theorem pH {oe:Obj} {vs:Array Value} {head:Value} {had:Bool} (hfr:A.frames=some (env :: outer)) (hl:s.heap.FunFrames base (env :: outer)) (hf:env.frame=some L) (he:s.heap.get? e=some oe) (kb:base.StaysIn s.heap) (hen:base.get? e=none) (hd:oe.data=.fields vs) (hz:1 < vs.size) (h0:vs[0]?=some a0)
  (q:∀ h',FlD base (env :: outer) e oe.cls a0 oe.dict (rawInt L) h'->s.heap.UpToSlots h'->Q () { s with heap:=h' }) :
  wpAny M A (do let a<-frameOf env;let pl<-entryPlaceOf L had;let b<-EntryCells.newEntry head a .none (rawInt L) .none pl;setField (.ref e) 1 b) Q E s:=by
 have nfr:e ∉ (env :: outer).filterMap (·.frame):=fun z=>by
  obtain ⟨_,o,ho,nf⟩:=hl.mem z;rw [he] at ho;cases ho;exact nf vs hd
 refine He (wpAny_frameOf_fun hfr hl hf fun h1 hs=>He (wpAny_entryPlaceOf fun pl hpl=>?_));unfold EntryCells.newEntry newFields;refine He (H9 ?_ (hpl.sizeOk5 _ _ _ _ _));have he1:h1.get? e=some oe:=(hs.2.1 e nfr).trans he;have kb1:base.StaysIn h1:=fun b o z=>(hs.2.1 b fun y=>by rw [(hl.mem y).1] at z;cases z).trans (kb b o z);have hTe:h1.objs.size≠e:=Jy (Ht he1);have hd3:=Obj.data_mapFields hd (·.setIfInBounds 1 (Value.ref h1.objs.size));generalize eo:({ cls:=.type "traceback", dict:=none,data:=.fields ([head,.ref L,.none,rawInt L,.none]++(if pl.isEmpty then List.replicate 6 Value.none else pl)).toArray }:Obj)=oT;have he2:=Hj (h:=h1) oT he1;have he3:=HR (Obj.mapFields (·.setIfInBounds 1 (Value.ref h1.objs.size))) he2 (Obj.isFreed_of_fields hd3);have hT3:((h1.push oT).update e (Obj.mapFields (·.setIfInBounds 1 (Value.ref h1.objs.size)))).get? h1.objs.size=some oT:=(HU _ _ (Ne.symm hTe)).trans (HE h1 (by rw [<- eo];rfl));have keep:∀ b o,b≠e->h1.get? b=some o->((h1.push oT).update e (Obj.mapFields (·.setIfInBounds 1 (Value.ref h1.objs.size)))).get? b=some o:=fun b o hb z=>(HU _ _ (Ne.symm hb)).trans (Hj _ z);have nr:∀ b o,s.heap.get? b=some o->(∀ vs,o.data≠.fields vs)->b≠e:=fun b o hb nf z=>by
  subst z;rw [he] at hb;cases hb;exact nf vs hd
 have dd:(Obj.mapFields (·.setIfInBounds 1 (Value.ref h1.objs.size)) oe).dict=oe.dict:=vA;refine wpAny_setField he2 hd hz (q _ ⟨fun b o z=>keep b o (fun y=>by rw [y,hen] at z;cases z) (kb1 b o z),hen,hl.of_keeps fun b o hb nf=>?_,_,_,h1.objs.size,oT,_,he3,⟨⟨Obj.cls_mapFields _ _,by rw [Array.getElem?_setIfInBounds_ne (by decide)];exact h0⟩,dd⟩,hd3,by simp [hz],kb1.fresh,hTe,hT3,by rw [<- eo],?_⟩ fun b o hb nf=>?_)
 ·obtain ⟨sl,z⟩:=hs.2.2 b o hb;exact ⟨_,keep b _ (nr b o hb nf) z,rfl⟩
 ·first | (simp;done) | (rcases hpl with rfl | ⟨_,_,_,_,_,_,_,rfl⟩ <;> simp)
 ·obtain ⟨sl,z⟩:=hs.2.2 b o hb;exact ⟨sl,keep b _ (nr b o hb nf) z⟩
theorem uM {oe:Obj} {vs:Array Value} (hfr:A.frames=some (env :: outer)) (hl:s.heap.FunFrames base (env :: outer)) (hf:env.frame=some L) (he:s.heap.get? e=some oe) (kb:base.StaysIn s.heap) (hen:base.get? e=none) (hd:oe.data=.fields vs) (h1:vs[1]?=some .none) (h0:vs[0]?=some a0)
  (q:∀ h',FlD base outer e oe.cls a0 oe.dict .none h'->s.heap.UpToSlots h'->Q () { s with heap:=h' }):wpAny M A (leaving env (.ref e)) Q E s:=by
 unfold leaving noteFrame;simp only [hf];refine He (He (Js he hd h1 ?_));rw [HC (by decide)];refine pH hfr hl hf he kb hen hd (IQ.mp h1).1 h0 fun h2 x u=>oa (s:={ s with heap:=h2 }) x fun h3 y u2=>q h3 ?_ (u.trans u2);obtain ⟨y1,y2,⟨_,_,y3⟩,y4⟩:=y;exact ⟨y1,y2,y3,y4⟩
theorem xQ (hfr:A.frames=some (env :: outer)) (hf:env.frame=some L) (x:FlD base (env :: outer) e cls a0 dx .none s.heap) (q:∀ h',FlD base (env :: outer) e cls a0 dx (rawInt L) h'->s.heap.UpToSlots h'->Q () { s with heap:=h' }):wpAny M A (noteFrame (.ref e) env) Q E s:=by
 obtain ⟨k1,k2,k3,oe,vs,T,oT,ts,he,⟨⟨hc,h0⟩,hdx⟩,hd,h1,hn,hne,hT,hdT,h3⟩:=x;subst hc hdx;unfold noteFrame;simp only [hf];refine He (Js he hd h1 ?_);rw [Hy (show (Value.ref T != Value.none)=true by simp)];refine He (Js hT hdT h3 ?_);rw [HC (show ¬((Value.none==rawInt L)=true) by simp [rawInt])];refine He (wpAny_setField hT hdT (IQ.mp h3).1 ?_);have oth:∀ b,b≠T->(s.heap.update T (Obj.mapFields (·.setIfInBounds 3 Value.none))).get? b=s.heap.get? b:=fun b hb=>HU _ _ (Ne.symm hb);have nr:∀ b o,s.heap.get? b=some o->(∀ vs,o.data≠.fields vs)->b≠T:=fun b o hb nf z=>by
  subst z;rw [hT] at hb;cases hb;exact nf ts hdT
 exact pH (s:={ s with heap:=_ }) hfr (k3.of_keeps fun b o hb nf=>⟨o,(oth b (nr b o hb nf)).trans hb,rfl⟩) hf ((oth e (Ne.symm hne)).trans he) (fun b o z=>(oth b fun y=>by rw [y,hn] at z;cases z).trans (k1 b o z)) k2 hd (IQ.mp h1).1 h0 fun h' y u=>q h' y fun b o hb nf=>u b o ((oth b (nr b o hb nf)).trans hb) nf
end
open PySem PySem.Spec PyProof.Rows
theorem nsHas {K:Fg} {h:Heap} {N:Addr} {m:Str->Option Value} {x:Str} {v:Value} (X:K.In h) (G:h.Ns N m) (e:PySem.W.nsIn K N x=some (some v)):m x=some v:=by
 obtain ⟨oN,eN,nN,atN,isD,_,found⟩:=G;have f:=found x;unfold nsFind findBy at f;unfold PySem.W.nsIn at e;split at e
 ·next lk =>
  cases atN.symm.trans (X _ _ lk);cases isD;split at e
  ·next ff =>
   cases e;rw [<- f,<-Array.find?_toList,ff];rfl
  ·split at e <;> cases e
 ·cases e
structure lu (K:Fg) (C:Addr) (i:Option Value):Prop where
 ex:∃ dd cd bm k0 k1 k2 k3 k5,K.lookup C=some ⟨.type "type", dd,.cls cd,#[k0,k1,k2,k3,some (.builtin "ValueError.__new__"),k5]⟩/\cd.mro=.ref C :: bm/\cd.hasDel=false/\PySem.W.tailIn K bmV bm=true/\PySem.W.nsOkIn K cd.ns=true/\PySem.W.nsIn K cd.ns "__init__" = some i
 cl:PySem.W.findIn K (.ref C) "__class__" = some (some (.builtin "object.__class__"))
 ga:PySem.W.findIn K (.ref C) "__getattribute__" = some (some (.builtin "BaseException.__getattribute__"))
 gg:PySem.W.findIn K (.ref C) "__getattr__" = some none
theorem lu.own {K:Fg} {C:Addr} {h:Heap} {i:Option Value} (x:lu K C i) (X:K.In h):∃ bm N nm q bs hdct sn sub ab col dd k0 k1 k2 k3 k5 mN,h.get? C=some (excClassObj nm q C N bs bm hdct sn sub ab col dd k0 k1 k2 k3 k5 "ValueError.__new__")/\h.Ns N mN/\mN "__init__" = i/\OwnTail h bmV bm /\
  ∃ cd,PySem.W.clsIn K C=some cd/\cd.mro=.ref C :: bm:=by
 obtain ⟨dd,⟨nm,bs,mro,ns,qn,hd,sn,sub,ab,col,del⟩,bm,k0,k1,k2,k3,k5,lk,em,ed,tl,nk,ni⟩:=x.ex;dsimp only at em ed nk ni;subst em ed;have G:=Heap.Ns.of_isNs (PySem.W.isNs_of_in X nk);refine ⟨bm,ns,nm,qn,bs,hd,sn,sub,ab,col,dd,k0,k1,k2,k3,k5,_,X _ _ lk,G,?_,PySem.W.tail_of_in X tl,_,by unfold PySem.W.clsIn;rw [lk],rfl⟩;cases i with
 | none=>exact PySem.W.ns_none_of X G ni
 | some v=>exact nsHas X G ni
theorem AQ {K:Fg} {C a:Addr} {i:Option Value} (x:lu K C i):PySem.W.KitX K (.ref a) (.ref C) (fun h=>∃ o,h.get? a=some o/\o.cls=.ref C) where
 ty:=fun M h _ p=>by
  obtain ⟨o,h1,h2⟩:=p;exact h2▸(PySem.W.Looks.ld h1).andThen .now
 it:=fun M h X _=>by
  obtain ⟨bm,N,nm,q,bs,hdct,sn,sub,ab,col,dd,k0,k1,k2,k3,k5,mN,hC,_⟩:=x.own X;intro A' Q' E' s' k q;unfold isType loadHead;exact He (wpAny_loadPart (k _ _ hC) (Hg q))
 ne:=fun h tp dd its n sl X htp=>by
  refine Bool.eq_false_iff.mpr fun q=>?_;have e:C=tp:=Value.ref.inj (IF.mp q);subst e;obtain ⟨bm,N,nm,q,bs,hdct,sn,sub,ab,col,dd,k0,k1,k2,k3,k5,mN,hC,_⟩:=x.own X;have z:=congrArg Obj.data (HQ (hC.symm.trans htp));cases z
 ca:=fun {prog w A E Q s} X p k=>by
  obtain ⟨h,g,d,t,os⟩:=s;obtain ⟨o,h1,h2⟩:=p;obtain ⟨bm,N,nm,q,bs,hdct,sn,sub,ab,col,dd,k0,k1,k2,k3,k5,mN,hC,_,_,T,_⟩:=x.own X;exact tm X x.cl x.ga x.gg hC (T.hasType rfl) (T.hasType rfl) h1 h2 k
open PySem PySem.Spec PyProof.Rows
noncomputable def ip (C e:Addr) (dx:Option Addr):HO:=.ext fun h=>∃ t,h.get? e=some { cls:=.ref C,dict:=dx,data:=.fields #[.ref t,.none,.none,.none,.bool false,.none] }
theorem nK {P:Program} {w:World} {H:Hp} {h:Heap} {C e t:Addr} {dx:Option Addr} (z:h.get? e=some { cls:=.ref C,dict:=dx,data:=.fields #[.ref t,.none,.none,.none,.bool false,.none] }):bY P w H h e (ip C e dx) :=
 ⟨⟨t,z⟩,⟨_,z⟩,fun h1 h2 ⟨t,q⟩ k=>⟨t,k _ q⟩⟩
noncomputable def cB:V->Bool
 | .non=>true
 | .str x=>decide (x.length<=1000)
 | .int i=>decide (i.natAbs.log2 < 1920/\(Str.ofString (toString i)).length<=1000)
 | _=>false
theorem Inv.GS {X:Cx} {pins:List (Addr×Obj)} {σ:St} {H:Hp} {s:Shared} {h':Heap} {tk:Nat} {C e t:Addr} {fld:Str} {v:V} {u:Value} (I:Inv X pins σ H s) (he:H e=some (ip C e none)) (r:RelV v u)
  (k:∀ b o,b≠e->s.heap.get? b=some o->h'.get? b=some o) (h1:h'.get? e=some { cls:=.ref C,dict:=some s.heap.objs.size,data:=.fields #[.ref t,.none,.none,.none,.bool false,.none] })
  (h2:h'.Ns1 s.heap.objs.size (fun y=>if y=fld then some u else none)) :
  Inv X pins σ (upd (upd H e (ip C e (some s.heap.objs.size))) s.heap.objs.size (.xd [(fld,v)])) { s with heap:=h',toks:=tk }:=by
 have fr:H s.heap.objs.size=none:=I.hok.fresh (Hu _);have ne:e≠s.heap.objs.size:=fun z=>by rw [z,fr] at he;cases he
 have oth:∀ b,b≠e->b≠s.heap.objs.size->upd (upd H e (ip C e (some s.heap.objs.size))) s.heap.objs.size (.xd [(fld,v)]) b=H b:=fun b n1 n2=>by
  unfold upd;rw [HC n2,HC n1]
 have nn:∀ b o,H b=some o->b≠s.heap.objs.size:=fun b o q z=>by rw [z,fr] at q;cases q
 have n0:∀ b,H b=none->b≠e:=fun b q z=>by rw [z,he] at q;cases q
 have nx:∀ b o,s.heap.get? b=some o->b≠s.heap.objs.size:=fun b o q=>HH (Ht q);refine I.un ⟨fun b o q n _ _=>k b o (n0 b n) q,fun b o q n _ _=>⟨o.slots,k b o (n0 b n) q⟩,fun b o q n _=>(oth b (n0 b n) (nx b o q)).trans n,fun b o q _=>?_,fun b xs q=>?_,fun b o u q=>?_,fun b ps q=>?_⟩ fun b o q=>?_
 ·by_cases z:b=e
  ·rw [z];exact ⟨_,h1⟩
  ·exact ⟨o,k b o z q⟩
 ·rw [oth b (fun z=>by rw [z,he] at q;cases q) (nn _ _ q)];exact q
 ·rw [oth b (fun z=>by rw [z,he] at q;cases q) (nn _ _ q)];exact q
 ·exact ⟨#[],by rw [oth b (fun z=>by rw [z,he] at q;cases q) (nn _ _ q),q];simp⟩
 ·by_cases z1:b=s.heap.objs.size
  ·subst z1;rw [ay] at q;cases q;refine ⟨_,h2,fun y=>?_⟩;by_cases e1:y=fld
   ·subst e1;show Aw (List.lookup y [(y,v)]) _;rw [Hy rfl,IE,beq_self_eq_true];exact r
   ·rw [HC e1];show Aw (List.lookup y [(fld,v)]) _;have:(y==fld)=false:=by simpa using e1
    rw [IE,this];trivial
  ·by_cases z2:b=e
   ·subst z2;unfold upd at q;rw [HC z1,Hy rfl] at q;cases q;exact nK h1
   ·rw [oth b z2 z1] at q;refine (I.hok b o q).jL (fun c w hc g=>k c w ?_ g) (fun c g=>?_) fun c xs g=>?_
    ·rcases hc with rfl | hc
     ·exact z2
     ·rintro rfl;rw [he] at hc;cases hc
    ·rw [oth c (fun z=>by rw [z,he] at g;cases g) (nn _ _ g)];exact g
    ·rw [oth c (fun z=>by rw [z,he] at g;cases g) (nn _ _ g)];exact g
section
variable {X:Cx}
theorem CB {i:Nat} {x tx:Str} {j:Nat} {p1 p2 p3 p4:Pos} (hi:X.N[i]?=some x) (hv:Vis X.env.scope x) (hd:(x==("__debug__" : Str))=false) (hcd:(x==("__classdict__" : Str))=false) (ht:tx.length<=100) :
  PE X (.JoinedStr [.Constant (.str tx) j p1,.FormattedValue (.Name x p2) (-1) none p3] p4) (fun σ H Q=>∃ v,σ[i]?=some (some v)/\cB v=true/\∀ y,Q (.str y) H):=by
 intro pins s σ H Q I h;obtain ⟨v,ev,hp,q⟩:=h;refine JoinedStr_many ?_;refine joinParts_cons (Calls.Constant_str ⟨?_,?_⟩)
 ·show (Str.empty++tx).length<=sizeLine;rw [strLen_append];exact HA (Nat.add_le_add_left ht _) (by decide)
 have I1:Inv X pins σ H { s with toks:=s.toks+1 }:=I.tok _;refine joinParts_cons (FormattedValue_plain (thn (gS hi hv hd hcd pins _ σ H (fun v' H'=>v'=v/\H'=H) I1 ⟨v,ev,rfl,rfl⟩) fun u s1 z=>?_));obtain ⟨v',H',I2,r,rfl,rfl⟩:=z;have fin:∀ (y:Str) (tk:Nat),y.length<=1000->(((Str.empty++tx)++y).length<=sizeLine/\wpAny (model X.prog X.w) X.A (joinParts ((Str.empty++tx)++y) (evalEach [] X.env)) (EP X pins σ Q) X.xe { s1 with toks:=tk }):=fun y tk hy=>by
  have hz:((Str.empty++tx)++y).length<=sizeLine:=by
   rw [strLen_append,strLen_append];exact HA (Nat.add_le_add (Nat.add_le_add_left ht _) hy) (by decide)
  exact ⟨hz,joinParts_nil (out:=(Str.empty++tx)++y) (show EP X pins σ Q _ _ from ⟨.str _,H',I2.tok _,⟨_,rfl⟩,q _⟩) hz⟩
 cases v' with
 | non =>
  cases r;exact wpAny_formatField_none (fin _ _ (by decide))
 | str x =>
  obtain ⟨t,rfl⟩:=(show ∃ t,u=Value.str x t from r);have hx:x.length<=1000:=Jc hp;exact formatField_str (fun t' tk=>fin _ _ hx) (HA hx (by decide))
 | int n =>
  obtain ⟨t,rfl⟩:=(show ∃ t,u=Value.int n t from r);have hn:n.natAbs.log2 < 1920/\(Str.ofString (toString n)).length<=1000:=Jc hp;exact formatField_int_small hn.1 (fin _ _ hn.2)
 | _=>cases hp
end
open PySem PySem.Spec PyProof.Rows
structure C0 (K:Fg) (C D:Addr) (fld:Str):Prop where
 sa:PySem.W.findIn K (.ref C) "__setattr__" = some (some (.builtin "object.__setattr__"))
 po:CS K C=true
 tk:PySem.W.takerIn K C fld=some none
 hd:PySem.W.hasDictIn K C=true
 sp:PySem.W.specialIn K (.ref D) "__getattribute__" = some (some (.builtin "type.__getattribute__"))
 rd:PySem.W.readsIn K D (.type "type")=true
 na:PySem.W.findIn K (.ref C) fld=some none
 fc:PySem.W.findCls K (.ref D) (.type "type") "__init__" = some (.val (.builtin "ValueError.__init__"))
def CK (C:Addr) (fld:Str):TS:=fun D σ H=>∃ e v,σ[0]?=some (some (.ref e))/\σ[1]?=some (some v)/\cB v=true/\H e=some (ip C e none)/\∀ dx,H dx=none->D.nx σ (upd (upd H e (ip C e (some dx))) dx (.xd [(fld,v)]))
section
variable {X:Cx}
theorem xW {C D:Addr} {i:Option Value} {fld Dn sf nm tx:Str} {j:Nat} {p1 p2 p3 p4 p5 p6 p7 p8 p9 q1 q2 q3 q4:Pos} (xC:lu X.K C i) (xF:C0 X.K C D fld) (hg:Gl X Dn) (hm:X.mg Dn=some (.ref D)) (hdn:(Dn==("__debug__" : Str))=false)
  (h0:X.N[0]?=some sf) (h1:X.N[1]?=some nm) (v0:Vis X.env.scope sf) (v1:Vis X.env.scope nm) (d0:(sf==("__debug__" : Str))=false) (c0:(sf==("__classdict__" : Str))=false) (d1:(nm==("__debug__" : Str))=false) (c1:(nm==("__classdict__" : Str))=false) (ht:tx.length<=100)
  (hw1:swapsWith (.Call (.Attribute (.Name Dn p1) "__init__" p2) [.Name sf p3,.JoinedStr [.Constant (.str tx) j p4,.FormattedValue (.Name nm p5) (-1) none p6] p7] [] p8) none p9.line X.env=pure false)
  (hee:∃ pl,eval (.Call (.Attribute (.Name Dn p1) "__init__" p2) [.Name sf p3,.JoinedStr [.Constant (.str tx) j p4,.FormattedValue (.Name nm p5) (-1) none p6] p7] [] p8) X.env=(do
   let o<-eval (.Name Dn p1) X.env
   standAt p2.atName
   let (g,us)<-holding [o] (getMethod o "__init__" pl)
   callWith p8 g us (backTo p8 (starEach [.Name sf p3,.JoinedStr [.Constant (.str tx) j p4,.FormattedValue (.Name nm p5) (-1) none p6] p7] X.env)) (backToKw p8 (keywordEach [] X.env))))
  (hw2:swapsWith (.Name nm q3) (some (.Attribute (.Name sf q1) fld q2)) q4.line X.env=pure false) :
  PSs X [.Expr (.Call (.Attribute (.Name Dn p1) "__init__" p2) [.Name sf p3,.JoinedStr [.Constant (.str tx) j p4,.FormattedValue (.Name nm p5) (-1) none p6] p7] [] p8) p9,.Assign [.Attribute (.Name sf q1) fld q2] (.Name nm q3) q4] (CK C fld):=by
 intro pins s σ H D' I h;obtain ⟨e,v,e0,e1,hp,he,q⟩:=h;refine IU (wpAny_Expr_any ?_ I.quiet hw1);obtain ⟨pl,hee⟩:=hee;refine PySem.W.methodCall_KW (pl:=pl) (jD I hg hm ?_ hdn) hee;refine PySem.W.method_cls I.kIn xF.sp (PySem.W.cls_value I.kIn xF.rd xF.fc (by decide +kernel) ?_);refine Calls.callWith_builtin rfl (Calls.evalArgs_plain ?_);have I0:Inv X pins σ H { s with toks:=s.toks+1 }:=I.tok _;have ha:PA X [.Name sf p3,.JoinedStr [.Constant (.str tx) j p4,.FormattedValue (.Name nm p5) (-1) none p6] p7] _:=kY (gS h0 v0 d0 c0) (kY (CB h1 v1 d1 c1 ht) rH rfl) rfl;refine thn (ha p8 pins _ σ H (fun vs H'=>H'=H/\∃ y,vs=[.ref e,.str y]) I0 ⟨_,e0,v,e1,hp,fun y=>⟨rfl,y,rfl⟩⟩) fun us s1 z=>?_;obtain ⟨vs,H',I1,r,rfl,y,rfl⟩:=z;obtain ⟨u1,u2,rfl,r1,r2⟩:=vals2 r;cases (show u1=Value.ref e from r1);obtain ⟨bm,N,nm',q',bs,hdct,sn,sub,ab,col,dd,k0,k1,k2,k3,k5,mN,hC,hN,hi,T,_⟩:=xC.own I1.kIn;obtain ⟨⟨t,et⟩,_⟩:=(show bY X.prog X.w H' s1.heap e (ip C e none) from I1.hok e _ he);obtain ⟨hp1,gn,dr,tk,os⟩:=s1;refine Fs T hC et fun h' t1 kp g1=>?_;have up:upd H' e (ip C e none)=H':=by
  funext b;unfold upd;split
  ·next z=>rw [z,he]
  ·rfl
 have I2:Inv X pins σ H' ⟨h',gn,dr,tk,os⟩:=by
  have z:=I1.write (t':=tk) (x:=e) (e:=e) (o:=ip C e none) (by rw [he];trivial) (.inl rfl) kp ⟨_,g1⟩ (nK g1)
  rwa [up] at z
 refine IU (plainObj_wpAny_Assign_Attribute (thn (gS h1 v1 d1 c1 pins _ σ H' (fun v' H2=>v'=v/\H2=H') I2 ⟨v,e1,rfl,rfl⟩) fun u s2 z=>?_) hw2);obtain ⟨v',H2,I3,ru,rfl,rfl⟩:=z;refine thn (gS h0 v0 d0 c0 pins _ σ H2 (fun v' H3=>v'=.ref e/\H3=H2) I3 ⟨_,e0,rfl,rfl⟩) fun ov s3 z=>?_;obtain ⟨_,H3,I4,ro,rfl,rfl⟩:=z;cases (show ov=Value.ref e from ro);obtain ⟨⟨t2,et2⟩,_⟩:=(show bY X.prog X.w H3 s3.heap e (ip C e none) from I4.hok e _ he);refine GF I4.kIn et2 xF.sa xF.po xF.tk xF.hd fun h4 tk4 kp4 g4 n4=>?_;exact Jl ⟨σ,_,I4.GS he ru kp4 g4 n4,q _ (I4.hok.fresh (Hu _))⟩
end
open PySem PySem.Spec PyProof.Rows
def CX2 (P:Program) (w:World):CXT:=fun outer H s E e s2=>∃ (ea C t dx:Addr) (H':Hp) (b:Heap),e=.ref ea/\s2.os=s.os/\AllBare s2.gens/\Un (frs outer) [] H H' s.heap s2.heap /\
 (∀ c o,s.heap.get? c=some o->c ∉ frs outer->∃ o',b.get? c=some o')/\HOk P w H' b/\FlD b outer ea (.ref C) (.ref t) (some dx) .none s2.heap/\E (.ref C) (some dx) H'
def Ca (X:Cx) (E:XK) (C:Addr) (fld:Str):Prop:=∀ (pins:List (Addr×Obj)) (σ:St) (H1:Hp) (s:Shared) (e dx:Addr) (v:V),Inv X pins σ (upd (upd H1 e (ip C e (some dx))) dx (.xd [(fld,v)])) s->H1 e=none->H1 dx=none->e≠dx->X.s₀.heap.get? e=none ->
 E (.ref C) (some dx) (upd H1 dx (.xd [(fld,v)]))->X.xe (.ref e) s
theorem z5 {P:Program} {w:World} {K:Fg} {mg:Str->Option Value} {base:Heap} {N:List Str} {qual:Str} {scope:Scope} {f:Addr} {cd:Value} {A:Around} {outer:List Env} {s:Shared} {H:Hp} {E:XK} {C:Addr} {fld:Str} :
  Ca (iu (CX2 P w) P w K mg base N qual scope f cd A outer s H E) E C fld:=by
 intro pins σ H1 s1 e dx v I h1 h2 ne fr ew;generalize hL:e :: frs (envOfC qual scope s.heap.objs.size f cd :: outer)=L;have hst:(PySem.W.hideAll s1.heap L).StaysIn s1.heap:=fun b o q=>PySem.W.of_hideAll _ q;have ff:s1.heap.FunFrames (PySem.W.hideAll s1.heap L) (envOfC qual scope s.heap.objs.size f cd :: outer) :=
  fR I.stack fun c hc=>PySem.W.hideAll_none _ (by rw [<- hL];exact Hk _ hc)
 have nfr:∀ c,c∈frs (envOfC qual scope s.heap.objs.size f cd :: outer)->c=s.heap.objs.size\/c∈frs outer:=fun c hc=>Hs.mp (I.mC c hc);have U:Un (frs outer) [] H _ s.heap s1.heap:=I.base;have frf:∀ c∈frs outer,H c=none:=I.ok.frf;have he2:upd (upd H1 e (ip C e (some dx))) dx (.xd [(fld,v)]) e=some (ip C e (some dx)):=by unfold upd;rw [HC ne,Hy rfl]
 have oth:∀ c,c≠e->upd (upd H1 e (ip C e (some dx))) dx (.xd [(fld,v)]) c=upd H1 dx (.xd [(fld,v)]) c:=fun c hc=>by unfold upd;rw [HC hc]
 have he3:upd H1 dx (.xd [(fld,v)]) e=none:=by unfold upd;rw [HC ne];exact h1
 obtain ⟨⟨t,et⟩,_⟩:=(show bY P w _ s1.heap e (ip C e (some dx)) from I.hok e _ he2);have inB:∀ c o,s.heap.get? c=some o->c ∉ frs outer->∃ o',(PySem.W.hideAll s1.heap L).get? c=some o':=fun c o q hc=>by
  obtain ⟨o',q'⟩:=U.there c o q (by simp);refine ⟨o',PySem.W.hideAll_get _ q' fun z=>?_⟩;rw [<- hL] at z;rcases Hs.mp z with z | z
  ·subst z;have fr:s.heap.get? c=none:=fr;rw [fr] at q;cases q
  ·rcases nfr c z with z | z
   ·exact absurd (Ht q) (by rw [z];exact HN _)
   ·exact hc z
 have U2:Un (frs outer) [] H (upd H1 dx (.xd [(fld,v)])) s.heap s1.heap:=⟨U.keep,U.slot,fun b o q n hx=>by
   have z:=U.free b o q n hx
   rwa [oth b fun y=>by subst y;rw [he2] at z;cases z] at z,U.there,fun b xs q=>by
   have z:=U.m4 b xs q
   rwa [oth b fun y=>by subst y;rw [he2] at z;cases z] at z,fun b o u q=>by
   have z:=U.lz b o u q
   rwa [oth b fun y=>by subst y;rw [he2] at z;cases z] at z,fun b ps q=>by
   obtain ⟨m,z⟩:=U.pZ b ps q
   exact ⟨m,by rwa [oth b fun y=>by subst y;rw [he2] at z;cases z] at z⟩⟩
 refine uM (base:=PySem.W.hideAll s1.heap L) I.ok.frames ff rfl et hst (PySem.W.hideAll_none _ (by rw [<- hL];exact Hw)) rfl rfl rfl fun h2 fl sl=>?_;refine ⟨e,C,t,dx,upd H1 dx (.xd [(fld,v)]),_,rfl,I.os,I.bare,?_,inB,fun c o q=>?_,fl,ew⟩
 ·exact wz U2 inB hst fl.1 sl I.nX frf
 ·have nc:c≠e:=fun z=>by rw [z,he3] at q;cases q
  have q':upd (upd H1 e (ip C e (some dx))) dx (.xd [(fld,v)]) c=some o:=(oth c nc).trans q;refine (I.hok c o q').jL (fun b u hb r=>PySem.W.hideAll_get _ r fun z=>?_) (fun b r=>?_) fun b xs r=>?_
  ·rw [<- hL] at z;rcases Hs.mp z with z | z
   ·subst z;rcases hb with hb | hb
    ·exact nc hb.symm
    ·rw [he2] at hb;cases hb
   ·have fr:=I.jB b z;rcases hb with rfl | hb
    ·rw [q'] at fr;cases fr
    ·rw [hb] at fr;cases fr
  ·rwa [oth b fun y=>by subst y;rw [he2] at r;cases r] at r
  ·rwa [oth b fun y=>by subst y;rw [he2] at r;cases r] at r
open PySem PySem.Spec PyProof.Rows
def we (C:Addr) (fld:Str):Sp:=fun vs H Q _=>∃ e v,vs=[.ref e,v]/\cB v=true/\H e=some (ip C e none)/\∀ dx,H dx=none->Q .non (upd (upd H e (ip C e (some dx))) dx (.xd [(fld,v)]))
structure XMk (P:Program) (w:World) (K:Fg) (mg:Str->Option Value) (base:Heap) (C f:Addr) (fld:Str) (fd:FuncData) (ps:List Str):Prop where
 cls:lu K C (some (.ref f))
 fn:∃ o,K.lookup f=some o/\o.cls=.type "function"
 kp:PySem.W.keepIn K (.ref C)=true
 ok:fK P w K mg base CX0 1 f fd ps (we C fld)
 bd:Binds K fd ps []
section
variable {X:Cx} {pins:List (Addr×Obj)} {σ:St} {H:Hp} {s:Shared}
theorem G9 {C f:Addr} {fld x:Str} {fd:FuncData} {ps:List Str} {a:Expr} {te:TE} {RN QN:VK} {p pos:Pos} (M:XMk X.prog X.w X.K X.mg X.base C f fld fd ps) (hr:cP 2 X.A) (hg:Gl X x) (hm:X.mg x=some (.ref C)) (hd:(x==("__debug__" : Str))=false) (ha:PE X a te) (hs:PySem.W.isStarred a=false)
  (hex:X.ex=[]) (I:Inv X pins σ H s) (h:te σ H RN) (hR:∀ v H1,RN v H1->cB v=true/\QN v H1) :
  wpAny (model X.prog X.w) X.A (eval (.Call (.Name x p) [a] [] pos) X.env) (fun u s2=>∃ e dx v H1,u=.ref e/\X.s₀.heap.get? e=none/\H1 e=none/\H1 dx=none/\e≠dx/\Inv X pins σ (upd (upd H1 e (ip C e (some dx))) dx (.xd [(fld,v)])) s2/\cB v=true/\QN v H1) X.xe s:=by
 refine Jp (jD I hg hm ?_ hd);have ha':PA X [a] (aa te aj):=kY ha rH (bT hs);refine PySem.W.callWith_K (h₀:=X.base) I.ok.mod.kin M.kp (thn (ha' pos pins s σ H (fun vs H1=>match vs with | [v]=>RN v H1 | _=>False) I h) fun us s1 z=>?_) (bT hs) (cJ rfl);obtain ⟨vs,H1,I1,r,z⟩:=z
 match vs,z with
 | [v],z =>
 obtain ⟨hp,q⟩:=hR v H1 z;obtain ⟨u,rfl,r1⟩:=vals1 r;refine ⟨I1.kIn,?_⟩;obtain ⟨bm,N,nm,q',bs,hdct,sn,sub,ab,col,dd,k0,k1,k2,k3,k5,mN,hC,hN,hi,T,_⟩:=M.cls.own I1.kIn;obtain ⟨o,ho,hoc⟩:=M.fn;have ho:=I1.kIn _ _ ho;obtain ⟨hp1,gn,dr,tk,os⟩:=s1;refine E2 T hC hN hi ho hoc (fun h' e le hx=>?_) (by decide:1<=sizeLine);obtain ⟨t,et,_⟩:=hx.there;have fr:H1 e=none:=I1.hok.fresh le;have I2:Inv X pins σ (upd H1 e (ip C e none)) ⟨h',gn,dr,tk,os⟩:=I1.laid (t':=tk) hx.keeps le (nK et);have hq:we C fld [.ref e,v] (upd H1 e (ip C e none)) (fun v' H2=>v'=.non/\∃ dx,H1 dx=none/\e≠dx/\H2=upd (upd H1 e (ip C e (some dx))) dx (.xd [(fld,v)])) (fun _ _ _=>False):=by
  refine ⟨e,v,rfl,hp,ay,fun dx hdx=>⟨rfl,dx,?_,?_,?_⟩⟩
  ·unfold upd at hdx;split at hdx
   ·cases hdx
   ·exact hdx
  ·rintro rfl;rw [ay] at hdx;cases hdx
  ·rw [zr]
 have r2:Vals [V.ref e,v] [Value.ref e,u]:=.cons rfl (.cons r1 .nil);have hl:([Value.ref e,u]++[]).length=ps.length:=by have z:=M.ok.len _ _ _ _ hq;exact z
 refine wpAny_call (Jn (M.ok.run _ X.stack _ _ ⟨[Value.ref e,u],[]⟩ [Value.ref e,u] _ _ _ (hr.make C [u] []) (I2.zO.make C [u] []) (by have z:=M.bd _ [Value.ref e,u] I2.kIn hl;rwa [Ie] at z) r2 hq) fun r s' hq'=>?_);cases r with
 | error e=>exact hq'.elim
 | ok fl =>
  cases fl with
  | ret u' =>
   obtain ⟨v',H',I3,rv,rfl,dx,d1,d2,rfl⟩:=I2.after hq';cases rv;refine ⟨rfl,e,dx,v,H1,rfl,?_,fr,d1,d2,I3,hp,q⟩;cases z:X.s₀.heap.get? e with
   | none=>rfl
   | some o =>
    obtain ⟨o',g⟩:=I1.base.there e o z (by rw [hex];simp);exact absurd (Ht g) (Nat.not_lt.mpr le)
  | next=>exact False.elim hq'
  | brk=>exact False.elim hq'
  | cont=>exact False.elim hq'
end
open PySem PySem.Spec PyProof.Rows
def QP (E:XK) (C:Addr) (fld:Str) (Q:VK):VK:=fun v H=>(cB v=true->∀ dx,H dx=none->E (.ref C) (some dx) (upd H dx (.xd [(fld,v)])))/\(cB v=false->Q v H)
abbrev DZ (E:XK) (C:Addr) (fld:Str) (D:Ends):Ends:={ D with rt:=QP E C fld D.rt }
def JZ (E:XK) (C:Addr) (fld:Str) (t:TS):TS:=fun D=>t (DZ E C fld D)
section
variable {X:Cx} {E:XK} {C:Addr} {fld:Str}
theorem sP {s:Stmt} {rest:List Stmt} {t u:TS} (h:JS X s (JZ E C fld t)) (hr:JSs X rest (JZ E C fld u)):JSs X (s :: rest) (JZ E C fld (aT t u)):=ba h hr
theorem vt {s:Stmt} {t:TS} (h:JS X s (JZ E C fld t)):JSs X [s] (JZ E C fld t):=b7 h
theorem AX:JSs X [] (JZ E C fld bB):=fw
theorem AH {c:Expr} {a b:List Stmt} {tc:TT} {t u:TS} {pos:Pos} (hc:JT X c tc) (ha:JSs X a (JZ E C fld t)) (hb:JSs X b (JZ E C fld u)):JS X (.If c a b pos) (JZ E C fld (dQ tc t u)):=fm hc ha hb
theorem Cj {iter tg:Expr} {body:List Stmt} {wi:TI} {g:TG} {tb:TS} {pos:Pos} (hi:JI X tg iter wi) (hg:JG X tg g) (hb:JSs X body (JZ E C fld tb)) (hp:PassesOwn (model X.prog X.w) X.A X.env X.xe) (hc:X.calm=true) (hs:∀ x,foldedSetIterable iter X.env x=pure x):JS X (.For tg iter body [] pos) (JZ E C fld (qh wi g tb)):=wJ hi hg hb hp hc hs
theorem xN {s:Stmt} {t:TS} (h:JS X s t) (e:∀ D,t (DZ E C fld D)=t D):JS X s (JZ E C fld t):=⟨fun pins s σ H D I q=>h.h pins s σ H D I (by have q:t (DZ E C fld D) σ H:=q;rwa [e D] at q)⟩
theorem pj {f:Addr} {x:Str} {fd:FuncData} {ps:List Str} {a:Expr} {te:TE} {np cpos pos:Pos} {r:List V->Hp->VK->Prop} (M:XMk X.prog X.w X.K X.mg X.base C f fld fd ps) (hrm:cP 2 X.A) (hg:Gl X x) (hm:X.mg x=some (.ref C)) (hd:(x==("__debug__" : Str))=false) (ha:JE X a te) (hs:PySem.W.isStarred a=false)
  (hex:X.ex=[]) (hL:Ca X E C fld) (hr:∀ vs H (Q:VK),r vs H Q->∃ v,vs=[v]/\cB v=true/\Q v H):JS X (.Raise (some (.Call (.Name x np) [a] [] cpos)) none pos) (JZ E C fld (cC (tCB r (aa te aj)))):=by
 refine ⟨fun pins s σ H D I h=>?_⟩;have h:te σ H fun v H1=>r [v] H1 (QP E C fld D.rt):=h;rw [arm_exec_Raise];refine He (wpAny_standAt ?_);obtain ⟨bm,N,nm,q',bs,hdct,sn,sub,ab,col,dd,k0,k1,k2,k3,k5,mN,hC,hN,hi,T,_⟩:=M.cls.own I.ok.mod.kin;refine zW (C:=C) (N:=N) (nm:=nm) (q:=q') (bs:=bs) (bm:=bm) (hdct:=hdct) (sn:=sn) (sub:=sub) (ab:=ab) (col:=col) (dd:=dd) (k0:=k0) (k1:=k1) (k2:=k2) (k3:=k3) (k5:=k5) (T.hasType rfl) hrm.hd (He (HP (G9 (QN:=QP E C fld D.rt) M hrm hg hm hd ha.h hs hex I h fun v H1 z=>?_) (fun u s2 z=>He (wpAny_standAt (Hg ?_))) fun _ _ z=>z))
 ·obtain ⟨y,e1,hp,q⟩:=hr _ _ _ z;cases e1;exact ⟨hp,q⟩
 ·obtain ⟨e,dx,v,H1,rfl,fr,h1,h2,ne,I2,hp,q⟩:=z;have he2:upd (upd H1 e (ip C e (some dx))) dx (.xd [(fld,v)]) e=some (ip C e (some dx)):=by unfold upd;rw [HC ne,Hy rfl]
  obtain ⟨⟨t,et⟩,_⟩:=(show bY X.prog X.w _ s2.heap e (ip C e (some dx)) from I2.hok e _ he2);exact ⟨e,_,_,rfl,I2.bk _ _ hC,et,rfl,rfl,rfl,hL pins σ H1 s2 e dx v I2 h1 h2 ne fr (q.1 hp dx h2)⟩
def u4 (spN sp:Sp) (C:Addr) (fld:Str):Prop:=∀ vs H (Q:VK) E',spN vs H Q E'->∀ (Q1:VK) (E1:XK),(∀ v H',Q v H'->QP E1 C fld Q1 v H')->sp vs H Q1 E1
theorem mL {spN sp:Sp} {NE:XK} {k:Nat} {f:Addr} {fd:FuncData} {ps:List Str} {a:Expr} {as:List Expr} {ta:TA} {g:Str} {p3 p4:Pos}
  (F:fK X.prog X.w X.K X.mg X.base (CX2 X.prog X.w) k f fd ps sp) (hr:cP k X.A) (hgf:Gl X g) (hmf:X.mg g=some (.ref f)) (hk:PySem.W.keepIn X.K (.ref f)=true) (hb:Binds X.K fd ps [])
  (ha:JA X (a :: as) ta) (s1:PySem.W.isStarred a=false) (s2:as.all (fun e=>!PySem.W.isStarred e)=true) (hdg:(g==("__debug__" : Str))=false) (hsp:u4 spN sp C fld)
  {pins:List (Addr×Obj)} {s:Shared} {σ:St} {H:Hp} {QN:VK} {QV:Value->Shared->Prop} {EV:Value->Shared->Prop} (I:Inv X pins σ H s) (h:ta σ H fun vs H1=>spN (vs++[]) H1 QN NE) (hxe:∀ e s',X.xe e s'->EV e s')
  (hv:∀ v H4 u s4,cB v=false->Inv X pins σ H4 s4->RelV v u->QN v H4->QV u s4)
  (he:∀ v dx H1 H' s1 s2 b ea t,cB v=true->Inv X pins σ H1 s1->s2.os=s1.os->AllBare s2.gens->Un (frs X.stack) [] H1 (upd H' dx (.xd [(fld,v)])) s1.heap s2.heap->(∀ c o,s1.heap.get? c=some o->c ∉ frs X.stack->∃ o',b.get? c=some o')->HOk X.prog X.w (upd H' dx (.xd [(fld,v)])) b ->
   FlD b X.stack ea (.ref C) (.ref t) (some dx) .none s2.heap->H' dx=none->QN v H'->EV (.ref ea) s2):wpAny (model X.prog X.w) X.A (eval (.Call (.Name g p3) (a :: as) [] p4) X.env) QV EV s:=by
 refine Jp (jD I hgf hmf ?_ hdg);refine PySem.W.callWith_K (h₀:=X.base) I.ok.mod.kin hk (HP (ha.h p4 pins _ σ H _ I h) (fun us s3 z=>?_) hxe) (bT s1) (cJ s2);obtain ⟨vs,H3,I3,r3,q3⟩:=z;refine ⟨I3.kIn,?_⟩;rw [Ie] at q3;have q4:=hsp _ _ _ _ q3 (fun v H'=>cB v=false/\QN v H') (fun c o H'=>∃ v dx H0,c=.ref C/\o=some dx/\cB v=true/\H0 dx=none/\H'=upd H0 dx (.xd [(fld,v)])/\QN v H0) fun v H' z =>
  ⟨fun p dx hd=>⟨v,dx,H',rfl,rfl,p,hd,rfl,z⟩,fun p=>⟨p,z⟩⟩
 have hlen:us.length=ps.length:=by rw [<- r3.length];exact F.len _ _ _ _ q4
 have hb':BindsTo s3 fd ⟨us,[]⟩ (ps.zip us):=by
  have z:=hb s3 us I3.kIn (by rw [Ie];exact hlen);rw [Ie] at z;exact z
 refine wpAny_call (Jn (F.run X.A X.stack s3 H3 ⟨us,[]⟩ us vs _ _ hr I3.zO hb' r3 q4) fun r s' hq=>?_);cases r with
 | error e =>
  obtain ⟨ea,C',t,dx,H',b,rfl,ho,hbr,u,kk,hok,fl,v,dx',H0,ec,ed,hp,hn,rfl,q⟩:=hq;cases ec;cases ed;exact he v dx H3 H0 s3 s' b ea t hp I3 ho hbr u kk hok fl hn q
 | ok fl =>
  cases fl with
  | next=>exact False.elim hq
  | brk=>exact False.elim hq
  | cont=>exact False.elim hq
  | ret u =>
   obtain ⟨v,H4,I4,r4,e4,q4⟩:=I3.after hq;exact hv v H4 u s' e4 I4 r4 q4
end
section
variable {P:Program} {w:World} {K:Fg} {mg:Str->Option Value} {base:Heap}
abbrev DP (E:XK) (C:Addr) (fld:Str) (Q:VK):Ends:={ nx:=fun _ H'=>QP E C fld Q .non H',rt:=QP E C fld Q }
theorem Fun.okP {x qual:Str} {st:Stmt} {f C:Addr} {fld:Str} {fd:FuncData} {N ps:List Str} {k:Nat} {sp:Sp} (F:Fun K x qual st f fd) (S:bj N ps (ae st)) (len:∀ vs H Q E,sp vs H Q E->vs.length=ps.length)
  (hbody:∀ (cdv:Value) (A:Around) (outer:List Env) (s:Shared) (H:Hp) (vs:List V) (Q:VK) (E:XK),cP k (A.deeper (envOfC qual (ae st) s.heap.objs.size f cdv))->sp vs H Q E ->
   ∃ t,JSs (iu (CX2 P w) P w K mg base N qual (ae st) f cdv A outer s H E) (ak st) (JZ E C fld t)/\(∀ D n,t { D with nx:=n }=t D)/\t (DP E C fld Q) (start N vs) H):fK P w K mg base (CX2 P w) (k+1) f fd ps sp:=by
 obtain ⟨oc,od,kV,doc,pm,an,cdv,ct,osl,rfl,lk,hcd⟩:=F.ex;refine zT lk hcd S len fun A outer s H vs Q E hr hsp=>?_;obtain ⟨t,h,hn,q⟩:=hbody cdv A outer s H vs Q E hr hsp;refine ⟨JZ E C fld t,h.h,?_⟩;show t { nx:=fun _ H'=>Q .non H',rt:=QP E C fld Q } _ _;have z:=hn (DP E C fld Q) (fun _ H'=>Q .non H');rw [<- z] at q;exact q
def spP (f:Fn) (C:Addr) (fld:Str) (K:Fg):Sp:=fun vs H Q E=>fP f K vs H (QP E C fld Q) NoE
theorem xj {f:Fn} {C:Addr} {fld:Str}:u4 (fP f K) (spP f C fld K) C fld:=fun vs H Q E' h Q1 E1 k=>kF h k
end
open PySem PySem.Spec PyProof.Rows
section
variable {X:Cx} {pins:List (Addr×Obj)} {σ:St} {H1 H':Hp} {s1 s2:Shared} {ea C D t dx:Addr} {iC iD:Option Value} {n dn:Str} {b:Heap} {E:Value->Shared->Prop} {Q:Flow->Shared->Prop} {b0:Stmt} {nS:List Stmt} {np hp:Pos} {rest:List ExceptHandler} {env:Env}
theorem qB (he:X.env=env) (I:Inv X pins σ H1 s1) (ho:s2.os=s1.os) (hb:AllBare s2.gens) (u:Un (frs X.stack) [] H1 H' s1.heap s2.heap)
  (k:∀ c o,s1.heap.get? c=some o->c ∉ frs X.stack->∃ o',b.get? c=some o') (hok:HOk X.prog X.w H' b) (fl:FlD b X.stack ea (.ref C) (.ref t) (some dx) .none s2.heap)
  (hst:X.stack=X.env :: X.outer) (hf:X.env.frame=some X.env.locals) (xC:lu X.K C iC) (xD:lu X.K D iD) (hm:PySem.W.mroIn X.K C (.ref D)=some true) (hg:Gl X dn) (hmg:X.mg dn=some (.ref D)) (hl:X.env.kindOf n=some .local) (hn:n ∉ X.N) (nd:X.N.Nodup)
  (hdb:(dn==("__debug__" : Str))=false)
  (go:∀ oe vs s3,oe.cls=.ref C->oe.dict=some dx->oe.data=.fields vs->Inv (Xs X ea oe n) pins (σ++[some (.ref ea)]) H' s3->wpAny (model X.prog X.w) (X.A.mark (some (.ref ea))) (execs (b0 :: nS) env) (fun f s4=>f=.next/\∃ H4 τ pins4,Inv (Xs X ea oe n) pins4 τ H4 s4/\∀ s5,Inv X pins4 (τ.take X.N.length) H4 s5->Q .next s5) (fun _ _=>False) s3) :
  wpAny (model X.prog X.w) X.A (noteFrame (.ref ea) env) (fun _ s3=>wpAny (model X.prog X.w) X.A (setFlight (.ref ea) none) (fun _ s4 =>
   wpAny (model X.prog X.w) X.A (handleBy (.ref ea) env (.ExceptHandler (some (.Name dn np)) (some n) (b0 :: nS) hp :: rest)) Q E s4) E s3) E s2:=by
 subst he;have hfr:X.A.frames=some (X.env :: X.outer):=by rw [<- hst];exact I.ok.frames
 have fl':FlD b (X.env :: X.outer) ea (.ref C) (.ref t) (some dx) .none s2.heap:=by rw [<- hst];exact fl
 refine xQ hfr hf fl' fun h3 hd3 sl3=>?_;refine oa (s:={ s2 with heap:=h3 }) hd3 fun h4 fl4 sl4=>?_;have I4:=t7 I ho hb u k hok fl.fly fl4.1 (sl3.trans sl4);refine wpAny_handleBy_cons (codeAny_handlers_test ?_) (by intro q;cases q);have g4:∀ {Q':Value->Shared->Prop} {E':Value->Shared->Prop},Q' (.ref D) { s2 with heap:=h4 }->wpAny (model X.prog X.w) (X.A.mark (some (.ref ea))) (eval (.Name dn np) X.env) Q' E' { s2 with heap:=h4 }:=fun {Q' E'} z =>
  Calls.Name_function_global I4.ok.kind hg (Calls.loadGlobal_global (by rw [I4.ok.glob];exact I4.mod.glob.keeps I4.bk) hmg z) hdb
 refine g4 ?_;obtain ⟨ob,hob,hobc⟩:=fl4.fly.there;have KX:X.K.In h4:=I4.kIn;obtain ⟨bm,N,nm,q,bs,hdct,sn,sub,ab,col,dd,k0,k1,k2,k3,k5,mN,hC,hN,hni,T,cd,hci,hmr⟩:=xC.own KX;obtain ⟨bm',N',nm',q',bs',hdct',sn',sub',ab',col',dd',k0',k1',k2',k3',k5',mN',hD,hN',hni',T',_⟩:=xD.own KX;have hct:(Value.ref C :: bm).contains (.ref D)=true:=by
  unfold PySem.W.mroIn at hm;rw [hci] at hm;have hm:(if cd.mro.isEmpty then none else some (cd.mro.contains (.ref D)))=some true:=hm;rw [hmr] at hm;exact HQ hm
 refine zX hC hD hob hobc (T'.hasType rfl) hct (codeAny_handlers_suite_as ?_);refine oa (s:={ s2 with heap:=h4 }) fl4 fun h6 fl6 sl6=>?_;have I6:=t7 I ho hb u k hok fl.fly fl6.1 ((sl3.trans sl4).trans sl6);obtain ⟨oe,ws,_,_,_,hoe,⟨⟨hoec,_⟩,hodx⟩,hoed,_⟩:=fl6.2.2.2;have hH:H' ea=none:=by
  cases z:H' ea with
  | none=>rfl
  | some o =>
   obtain ⟨ob,z⟩:=(hok ea o z).got;rw [fl6.2.1] at z;cases z
 have nfr:ea ∉ frs X.stack:=fun z=>by
  have fl6':Heap.FlyingW b X.stack ea (.ref C) (.ref t) h6:=by rw [hst];exact fl6.fly
  obtain ⟨_,o2,e2,d2⟩:=fl6'.2.2.1.mem z;rw [hoe] at e2;cases e2;exact d2 _ hoed
 have nlo:ea≠X.env.locals:=fun z=>nfr (by
  rw [hst];unfold frs;rw [IC,hf,z];exact Hw)
 have nfs:ea ∉ X.fs:=fun z=>nfr (by
  rw [hst];unfold frs;rw [IC,hf];exact Hk _ z)
 have IS:Inv (Xs X ea oe n) pins (σ++[none]) H' { s2 with heap:=h6 }:=I6.nS hoe hH nlo nfs fun v z=>by rw [hoed] at z;cases z
 have hnN:(X.N++[n])[X.N.length]?=some n:=by simp
 have len:σ.length=X.N.length:=I.len;have set1:(σ++[none]).set X.N.length (some (V.ref ea))=σ++[some (.ref ea)]:=by
  rw [<- len,List.set_append_right _ _ (Hu _)];simp
 have ndN:(X.N++[n]).Nodup:=by
  rw [List.nodup_append]
  exact ⟨nd,by simp,fun a ha c hc z=>hn (by
   have hc:c=n:=by simpa using hc
   rw [<- hc,<-z]
   exact ha)⟩
 refine lh (X:=Xs X ea oe n) IS ndN hnN (.inl hl) (v:=V.ref ea) rfl (fun s7 I7=>?_) (.inr hl);rw [set1] at I7;refine HP (go oe ws s7 hoec hodx hoed I7) (fun f s8 z=>?_) fun _ _ z=>z.elim;obtain ⟨rfl,H4,τ,pins4,I8,fin⟩:=z;exact qA I8 hl hn (fun s9 I9=>fin s9 I9) I6.ok
end
open PySem PySem.Spec PyProof.Rows
section
variable {X:Cx} {ea C D dx:Addr} {oe:Obj} {vs:Array Value} {iC:Option Value} {fld:Str}
theorem yF {i:Nat} {cx:Str} {p pos:Pos} (xC:lu X.K C iC) (xF:C0 X.K C D fld) (oc:oe.cls=.ref C) (od:oe.dict=some dx) (of:oe.data=.fields vs) (hi:X.N[i]?=some cx) (hv:Vis X.env.scope cx) (hd:(cx==("__debug__" : Str))=false) (hc:(cx==("__classdict__" : Str))=false)
  (hb:attributeBase (.Name cx p) fld X.env (eval (.Name cx p) X.env)=eval (.Name cx p) X.env) :
  PE (Xp X ea oe) (.Attribute (.Name cx p) fld pos) (fun σ H Q=>σ[i]?=some (some (.ref ea))/\∃ v,cB v=true/\H dx=some (.xd [(fld,v)])/\Q v H):=by
 intro pins s σ H Q I h;obtain ⟨ei,v,hp,ed,q⟩:=h;refine yt hb (thn (gS (X:=Xp X ea oe) hi hv hd hc pins s σ H (fun v' H'=>v'=.ref ea/\H'=H) I ⟨_,ei,rfl,rfl⟩) fun u s1 z=>?_);obtain ⟨_,H',I1,r,rfl,rfl⟩:=z;cases (show u=Value.ref ea from r);have hpin:=I1.pin (ea,oe) Hw;obtain ⟨mA,⟨oD,es,ep,g1,g2,g3,g4,g5⟩,hrel⟩:=(show bY X.prog X.w H' s1.heap dx (.xd [(fld,v)]) from I1.hok dx _ ed);have hr:=hrel fld;have hl:([(fld,v)]:List (Str×V)).lookup fld=some v:=by rw [IE,beq_self_eq_true]
 rw [hl,<-g5 fld] at hr;obtain ⟨u,eu,ru⟩:∃ u,nsFind es fld=some u/\RelV v u:=by
  cases z:nsFind es fld with
  | none=>rw [z] at hr;exact hr.elim
  | some u=>rw [z] at hr;exact ⟨u,rfl,hr⟩
 obtain ⟨bm,N,nm,q',bs,hdct,sn,sub,ab,col,dd,k0,k1,k2,k3,k5,mN,hC,_,_,T,_⟩:=xC.own I1.kIn;have J:PySem.W.InstAt s1.heap ea oe C (some oD):=⟨hpin.1,oc,by unfold PySem.W.notCls;rw [of],by rw [od];exact g1⟩;have hf:PySem.W.findObj X.K C (some oD) fld=some (.value u):=by
  obtain ⟨cd,hcd,hdd⟩:=PySem.W.any_some xF.hd;unfold PySem.W.findObj;rw [hcd,xF.na];show (PySem.W.ownOf cd (some oD) fld).bind _=_;unfold PySem.W.ownOf;rw [Hy hdd];show (PySem.W.lookIn fld oD).bind _=_;unfold PySem.W.lookIn;rw [g2];unfold nsFind findBy at eu;rw [<- Array.find?_toList] at eu;obtain ⟨en,e1,e2⟩:=Hv.mp eu;dsimp only;rw [e1,<-e2];rfl
 have hh:PySem.W.handedIn u=true:=by
  cases v with
  | non=>cases ru;rfl
  | str x=>obtain ⟨t,rfl⟩:=(show ∃ t,u=Value.str x t from ru);rfl
  | int n=>obtain ⟨t,rfl⟩:=(show ∃ t,u=Value.int n t from ru);rfl
  | _=>cases hp
 obtain ⟨hp1,gn,dr,tk,os⟩:=s1;exact G5 I1.kIn J xC.ga xC.gg hC (T.hasType rfl) hf hh ⟨v,H',I1.tok _,ru,q⟩
theorem sQ (xC:lu X.K C iC) (oc:oe.cls=.ref C):bN (Xp X ea oe) (.builtin "isinstance") (rX X.K ea C):=by
 intro pins s σ H xs us Q I r h;obtain ⟨c,cv,b,rfl,hc,hk,hq⟩:=h;obtain ⟨u,w',rfl,r1,r2⟩:=vals2 r;cases (show u=Value.ref ea from r1);cases hc _ r2;exact PySem.W.kia_one (AQ xC) I.kIn ⟨oe,(I.pin (ea,oe) Hw).1,oc⟩ hk (fun z=>nomatch z) fun tk=>⟨.bl b,H,I.tok tk,rfl,hq⟩
theorem xT (xC:lu X.K C iC) (oc:oe.cls=.ref C):bN (Xp X ea oe) (.builtin "isinstance") (rXt X.K ea C):=by
 intro pins s σ H xs us Q I r h;obtain ⟨tp,Bs,b,rfl,ht,hk,hq⟩:=h;obtain ⟨u,w',rfl,r1,r2⟩:=vals2 r;cases (show u=Value.ref ea from r1);cases (show w'=Value.ref tp from r2);obtain ⟨_,its,rv,⟨o,g1,g2,n,g3⟩⟩:=(show bY X.prog X.w H s.heap tp (.tup (Bs.map V.ref)) from I.hok tp _ ht);have e:=mh rv;subst e;have htp:s.heap.get? tp=some ⟨.type "tuple", o.dict,.seq (Bs.map Value.ref).toArray n,o.slots⟩:=by
  rw [g1];obtain ⟨c,dd,da,sl⟩:=o;have g2:c=.type "tuple" := g2;have g3:da=_:=g3;subst g2 g3;rfl
 exact PySem.W.kia_tup (AQ xC) I.kIn ⟨oe,(I.pin (ea,oe) Hw).1,oc⟩ htp hk (fun z=>nomatch z) fun tk=>⟨.bl b,H,I.tok tk,rfl,hq⟩
end
open PySem PySem.Spec PyProof.Rows
section
variable {X:Cx}
theorem Dz {spN sp:Sp} {NE:XK} {k i j:Nat} {f C Dc Db:Addr} {iC iD:Option Value} {fld:Str} {Bs:List Addr} {fd:FuncData} {ps:List Str} {g cx th n dn An tag:Str} {bes:List Expr} {j1 j2 j3:Nat} {x1} {r:List V->Hp->VK->Prop}
  {p1 p2 p3 p4 p5 p6 p7 p8 p9 p10 p11 np hp q1 q2 q3 q4 q5 q6 q7 q8 q9 q10 q11 q12 q13 q14 r1 r2 r3 r4 r5 r6 r7 t1 t2 t3 t4:Pos}
  (F:fK X.prog X.w X.K X.mg X.base (CX2 X.prog X.w) k f fd ps sp) (hr:cP k X.A) (hgf:Gl X g) (hmf:X.mg g=some (.ref f)) (hk:PySem.W.keepIn X.K (.ref f)=true) (hb:Binds X.K fd ps []) (hdg:(g==("__debug__" : Str))=false) (hsp:u4 spN sp C fld)
  (nd:X.N.Nodup) (hi:X.N[i]?=some cx) (hx:Loc X.env.scope cx) (hfn:X.fn cx=true\/X.env.scope.names.lookup cx=some .local) (hcv:Vis X.env.scope cx) (hcd:(cx==("__debug__" : Str))=false) (hcc:(cx==("__classdict__" : Str))=false)
  (hj:X.N[j]?=some th) (hv:Vis X.env.scope th) (hdt:(th==("__debug__" : Str))=false) (hct:(th==("__classdict__" : Str))=false) (hij:i≠j)
  (hw0:swapsWith (.Constant .none j1 p2) (some (.Name cx p1)) p3.line X.env=pure false) (hw1:swapsWith (.Call (.Name g p4) [.Name th p5] [] p6) none p7.line X.env=pure false) (hw2:swapsWith (.Name n p9) (some (.Name cx p8)) p10.line X.env=pure false)
  (hl:X.env.kindOf n=some .local) (hdn:(n==("__debug__" : Str))=false) (hcn:(n==("__classdict__" : Str))=false) (hn:n ∉ X.N) (xC:lu X.K C iC) (xF:C0 X.K C Db fld) (xD:lu X.K Dc iD) (hm:PySem.W.mroIn X.K C (.ref Dc)=some true) (hgD:Gl X dn) (hmD:X.mg dn=some (.ref Dc)) (hdd:(dn==("__debug__" : Str))=false)
  (hst:X.stack=X.env :: X.outer) (hfr:X.env.frame=some X.env.locals) (hxe:∀ e s,¬X.xe e s)
  (hgi:Gl X "isinstance") (hmi:X.mg "isinstance" = none) (hgA:Gl X An) (hmA:X.mg An=some (.ref C)) (hdA:(An==("__debug__" : Str))=false) (hgV:Gl X "ValueError") (hmV:X.mg "ValueError" = none) (hV:PySem.W.mroIn X.K C (.type "ValueError")=some true)
  (hNn:PySem.W.kitOne X.K (.type "NoneType") (.ref C)=some false) (hBs:∀ ea oe,PA (Xp X ea oe) bes (fun σ H Q=>Q (Bs.map V.ref) H)) (hBl:Bs.length<=sizeLine) (hBk:∀ B∈Bs,PySem.W.kitOne X.K (.ref C) (.ref B)=some false)
  (hba:attributeBase (.Name cx t1) fld X.env (eval (.Name cx t1) X.env)=eval (.Name cx t1) X.env)
  (hrr:∀ v H (Q:VK),r [v] H Q->(cB v=true->∀ H' p,bq H H'->H' p=none->Q (.ref p) (upd H' p (.lst [v])))/\(cB v=false->∀ H',bq H H'->Q (.str tag) H')) :
  JSs X [.Assign [.Name cx p1] (.Constant .none j1 p2) p3,.Try [.Expr (.Call (.Name g p4) [.Name th p5] [] p6) p7] [.ExceptHandler (some (.Name dn np)) (some n) [.Assign [.Name cx p8] (.Name n p9) p10] hp] [] [] p11,
    .If (.BoolOp .Or [.UnaryOp .Not (.Call (.Name "isinstance" q1) [.Name cx q2,.Name An q3] [] q4) q5,.UnaryOp .Not (.Call (.Name "isinstance" q6) [.Name cx q7,.Name "ValueError" q8] [] q9) q10] q11) [.Return (some (.Constant (.str tag) j2 q12)) q13] [] q14,
    .If (.Call (.Name "isinstance" r1) [.Name cx r2,.Tuple bes x1 r3] [] r4) [.Return (some (.Constant (.str tag) j3 r5)) r6] [] r7,
    .Return (some (.List [.Attribute (.Name cx t1) fld t2] t3)) t4]
   (cC (tCB r (aa (aJ spN [] NE (aa (ag j) aj)) aj))):=by
 have kA:PySem.W.kitOne X.K (.ref C) (.ref C)=some true:=by unfold PySem.W.kitOne;rw [Hy (by simp)]
 have kV:PySem.W.kitOne X.K (.ref C) (.type "ValueError")=some true:=by
  unfold PySem.W.kitOne;rw [HC (by simp)];unfold PySem.W.kitCls;show (if PySem.W.kitMeta "ValueError" = true then PySem.W.subIn X.K (.ref C) (.type "ValueError") else none)=some true;rw [Hy (by decide +kernel)];exact hV
 have w1:JSs X [.If (.BoolOp .Or [.UnaryOp .Not (.Call (.Name "isinstance" q1) [.Name cx q2,.Name An q3] [] q4) q5,.UnaryOp .Not (.Call (.Name "isinstance" q6) [.Name cx q7,.Name "ValueError" q8] [] q9) q10] q11) [.Return (some (.Constant (.str tag) j2 q12)) q13] [] q14,
    .If (.Call (.Name "isinstance" r1) [.Name cx r2,.Tuple bes x1 r3] [] r4) [.Return (some (.Constant (.str tag) j3 r5)) r6] [] r7,.Return (some (.List [.Attribute (.Name cx t1) fld t2] t3)) t4]
   (aT (dQ (tOr (xa (tB (tCB (rNn X.K) (aa (ag i) (aa (tC (.ref C)) aj))))) (fun _ _ _=>False)) (cC (tC (.str tag))) bB) (aT oW oW)) :=
  ba (fm (eW (vZ (tG (wu (eB zP hgi hmi (by decide +kernel) (eA (ah i hi hcv hcd hcc) (eA (fL hgA hmA rfl hdA) ao rfl) rfl) rfl rfl (by decide) rfl) fun _=>rfl)) (nY ⟨fun _ _ _ _ _ _ h=>absurd h id⟩))) (b7 (dB bh)) fw) (ba wX (b7 wX))
 have w2:∀ ea oe dx vs,oe.cls=.ref C->oe.dict=some dx->oe.data=.fields vs->JSs (Xp X ea oe) [.If (.BoolOp .Or [.UnaryOp .Not (.Call (.Name "isinstance" q1) [.Name cx q2,.Name An q3] [] q4) q5,.UnaryOp .Not (.Call (.Name "isinstance" q6) [.Name cx q7,.Name "ValueError" q8] [] q9) q10] q11) [.Return (some (.Constant (.str tag) j2 q12)) q13] [] q14,
    .If (.Call (.Name "isinstance" r1) [.Name cx r2,.Tuple bes x1 r3] [] r4) [.Return (some (.Constant (.str tag) j3 r5)) r6] [] r7,.Return (some (.List [.Attribute (.Name cx t1) fld t2] t3)) t4]
   (aT (dQ (tOr (xa (tB (tCB (rX X.K ea C) (aa (ag i) (aa (tC (.ref C)) aj))))) (xa (tB (tCB (rX X.K ea C) (aa (ag i) (aa (tC (.ty "ValueError")) aj)))))) (cC (tC (.str tag))) bB)
    (aT (dQ (tB (tCB (rXt X.K ea C) (aa (ag i) (aa (br (fun σ H Q=>Q (Bs.map V.ref) H)) aj)))) (cC (tC (.str tag))) bB)
     (cC (eJ (aa (fun σ H Q=>σ[i]?=some (some (.ref ea))/\∃ v,cB v=true/\H dx=some (.xd [(fld,v)])/\Q v H) aj))))):=fun ea oe dx vs oc od of =>
  ba (fm (eW (vZ (tG (wu (eB (sQ xC oc) hgi hmi (by decide +kernel) (eA (ah i hi hcv hcd hcc) (eA (fL hgA hmA rfl hdA) ao rfl) rfl) rfl rfl (by decide) rfl) fun _=>rfl))
    (nY (tG (wu (eB (sQ xC oc) hgi hmi (by decide +kernel) (eA (ah i hi hcv hcd hcc) (eA (Gz (v:=.ty "ValueError") hgV hmV PyProof.Rows.Boot.«ValueError» rfl (by decide) rfl) ao rfl) rfl) rfl rfl (by decide) rfl) fun _=>rfl))))) (b7 (dB bh)) fw)
   (ba (fm (wu (eB (xT xC oc) hgi hmi (by decide +kernel) (eA (ah i hi hcv hcd hcc) (eA (bw ⟨hBs ea oe⟩) ao rfl) rfl) rfl rfl (by decide) rfl) fun _=>rfl) (b7 (dB bh)) fw)
    (b7 (dB (fB (eA ⟨yF xC xF oc od of hi hcv hcd hcc hba⟩ ao rfl)))))
 refine ⟨fun pins s σ H D I h=>?_⟩;have il:i < σ.length:=by rw [I.len];exact (Hi.mp hi).1
 have h:(ag j) σ H fun x H3=>spN ([x]++[]) H3 (fun v H'=>r [v] H' D.rt) NE:=h;obtain ⟨y,ej,h⟩:=h;refine IU (thn ((b8 (i:=i) j6 nd hi hx hw0 hfn).h pins s σ H { nx:=fun σ' H'=>σ'=σ.set i (some .non)/\H'=H,rt:=fun _ _=>False } I ⟨rfl,rfl⟩) fun fl s1 q=>?_);cases fl with
 | ret v=>obtain ⟨_,_,_,_,_,q⟩:=q;exact q.elim
 | brk=>obtain ⟨_,_,_,q⟩:=q;exact q.elim
 | cont=>obtain ⟨_,_,_,q⟩:=q;exact q.elim
 | next =>
 obtain ⟨σ1,H1,I1,rfl,rfl⟩:=q;have ej1:(σ.set i (some V.non))[j]?=some (some y):=by rw [Hh hij];exact ej
 have ha:JA X [.Name th p5] (aa (ag j) aj):=eA (ah j hj hv hdt hct) ao rfl;refine IU (wpAny_Try_except ?_);refine IU (wpAny_Expr_any ?_ I1.quiet hw1);refine mL (C:=C) (fld:=fld) (QN:=fun v H'=>r [v] H' D.rt) F hr hgf hmf hk hb ha rfl rfl hdg hsp I1 ⟨y,ej1,h⟩ (fun e s z=>(hxe e s z).elim) (fun v H4 u s4 pv I4 r4 q4=>?_) fun v dx H3 H' s3 s' b ea t pv I3 ho hbr u kk hok fl hdx q=>?_
 ·refine Jl (Jl ?_);have ei:(σ.set i (some V.non))[i]?=some (some V.non):=Hq il;refine w1.h pins s4 _ H4 D I4 ⟨_,ei,C,false,rfl,hNn,false,rfl,?_⟩;dsimp only;rw [Hy (by decide)];exact (hrr _ _ _ q4).2 pv H4 (bq.refl _)
 ·refine qB (D:=Dc) rfl I3 ho hbr u kk hok fl hst hfr xC xD hm hgD hmD hl hn nd hdd fun oe ws s5 oc od of I5=>?_;have ndN:(X.N++[n]).Nodup:=by
   rw [List.nodup_append]
   exact ⟨nd,by simp,fun a ha c hc z=>hn (by
    have hc:c=n:=by simpa using hc
    rw [<- hc,<-z];exact ha)⟩
  have iN:i < X.N.length:=(Hi.mp hi).1;have len:(σ.set i (some V.non)).length=X.N.length:=I1.len;have ps:PS (Xs X ea oe n) (.Assign [.Name cx p8] (.Name n p9) p10) (bF (ag X.N.length) (ar i)) :=
   wb (X:=Xs X ea oe n) (i:=i) ndN (by show (X.N++[n])[i]?=some cx;rw [HG iN];exact hi) hx (gS (by show (X.N++[n])[X.N.length]?=some n;simp) (.inl hl) hdn hcn) hw2 hfn
  have run:=tW ps pins s5 _ _ { nx:=fun τ H4=>τ=(σ.set i (some V.non)++[some (V.ref ea)]).set i (some (V.ref ea))/\H4=upd H' dx (.xd [(fld,v)]),rt:=fun _ _=>False } I5 ⟨_,by rw [<- len];simp,rfl,rfl⟩;refine HP run (fun fl s6 z=>?_) fun _ _ z=>z.elim;cases fl with
  | next =>
   obtain ⟨τ,H4,I6,rfl,rfl⟩:=z;have I6':Inv (Xs X ea oe n) ((ea,oe) :: pins) ((σ.set i (some V.non)++[some (V.ref ea)]).set i (some (V.ref ea))) (upd H' dx (.xd [(fld,v)])) s6:=I6.dU fun p hp=>by
    rcases Hs.mp hp with z | z
    ·rw [z];exact I6.pin (ea,oe) Hw
    ·exact I6.pin p (Hz _ z)
   refine ⟨rfl,_,_,_,I6',fun s7 I7=>?_⟩;rw [List.set_append_left _ _ (by rw [len];exact iN),List.take_append_of_le_length (by rw [HI,len];exact Hu _),Io (by rw [HI,len];exact Hu _),Im] at I7;have ei:(σ.set i (some (V.ref ea)))[i]?=some (some (V.ref ea)):=Hq il;refine HP ((w2 ea oe dx ws oc od of).h pins s7 _ _ D I7.D6 ?_) (fun f s z=>z.qI I.ok) fun _ _ z=>z;refine ⟨_,ei,.ref C,.ref C,true,rfl,(fun u z=>z),kA,true,rfl,?_⟩;dsimp only;rw [HC (by decide)];refine ⟨_,ei,.ty "ValueError", .type "ValueError", true,rfl,(fun u z=>z),kV,true,rfl,?_⟩;dsimp only;rw [HC (by decide)];refine ⟨_,ei,by rw [Hf];exact hBl,fun tp htp=>⟨tp,Bs,false,rfl,ay,mZ hBk,false,rfl,?_⟩⟩;dsimp only;rw [HC (by decide)];refine ⟨ei,v,pv,by rw [aC (aG ay htp)];exact ay,(by decide:1<=sizeLine),fun p hp=>?_⟩;exact (hrr _ _ _ q).1 pv _ p ((bq.nw _ hdx).trans (bq.nw _ htp)) hp
  | ret v=>obtain ⟨_,_,_,_,_,q⟩:=z;exact q.elim
  | brk=>obtain ⟨_,_,_,q⟩:=z;exact q.elim
  | cont=>obtain ⟨_,_,_,q⟩:=z;exact q.elim
end
open PySem PySem.Spec PyProof.Rows
theorem lu.lk {K:Fg} {C:Addr} {i:Option Value} (x:lu K C i):∃ cd bm,PySem.W.clsIn K C=some cd/\cd.mro=.ref C :: bm/\PySem.W.typeIn K (.ref C)=some (.type "type"):=by
 obtain ⟨dd,cd,bm,k0,k1,k2,k3,k5,lk,em,_⟩:=x.ex;exact ⟨cd,bm,by unfold PySem.W.clsIn;rw [lk],em,by show Option.map (fun x=>x.cls) (K.lookup C)=_;rw [lk];rfl⟩
theorem cR {K:Fg} {C B:Addr} {i:Option Value} {dd:Option Addr} {cd:ClassData} {sl:Array (Option Value)} (x:lu K C i) (y:K.lookup B=some ⟨.type "type", dd,.cls cd,sl⟩) (h:PySem.W.mroIn K C (.ref B)=some false):PySem.W.kitOne K (.ref C) (.ref B)=some false:=by
 obtain ⟨c1,b1,e1,m1,t1⟩:=x.lk;unfold PySem.W.kitOne;rw [HC]
 ·unfold PySem.W.kitCls;show (if ((PySem.W.clsIn K B).isSome&&PySem.W.typeIn K (.ref B)==some (.type "type"))=true then PySem.W.subIn K (.ref C) (.ref B) else none)=some false;have k1:PySem.W.clsIn K B=some cd:=by unfold PySem.W.clsIn;rw [y]
  have k2:PySem.W.typeIn K (.ref B)=some (.type "type"):=by show Option.map (fun x=>x.cls) (K.lookup B)=_;rw [y];rfl
  rw [k1,k2,Hy (by simp)];exact h
 ·intro q;have q:C=B:=Value.ref.inj (IF.mp q);subst q;unfold PySem.W.mroIn at h;rw [e1] at h;have h:(if c1.mro.isEmpty then none else some (c1.mro.contains (.ref C)))=some false:=h;rw [m1] at h;simp at h
theorem yc {K:Fg} {C:Addr} {i:Option Value} (x:lu K C i):PySem.W.kitOne K (.type "NoneType") (.ref C)=some false:=by
 obtain ⟨c1,b1,e1,m1,t1⟩:=x.lk;unfold PySem.W.kitOne;rw [HC (by intro q;cases IF.mp q)];unfold PySem.W.kitCls;show (if ((PySem.W.clsIn K C).isSome&&PySem.W.typeIn K (.ref C)==some (.type "type"))=true then PySem.W.subIn K (.type "NoneType") (.ref C) else none)=some false;rw [e1,t1,Hy (by simp)]
 with_unfolding_all rfl
noncomputable def vM (s:Stmt):Stmt:=match s with
 | .ClassDef _ _ _ b _ _ _ _ _ _ _=>b.getD 0 (.Pass ⟨0,0,0,0⟩)
 | _=>.Pass ⟨0,0,0,0⟩
def MoE (te:TE):Prop:=∀ σ H (Q Q':VK),te σ H Q->(∀ v H',Q v H'->Q' v H')->te σ H Q'
def MoA (ta:TA):Prop:=∀ σ H (Q Q':List V->Hp->Prop),ta σ H Q->(∀ vs H',Q vs H'->Q' vs H')->ta σ H Q'
theorem BZ {i:Nat}:MoE (ag i):=fun _ _ _ _ ⟨v,e,q⟩ k=>⟨v,e,k _ _ q⟩
theorem Hc {v:V}:MoE (tC v):=fun _ _ _ _ q k=>k _ _ q
theorem As:MoA aj:=fun _ _ _ _ q k=>k _ _ q
theorem xI {te:TE} {ta:TA} (h1:MoE te) (h2:MoA ta):MoA (aa te ta):=fun _ _ _ _ q k=>h1 _ _ _ _ q fun _ _ q=>h2 _ _ _ _ q fun _ _ q=>k _ _ q
theorem y0 {f:Fn} {K:Fg} {NE:XK} {ta:TA} (h:MoA ta):MoE (aJ (fP f K) [] NE ta):=fun _ _ _ _ q k=>h _ _ _ _ q fun _ _ q=>kF q k
theorem A5 {ta:TA} (h:MoA ta):MoE (br ta):=fun _ _ _ _ q k=>h _ _ _ _ q fun _ _ q=>⟨q.1,fun p hp=>k _ _ (q.2 p hp)⟩
theorem BY {ta:TA} (h:MoA ta):MoE (eJ ta):=fun _ _ _ _ q k=>h _ _ _ _ q fun _ _ q=>⟨q.1,fun p hp=>k _ _ (q.2 p hp)⟩
theorem Fq {r:R2} {ta tb:TE} (h1:MoE ta) (h2:MoE tb) (hr:∀ x y H (Q Q':VK),r x y H Q->(∀ v H',Q v H'->Q' v H')->r x y H Q'):MoE (tOp r ta tb):=fun _ _ _ _ q k=>h1 _ _ _ _ q fun _ _ q=>h2 _ _ _ _ q fun _ _ q=>hr _ _ _ _ _ q k
theorem E7 {K:Fg}:∀ x y H (Q Q':VK),ixP.r K [x,y] H Q->(∀ v H',Q v H'->Q' v H')->ixP.r K [x,y] H Q':=by
 intro x y H Q Q' h k;rcases h with ⟨p,xs,i,v,e1,e2,e3,e4,q⟩ | ⟨p,xs,i,v,e1,e2,e3,e4,q⟩ | ⟨z,i,c,e1,e2,e3,e4,q⟩
 ·exact .inl ⟨p,xs,i,v,e1,e2,e3,e4,k _ _ q⟩
 ·exact .inr (.inl ⟨p,xs,i,v,e1,e2,e3,e4,k _ _ q⟩)
 ·exact .inr (.inr ⟨z,i,c,e1,e2,e3,e4,k _ _ q⟩)
noncomputable def oI:PyData->Bool
 | .none=>true
 | .str x=>decide (Str.length x<=1000)
 | .int i=>decide (i.natAbs.log2 < 1920/\(Str.ofString (toString i)).length<=1000)
 | _=>false
theorem lC {K:Fg} {F:Addr->Prop} {H:Hp} {d:PyData} {v:V} (h:Vw K F H d v):cB v=oI d:=by
 cases d with
 | none=>rw [CZ h];rfl
 | int i=>rw [vInt h];rfl
 | str i=>rw [(vStr h).1];rfl
 | bool i=>rw [vBl h];rfl
 | tuple i=>obtain ⟨a,xs,rfl,_⟩:=uG h;rfl
 | list i=>obtain ⟨a,xs,rfl,_⟩:=p0 h;rfl
 | dict i=>obtain ⟨a,rfl,_⟩:=h;rfl
theorem wx {K:Fg} {F:Addr->Prop} {H:Hp} {d:PyData} {v:V} (p:oI d=true) (h:Vw K F H d v):∀ F' H',Dm K F' H' d v:=by
 intro F' H';cases d with
 | none=>exact h
 | int i=>exact h
 | str i=>exact h
 | _=>cases p
noncomputable def zE:Prm:=Prm.one (fun _ v H Q=>cB v=true/\Q v H) (fun d=>if oI d=true then some (.dat d) else none) fun K F H x u pr Q hf hx hd q=>by
 split at hf
 ·rename_i hp;cases hf;exact ⟨(lC hx).trans hp,q _ H (bq.rf H) (wx hp hx F H)⟩
 ·cases hf
theorem xo {K:Fg}:∀ vs H (Q:VK),zE.r K vs H Q->∃ v,vs=[v]/\cB v=true/\Q v H:=fun vs H Q h=>by
 match vs,h with
 | [v],h=>exact ⟨v,rfl,h.1,h.2⟩
noncomputable def nlP:Prm:=Prm.one (fun _ v H Q=>cB v=false/\Q .non H) (fun d=>if oI d=true then none else some (.dat .none)) fun K F H x u pr Q hf hx hd q=>by
 split at hf
 ·cases hf
 ·rename_i hp;cases hf;exact ⟨(lC hx).trans (by simpa using hp),q _ H (bq.rf H) rfl⟩
noncomputable def D0 (tag:Str) (ht:tag.length<=sizeLine/\PyData.strOk tag=true):Prm:=Prm.one (fun _ v H Q=>(cB v=true->∀ H' p,bq H H'->H' p=none->Q (.ref p) (upd H' p (.lst [v])))/\(cB v=false->∀ H',bq H H'->Q (.str tag) H'))
  (fun d=>some (if oI d=true then .frs (.list [d]) else .dat (.str tag))) fun K F H x u pr Q hf hx hd q=>by
 cases hf;refine ⟨fun p H' a sm fr=>?_,fun p H' sm=>?_⟩
 ·have hp:oI x=true:=(lC hx).symm.trans p;rw [Hy hp] at q;have fr0:H a=none:=by
   cases z:H a with
   | none=>rfl
   | some o=>rw [sm a o z] at fr;cases fr
  exact q _ _ (bq.trans sm (bq.nw _ fr)) ⟨a,rfl,fr0,_,ay,(by decide:1<=sizeLine),_,_,rfl,wx hp hx _ _,rfl⟩
 ·have hp:oI x=false:=(lC hx).symm.trans p;rw [HC (by rw [hp];exact Il)] at q;exact q _ H' sm ⟨rfl,ht⟩
section
variable {X:Cx} {E:XK} {C:Addr} {fld:Str}
theorem zt {e:Expr} {i:Nat} {pos:Pos} (he:JE X e (ag i)):JS X (.Return (some e) pos) (JZ E C fld (aT (gM (tCB (nlP.r X.K) (aa (ag i) aj))) (cC (ag i)))):=by
 refine ⟨fun pins s σ H D I h=>?_⟩;obtain ⟨v,ev,hp,w,ew,q⟩:=h;rw [ev] at ew;cases ew;refine wpAny_Return_some (thn (he.h pins s σ H (fun v' H'=>v'=v/\H'=H) I ⟨v,ev,rfl,rfl⟩) fun u s1 ⟨x,H1,I1,r1,e1,e2⟩=>?_);subst e1 e2;exact ⟨_,σ,_,I1,r1,q.2 hp⟩
noncomputable def C2:Prm where
 r:=fun K vs H Q=>match vs with | [v,w]=>cB v=false/\neP.r K [v,w] H Q | _=>False
 f:=fun ds=>match ds with | [x,y]=>if oI x=true then none else neP.f [x,y] | _=>none
 ok:=fun K F H ds vs pr Q hf hv hd q=>by
  match ds,hf with
  | [x,y],hf =>
   dsimp only at hf;split at hf
   ·cases hf
   ·rename_i hp;have z:=neP.ok K F H [x,y] vs pr Q hf hv hd q;obtain ⟨u,r1,rfl,h1,w,r2,rfl,h2,rfl⟩:=hv;exact ⟨(lC h1).trans (by simpa using hp),z⟩
theorem GV {K:Fg} {fn:Fn} {sp:Sp} {NE:XK} {k i:Nat} {f:Addr} {fd:FuncData} {ps:List Str} {a b:Expr} {as:List Expr} {ta:TA} {g:Str} {p3 p4 pos:Pos} (hu:X.A.units+64 < cLine)
  (F:fK X.prog X.w X.K X.mg X.base (CX2 X.prog X.w) k f fd ps sp) (hr:cP k X.A) (hgf:Gl X g) (hmf:X.mg g=some (.ref f)) (hk:PySem.W.keepIn X.K (.ref f)=true) (hb:Binds X.K fd ps [])
  (ha:JA X (a :: as) ta) (s1:PySem.W.isStarred a=false) (s2:as.all (fun e=>!PySem.W.isStarred e)=true) (hdg:(g==("__debug__" : Str))=false) (hsp:u4 (fP fn K) sp C fld) (hB:JE X b (ag i)) (hm:behindInMarks .NotEq b=false)
  (mono:MoA ta) :
  JT X (.Compare (.Call (.Name g p3) (a :: as) [] p4) [.NotEq] [b] pos) (bf (tOp (fun x y=>C2.r X.K [x,y]) (aJ (fP fn K) [] NE ta) (ag i))):=by
 have hA:JE X (.Call (.Name g p3) (a :: as) [] p4) (fun σ H Q=>ta σ H fun vs H1=>fP fn K (vs++[]) H1 (fun v H2=>cB v=false/\Q v H2) NE):=by
  refine ⟨fun pins s σ H Q I h=>?_⟩;refine mL (C:=C) (fld:=fld) (QN:=fun v H'=>cB v=false/\Q v H') F hr hgf hmf hk hb ha s1 s2 hdg hsp I h (fun _ _ z=>z) (fun v H4 u s4 ev I4 r4 q4=>⟨v,H4,I4,r4,q4.2⟩) fun v dx H1 H' s1 s2 b ea t ev I1 ho hbr u kk hok fl hd q=>?_;rw [q.1] at ev;cases ev
 have z:=bu (pos:=pos) (gW hu) hA hB hm;refine ⟨fun pins s σ H Q I h=>z.h pins s σ H Q I ?_⟩;have h:ta σ H fun vs H1=>fP fn K (vs++[]) H1 _ NE:=h;refine mono σ H _ _ h fun vs H1 q=>kF q fun v H2 q=>?_;obtain ⟨w,ew,hp,q⟩:=q;exact ⟨hp,w,ew,q⟩
end
end L2
end
set_option bootstrap.genMatcherCode true
section
namespace K72
open PySem PySem.Spec PyProof.Rows L2
noncomputable def top (i:Nat):Stmt:=PySem.Challenge.pw_webshapes_k72_not_simple.main.body.getD i (.Pass ⟨0,0,0,0⟩)
noncomputable abbrev aZ:Stmt:=top 16
noncomputable abbrev aE:Stmt:=top 17
noncomputable abbrev aL:Stmt:=top 18
noncomputable abbrev aI:Stmt:=top 19
noncomputable abbrev cg:Stmt:=top 21
noncomputable abbrev bL:Stmt:=top 22
noncomputable abbrev bo:Stmt:=top 23
noncomputable abbrev bM:Stmt:=top 24
noncomputable abbrev bg:Stmt:=top 25
noncomputable abbrev bK:Stmt:=top 26
noncomputable abbrev aH:Stmt:=top 27
noncomputable abbrev aw:Stmt:=top 28
noncomputable abbrev aV:Stmt:=top 29
noncomputable abbrev aN:Stmt:=top 30
noncomputable abbrev bD:Stmt:=top 31
noncomputable abbrev cj:Stmt:=top 32
noncomputable abbrev aF:Stmt:=vM (top 9)
noncomputable def xS:Prm:=D0 "other" (by decide +kernel)
structure Adr where
 gi:Addr
 kQ:FuncData
 cX:Addr
 gx:FuncData
 eL:Addr
 jn:FuncData
 de:Addr
 gN:FuncData
 rG:Addr
 yL:FuncData
 lH:Addr
 sd:FuncData
 iZ:Addr
 ou:FuncData
 lB:Addr
 ub:FuncData
 jl:Addr
 oz:FuncData
 lZ:Addr
 tP:FuncData
 dq:Addr
 gP:FuncData
 b6:Addr
 d5:FuncData
 gk:Addr
 kS:FuncData
 eM:Addr
 iU:FuncData
 mU:Addr
 qX:FuncData
 lY:Addr
 nt:FuncData
 cy:Addr
 au:Addr
 cu:Addr
 dY:Addr
 fI:FuncData
 eY:Addr
 iL:Addr
 jo:Addr
 fS:Addr
 gm:Addr
 jC:Addr
 gf:Addr
 eZ:Addr
 jE:Tok
 nC:Tok
 kn:Tok
structure Txt (K:Fg) (mg:Str->Option Value) (t:Adr):Prop where
 pw:Fun K "row_of" "row_of" aZ t.gi t.kQ
 vi:Binds K t.kQ ["form"] []
 u0:mg "row_of" = some (.ref t.gi)
 jS:Fun K "are_rows" "are_rows" aE t.cX t.gx
 qJ:Binds K t.gx ["rows"] []
 qt:mg "are_rows" = some (.ref t.cX)
 lU:Fun K "rung_of" "rung_of" aL t.eL t.jn
 uB:Binds K t.jn ["shape"] []
 sX:mg "rung_of" = some (.ref t.eL)
 gQ:Fun K "rungs_of" "rungs_of" aI t.de t.gN
 jW:Binds K t.gN ["book"] []
 j0:mg "rungs_of" = some (.ref t.de)
 Ce:Fun K "_law_pen" "_law_pen" cg t.rG t.yL
 EZ:Binds K t.yL ["_law_script"] []
 FD:mg "_law_pen" = some (.ref t.rG)
 aW:Fun K "_law_draw" "_law_draw" bL t.lH t.sd
 aX:Binds K t.sd ["_law_pen_here", "_law_many_here"] []
 aY:mg "_law_draw" = some (.ref t.lH)
 ll:Fun K "_law_names" "_law_names" bo t.iZ t.ou
 oF:Binds K t.ou ["_law_pen_here", "_law_many_here"] []
 ot:mg "_law_names" = some (.ref t.iZ)
 xg:Fun K "_law_rows" "_law_rows" bM t.lB t.ub
 AW:Binds K t.ub ["_law_pen_here", "_law_names_here", "_law_bonds"] []
 B1:mg "_law_rows" = some (.ref t.lB)
 nG:Fun K "_law_rungs" "_law_rungs" bg t.jl t.oz
 su:Binds K t.oz ["_law_pen_here", "_law_names_here", "_law_bonds"] []
 sL:mg "_law_rungs" = some (.ref t.jl)
 oV:Fun K "_law_book" "_law_book" bK t.lZ t.tP
 rp:Binds K t.tP ["_law_rungs_here", "_law_debts"] []
 um:mg "_law_book" = some (.ref t.lZ)
 j5:Fun K "_law_two_rows" "_law_two_rows" aH t.dq t.gP
 qm:Binds K t.gP ["_law_pen_here", "_law_names_here", "_law_bonds"] []
 qM:mg "_law_two_rows" = some (.ref t.dq)
 fU:Fun K "_law_rows_spoilt" "_law_rows_spoilt" aw t.b6 t.d5
 kR:Binds K t.d5 ["_law_pen_here", "_law_parts", "_law_way"] []
 lj:mg "_law_rows_spoilt" = some (.ref t.b6)
 iF:Fun K "_law_spoilt" "_law_spoilt" aV t.gk t.kS
 kC:Binds K t.kS ["_law_pen_here", "_law_names_here", "_law_bonds"] []
 lp:mg "_law_spoilt" = some (.ref t.gk)
 ji:Fun K "_law_refused" "_law_refused" aN t.eM t.iU
 me:Binds K t.iU ["_law_book_here"] []
 mJ:mg "_law_refused" = some (.ref t.eM)
 wm:Fun K "_law_many" "_law_many" bD t.mU t.qX
 BG:Binds K t.qX ["_law_pen_here", "_law_bonds"] []
 A2:mg "_law_many" = some (.ref t.mU)
 Dh:Fun K "law" "law" cj t.lY t.nt
 Gr:Binds K t.nt ["_law_script"] []
 Du:mg "law" = some (.ref t.lY)
 z_ValueError:mg "ValueError" = none
 z_abs:mg "abs" = none
 z_isinstance:mg "isinstance" = none
 z_len:mg "len" = none
 z_list:mg "list" = none
 z_min:mg "min" = none
 z_range:mg "range" = none
 z_set:mg "set" = none
 z_sorted:mg "sorted" = none
 z_tuple:mg "tuple" = none
 g_KIND_WORDS:mg "KIND_WORDS" = some (.ref t.cy)
 g_MOST_COUNTED:mg "MOST_COUNTED" = some (Value.int 3 t.jE)
 g_MOST_ROWS:mg "MOST_ROWS" = some (Value.int 3 t.nC)
 g_MOST_SHAPES:mg "MOST_SHAPES" = some (Value.int 4 t.kn)
 s_KIND_WORDS:∀ H,SqT K H t.cy [.str "any", .str "thing", .str "number", .str "said"]
 fb:mg "NotSimple" = some (.ref t.au)
 eO:lu K t.au (some (.ref t.dY))
 fW:mg "ShapeError" = some (.ref t.cu)
 kg:lu K t.cu none
 hJ:C0 K t.au t.cu "name"
 kp_NotSimple:PySem.W.keepIn K (.ref t.au)=true
 mM:Fun K "__init__" "NotSimple.__init__" aF t.dY t.fI
 lF:Binds K t.fI ["self", "name"] []
 mf:∃ o,K.lookup t.dY=some o/\o.cls=.type "function"
 mr_NotSimple_ShapeError:PySem.W.mroIn K t.au (.ref t.cu)=some true
 mv_NotSimple:PySem.W.mroIn K t.au (.type "ValueError")=some true
 qP:mg "Against" = some (.ref t.eY)
 vO:mg "Clash" = some (.ref t.iL)
 vS:mg "Mixed" = some (.ref t.jo)
 tq:mg "NoBook" = some (.ref t.fS)
 ur:mg "NoForm" = some (.ref t.gm)
 vB:mg "NoMay" = some (.ref t.jC)
 uw:mg "NoText" = some (.ref t.gf)
 qQ:mg "Unknown" = some (.ref t.eZ)
 mT:PySem.W.kitOne K (.type "NoneType") (.ref t.au)=some false
 k2_NotSimple_Against:PySem.W.kitOne K (.ref t.au) (.ref t.eY)=some false
 k2_NotSimple_Clash:PySem.W.kitOne K (.ref t.au) (.ref t.iL)=some false
 k2_NotSimple_Mixed:PySem.W.kitOne K (.ref t.au) (.ref t.jo)=some false
 k2_NotSimple_NoBook:PySem.W.kitOne K (.ref t.au) (.ref t.fS)=some false
 k2_NotSimple_NoForm:PySem.W.kitOne K (.ref t.au) (.ref t.gm)=some false
 k2_NotSimple_NoMay:PySem.W.kitOne K (.ref t.au) (.ref t.jC)=some false
 k2_NotSimple_NoText:PySem.W.kitOne K (.ref t.au) (.ref t.gf)=some false
 k2_NotSimple_Unknown:PySem.W.kitOne K (.ref t.au) (.ref t.eZ)=some false
theorem jk:bj ["form", "low", "high"] ["form"] (ae aZ):=⟨rfl,rfl,rfl,by decide +kernel,rfl,by decide +kernel,by decide +kernel⟩
theorem i0:bj ["rows", "bonds"] ["rows"] (ae aE):=⟨rfl,rfl,rfl,by decide +kernel,rfl,by decide +kernel,by decide +kernel⟩
theorem cE:bj ["shape", "form", "kind", "has_closed_last", "middle", "rows"] ["shape"] (ae aL):=⟨rfl,rfl,rfl,by decide +kernel,rfl,by decide +kernel,by decide +kernel⟩
theorem d6:bj ["book", "rungs", "shape", "rung"] ["book"] (ae aI):=⟨rfl,rfl,rfl,by decide +kernel,rfl,by decide +kernel,by decide +kernel⟩
theorem B4:bj ["_law_script"] ["_law_script"] (ae cg):=⟨rfl,rfl,rfl,by decide +kernel,rfl,by decide +kernel,by decide +kernel⟩
theorem dH:bj ["_law_pen_here", "_law_many_here", "_law_script", "_law_found", "_law_at", "_law_cell", "_law_number"] ["_law_pen_here", "_law_many_here"] (ae bL):=⟨rfl,rfl,rfl,by decide +kernel,rfl,by decide +kernel,by decide +kernel⟩
theorem bV:bj ["_law_pen_here", "_law_many_here", "_law_letters", "_law_words", "_law_base", "_law_k", "_law_spot", "_law_start", "_law_step", "_law_found", "_law_letter"] ["_law_pen_here", "_law_many_here"] (ae bo):=⟨rfl,rfl,rfl,by decide +kernel,rfl,by decide +kernel,by decide +kernel⟩
theorem iO:bj ["_law_pen_here", "_law_names_here", "_law_bonds", "_law_rows_here", "_law_bond", "_law_low", "_law_high"] ["_law_pen_here", "_law_names_here", "_law_bonds"] (ae bM):=⟨rfl,rfl,rfl,by decide +kernel,rfl,by decide +kernel,by decide +kernel⟩
theorem cT:bj ["_law_pen_here", "_law_names_here", "_law_bonds", "_law_found", "_law_name", "_law_kind", "_law_rows_here", "_law_closed"] ["_law_pen_here", "_law_names_here", "_law_bonds"] (ae bg):=⟨rfl,rfl,rfl,by decide +kernel,rfl,by decide +kernel,by decide +kernel⟩
theorem cI:bj ["_law_rungs_here", "_law_debts", "_law_shapes", "_law_name", "_law_kind", "_law_rows_here", "_law_closed", "_law_parts", "_law_bond", "_law_low", "_law_high", "_law_other"] ["_law_rungs_here", "_law_debts"] (ae bK):=⟨rfl,rfl,rfl,by decide +kernel,rfl,by decide +kernel,by decide +kernel⟩
theorem fO:bj ["_law_pen_here", "_law_names_here", "_law_bonds", "_law_far", "_law_rows_here"] ["_law_pen_here", "_law_names_here", "_law_bonds"] (ae aH):=⟨rfl,rfl,rfl,by decide +kernel,rfl,by decide +kernel,by decide +kernel⟩
theorem bC:bj ["_law_pen_here", "_law_parts", "_law_way", "_law_row", "_law_great", "_law_some"] ["_law_pen_here", "_law_parts", "_law_way"] (ae aw):=⟨rfl,rfl,rfl,by decide +kernel,rfl,by decide +kernel,by decide +kernel⟩
theorem eV:bj ["_law_pen_here", "_law_names_here", "_law_bonds", "_law_parts", "_law_way", "_law_more"] ["_law_pen_here", "_law_names_here", "_law_bonds"] (ae aV):=⟨rfl,rfl,rfl,by decide +kernel,rfl,by decide +kernel,by decide +kernel⟩
theorem ke:bj ["_law_book_here", "_law_caught", "_ex"] ["_law_book_here"] (ae aN):=⟨rfl,rfl,rfl,by decide +kernel,rfl,by decide +kernel,by decide +kernel⟩
theorem iY:bj ["_law_pen_here", "_law_bonds", "_law_names_here", "_law_shapes", "_law_debts", "_law_at"] ["_law_pen_here", "_law_bonds"] (ae bD):=⟨rfl,rfl,rfl,by decide +kernel,rfl,by decide +kernel,by decide +kernel⟩
theorem gR:bj ["_law_script", "_law_pen_here", "_law_bonds", "_law_turn", "_law_names_here", "_law_rungs_here", "_law_shapes", "_law_at"] ["_law_script"] (ae cj):=⟨rfl,rfl,rfl,by decide +kernel,rfl,by decide +kernel,by decide +kernel⟩
theorem jH:bj ["self", "name"] ["self", "name"] (ae aF):=⟨rfl,rfl,rfl,by decide +kernel,rfl,by decide +kernel,by decide +kernel⟩
theorem gY {P:Program} {w:World} {K:Fg} {mg:Str->Option Value} {base:Heap} {t:Adr} (T:Txt K mg t):XMk P w K mg base t.au t.dY "name" t.fI ["self", "name"] :=
 ⟨T.eO,T.mf,T.kp_NotSimple,T.mM.ok jH (fun vs H Q E ⟨e,v,h,_⟩=>by rw [h];rfl) (fun cdv A outer s H vs Q E hr h=>⟨CK t.au "name", xW T.eO T.hJ rfl T.fW rfl rfl rfl (Or.inl rfl) (Or.inl rfl) rfl rfl rfl rfl (by decide) rfl ⟨_,rfl⟩ rfl,by obtain ⟨e,v,rfl,hp,he,q⟩:=h;exact ⟨e,v,rfl,rfl,hp,he,q⟩⟩),T.lF⟩
noncomputable def gds:List PyData:=[.tuple [PyData.str "any", PyData.str "thing", PyData.str "number", PyData.str "said"]]
noncomputable def gav (t:Adr):Nat->V:=fun g=>([.ref t.cy]:List V)[g]?.getD .non
theorem fu {K:Fg} {mg:Str->Option Value} {t:Adr} (T:Txt K mg t):∀ g d,gds[g]?=some d->∀ F H,Dm K F H d (gav t g):=by
 intro g d h F H;rcases g with _ | g
 ·cases h;exact ⟨_,_,rfl,T.s_KIND_WORDS H,by decide,⟨_,_,rfl,⟨rfl,by decide +kernel,af _⟩,⟨_,_,rfl,⟨rfl,by decide +kernel,af _⟩,⟨_,_,rfl,⟨rfl,by decide +kernel,af _⟩,⟨_,_,rfl,⟨rfl,by decide +kernel,af _⟩,rfl⟩⟩⟩⟩⟩
 cases h
noncomputable def bH:XS :=
 (.seq (.ifs (.or (.tst (.prm neP (.cons (.prm ixP (.cons (.var 0) (.cons (.cst (.i 0)) .nil))) (.cons (.cst (.s "each" (by decide +kernel) (af _))) .nil)))) (.or (.tst (.met nP (.prm ixP (.cons (.var 0) (.cons (.cst (.i 3)) .nil))) (.cons (.cst (.s "^" (by decide +kernel) (af _))) .nil))) (.tst (.prm neP (.cons (.prm ixP (.cons (.prm ixP (.cons (.var 0) (.cons (.cst (.i 4)) .nil))) (.cons (.cst (.i 0)) .nil))) (.cons (.cst (.s "keeps" (by decide +kernel) (af _))) .nil)))))) (.ret (.cst .n)) .skip)
  (.seq (.cp 1 (.prm ixP (.cons (.var 0) (.cons (.cst (.i 1)) .nil))))
  (.seq (.cp 2 (.prm ixP (.cons (.var 0) (.cons (.cst (.i 2)) .nil))))
  (.seq (.ifs (.or (.tst (.prm gtP (.cons (.var 1) (.cons (.cst (.i 3)) .nil)))) (.and (.tst (.prm lW (.cons (.var 2) (.cons (.cst .n) .nil)))) (.tst (.prm gtP (.cons (.var 2) (.cons (.cst (.i 3)) .nil)))))) (.ret (.cst .n)) .skip)
  (.ret (.tup (.cons (.prm ixP (.cons (.var 0) (.cons (.cst (.i 3)) .nil))) (.cons (.var 1) (.cons (.var 2) (.cons (.prm ixP (.cons (.prm ixP (.cons (.var 0) (.cons (.cst (.i 4)) .nil))) (.cons (.cst (.i 1)) .nil))) .nil))))))))))
noncomputable def eR:Fn:=jZ gds [.dat] 3 bH
def mX (K:Fg):Sp:=fP eR K
noncomputable def cm:XS :=
 (.seq (.ifs (.or (.tst (.prm gtP (.cons (.prm gE (.cons (.var 0) .nil)) (.cons (.cst (.i 3)) .nil)))) (.tst (.prm inP (.cons (.cst .n) (.cons (.var 0) .nil))))) (.ret (.cst (.b false))) .skip)
  (.seq (.cp 1 (.cmp [] (.lst (.var 0)) .yes (.prm ixP (.cons (.var 0) (.cons (.cst (.i 0)) .nil)))))
  (.ret (.prm eqP (.cons (.var 1) (.cons (.prm vG (.cons (.var 1) .nil)) .nil))))))
noncomputable def cM:Fn:=jZ gds [.dat] 2 cm
def iH (K:Fg):Sp:=fP cM K
noncomputable def ck:XS :=
 (.seq (.cp 1 (.prm ixP (.cons (.var 0) (.cons (.cst (.i 2)) .nil))))
  (.seq (.ifs (.or (.tst (.prm neP (.cons (.prm ixP (.cons (.var 0) (.cons (.cst (.i 1)) .nil))) (.cons (.cst (.s "greatest" (by decide +kernel) (af _))) .nil)))) (.or (.tst (.prm neP (.cons (.prm ixP (.cons (.var 1) (.cons (.cst (.i 0)) .nil))) (.cons (.cst (.s "all" (by decide +kernel) (af _))) .nil)))) (.tst (.prm eqP (.cons (.prm gE (.cons (.prm ixP (.cons (.var 1) (.cons (.cst (.i 1)) .nil))) .nil)) (.cons (.cst (.i 0)) .nil)))))) (.ret (.cst .n)) .skip)
  (.seq (.cp 2 (.prm ixP (.cons (.prm ixP (.cons (.prm ixP (.cons (.var 1) (.cons (.cst (.i 1)) .nil))) (.cons (.cst (.i 0)) .nil))) (.cons (.cst (.i 0)) .nil))))
  (.seq (.cp 3 (.prm eqP (.cons (.prm ixP (.cons (.prm ixP (.cons (.prm ixP (.cons (.var 1) (.cons (.cst (.i 1)) .nil))) (.cons (.prm yS (.cons (.cst (.i 1)) .nil)) .nil))) (.cons (.cst (.i 0)) .nil))) (.cons (.cst (.s "closed" (by decide +kernel) (af _))) .nil))))
  (.seq (.cp 4 (.ifx (.tst (.var 3)) (.sl2 G4 (.prm ixP (.cons (.var 1) (.cons (.cst (.i 1)) .nil))) (.cst (.i 1)) (.prm yS (.cons (.cst (.i 1)) .nil))) (.prm yG (.cons (.prm ixP (.cons (.var 1) (.cons (.cst (.i 1)) .nil))) (.cons (.cst (.i 1)) .nil)))))
  (.seq (.cp 5 (.cmp [] (.tup (.var 4)) .yes (.call eR (.cons (.var 0) .nil))))
  (.seq (.ifs (.or (.tst (.prm pV (.cons (.var 2) (.cons (.glb 0) .nil)))) (.not (.tst (.call cM (.cons (.var 5) .nil))))) (.ret (.cst .n)) .skip)
  (.ret (.tup (.cons (.prm ixP (.cons (.var 0) (.cons (.cst (.i 0)) .nil))) (.cons (.var 2) (.cons (.prm aP (.cons (.var 5) .nil)) (.cons (.ifx (.tst (.var 3)) (.prm ixP (.cons (.prm ixP (.cons (.prm ixP (.cons (.var 1) (.cons (.cst (.i 1)) .nil))) (.cons (.prm yS (.cons (.cst (.i 1)) .nil)) .nil))) (.cons (.cst (.i 1)) .nil))) (.cst .n)) .nil)))))))))))))
noncomputable def fj:Fn:=jZ gds [.dat] 6 ck
def j7 (K:Fg):Sp:=fP fj K
noncomputable def cK:XS :=
 (.seq (.ifs (.not (.tst (.chn leP leP (.cst (.i 1)) (.prm gE (.cons (.prm ixP (.cons (.var 0) (.cons (.cst (.i 0)) .nil))) .nil)) (.cst (.i 4))))) (.ret (.prm zE (.cons (.cst .n) .nil))) .skip)
  (.seq (.nq 1 (.lst .nil))
  (.seq (.fr 2 (.tup (.prm ixP (.cons (.var 0) (.cons (.cst (.i 0)) .nil)))) (.seq (.cp 3 (.call fj (.cons (.var 2) .nil)))
  (.seq (.ifs (.tst (.prm isP (.cons (.var 3) (.cons (.cst .n) .nil)))) (.ret (.prm zE (.cons (.prm ixP (.cons (.var 2) (.cons (.cst (.i 0)) .nil))) .nil))) .skip)
  (.drop (.mtr mS 1 (.cons (.var 3) .nil))))))
  (.seq (.drop (.prm nlP (.cons (.var 1) .nil))) (.ret (.tke 1))))))
noncomputable def cn:Fn:=jZ gds [.dat] 4 cK
def jf (K:Fg):Sp:=fP cn K
noncomputable def wA:XS :=
 (.ret (.dsp (.cons (.cst (.s "script" (by decide +kernel) (af _))) (.var 0) (.cons (.cst (.s "at" (by decide +kernel) (af _))) (.cst (.i 0)) (.cons (.cst (.s "left" (by decide +kernel) (af _))) (.cst (.i 0)) .nil)))))
noncomputable def qV:Fn:=jZ gds [.dat] 1 wA
def wq (K:Fg):Sp:=fP qV K
noncomputable def oq:XS :=
 (.seq (.cp 2 (.prm i3 (.cons (.var 0) (.cons (.cst (.s "script" (by decide +kernel) (af _))) .nil))))
  (.seq (.ifs (.tst (.prm gtP (.cons (.prm i3 (.cons (.var 0) (.cons (.cst (.s "left" (by decide +kernel) (af _))) .nil))) (.cons (.cst (.i 0)) .nil)))) (.seq (.cp 3 (.prm kH (.cons (.prm i3 (.cons (.var 0) (.cons (.cst (.s "left" (by decide +kernel) (af _))) .nil))) (.cons (.var 1) .nil))))
  (.seq (.sto vW 0 (.cst (.s "left" (by decide +kernel) (af _))) (.prm nV (.cons (.prm i3 (.cons (.var 0) (.cons (.cst (.s "left" (by decide +kernel) (af _))) .nil))) (.cons (.var 1) .nil))))
  (.ret (.var 3)))) .skip)
  (.seq (.cp 4 (.prm i3 (.cons (.var 0) (.cons (.cst (.s "at" (by decide +kernel) (af _))) .nil))))
  (.seq (.sto vW 0 (.cst (.s "at" (by decide +kernel) (af _))) (.prm bE (.cons (.var 4) (.cons (.cst (.i 1)) .nil))))
  (.seq (.cp 5 (.prm bE (.cons (.prm bE (.cons (.prm kP (.cons (.prm kP (.cons (.cst (.i 60013)) (.cons (.var 4) .nil))) (.cons (.var 4) .nil))) (.cons (.prm kP (.cons (.cst (.i 11)) (.cons (.var 4) .nil))) .nil))) (.cons (.cst (.i 5)) .nil))))
  (.seq (.ifs (.tst (.prm ltP (.cons (.var 4) (.cons (.prm gE (.cons (.var 2) .nil)) .nil)))) (.seq (.cp 5 (.prm ixP (.cons (.var 2) (.cons (.var 4) .nil))))
  (.ifs (.tst (.prm geP (.cons (.prm x4 (.cons (.var 5) .nil)) (.cons (.prm Av (.cons (.cst (.i 10)) (.cons (.cst (.i 18)) .nil))) .nil)))) (.seq (.sto vW 0 (.cst (.s "left" (by decide +kernel) (af _))) (.prm nV (.cons (.prm x4 (.cons (.var 5) .nil)) (.cons (.var 1) .nil))))
  (.ret (.prm kH (.cons (.prm x4 (.cons (.var 5) .nil)) (.cons (.var 1) .nil))))) .skip)) (.ifs (.tst (.prm gtP (.cons (.prm gE (.cons (.var 2) .nil)) (.cons (.cst (.i 0)) .nil)))) (.cp 5 (.prm bE (.cons (.prm kH (.cons (.prm ixP (.cons (.var 2) (.cons (.prm kH (.cons (.var 4) (.cons (.prm gE (.cons (.var 2) .nil)) .nil))) .nil))) (.cons (.prm Av (.cons (.cst (.i 10)) (.cons (.cst (.i 17)) .nil))) .nil))) (.cons (.prm kP (.cons (.cst (.i 65537)) (.cons (.var 4) .nil))) .nil)))) .skip))
  (.seq (.cp 6 (.prm kH (.cons (.prm kP (.cons (.prm bE (.cons (.prm bE (.cons (.prm kH (.cons (.var 5) (.cons (.cst (.i 2147483629)) .nil))) (.cons (.prm kP (.cons (.cst (.i 48271)) (.cons (.var 4) .nil))) .nil))) (.cons (.cst (.i 1)) .nil))) (.cons (.cst (.i 69621)) .nil))) (.cons (.cst (.i 2147483587)) .nil))))
  (.seq (.cp 6 (.prm kH (.cons (.prm bE (.cons (.prm bE (.cons (.prm kP (.cons (.var 6) (.cons (.var 6) .nil))) (.cons (.prm kP (.cons (.cst (.i 40503)) (.cons (.var 6) .nil))) .nil))) (.cons (.var 4) .nil))) (.cons (.cst (.i 2147483563)) .nil))))
  (.ret (.prm kH (.cons (.prm nV (.cons (.var 6) (.cons (.cst (.i 11)) .nil))) (.cons (.var 1) .nil))))))))))))
noncomputable def aB:Fn:=jZ gds [.ino,.dat] 7 oq
def aD (K:Fg):Sp:=fP aB K
noncomputable def ko:XS :=
 (.seq (.cp 2 (.cst (.s "abcdefghijklmnopqrstuvwxyz" (by decide +kernel) (af _))))
  (.seq (.cp 3 (.lst (.cons (.cst (.s "any" (by decide +kernel) (af _))) (.cons (.cst (.s "all" (by decide +kernel) (af _))) (.cons (.cst (.s "keeps" (by decide +kernel) (af _))) (.cons (.cst (.s "is" (by decide +kernel) (af _))) (.cons (.cst (.s "many" (by decide +kernel) (af _))) (.cons (.cst (.s "each" (by decide +kernel) (af _))) (.cons (.cst (.s "least" (by decide +kernel) (af _))) (.cons (.cst (.s "shape" (by decide +kernel) (af _))) .nil))))))))))
  (.seq (.cp 4 (.prm ixP (.cons (.lst (.cons (.cst (.s "" (by decide +kernel) (af _))) (.cons (.cst (.s "" (by decide +kernel) (af _))) (.cons (.cst (.s "" (by decide +kernel) (af _))) (.cons (.prm ixP (.cons (.var 3) (.cons (.call aB (.cons (.var 0) (.cons (.cst (.i 8)) .nil))) .nil))) .nil))))) (.cons (.call aB (.cons (.var 0) (.cons (.cst (.i 4)) .nil))) .nil))))
  (.seq (.fr 5 (.rng1 (.cons (.call aB (.cons (.var 0) (.cons (.prm zc (.cons (.cst (.i 8)) (.cons (.prm gE (.cons (.var 4) .nil)) .nil))) .nil))) .nil)) (.cp 4 (.prm bE (.cons (.var 4) (.cons (.prm ixP (.cons (.var 2) (.cons (.call aB (.cons (.var 0) (.cons (.cst (.i 26)) .nil))) .nil))) .nil)))))
  (.seq (.cp 6 (.call aB (.cons (.var 0) (.cons (.prm bE (.cons (.prm gE (.cons (.var 4) .nil)) (.cons (.cst (.i 1)) .nil))) .nil))))
  (.seq (.cp 7 (.call aB (.cons (.var 0) (.cons (.cst (.i 26)) .nil))))
  (.seq (.cp 8 (.prm ixP (.cons (.lst (.cons (.cst (.i 1)) (.cons (.cst (.i 3)) (.cons (.cst (.i 5)) (.cons (.cst (.i 7)) (.cons (.cst (.i 9)) (.cons (.cst (.i 11)) (.cons (.cst (.i 15)) (.cons (.cst (.i 17)) (.cons (.cst (.i 19)) (.cons (.cst (.i 21)) (.cons (.cst (.i 23)) (.cons (.cst (.i 25)) .nil))))))))))))) (.cons (.call aB (.cons (.var 0) (.cons (.cst (.i 12)) .nil))) .nil))))
  (.seq (.nq 9 (.lst .nil))
  (.seq (.fr 5 (.rng1 (.cons (.var 1) .nil)) (.seq (.cp 10 (.prm ixP (.cons (.var 2) (.cons (.prm kH (.cons (.prm bE (.cons (.var 7) (.cons (.prm kP (.cons (.var 8) (.cons (.var 5) .nil))) .nil))) (.cons (.cst (.i 26)) .nil))) .nil))))
  (.drop (.mtr mS 9 (.cons (.prm bE (.cons (.prm bE (.cons (.prm uY (.cons (.var 4) (.cons (.var 6) .nil))) (.cons (.var 10) .nil))) (.cons (.prm yG (.cons (.var 4) (.cons (.var 6) .nil))) .nil))) .nil)))))
  (.seq (.ifs (.tst (.prm eqP (.cons (.call aB (.cons (.var 0) (.cons (.cst (.i 2)) .nil))) (.cons (.cst (.i 0)) .nil)))) (.ret (.tke 9)) .skip)
  (.ret (.cmp [6,0] (.lst (.var 9)) .yes (.prm uY (.cons (.var 0) (.cons (.prm bE (.cons (.prm bE (.cons (.var 1) (.cons (.cst (.i 1)) .nil))) (.cons (.call aB (.cons (.var 2) (.cons (.prm zc (.cons (.prm gE (.cons (.var 0) .nil)) (.cons (.var 1) .nil))) .nil))) .nil))) .nil)))))))))))))))
noncomputable def fY:Fn:=jZ gds [.ino,.dat] 11 ko
def iB (K:Fg):Sp:=fP fY K
noncomputable def nv:XS :=
 (.seq (.nq 3 (.lst .nil))
  (.seq (.fr 4 (.lst (.var 2)) (.ifs (.and (.tst (.prm ltP (.cons (.prm gE (.cons (.var 3) .nil)) (.cons (.cst (.i 3)) .nil)))) (.tst (.prm gtP (.cons (.call aB (.cons (.var 0) (.cons (.cst (.i 3)) .nil))) (.cons (.cst (.i 0)) .nil))))) (.seq (.cp 5 (.prm ixP (.cons (.lst (.cons (.cst (.i 0)) (.cons (.cst (.i 0)) (.cons (.cst (.i 0)) (.cons (.cst (.i 1)) (.cons (.cst (.i 1)) (.cons (.cst (.i 2)) (.cons (.cst (.i 3)) .nil)))))))) (.cons (.call aB (.cons (.var 0) (.cons (.cst (.i 7)) .nil))) .nil))))
  (.seq (.cp 6 (.prm ixP (.cons (.lst (.cons (.cst .n) (.cons (.cst .n) (.cons (.var 5) (.cons (.prm D2 (.cons (.cst (.i 3)) (.cons (.prm bE (.cons (.var 5) (.cons (.cst (.i 1)) .nil))) .nil))) (.cons (.cst (.i 3)) .nil)))))) (.cons (.call aB (.cons (.var 0) (.cons (.cst (.i 5)) .nil))) .nil))))
  (.drop (.mtr mS 3 (.cons (.tup (.cons (.var 4) (.cons (.var 5) (.cons (.var 6) (.cons (.prm ixP (.cons (.var 1) (.cons (.call aB (.cons (.var 0) (.cons (.prm gE (.cons (.var 1) .nil)) .nil))) .nil))) .nil))))) .nil))))) .skip))
  (.ret (.prm aP (.cons (.var 3) .nil)))))
noncomputable def og:Fn:=jZ gds [.ino,.dat,.dat] 7 nv
def tN (K:Fg):Sp:=fP og K
noncomputable def kB:XS :=
 (.seq (.nq 3 (.lst .nil))
  (.seq (.fr 4 (.lst (.var 1)) (.seq (.cp 5 (.prm ixP (.cons (.lst (.cons (.cst (.s "any" (by decide +kernel) (af _))) (.cons (.cst (.s "any" (by decide +kernel) (af _))) (.cons (.cst (.s "thing" (by decide +kernel) (af _))) (.cons (.cst (.s "thing" (by decide +kernel) (af _))) (.cons (.cst (.s "thing" (by decide +kernel) (af _))) (.cons (.cst (.s "number" (by decide +kernel) (af _))) (.cons (.cst (.s "said" (by decide +kernel) (af _))) .nil)))))))) (.cons (.call aB (.cons (.var 0) (.cons (.cst (.i 7)) .nil))) .nil))))
  (.seq (.cp 6 (.call og (.cons (.var 0) (.cons (.var 1) (.cons (.var 2) .nil)))))
  (.seq (.ifs (.and (.tst (.prm inP (.cons (.var 5) (.cons (.tup (.cons (.cst (.s "number" (by decide +kernel) (af _))) (.cons (.cst (.s "said" (by decide +kernel) (af _))) .nil))) .nil)))) (.tst (.prm gtP (.cons (.call aB (.cons (.var 0) (.cons (.cst (.i 4)) .nil))) (.cons (.cst (.i 0)) .nil))))) (.cp 6 (.prm aP (.cons (.zL ["_law_bond", "_law_low", "_law_high", "_law_other"] [] (.tup (.var 6)) (.tup (.cons (.var 0) (.cons (.cst (.i 0)) (.cons (.var 2) (.cons (.var 3) .nil)))))) .nil))) .skip)
  (.seq (.cp 7 (.cst .n))
  (.seq (.ifs (.tst (.prm eqP (.cons (.call aB (.cons (.var 0) (.cons (.cst (.i 3)) .nil))) (.cons (.cst (.i 0)) .nil)))) (.cp 7 (.prm aP (.cons (.cmp [0] (.lst (.var 2)) (.tst (.prm gtP (.cons (.call aB (.cons (.var 1) (.cons (.cst (.i 9)) .nil))) (.cons (.cst (.i 0)) .nil)))) (.var 0)) .nil))) .skip)
  (.drop (.mtr mS 3 (.cons (.tup (.cons (.var 4) (.cons (.var 5) (.cons (.var 6) (.cons (.var 7) .nil))))) .nil)))))))))
  (.ret (.tke 3))))
noncomputable def iE:Fn:=jZ gds [.ino,.dat,.dat] 8 kB
def kT (K:Fg):Sp:=fP iE K
noncomputable def n6:XS :=
 (.seq (.nq 2 (.lst .nil))
  (.seq (.frT [3,4,5,6] (.lst (.var 0)) (.seq (.nq 7 (.lst (.cons (.tup (.cons (.var 4) .nil)) .nil)))
  (.seq (.frT [8,9,10,11] (.tup (.var 5)) (.drop (.mtr mS 7 (.cons (.tup (.cons (.cst (.s "each" (by decide +kernel) (af _))) (.cons (.var 9) (.cons (.var 10) (.cons (.var 8) (.cons (.tup (.cons (.cst (.s "keeps" (by decide +kernel) (af _))) (.cons (.var 11) .nil))) .nil)))))) .nil))))
  (.seq (.ifs (.tst (.prm lW (.cons (.var 6) (.cons (.cst .n) .nil)))) (.drop (.mtr mS 7 (.cons (.tup (.cons (.cst (.s "closed" (by decide +kernel) (af _))) (.cons (.var 6) .nil))) .nil))) .skip)
  (.drop (.mtr mS 2 (.cons (.tup (.cons (.var 3) (.cons (.cst (.s "greatest" (by decide +kernel) (af _))) (.cons (.tup (.cons (.cst (.s "all" (by decide +kernel) (af _))) (.cons (.prm aP (.cons (.var 7) .nil)) .nil))) .nil)))) .nil)))))))
  (.ret (.tup (.cons (.prm aP (.cons (.var 2) .nil)) (.cons (.prm aP (.cons (.var 1) .nil)) .nil))))))
noncomputable def iJ:Fn:=jZ gds [.dat,.dat] 12 n6
def kz (K:Fg):Sp:=fP iJ K
noncomputable def fE:XS :=
 (.seq (.cp 3 (.call aB (.cons (.var 0) (.cons (.cst (.i 3)) .nil))))
  (.seq (.nq 4 (.lst (.cons (.tup (.cons (.cst (.s "each" (by decide +kernel) (af _))) (.cons (.cst (.i 0)) (.cons (.cst .n) (.cons (.prm ixP (.cons (.var 2) (.cons (.cst (.i 0)) .nil))) (.cons (.tup (.cons (.cst (.s "keeps" (by decide +kernel) (af _))) (.cons (.prm ixP (.cons (.var 1) (.cons (.cst (.i 0)) .nil))) .nil))) .nil)))))) .nil)))
  (.seq (.drop (.mtr mS 4 (.cons (.tup (.cons (.cst (.s "each" (by decide +kernel) (af _))) (.cons (.var 3) (.cons (.prm ixP (.cons (.lst (.cons (.cst .n) (.cons (.cst (.i 3)) .nil))) (.cons (.call aB (.cons (.var 0) (.cons (.cst (.i 2)) .nil))) .nil))) (.cons (.prm ixP (.cons (.var 2) (.cons (.cst (.i 2)) .nil))) (.cons (.tup (.cons (.cst (.s "keeps" (by decide +kernel) (af _))) (.cons (.prm ixP (.cons (.var 1) (.cons (.prm yS (.cons (.cst (.i 1)) .nil)) .nil))) .nil))) .nil)))))) .nil)))
  (.ret (.prm bE (.cons (.prm bE (.cons (.lst (.cons (.prm ixP (.cons (.lst (.cons (.tup (.cons (.cst (.s "any" (by decide +kernel) (af _))) .nil)) (.cons (.tup (.cons (.cst (.s "thing" (by decide +kernel) (af _))) .nil)) (.cons (.tup (.cons (.cst (.s "said" (by decide +kernel) (af _))) .nil)) .nil)))) (.cons (.call aB (.cons (.var 0) (.cons (.cst (.i 3)) .nil))) .nil))) .nil)) (.cons (.var 4) .nil))) (.cons (.lst (.cons (.tup (.cons (.cst (.s "closed" (by decide +kernel) (af _))) (.cons (.prm aP (.cons (.var 2) .nil)) .nil))) .nil)) .nil)))))))
noncomputable def fN:Fn:=jZ gds [.ino,.dat,.dat] 5 fE
def i8 (K:Fg):Sp:=fP fN K
noncomputable def cU:XS :=
 (.seq (.cp 3 (.prm ixP (.cons (.var 1) (.cons (.cst (.i 2)) .nil))))
  (.seq (.cp 4 (.prm bE (.cons (.cst (.i 4)) (.cons (.prm ixP (.cons (.lst (.cons (.cst (.i 0)) (.cons (.cst (.i 0)) (.cons (.cst (.i 1)) (.cons (.call aB (.cons (.var 0) (.cons (.cst (.i 57)) .nil))) .nil))))) (.cons (.call aB (.cons (.var 0) (.cons (.cst (.i 4)) .nil))) .nil))) .nil))))
  (.seq (.cp 5 (.lst (.cons (.tup (.cons (.cst (.s "many" (by decide +kernel) (af _))) (.cons (.prm ixP (.cons (.var 3) (.cons (.cst (.i 1)) .nil))) (.cons (.cst .n) (.cons (.prm ixP (.cons (.var 3) (.cons (.cst (.i 3)) .nil))) (.cons (.prm ixP (.cons (.var 3) (.cons (.cst (.i 4)) .nil))) .nil)))))) (.cons (.prm bE (.cons (.prm uY (.cons (.var 3) (.cons (.cst (.i 3)) .nil))) (.cons (.tup (.cons (.prm bE (.cons (.cst (.s "^" (by decide +kernel) (af _))) (.cons (.prm ixP (.cons (.var 3) (.cons (.cst (.i 3)) .nil))) .nil))) (.cons (.prm ixP (.cons (.var 3) (.cons (.cst (.i 4)) .nil))) .nil))) .nil))) (.cons (.prm bE (.cons (.prm uY (.cons (.var 3) (.cons (.cst (.i 4)) .nil))) (.cons (.tup (.cons (.tup (.cons (.cst (.s "any" (by decide +kernel) (af _))) .nil)) .nil)) .nil))) .nil)))))
  (.seq (.cp 5 (.prm bE (.cons (.var 5) (.cons (.lst (.cons (.prm bE (.cons (.prm uY (.cons (.var 3) (.cons (.cst (.i 4)) .nil))) (.cons (.tup (.cons (.tup (.cons (.cst (.s "all" (by decide +kernel) (af _))) (.cons (.tup (.cons (.prm ixP (.cons (.var 3) (.cons (.cst (.i 4)) .nil))) .nil)) .nil))) .nil)) .nil))) (.cons (.tup (.cons (.cst (.s "each" (by decide +kernel) (af _))) (.cons (.var 4) (.cons (.cst .n) (.cons (.prm ixP (.cons (.var 3) (.cons (.cst (.i 3)) .nil))) (.cons (.prm ixP (.cons (.var 3) (.cons (.cst (.i 4)) .nil))) .nil)))))) .nil))) .nil))))
  (.seq (.cp 5 (.prm bE (.cons (.var 5) (.cons (.lst (.cons (.tup (.cons (.cst (.s "each" (by decide +kernel) (af _))) (.cons (.prm ixP (.cons (.var 3) (.cons (.cst (.i 1)) .nil))) (.cons (.var 4) (.cons (.prm ixP (.cons (.var 3) (.cons (.cst (.i 3)) .nil))) (.cons (.prm ixP (.cons (.var 3) (.cons (.cst (.i 4)) .nil))) .nil)))))) (.cons (.prm bE (.cons (.prm uY (.cons (.var 3) (.cons (.cst (.i 3)) .nil))) (.cons (.tup (.cons (.prm ixP (.cons (.prm ixP (.cons (.var 1) (.cons (.cst (.i 1)) .nil))) (.cons (.cst (.i 3)) .nil))) (.cons (.prm ixP (.cons (.var 3) (.cons (.cst (.i 4)) .nil))) .nil))) .nil))) (.cons (.prm ixP (.cons (.var 3) (.cons (.cst (.i 4)) .nil))) (.cons (.tup (.cons (.cst (.s "any" (by decide +kernel) (af _))) .nil)) .nil))))) .nil))))
  (.ret (.prm bE (.cons (.prm bE (.cons (.prm uY (.cons (.var 1) (.cons (.cst (.i 2)) .nil))) (.cons (.lst (.cons (.prm ixP (.cons (.var 5) (.cons (.var 2) .nil))) .nil)) .nil))) (.cons (.prm yG (.cons (.var 1) (.cons (.cst (.i 3)) .nil))) .nil)))))))))
noncomputable def cV:Fn:=jZ gds [.ino,.dat,.dat] 6 cU
def fC (K:Fg):Sp:=fP cV K
noncomputable def iS:XS :=
 (.seq (.cp 3 (.call fN (.cons (.var 0) (.cons (.var 1) (.cons (.var 2) .nil)))))
  (.seq (.cp 4 (.call aB (.cons (.var 0) (.cons (.cst (.i 20)) .nil))))
  (.seq (.ifs (.tst (.prm eqP (.cons (.var 4) (.cons (.cst (.i 0)) .nil)))) (.ret (.tup (.cons (.cst (.s "least" (by decide +kernel) (af _))) (.cons (.tup (.cons (.cst (.s "all" (by decide +kernel) (af _))) (.cons (.tup (.cons (.prm ixP (.cons (.var 3) (.cons (.cst (.i 0)) .nil))) (.cons (.prm ixP (.cons (.var 3) (.cons (.cst (.i 3)) .nil))) .nil))) .nil))) .nil)))) .skip)
  (.seq (.ifs (.tst (.prm eqP (.cons (.var 4) (.cons (.cst (.i 1)) .nil)))) (.ret (.tup (.cons (.cst (.s "greatest" (by decide +kernel) (af _))) (.cons (.prm ixP (.cons (.var 3) (.cons (.cst (.i 0)) .nil))) .nil)))) .skip)
  (.seq (.ifs (.tst (.prm eqP (.cons (.var 4) (.cons (.cst (.i 2)) .nil)))) (.ret (.tup (.cons (.cst (.s "greatest" (by decide +kernel) (af _))) (.cons (.tup (.cons (.cst (.s "some" (by decide +kernel) (af _))) (.cons (.prm aP (.cons (.var 3) .nil)) .nil))) .nil)))) .skip)
  (.seq (.ifs (.tst (.prm eqP (.cons (.var 4) (.cons (.cst (.i 3)) .nil)))) (.ret (.tup (.cons (.cst (.s "greatest" (by decide +kernel) (af _))) (.cons (.tup (.cons (.cst (.s "all" (by decide +kernel) (af _))) (.cons (.tup .nil) .nil))) .nil)))) .skip)
  (.seq (.ifs (.tst (.prm eqP (.cons (.var 4) (.cons (.cst (.i 4)) .nil)))) (.ret (.tup (.cons (.cst (.s "greatest" (by decide +kernel) (af _))) (.cons (.tup (.cons (.cst (.s "all" (by decide +kernel) (af _))) (.cons (.tup (.cons (.tup (.cons (.cst (.s "from" (by decide +kernel) (af _))) (.cons (.cst (.i 0)) .nil))) (.cons (.prm ixP (.cons (.var 3) (.cons (.cst (.i 1)) .nil))) .nil))) .nil))) .nil)))) .skip)
  (.seq (.ifs (.tst (.prm eqP (.cons (.var 4) (.cons (.cst (.i 5)) .nil)))) (.ret (.tup (.cons (.cst (.s "greatest" (by decide +kernel) (af _))) (.cons (.tup (.cons (.cst (.s "all" (by decide +kernel) (af _))) (.cons (.prm aP (.cons (.prm yG (.cons (.var 3) (.cons (.cst (.i 1)) .nil))) .nil)) .nil))) .nil)))) .skip)
  (.seq (.ifs (.tst (.prm eqP (.cons (.var 4) (.cons (.cst (.i 6)) .nil)))) (.ret (.tup (.cons (.cst (.s "greatest" (by decide +kernel) (af _))) (.cons (.tup (.cons (.cst (.s "all" (by decide +kernel) (af _))) (.cons (.prm bE (.cons (.tup (.cons (.tup (.cons (.cst (.s "is" (by decide +kernel) (af _))) (.cons (.cst (.s "ann" (by decide +kernel) (af _))) .nil))) .nil)) (.cons (.prm aP (.cons (.prm yG (.cons (.var 3) (.cons (.cst (.i 1)) .nil))) .nil)) .nil))) .nil))) .nil)))) .skip)
  (.seq (.ifs (.tst (.prm eqP (.cons (.var 4) (.cons (.cst (.i 7)) .nil)))) (.ret (.tup (.cons (.cst (.s "greatest" (by decide +kernel) (af _))) (.cons (.tup (.cons (.cst (.s "all" (by decide +kernel) (af _))) (.cons (.tup (.cons (.prm ixP (.cons (.var 3) (.cons (.cst (.i 0)) .nil))) (.cons (.prm ixP (.cons (.var 3) (.cons (.cst (.i 2)) .nil))) (.cons (.prm ixP (.cons (.var 3) (.cons (.cst (.i 1)) .nil))) (.cons (.prm ixP (.cons (.var 3) (.cons (.cst (.i 3)) .nil))) .nil))))) .nil))) .nil)))) .skip)
  (.seq (.ifs (.tst (.prm eqP (.cons (.var 4) (.cons (.cst (.i 8)) .nil)))) (.seq (.cp 5 (.cmp [1] (.lst (.var 2)) .yes (.tup (.cons (.cst (.s "each" (by decide +kernel) (af _))) (.cons (.cst (.i 0)) (.cons (.cst .n) (.cons (.var 0) (.cons (.tup (.cons (.cst (.s "keeps" (by decide +kernel) (af _))) (.cons (.prm ixP (.cons (.var 1) (.cons (.cst (.i 0)) .nil))) .nil))) .nil))))))))
  (.seq (.cp 5 (.prm bE (.cons (.var 5) (.cons (.prm uY (.cons (.lst (.cons (.tup (.cons (.cst (.s "closed" (by decide +kernel) (af _))) (.cons (.tup .nil) .nil))) .nil)) (.cons (.call aB (.cons (.var 0) (.cons (.cst (.i 2)) .nil))) .nil))) .nil))))
  (.ret (.tup (.cons (.cst (.s "greatest" (by decide +kernel) (af _))) (.cons (.tup (.cons (.cst (.s "all" (by decide +kernel) (af _))) (.cons (.prm bE (.cons (.tup (.cons (.prm ixP (.cons (.var 3) (.cons (.cst (.i 0)) .nil))) .nil)) (.cons (.prm aP (.cons (.var 5) .nil)) .nil))) .nil))) .nil)))))) .skip)
  (.seq (.ifs (.tst (.prm eqP (.cons (.var 4) (.cons (.cst (.i 9)) .nil)))) (.ret (.tup (.cons (.cst (.s "greatest" (by decide +kernel) (af _))) (.cons (.tup (.cons (.cst (.s "all" (by decide +kernel) (af _))) (.cons (.tup (.cons (.prm ixP (.cons (.var 3) (.cons (.cst (.i 0)) .nil))) (.cons (.prm ixP (.cons (.var 3) (.cons (.cst (.i 3)) .nil))) (.cons (.prm ixP (.cons (.var 3) (.cons (.cst (.i 1)) .nil))) .nil)))) .nil))) .nil)))) .skip)
  (.seq (.ifs (.tst (.prm eqP (.cons (.var 4) (.cons (.cst (.i 10)) .nil)))) (.ret (.tup (.cons (.cst (.s "greatest" (by decide +kernel) (af _))) (.cons (.tup (.cons (.cst (.s "all" (by decide +kernel) (af _))) (.cons (.prm bE (.cons (.prm aP (.cons (.var 3) .nil)) (.cons (.prm ixP (.cons (.lst (.cons (.tup (.cons (.tup (.cons (.cst (.s "any" (by decide +kernel) (af _))) .nil)) .nil)) (.cons (.tup (.cons (.prm ixP (.cons (.var 3) (.cons (.cst (.i 3)) .nil))) .nil)) .nil))) (.cons (.call aB (.cons (.var 0) (.cons (.cst (.i 2)) .nil))) .nil))) .nil))) .nil))) .nil)))) .skip)
  (.ret (.tup (.cons (.cst (.s "greatest" (by decide +kernel) (af _))) (.cons (.tup (.cons (.cst (.s "all" (by decide +kernel) (af _))) (.cons (.prm aP (.cons (.call cV (.cons (.var 0) (.cons (.var 3) (.cons (.prm zc (.cons (.var 4) (.cons (.cst (.i 11)) .nil))) .nil)))) .nil)) .nil))) .nil)))))))))))))))))
noncomputable def eU:Fn:=jZ gds [.ino,.dat,.dat] 6 iS
def gq (K:Fg):Sp:=fP eU K
noncomputable def gy:XS :=
 (.ret (.prm xS (.cons (.call cn (.cons (.var 0) .nil)) .nil)))
noncomputable def fi:Fn:=jZ gds [.dat] 3 gy
def gL (K:Fg):Sp:=fP fi K
noncomputable def nJ:XS :=
 (.seq (.cp 2 (.call fY (.cons (.var 0) (.cons (.prm ixP (.cons (.lst (.cons (.cst (.i 0)) (.cons (.cst (.i 5)) (.cons (.cst (.i 6)) (.cons (.cst (.i 7)) .nil))))) (.cons (.call aB (.cons (.var 0) (.cons (.cst (.i 4)) .nil))) .nil))) .nil))))
  (.seq (.nq 3 (.prm qZ (.cons (.prm ixP (.cons (.call iJ (.cons (.call iE (.cons (.var 0) (.cons (.var 2) (.cons (.var 1) .nil)))) (.cons (.lst .nil) .nil))) (.cons (.cst (.i 0)) .nil))) .nil)))
  (.seq (.cp 4 (.cmp [] (.lst (.prm uY (.cons (.var 2) (.cons (.call aB (.cons (.var 0) (.cons (.cst (.i 2)) .nil))) .nil)))) .yes (.tup (.cons (.cst (.s "kind" (by decide +kernel) (af _))) (.cons (.cst (.s "thing" (by decide +kernel) (af _))) (.cons (.var 0) .nil))))))
  (.seq (.ifs (.and (.tst (.prm neP (.cons (.var 3) (.cons (.lst .nil) .nil)))) (.tst (.prm eqP (.cons (.call aB (.cons (.var 0) (.cons (.cst (.i 2)) .nil))) (.cons (.cst (.i 0)) .nil))))) (.seq (.cp 5 (.call aB (.cons (.var 0) (.cons (.prm gE (.cons (.var 3) .nil)) .nil))))
  (.sto uC 3 (.var 5) (.prm bE (.cons (.tup (.cons (.prm ixP (.cons (.var 2) (.cons (.var 5) .nil))) .nil)) (.cons (.call eU (.cons (.var 0) (.cons (.var 2) (.cons (.var 1) .nil)))) .nil))))) .skip)
  (.ret (.tup (.cons (.prm aP (.cons (.var 3) .nil)) (.cons (.prm aP (.cons (.var 4) .nil)) .nil))))))))
noncomputable def oH:Fn:=jZ gds [.ino,.dat] 6 nJ
def tE (K:Fg):Sp:=fP oH K
noncomputable def rL:XS :=
 (.seq (.nq 1 (.call qV (.cons (.var 0) .nil)))
  (.seq (.cp 2 (.prm ki (.cons (.call fY (.cons (.var 1) (.cons (.cst (.i 4)) .nil))) .nil)))
  (.seq (.fr 3 (.rng1 (.cons (.cst (.i 6)) .nil)) (.seq (.ifs (.tst (.prm neP (.cons (.call fi (.cons (.call oH (.cons (.var 1) (.cons (.var 2) .nil))) .nil)) (.cons (.lst (.cons (.cst .n) .nil)) .nil)))) (.ret (.cst (.b false))) .skip)
  (.seq (.cp 4 (.call fY (.cons (.var 1) (.cons (.prm bE (.cons (.cst (.i 1)) (.cons (.call aB (.cons (.var 1) (.cons (.cst (.i 4)) .nil))) .nil))) .nil))))
  (.seq (.cp 5 (.call iE (.cons (.var 1) (.cons (.var 4) (.cons (.var 2) .nil)))))
  (.seq (.nq 6 (.prm qZ (.cons (.prm ixP (.cons (.call iJ (.cons (.var 5) (.cons (.lst .nil) .nil))) (.cons (.cst (.i 0)) .nil))) .nil)))
  (.seq (.cp 7 (.call aB (.cons (.var 1) (.cons (.prm gE (.cons (.var 4) .nil)) .nil))))
  (.seq (.ifs (.tst (.prm eqP (.cons (.call aB (.cons (.var 1) (.cons (.cst (.i 2)) .nil))) (.cons (.cst (.i 0)) .nil)))) (.sto uC 6 (.prm yS (.cons (.cst (.i 1)) .nil)) (.prm bE (.cons (.tup (.cons (.prm ixP (.cons (.var 4) (.cons (.prm yS (.cons (.cst (.i 1)) .nil)) .nil))) .nil)) (.cons (.call eU (.cons (.var 1) (.cons (.var 4) (.cons (.var 2) .nil)))) .nil)))) .skip)
  (.seq (.sto uC 6 (.var 7) (.prm bE (.cons (.tup (.cons (.prm ixP (.cons (.var 4) (.cons (.var 7) .nil))) .nil)) (.cons (.call eU (.cons (.var 1) (.cons (.var 4) (.cons (.var 2) .nil)))) .nil))))
  (.seq (.ifs (.tst (.prm neP (.cons (.call fi (.cons (.tup (.cons (.prm aP (.cons (.var 6) .nil)) (.cons (.tup (.cons (.tup (.cons (.cst (.s "node" (by decide +kernel) (af _))) (.cons (.cst (.i 7)) (.cons (.prm ixP (.cons (.var 4) (.cons (.cst (.i 0)) .nil))) .nil)))) .nil)) .nil))) .nil)) (.cons (.lst (.cons (.prm ixP (.cons (.var 4) (.cons (.var 7) .nil))) .nil)) .nil)))) (.ret (.cst (.b false))) .skip)
  (.ifs (.tst (.prm C2 (.cons (.call cn (.cons (.call iJ (.cons (.var 5) (.cons (.lst (.cons (.tup (.cons (.cst (.s "node" (by decide +kernel) (af _))) (.cons (.cst (.i 7)) (.cons (.prm ixP (.cons (.var 4) (.cons (.cst (.i 0)) .nil))) .nil)))) .nil)) .nil))) .nil)) (.cons (.var 5) .nil)))) (.ret (.cst (.b false))) .skip))))))))))
  (.ret (.cst (.b true))))))
noncomputable def v8:Fn:=jZ gds [.dat] 8 rL
def tV (K:Fg):Sp:=fP v8 K
abbrev kW (P:Program) (w:World) (K:Fg) (mg:Str->Option Value) (base:Heap) (t:Adr):=fK P w K mg base CX0 1 t.gi t.kQ ["form"] (mX K)
abbrev gO (P:Program) (w:World) (K:Fg) (mg:Str->Option Value) (base:Heap) (t:Adr):=fK P w K mg base CX0 1 t.cX t.gx ["rows"] (iH K)
abbrev iR (P:Program) (w:World) (K:Fg) (mg:Str->Option Value) (base:Heap) (t:Adr):=fK P w K mg base CX0 2 t.eL t.jn ["shape"] (j7 K)
noncomputable abbrev cZ (P:Program) (w:World) (K:Fg) (mg:Str->Option Value) (base:Heap) (t:Adr):=fK P w K mg base (CX2 P w) 5 t.de t.gN ["book"] (spP cn t.au "name" K)
abbrev yY (P:Program) (w:World) (K:Fg) (mg:Str->Option Value) (base:Heap) (t:Adr):=fK P w K mg base CX0 1 t.rG t.yL ["_law_script"] (wq K)
abbrev cA (P:Program) (w:World) (K:Fg) (mg:Str->Option Value) (base:Heap) (t:Adr):=fK P w K mg base CX0 1 t.lH t.sd ["_law_pen_here", "_law_many_here"] (aD K)
abbrev jy (P:Program) (w:World) (K:Fg) (mg:Str->Option Value) (base:Heap) (t:Adr):=fK P w K mg base CX0 2 t.iZ t.ou ["_law_pen_here", "_law_many_here"] (iB K)
abbrev rz (P:Program) (w:World) (K:Fg) (mg:Str->Option Value) (base:Heap) (t:Adr):=fK P w K mg base CX0 2 t.lB t.ub ["_law_pen_here", "_law_names_here", "_law_bonds"] (tN K)
abbrev iV (P:Program) (w:World) (K:Fg) (mg:Str->Option Value) (base:Heap) (t:Adr):=fK P w K mg base CX0 3 t.jl t.oz ["_law_pen_here", "_law_names_here", "_law_bonds"] (kT K)
abbrev lN (P:Program) (w:World) (K:Fg) (mg:Str->Option Value) (base:Heap) (t:Adr):=fK P w K mg base CX0 1 t.lZ t.tP ["_law_rungs_here", "_law_debts"] (kz K)
abbrev gJ (P:Program) (w:World) (K:Fg) (mg:Str->Option Value) (base:Heap) (t:Adr):=fK P w K mg base CX0 2 t.dq t.gP ["_law_pen_here", "_law_names_here", "_law_bonds"] (i8 K)
abbrev dX (P:Program) (w:World) (K:Fg) (mg:Str->Option Value) (base:Heap) (t:Adr):=fK P w K mg base CX0 2 t.b6 t.d5 ["_law_pen_here", "_law_parts", "_law_way"] (fC K)
abbrev fX (P:Program) (w:World) (K:Fg) (mg:Str->Option Value) (base:Heap) (t:Adr):=fK P w K mg base CX0 3 t.gk t.kS ["_law_pen_here", "_law_names_here", "_law_bonds"] (gq K)
abbrev ju (P:Program) (w:World) (K:Fg) (mg:Str->Option Value) (base:Heap) (t:Adr):=fK P w K mg base CX0 6 t.eM t.iU ["_law_book_here"] (gL K)
abbrev rQ (P:Program) (w:World) (K:Fg) (mg:Str->Option Value) (base:Heap) (t:Adr):=fK P w K mg base CX0 4 t.mU t.qX ["_law_pen_here", "_law_bonds"] (tE K)
abbrev Fy (P:Program) (w:World) (K:Fg) (mg:Str->Option Value) (base:Heap) (t:Adr):=fK P w K mg base CX0 7 t.lY t.nt ["_law_script"] (tV K)
section
variable {P:Program} {w:World} {K:Fg} {mg:Str->Option Value} {base:Heap} {t:Adr} {n:Nat} {cdv:Value} {A:Around} {outer:List Env} {s:Shared} {H:Hp} {E:XK}
def jz (K:Fg) (t:Adr):TS :=
 (aT (dQ (tOr (bf (tOp (fun x y=>neP.r K [x,y]) (tOp (fun x y=>ixP.r K [x,y]) (ag 0) (tC (.int 0))) (tC (.str "each")))) (tOr (tB (tBM K nP.T (nP.r K) (tOp (fun x y=>ixP.r K [x,y]) (ag 0) (tC (.int 3))) (aa (tC (.str "^")) aj))) (bf (tOp (fun x y=>neP.r K [x,y]) (tOp (fun x y=>ixP.r K [x,y]) (tOp (fun x y=>ixP.r K [x,y]) (ag 0) (tC (.int 4))) (tC (.int 0))) (tC (.str "keeps")))))) (cC (tC .non)) bB)
  (aT (bF (tOp (fun x y=>ixP.r K [x,y]) (ag 0) (tC (.int 1))) (ar 1))
  (aT (bF (tOp (fun x y=>ixP.r K [x,y]) (ag 0) (tC (.int 2))) (ar 2))
  (aT (dQ (tOr (bf (tOp (fun x y=>gtP.r K [x,y]) (ag 1) (tC (.int 3)))) (yB (bf (tOp (fun x y=>lW.r K [x,y]) (ag 2) (tC .non))) (bf (tOp (fun x y=>gtP.r K [x,y]) (ag 2) (tC (.int 3)))))) (cC (tC .non)) bB)
  (cC (br (aa (tOp (fun x y=>ixP.r K [x,y]) (ag 0) (tC (.int 3))) (aa (ag 1) (aa (ag 2) (aa (tOp (fun x y=>ixP.r K [x,y]) (tOp (fun x y=>ixP.r K [x,y]) (ag 0) (tC (.int 4))) (tC (.int 1))) aj))))))))))
theorem qH (T:Txt K mg t) (hr:cP 0 (A.deeper (envOfC "row_of" (ae aZ) s.heap.objs.size t.gi cdv))):JSs (iu CX0 P w K mg base ["form", "low", "high"] "row_of" (ae aZ) t.gi cdv A outer s H E).nox (ak aZ) (jz K t):=by
 unfold jz;refine ba ?_ ?_
 ·refine fm ?_ ?_ ?_
  ·exact (eW (vZ (bu (gW hr.units) (eIx ai (ah 0 rfl (Or.inl rfl) rfl rfl) aq (fun _ _=>rfl)) bh (aK _)) (vZ (wu (eBM (eIx ai (ah 0 rfl (Or.inl rfl) rfl rfl) aq (fun _ _=>rfl)) (eA bh ao rfl) tD PySem.F.plainAttrs_str PySem.F.slot_str_startswith PySem.F.type_str_startswith rfl rfl rfl rfl rfl) (fun _=>rfl)) (nY (bu (gW hr.units) (eIx ai (eIx ai (ah 0 rfl (Or.inl rfl) rfl rfl) aq (fun _ _=>rfl)) aq (fun _ _=>rfl)) bh (aK _))))))
  ·refine b7 ?_;exact (dB j6)
  ·exact fw
 ·refine ba ?_ ?_
  ·refine b8 (i:=1) ?_ jk.nd rfl (Or.inl rfl) rfl (Or.inl rfl);exact (eIx ai (ah 0 rfl (Or.inl rfl) rfl rfl) aq (fun _ _=>rfl))
  ·refine ba ?_ ?_
   ·refine b8 (i:=2) ?_ jk.nd rfl (Or.inl rfl) rfl (Or.inl rfl);exact (eIx ai (ah 0 rfl (Or.inl rfl) rfl rfl) aq (fun _ _=>rfl))
   ·refine ba ?_ ?_
    ·refine fm ?_ ?_ ?_
     ·exact (eW (vZ (bu hG (ah 1 rfl (Or.inl rfl) rfl rfl) (fL (v:=.int 3) rfl T.g_MOST_COUNTED ⟨_,rfl⟩ rfl) (aK _)) (nY (eW (uU (bu lD (ah 2 rfl (Or.inl rfl) rfl rfl) j6 (aK _)) (pI (bu hG (ah 2 rfl (Or.inl rfl) rfl rfl) (fL (v:=.int 3) rfl T.g_MOST_COUNTED ⟨_,rfl⟩ rfl) (aK _))))))))
     ·refine b7 ?_;exact (dB j6)
     ·exact fw
    ·refine b7 ?_;exact (dB (bw (eA (eIx ai (ah 0 rfl (Or.inl rfl) rfl rfl) aq (fun _ _=>rfl)) (eA (ah 1 rfl (Or.inl rfl) rfl rfl) (eA (ah 2 rfl (Or.inl rfl) rfl rfl) (eA (eIx ai (eIx ai (ah 0 rfl (Or.inl rfl) rfl rfl) aq (fun _ _=>rfl)) aq (fun _ _=>rfl)) ao rfl) rfl) rfl) rfl)))
theorem rn (T:Txt K mg t):kW P w K mg base t :=
 T.pw.okJ jk (fun vs H Q E h=>bt h) (fun cdv A outer s H vs Q E hr h=>⟨_,qH T hr,by rw [show jz K t=rS K (gav t) bH from rfl];exact bQ (N:=["form", "low", "high"]) (fu T) h (by decide)⟩)
def fM (K:Fg) (t:Adr):TS :=
 (aT (dQ (tOr (bf (tOp (fun x y=>gtP.r K [x,y]) (tCB (gE.r K) (aa (ag 0) aj)) (tC (.int 3)))) (bf (tOp (fun x y=>inP.r K [x,y]) (tC .non) (ag 0)))) (cC (tC (.bl false))) bB)
  (aT (bF (i6 [] (ij K (ag 0)) wL (tOp (fun x y=>ixP.r K [x,y]) (ag 0) (tC (.int 0)))) (ar 1))
  (cC (tOp (fun x y=>eqP.r K [x,y]) (ag 1) (tCB (vG.r K) (aa (ag 1) aj))))))
theorem lV (T:Txt K mg t) (hr:cP 0 (A.deeper (envOfC "are_rows" (ae aE) s.heap.objs.size t.cX cdv))):JSs (iu CX0 P w K mg base ["rows", "bonds"] "are_rows" (ae aE) t.cX cdv A outer s H E).nox (ak aE) (fM K t):=by
 unfold fM;refine ba ?_ ?_
 ·refine fm ?_ ?_ ?_
  ·exact (eW (vZ (bu hG (eB cf rfl T.z_len (by decide +kernel) (eA (ah 0 rfl (Or.inl rfl) rfl rfl) ao rfl) rfl rfl (by decide) rfl) (fL (v:=.int 3) rfl T.g_MOST_ROWS ⟨_,rfl⟩ rfl) (aK _)) (nY (bu (wB hr.units) j6 (ah 0 rfl (Or.inl rfl) rfl rfl) (by with_unfolding_all rfl)))))
  ·refine b7 ?_;exact (dB eBl)
  ·exact fw
 ·refine ba ?_ ?_
  ·exact (u5 (i:=1) [] (eIL (ah 0 rfl (Or.inl rfl) rfl rfl)) eT0 (eC fun _ _ _ _=>(eIx ai (ah 0 rfl (Or.inl rfl) rfl rfl) aq (fun _ _=>rfl))) i0.nd rfl rfl rfl rfl (bsc (sc:=ae aE) rfl (by decide +kernel)) (by decide +kernel) trivial (fun _=>rfl))
  ·refine b7 ?_;exact (dB (Gd (cb hr.units) (ah 1 rfl (Or.inl rfl) rfl rfl) (eSS rfl rfl T.z_sorted rfl T.z_set rfl (ah 1 rfl (Or.inl rfl) rfl rfl)) (aK _)))
theorem n5 (T:Txt K mg t):gO P w K mg base t :=
 T.jS.okJ i0 (fun vs H Q E h=>bt h) (fun cdv A outer s H vs Q E hr h=>⟨_,lV T hr,by rw [show fM K t=rS K (gav t) cm from rfl];exact bQ (N:=["rows", "bonds"]) (fu T) h (by decide)⟩)
def gA (K:Fg) (t:Adr):TS :=
 (aT (bF (tOp (fun x y=>ixP.r K [x,y]) (ag 0) (tC (.int 2))) (ar 1))
  (aT (dQ (tOr (bf (tOp (fun x y=>neP.r K [x,y]) (tOp (fun x y=>ixP.r K [x,y]) (ag 0) (tC (.int 1))) (tC (.str "greatest")))) (tOr (bf (tOp (fun x y=>neP.r K [x,y]) (tOp (fun x y=>ixP.r K [x,y]) (ag 1) (tC (.int 0))) (tC (.str "all")))) (bf (tOp (fun x y=>eqP.r K [x,y]) (tCB (gE.r K) (aa (tOp (fun x y=>ixP.r K [x,y]) (ag 1) (tC (.int 1))) aj)) (tC (.int 0)))))) (cC (tC .non)) bB)
  (aT (bF (tOp (fun x y=>ixP.r K [x,y]) (tOp (fun x y=>ixP.r K [x,y]) (tOp (fun x y=>ixP.r K [x,y]) (ag 1) (tC (.int 1))) (tC (.int 0))) (tC (.int 0))) (ar 2))
  (aT (bF (tOp (fun x y=>eqP.r K [x,y]) (tOp (fun x y=>ixP.r K [x,y]) (tOp (fun x y=>ixP.r K [x,y]) (tOp (fun x y=>ixP.r K [x,y]) (ag 1) (tC (.int 1))) (tUn (rU fun i=>.int (-i)) (tC (.int 1)))) (tC (.int 0))) (tC (.str "closed"))) (ar 3))
  (aT (bF (tIf (tB (ag 3)) (tSl (fo mz (fo (mI K) (mr K))) (tOp (fun x y=>ixP.r K [x,y]) (ag 1) (tC (.int 1))) (eE (tC (.int 1))) (eE (tUn (rU fun i=>.int (-i)) (tC (.int 1))))) (tSl (fo mz (fo (mI K) (mr K))) (tOp (fun x y=>ixP.r K [x,y]) (ag 1) (tC (.int 1))) (eE (tC (.int 1))) bR)) (ar 4))
  (aT (bF (i6 [] (xu K (ag 4)) wL (aJ (mX K) [] E0 (aa (ag 0) aj))) (ar 5))
  (aT (dQ (tOr (bf (tOp (fun x y=>pV.r K [x,y]) (ag 2) (tC (.ref t.cy)))) (xa (tB (aJ (iH K) [] E0 (aa (ag 5) aj))))) (cC (tC .non)) bB)
  (cC (br (aa (tOp (fun x y=>ixP.r K [x,y]) (ag 0) (tC (.int 0))) (aa (ag 2) (aa (tCB (aP.r K) (aa (ag 5) aj)) (aa (tIf (tB (ag 3)) (tOp (fun x y=>ixP.r K [x,y]) (tOp (fun x y=>ixP.r K [x,y]) (tOp (fun x y=>ixP.r K [x,y]) (ag 1) (tC (.int 1))) (tUn (rU fun i=>.int (-i)) (tC (.int 1)))) (tC (.int 1))) (tC .non)) aj)))))))))))))
theorem oJ (T:Txt K mg t) (G_row_of:kW P w K mg base t) (G_are_rows:gO P w K mg base t) (hr:cP 1 (A.deeper (envOfC "rung_of" (ae aL) s.heap.objs.size t.eL cdv))):JSs (iu CX0 P w K mg base ["shape", "form", "kind", "has_closed_last", "middle", "rows"] "rung_of" (ae aL) t.eL cdv A outer s H E).nox (ak aL) (gA K t):=by
 unfold gA;refine ba ?_ ?_
 ·refine b8 (i:=1) ?_ cE.nd rfl (Or.inl rfl) rfl (Or.inl rfl);exact (eIx ai (ah 0 rfl (Or.inl rfl) rfl rfl) aq (fun _ _=>rfl))
 ·refine ba ?_ ?_
  ·refine fm ?_ ?_ ?_
   ·exact (eW (vZ (bu (gW hr.units) (eIx ai (ah 0 rfl (Or.inl rfl) rfl rfl) aq (fun _ _=>rfl)) bh (aK _)) (vZ (bu (gW hr.units) (eIx ai (ah 1 rfl (Or.inl rfl) rfl rfl) aq (fun _ _=>rfl)) bh (aK _)) (nY (bu (cb hr.units) (eB cf rfl T.z_len (by decide +kernel) (eA (eIx ai (ah 1 rfl (Or.inl rfl) rfl rfl) aq (fun _ _=>rfl)) ao rfl) rfl rfl (by decide) rfl) aq (aK _))))))
   ·refine b7 ?_;exact (dB j6)
   ·exact fw
  ·refine ba ?_ ?_
   ·refine b8 (i:=2) ?_ cE.nd rfl (Or.inl rfl) rfl (Or.inl rfl);exact (eIx ai (eIx ai (eIx ai (ah 1 rfl (Or.inl rfl) rfl rfl) aq (fun _ _=>rfl)) aq (fun _ _=>rfl)) aq (fun _ _=>rfl))
   ·refine ba ?_ ?_
    ·refine b8 (i:=3) ?_ cE.nd rfl (Or.inl rfl) rfl (Or.inl rfl);exact (Gd (cb hr.units) (eIx ai (eIx ai (eIx ai (ah 1 rfl (Or.inl rfl) rfl rfl) aq (fun _ _=>rfl)) (eUn jP aq) (fun _ _=>rfl)) aq (fun _ _=>rfl)) bh (aK _))
    ·refine ba ?_ ?_
     ·refine b8 (i:=4) ?_ cE.nd rfl (Or.inl rfl) rfl (Or.inl rfl);exact (eIf (wu (ah 3 rfl (Or.inl rfl) rfl rfl) (fun _=>rfl)) (eSl (orS cG (orS bW cH)) (eIx ai (ah 1 rfl (Or.inl rfl) rfl rfl) aq (fun _ _=>rfl)) (eP aq) (eP (eUn jP aq))) (eSl (orS cG (orS bW cH)) (eIx ai (ah 1 rfl (Or.inl rfl) rfl rfl) aq (fun _ _=>rfl)) (eP aq) o6))
     ·refine ba ?_ ?_
      ·exact (u5 (i:=5) [] (eIT (ah 4 rfl (Or.inl rfl) rfl rfl)) eT0 (eC fun _ _ _ _=>(aS G_row_of (hr.mono (by omega)) rfl T.u0 T.pw.kp T.vi .nil aQ (eA (ah 0 rfl (Or.inl rfl) rfl rfl) ao rfl) rfl rfl rfl)) cE.nd rfl rfl rfl rfl (bsc (sc:=ae aL) rfl (by decide +kernel)) (by decide +kernel) trivial (fun _=>rfl))
      ·refine ba ?_ ?_
       ·refine fm ?_ ?_ ?_
        ·exact (eW (vZ (bu (uk hr.units) (ah 2 rfl (Or.inl rfl) rfl rfl) (fL (v:=.ref t.cy) rfl T.g_KIND_WORDS rfl rfl) (by with_unfolding_all rfl)) (nY (tG (wu (aS G_are_rows (hr.mono (by omega)) rfl T.qt T.jS.kp T.qJ .nil aQ (eA (ah 5 rfl (Or.inl rfl) rfl rfl) ao rfl) rfl rfl rfl) (fun _=>rfl))))))
        ·refine b7 ?_;exact (dB j6)
        ·exact fw
       ·refine b7 ?_;exact (dB (bw (eA (eIx ai (ah 0 rfl (Or.inl rfl) rfl rfl) aq (fun _ _=>rfl)) (eA (ah 2 rfl (Or.inl rfl) rfl rfl) (eA (eTy aR rfl T.z_tuple (by decide +kernel) (eA (ah 5 rfl (Or.inl rfl) rfl rfl) ao rfl) rfl rfl (by decide) rfl) (eA (eIf (wu (ah 3 rfl (Or.inl rfl) rfl rfl) (fun _=>rfl)) (eIx ai (eIx ai (eIx ai (ah 1 rfl (Or.inl rfl) rfl rfl) aq (fun _ _=>rfl)) (eUn jP aq) (fun _ _=>rfl)) aq (fun _ _=>rfl)) j6) ao rfl) rfl) rfl) rfl)))
theorem qu (T:Txt K mg t) (G_row_of:kW P w K mg base t) (G_are_rows:gO P w K mg base t):iR P w K mg base t :=
 T.lU.okJ cE (fun vs H Q E h=>bt h) (fun cdv A outer s H vs Q E hr h=>⟨_,oJ T G_row_of G_are_rows hr,by rw [show gA K t=rS K (gav t) ck from rfl];exact bQ (N:=["shape", "form", "kind", "has_closed_last", "middle", "rows"]) (fu T) h (by decide)⟩)
def fH (K:Fg) (t:Adr):TS :=
 (aT (dQ (xa (bf (oZ (fun x y=>leP.r K [x,y]) (fun x y=>leP.r K [x,y]) (tC (.int 1)) (tCB (gE.r K) (aa (tOp (fun x y=>ixP.r K [x,y]) (ag 0) (tC (.int 0))) aj)) (tC (.int 4))))) (cC (tCB (zE.r K) (aa (tC .non) aj))) bB)
  (aT (bF (eJ aj) (ar 1))
  (aT (qh (xu K (tOp (fun x y=>ixP.r K [x,y]) (ag 0) (tC (.int 0)))) (ar 2) (aT (bF (aJ (j7 K) [] E0 (aa (ag 2) aj)) (ar 3))
  (aT (dQ (bf (tOp (fun x y=>isP.r K [x,y]) (ag 3) (tC .non))) (cC (tCB (zE.r K) (aa (tOp (fun x y=>ixP.r K [x,y]) (ag 2) (tC (.int 0))) aj))) bB)
  (gM (tBM K "list" (mS.r K) (ag 1) (aa (ag 3) aj))))))
  (aT (gM (tCB (nlP.r K) (aa (ag 1) aj))) (cC (ag 1))))))
theorem my (T:Txt K mg t) (G_rung_of:iR P w K mg base t) (hr:cP 4 (A.deeper (envOfC "rungs_of" (ae aI) s.heap.objs.size t.de cdv))):JSs (iu (CX2 P w) P w K mg base ["book", "rungs", "shape", "rung"] "rungs_of" (ae aI) t.de cdv A outer s H E) (ak aI) (JZ E t.au "name" (fH K t)):=by
 unfold fH;refine sP ?_ ?_
 ·refine AH ?_ ?_ ?_
  ·exact (tG (yq xw xw aq (eB cf rfl T.z_len (by decide +kernel) (eA (eIx ai (ah 0 rfl (Or.inl rfl) rfl rfl) aq (fun _ _=>rfl)) ao rfl) rfl rfl (by decide) rfl) (fL (v:=.int 4) rfl T.g_MOST_SHAPES ⟨_,rfl⟩ rfl) (by with_unfolding_all rfl)))
  ·refine vt ?_;exact (pj (gY T) (hr.mono (by omega)) rfl T.fb rfl j6 rfl rfl z5 xo)
  ·exact AX
 ·refine sP ?_ ?_
  ·refine xN ?_ fun _=>rfl;refine b8 (i:=1) ?_ d6.nd rfl (Or.inl rfl) rfl (Or.inl rfl);exact (fB ao)
  ·refine sP ?_ ?_
   ·refine Cj ?_ (eGN (i:=2) d6.nd rfl (Or.inl rfl) (Or.inl rfl)) ?_ PassesOwn.leaving rfl (fun _=>rfl)
    ·exact (eIT (eIx ai (ah 0 rfl (Or.inl rfl) rfl rfl) aq (fun _ _=>rfl)))
    ·refine sP ?_ ?_
     ·refine xN ?_ fun _=>rfl;refine b8 (i:=3) ?_ d6.nd rfl (Or.inl rfl) rfl (Or.inl rfl);exact (aS G_rung_of (hr.mono (by omega)) rfl T.sX T.lU.kp T.uB .nil aQ (eA (ah 2 rfl (Or.inl rfl) rfl rfl) ao rfl) rfl rfl rfl)
     ·refine sP ?_ ?_
      ·refine AH ?_ ?_ ?_
       ·exact (bu zZ (ah 3 rfl (Or.inl rfl) rfl rfl) j6 (aK _))
       ·refine vt ?_;exact (pj (gY T) (hr.mono (by omega)) rfl T.fb rfl (eIx ai (ah 2 rfl (Or.inl rfl) rfl rfl) aq (fun _ _=>rfl)) rfl rfl z5 xo)
       ·exact AX
      ·refine vt ?_;refine xN ?_ fun _=>rfl;exact (lR (eBM (ah 1 rfl (Or.inl rfl) rfl rfl) (eA (ah 3 rfl (Or.inl rfl) rfl rfl) ao rfl) cw Ih Ic Ib rfl rfl rfl rfl rfl) rfl)
   ·refine vt ?_;exact (zt (ah 1 rfl (Or.inl rfl) rfl rfl))
theorem oj (T:Txt K mg t) (G_rung_of:iR P w K mg base t):cZ P w K mg base t :=
 T.gQ.okP d6 (fun vs H Q E h=>bt h) (fun cdv A outer s H vs Q E hr h=>⟨_,my T G_rung_of hr,fun _ _=>rfl,by rw [show fH K t=rS K (gav t) cK from rfl];exact bQ (N:=["book", "rungs", "shape", "rung"]) (fu T) h (by decide)⟩)
def rC (K:Fg) (t:Adr):TS :=
 (cC (pM (((tC (.str "script")),(ag 0)) :: (((tC (.str "at")),(tC (.int 0))) :: (((tC (.str "left")),(tC (.int 0))) :: [])))))
theorem xB (T:Txt K mg t) (hr:cP 0 (A.deeper (envOfC "_law_pen" (ae cg) s.heap.objs.size t.rG cdv))):JSs (iu CX0 P w K mg base ["_law_script"] "_law_pen" (ae cg) t.rG cdv A outer s H E).nox (ak cg) (rC K t):=by
 unfold rC;refine b7 ?_;exact (dB (AM (ePC bh (ah 0 rfl (Or.inl rfl) rfl rfl) (ePC bh aq (ePC bh aq ePN))) (by rfl) (by rfl) (by simp) (by decide)))
theorem z4 (T:Txt K mg t):yY P w K mg base t :=
 T.Ce.okJ B4 (fun vs H Q E h=>bt h) (fun cdv A outer s H vs Q E hr h=>⟨_,xB T hr,by rw [show rC K t=rS K (gav t) wA from rfl];exact bQ (N:=["_law_script"]) (fu T) h (by decide)⟩)
def oG (K:Fg) (t:Adr):TS :=
 (aT (bF (tOp (fun x y=>i3.r K [x,y]) (ag 0) (tC (.str "script"))) (ar 2))
  (aT (dQ (bf (tOp (fun x y=>gtP.r K [x,y]) (tOp (fun x y=>i3.r K [x,y]) (ag 0) (tC (.str "left"))) (tC (.int 0)))) (aT (bF (tOp (fun x y=>kH.r K [x,y]) (tOp (fun x y=>i3.r K [x,y]) (ag 0) (tC (.str "left"))) (ag 1)) (ar 3))
  (aT (u6 K (ag 0) (tC (.str "left")) (tOp (fun x y=>nV.r K [x,y]) (tOp (fun x y=>i3.r K [x,y]) (ag 0) (tC (.str "left"))) (ag 1)))
  (cC (ag 3)))) bB)
  (aT (bF (tOp (fun x y=>i3.r K [x,y]) (ag 0) (tC (.str "at"))) (ar 4))
  (aT (u6 K (ag 0) (tC (.str "at")) (tOp (fun x y=>bE.r K [x,y]) (ag 4) (tC (.int 1))))
  (aT (bF (tOp (fun x y=>bE.r K [x,y]) (tOp (fun x y=>bE.r K [x,y]) (tOp (fun x y=>kP.r K [x,y]) (tOp (fun x y=>kP.r K [x,y]) (tC (.int 60013)) (ag 4)) (ag 4)) (tOp (fun x y=>kP.r K [x,y]) (tC (.int 11)) (ag 4))) (tC (.int 5))) (ar 5))
  (aT (dQ (bf (tOp (fun x y=>ltP.r K [x,y]) (ag 4) (tCB (gE.r K) (aa (ag 2) aj)))) (aT (bF (tOp (fun x y=>ixP.r K [x,y]) (ag 2) (ag 4)) (ar 5))
  (dQ (bf (tOp (fun x y=>geP.r K [x,y]) (tCB (x4.r K) (aa (ag 5) aj)) (tOp (fun x y=>Av.r K [x,y]) (tC (.int 10)) (tC (.int 18))))) (aT (u6 K (ag 0) (tC (.str "left")) (tOp (fun x y=>nV.r K [x,y]) (tCB (x4.r K) (aa (ag 5) aj)) (ag 1)))
  (cC (tOp (fun x y=>kH.r K [x,y]) (tCB (x4.r K) (aa (ag 5) aj)) (ag 1)))) bB)) (dQ (bf (tOp (fun x y=>gtP.r K [x,y]) (tCB (gE.r K) (aa (ag 2) aj)) (tC (.int 0)))) (bF (tOp (fun x y=>bE.r K [x,y]) (tOp (fun x y=>kH.r K [x,y]) (tOp (fun x y=>ixP.r K [x,y]) (ag 2) (tOp (fun x y=>kH.r K [x,y]) (ag 4) (tCB (gE.r K) (aa (ag 2) aj)))) (tOp (fun x y=>Av.r K [x,y]) (tC (.int 10)) (tC (.int 17)))) (tOp (fun x y=>kP.r K [x,y]) (tC (.int 65537)) (ag 4))) (ar 5)) bB))
  (aT (bF (tOp (fun x y=>kH.r K [x,y]) (tOp (fun x y=>kP.r K [x,y]) (tOp (fun x y=>bE.r K [x,y]) (tOp (fun x y=>bE.r K [x,y]) (tOp (fun x y=>kH.r K [x,y]) (ag 5) (tC (.int 2147483629))) (tOp (fun x y=>kP.r K [x,y]) (tC (.int 48271)) (ag 4))) (tC (.int 1))) (tC (.int 69621))) (tC (.int 2147483587))) (ar 6))
  (aT (bF (tOp (fun x y=>kH.r K [x,y]) (tOp (fun x y=>bE.r K [x,y]) (tOp (fun x y=>bE.r K [x,y]) (tOp (fun x y=>kP.r K [x,y]) (ag 6) (ag 6)) (tOp (fun x y=>kP.r K [x,y]) (tC (.int 40503)) (ag 6))) (ag 4)) (tC (.int 2147483563))) (ar 6))
  (cC (tOp (fun x y=>kH.r K [x,y]) (tOp (fun x y=>nV.r K [x,y]) (ag 6) (tC (.int 11))) (ag 1)))))))))))
theorem uZ (T:Txt K mg t) (hr:cP 0 (A.deeper (envOfC "_law_draw" (ae bL) s.heap.objs.size t.lH cdv))):JSs (iu CX0 P w K mg base ["_law_pen_here", "_law_many_here", "_law_script", "_law_found", "_law_at", "_law_cell", "_law_number"] "_law_draw" (ae bL) t.lH cdv A outer s H E).nox (ak bL) (oG K t):=by
 unfold oG;refine ba ?_ ?_
 ·refine b8 (i:=2) ?_ dH.nd rfl (Or.inl rfl) rfl (Or.inl rfl);exact (ui hr.units (ah 0 rfl (Or.inl rfl) rfl rfl) bh (fun _ _=>rfl))
 ·refine ba ?_ ?_
  ·refine fm ?_ ?_ ?_
   ·exact (bu hG (ui hr.units (ah 0 rfl (Or.inl rfl) rfl rfl) bh (fun _ _=>rfl)) aq (aK _))
   ·refine ba ?_ ?_
    ·refine b8 (i:=3) ?_ dH.nd rfl (Or.inl rfl) rfl (Or.inl rfl);exact (eOp dC (ui hr.units (ah 0 rfl (Or.inl rfl) rfl rfl) bh (fun _ _=>rfl)) (ah 1 rfl (Or.inl rfl) rfl rfl))
    ·refine ba ?_ ?_
     ·exact (yu hr.units (ah 0 rfl (Or.inl rfl) rfl rfl) bh (eOp kL (ui hr.units (ah 0 rfl (Or.inl rfl) rfl rfl) bh (fun _ _=>rfl)) (ah 1 rfl (Or.inl rfl) rfl rfl)) rfl)
     ·refine b7 ?_;exact (dB (ah 3 rfl (Or.inl rfl) rfl rfl))
   ·exact fw
  ·refine ba ?_ ?_
   ·refine b8 (i:=4) ?_ dH.nd rfl (Or.inl rfl) rfl (Or.inl rfl);exact (ui hr.units (ah 0 rfl (Or.inl rfl) rfl rfl) bh (fun _ _=>rfl))
   ·refine ba ?_ ?_
    ·exact (yu hr.units (ah 0 rfl (Or.inl rfl) rfl rfl) bh (eOp az (ah 4 rfl (Or.inl rfl) rfl rfl) aq) rfl)
    ·refine ba ?_ ?_
     ·refine b8 (i:=5) ?_ dH.nd rfl (Or.inl rfl) rfl (Or.inl rfl);exact (eOp az (eOp az (eOp dZ (eOp dZ aq (ah 4 rfl (Or.inl rfl) rfl rfl)) (ah 4 rfl (Or.inl rfl) rfl rfl)) (eOp dZ aq (ah 4 rfl (Or.inl rfl) rfl rfl))) aq)
     ·refine ba ?_ ?_
      ·refine fm ?_ ?_ ?_
       ·exact (bu wO (ah 4 rfl (Or.inl rfl) rfl rfl) (eB cf rfl T.z_len (by decide +kernel) (eA (ah 2 rfl (Or.inl rfl) rfl rfl) ao rfl) rfl rfl (by decide) rfl) (aK _))
       ·refine ba ?_ ?_
        ·refine b8 (i:=5) ?_ dH.nd rfl (Or.inl rfl) rfl (Or.inl rfl);exact (eIx ai (ah 2 rfl (Or.inl rfl) rfl rfl) (ah 4 rfl (Or.inl rfl) rfl rfl) (fun _ _=>rfl))
        ·refine b7 ?_;refine fm ?_ ?_ ?_
         ·exact (bu BA (eB oE rfl T.z_abs (by decide +kernel) (eA (ah 5 rfl (Or.inl rfl) rfl rfl) ao rfl) rfl rfl (by decide) rfl) (eOp sV aq aq) (aK _))
         ·refine ba ?_ ?_
          ·exact (yu hr.units (ah 0 rfl (Or.inl rfl) rfl rfl) bh (eOp kL (eB oE rfl T.z_abs (by decide +kernel) (eA (ah 5 rfl (Or.inl rfl) rfl rfl) ao rfl) rfl rfl (by decide) rfl) (ah 1 rfl (Or.inl rfl) rfl rfl)) rfl)
          ·refine b7 ?_;exact (dB (eOp dC (eB oE rfl T.z_abs (by decide +kernel) (eA (ah 5 rfl (Or.inl rfl) rfl rfl) ao rfl) rfl rfl (by decide) rfl) (ah 1 rfl (Or.inl rfl) rfl rfl)))
         ·exact fw
       ·refine b7 ?_;refine fm ?_ ?_ ?_
        ·exact (bu hG (eB cf rfl T.z_len (by decide +kernel) (eA (ah 2 rfl (Or.inl rfl) rfl rfl) ao rfl) rfl rfl (by decide) rfl) aq (aK _))
        ·refine b7 ?_;refine b8 (i:=5) ?_ dH.nd rfl (Or.inl rfl) rfl (Or.inl rfl);exact (eOp az (eOp dC (eIx ai (ah 2 rfl (Or.inl rfl) rfl rfl) (eOp dC (ah 4 rfl (Or.inl rfl) rfl rfl) (eB cf rfl T.z_len (by decide +kernel) (eA (ah 2 rfl (Or.inl rfl) rfl rfl) ao rfl) rfl rfl (by decide) rfl)) (fun _ _=>rfl)) (eOp sV aq aq)) (eOp dZ aq (ah 4 rfl (Or.inl rfl) rfl rfl)))
        ·exact fw
      ·refine ba ?_ ?_
       ·refine b8 (i:=6) ?_ dH.nd rfl (Or.inl rfl) rfl (Or.inl rfl);exact (eOp dC (eOp dZ (eOp az (eOp az (eOp dC (ah 5 rfl (Or.inl rfl) rfl rfl) aq) (eOp dZ aq (ah 4 rfl (Or.inl rfl) rfl rfl))) aq) aq) aq)
       ·refine ba ?_ ?_
        ·refine b8 (i:=6) ?_ dH.nd rfl (Or.inl rfl) rfl (Or.inl rfl);exact (eOp dC (eOp az (eOp az (eOp dZ (ah 6 rfl (Or.inl rfl) rfl rfl) (ah 6 rfl (Or.inl rfl) rfl rfl)) (eOp dZ aq (ah 6 rfl (Or.inl rfl) rfl rfl))) (ah 4 rfl (Or.inl rfl) rfl rfl)) aq)
        ·refine b7 ?_;exact (dB (eOp dC (eOp kL (ah 6 rfl (Or.inl rfl) rfl rfl) aq) (ah 1 rfl (Or.inl rfl) rfl rfl)))
theorem ye (T:Txt K mg t):cA P w K mg base t :=
 T.aW.okJ dH (fun vs H Q E h=>bt h) (fun cdv A outer s H vs Q E hr h=>⟨_,uZ T hr,by rw [show oG K t=rS K (gav t) oq from rfl];exact bQ (N:=["_law_pen_here", "_law_many_here", "_law_script", "_law_found", "_law_at", "_law_cell", "_law_number"]) (fu T) h (by decide)⟩)
def kK (K:Fg) (t:Adr):TS :=
 (aT (bF (tC (.str "abcdefghijklmnopqrstuvwxyz")) (ar 2))
  (aT (bF (eJ (aa (tC (.str "any")) (aa (tC (.str "all")) (aa (tC (.str "keeps")) (aa (tC (.str "is")) (aa (tC (.str "many")) (aa (tC (.str "each")) (aa (tC (.str "least")) (aa (tC (.str "shape")) aj))))))))) (ar 3))
  (aT (bF (tOp (fun x y=>ixP.r K [x,y]) (eJ (aa (tC (.str "")) (aa (tC (.str "")) (aa (tC (.str "")) (aa (tOp (fun x y=>ixP.r K [x,y]) (ag 3) (aJ (aD K) [] E0 (aa (ag 0) (aa (tC (.int 8)) aj)))) aj))))) (aJ (aD K) [] E0 (aa (ag 0) (aa (tC (.int 4)) aj)))) (ar 4))
  (aT (qh (qp (aa (aJ (aD K) [] E0 (aa (ag 0) (aa (tOp (fun x y=>zc.r K [x,y]) (tC (.int 8)) (tCB (gE.r K) (aa (ag 4) aj))) aj))) aj)) (ar 5) (bF (tOp (fun x y=>bE.r K [x,y]) (ag 4) (tOp (fun x y=>ixP.r K [x,y]) (ag 2) (aJ (aD K) [] E0 (aa (ag 0) (aa (tC (.int 26)) aj))))) (ar 4)))
  (aT (bF (aJ (aD K) [] E0 (aa (ag 0) (aa (tOp (fun x y=>bE.r K [x,y]) (tCB (gE.r K) (aa (ag 4) aj)) (tC (.int 1))) aj))) (ar 6))
  (aT (bF (aJ (aD K) [] E0 (aa (ag 0) (aa (tC (.int 26)) aj))) (ar 7))
  (aT (bF (tOp (fun x y=>ixP.r K [x,y]) (eJ (aa (tC (.int 1)) (aa (tC (.int 3)) (aa (tC (.int 5)) (aa (tC (.int 7)) (aa (tC (.int 9)) (aa (tC (.int 11)) (aa (tC (.int 15)) (aa (tC (.int 17)) (aa (tC (.int 19)) (aa (tC (.int 21)) (aa (tC (.int 23)) (aa (tC (.int 25)) aj))))))))))))) (aJ (aD K) [] E0 (aa (ag 0) (aa (tC (.int 12)) aj)))) (ar 8))
  (aT (bF (eJ aj) (ar 9))
  (aT (qh (qp (aa (ag 1) aj)) (ar 5) (aT (bF (tOp (fun x y=>ixP.r K [x,y]) (ag 2) (tOp (fun x y=>kH.r K [x,y]) (tOp (fun x y=>bE.r K [x,y]) (ag 7) (tOp (fun x y=>kP.r K [x,y]) (ag 8) (ag 5))) (tC (.int 26)))) (ar 10))
  (gM (tBM K "list" (mS.r K) (ag 9) (aa (tOp (fun x y=>bE.r K [x,y]) (tOp (fun x y=>bE.r K [x,y]) (tSl (fo mz (fo (mI K) (mr K))) (ag 4) bR (eE (ag 6))) (ag 10)) (tSl (fo mz (fo (mI K) (mr K))) (ag 4) (eE (ag 6)) bR)) aj)))))
  (aT (dQ (bf (tOp (fun x y=>eqP.r K [x,y]) (aJ (aD K) [] E0 (aa (ag 0) (aa (tC (.int 2)) aj))) (tC (.int 0)))) (cC (ag 9)) bB)
  (cC (i6 [6,0] (ij K (ag 9)) wL (tSl (fo mz (fo (mI K) (mr K))) (ag 0) bR (eE (tOp (fun x y=>bE.r K [x,y]) (tOp (fun x y=>bE.r K [x,y]) (ag 1) (tC (.int 1))) (aJ (aD K) [] E0 (aa (ag 2) (aa (tOp (fun x y=>zc.r K [x,y]) (tCB (gE.r K) (aa (ag 0) aj)) (ag 1)) aj))))))))))))))))))
theorem tu (T:Txt K mg t) (G_draw:cA P w K mg base t) (hr:cP 1 (A.deeper (envOfC "_law_names" (ae bo) s.heap.objs.size t.iZ cdv))):JSs (iu CX0 P w K mg base ["_law_pen_here", "_law_many_here", "_law_letters", "_law_words", "_law_base", "_law_k", "_law_spot", "_law_start", "_law_step", "_law_found", "_law_letter"] "_law_names" (ae bo) t.iZ cdv A outer s H E).nox (ak bo) (kK K t):=by
 unfold kK;refine ba ?_ ?_
 ·refine b8 (i:=2) ?_ bV.nd rfl (Or.inl rfl) rfl (Or.inl rfl);exact bh
 ·refine ba ?_ ?_
  ·refine b8 (i:=3) ?_ bV.nd rfl (Or.inl rfl) rfl (Or.inl rfl);exact (fB (eA bh (eA bh (eA bh (eA bh (eA bh (eA bh (eA bh (eA bh ao rfl) rfl) rfl) rfl) rfl) rfl) rfl) rfl))
  ·refine ba ?_ ?_
   ·refine b8 (i:=4) ?_ bV.nd rfl (Or.inl rfl) rfl (Or.inl rfl);exact (eIx ai (fB (eA bh (eA bh (eA bh (eA (eIx ai (ah 3 rfl (Or.inl rfl) rfl rfl) (aS G_draw (hr.mono (by omega)) rfl T.aY T.aW.kp T.aX .nil aQ (eA (ah 0 rfl (Or.inr (Or.inl rfl)) rfl rfl) (eA aq ao rfl) rfl) rfl rfl rfl) (fun _ _=>rfl)) ao rfl) rfl) rfl) rfl)) (aS G_draw (hr.mono (by omega)) rfl T.aY T.aW.kp T.aX .nil aQ (eA (ah 0 rfl (Or.inr (Or.inl rfl)) rfl rfl) (eA aq ao rfl) rfl) rfl rfl rfl) (fun _ _=>rfl))
   ·refine ba ?_ ?_
    ·refine wJ ?_ (eGN (i:=5) bV.nd rfl (Or.inl rfl) (Or.inl rfl)) ?_ IY rfl (fun _=>rfl)
     ·exact (eR1 rfl T.z_range (eA (aS G_draw (hr.mono (by omega)) rfl T.aY T.aW.kp T.aX .nil aQ (eA (ah 0 rfl (Or.inr (Or.inl rfl)) rfl rfl) (eA (eOp oS aq (eB cf rfl T.z_len (by decide +kernel) (eA (ah 4 rfl (Or.inl rfl) rfl rfl) ao rfl) rfl rfl (by decide) rfl)) ao rfl) rfl) rfl rfl rfl) ao rfl) rfl)
     ·refine b7 ?_;refine b8 (i:=4) ?_ bV.nd rfl (Or.inl rfl) rfl (Or.inl rfl);exact (eOp az (ah 4 rfl (Or.inl rfl) rfl rfl) (eIx ai (ah 2 rfl (Or.inl rfl) rfl rfl) (aS G_draw (hr.mono (by omega)) rfl T.aY T.aW.kp T.aX .nil aQ (eA (ah 0 rfl (Or.inr (Or.inl rfl)) rfl rfl) (eA aq ao rfl) rfl) rfl rfl rfl) (fun _ _=>rfl)))
    ·refine ba ?_ ?_
     ·refine b8 (i:=6) ?_ bV.nd rfl (Or.inr rfl) rfl (Or.inl rfl);exact (aS G_draw (hr.mono (by omega)) rfl T.aY T.aW.kp T.aX .nil aQ (eA (ah 0 rfl (Or.inr (Or.inl rfl)) rfl rfl) (eA (eOp az (eB cf rfl T.z_len (by decide +kernel) (eA (ah 4 rfl (Or.inl rfl) rfl rfl) ao rfl) rfl rfl (by decide) rfl) aq) ao rfl) rfl) rfl rfl rfl)
     ·refine ba ?_ ?_
      ·refine b8 (i:=7) ?_ bV.nd rfl (Or.inl rfl) rfl (Or.inl rfl);exact (aS G_draw (hr.mono (by omega)) rfl T.aY T.aW.kp T.aX .nil aQ (eA (ah 0 rfl (Or.inr (Or.inl rfl)) rfl rfl) (eA aq ao rfl) rfl) rfl rfl rfl)
      ·refine ba ?_ ?_
       ·refine b8 (i:=8) ?_ bV.nd rfl (Or.inl rfl) rfl (Or.inl rfl);exact (eIx ai (fB (eA aq (eA aq (eA aq (eA aq (eA aq (eA aq (eA aq (eA aq (eA aq (eA aq (eA aq (eA aq ao rfl) rfl) rfl) rfl) rfl) rfl) rfl) rfl) rfl) rfl) rfl) rfl)) (aS G_draw (hr.mono (by omega)) rfl T.aY T.aW.kp T.aX .nil aQ (eA (ah 0 rfl (Or.inr (Or.inl rfl)) rfl rfl) (eA aq ao rfl) rfl) rfl rfl rfl) (fun _ _=>rfl))
       ·refine ba ?_ ?_
        ·refine b8 (i:=9) ?_ bV.nd rfl (Or.inl rfl) rfl (Or.inl rfl);exact (fB ao)
        ·refine ba ?_ ?_
         ·refine wJ ?_ (eGN (i:=5) bV.nd rfl (Or.inl rfl) (Or.inl rfl)) ?_ IY rfl (fun _=>rfl)
          ·exact (eR1 rfl T.z_range (eA (ah 1 rfl (Or.inl rfl) rfl rfl) ao rfl) rfl)
          ·refine ba ?_ ?_
           ·refine b8 (i:=10) ?_ bV.nd rfl (Or.inl rfl) rfl (Or.inl rfl);exact (eIx ai (ah 2 rfl (Or.inl rfl) rfl rfl) (eOp dC (eOp az (ah 7 rfl (Or.inl rfl) rfl rfl) (eOp dZ (ah 8 rfl (Or.inl rfl) rfl rfl) (ah 5 rfl (Or.inl rfl) rfl rfl))) aq) (fun _ _=>rfl))
           ·refine b7 ?_;exact (lR (eBM (ah 9 rfl (Or.inl rfl) rfl rfl) (eA (eOp az (eOp az (eSl (orS cG (orS bW cH)) (ah 4 rfl (Or.inl rfl) rfl rfl) o6 (eP (ah 6 rfl (Or.inr (Or.inl rfl)) rfl rfl))) (ah 10 rfl (Or.inl rfl) rfl rfl)) (eSl (orS cG (orS bW cH)) (ah 4 rfl (Or.inl rfl) rfl rfl) (eP (ah 6 rfl (Or.inr (Or.inl rfl)) rfl rfl)) o6)) ao rfl) cw Ih Ic Ib rfl rfl rfl rfl rfl) rfl)
         ·refine ba ?_ ?_
          ·refine fm ?_ ?_ ?_
           ·exact (bu (cb hr.units) (aS G_draw (hr.mono (by omega)) rfl T.aY T.aW.kp T.aX .nil aQ (eA (ah 0 rfl (Or.inr (Or.inl rfl)) rfl rfl) (eA aq ao rfl) rfl) rfl rfl rfl) aq (aK _))
           ·refine b7 ?_;exact (dB (ah 9 rfl (Or.inl rfl) rfl rfl))
           ·exact fw
          ·refine b7 ?_;exact (dB (By ["_law_spot", "_law_pen_here"] (eIL (ah 9 rfl (Or.inl rfl) rfl rfl)) eT0 (eC fun _ _ _ _=>(eSl (orS cG (orS bW cH)) (ah 0 rfl (Or.inl rfl) rfl rfl) o6 (eP (eOp az (eOp az (ah 1 rfl (Or.inr (Or.inl rfl)) rfl rfl) aq) (aS G_draw (hr.mono (by omega)) rfl T.aY T.aW.kp T.aX .nil aQ (eA (ah 2 rfl (Or.inr (Or.inl rfl)) rfl rfl) (eA (eOp oS (eB cf rfl T.z_len (by decide +kernel) (eA (ah 0 rfl (Or.inl rfl) rfl rfl) ao rfl) rfl rfl (by decide) rfl) (ah 1 rfl (Or.inr (Or.inl rfl)) rfl rfl)) ao rfl) rfl) rfl rfl rfl))))) rfl (bsc (sc:=ae bo) rfl (by decide +kernel)) (by decide +kernel) ⟨rfl,⟨rfl,rfl⟩,⟨rfl,⟨rfl,rfl⟩,trivial⟩⟩ (fun _=>rfl)))
theorem vg (T:Txt K mg t) (G_draw:cA P w K mg base t):jy P w K mg base t :=
 T.ll.okJ bV (fun vs H Q E h=>bt h) (fun cdv A outer s H vs Q E hr h=>⟨_,tu T G_draw hr,by rw [show kK K t=rS K (gav t) ko from rfl];exact bQ (N:=["_law_pen_here", "_law_many_here", "_law_letters", "_law_words", "_law_base", "_law_k", "_law_spot", "_law_start", "_law_step", "_law_found", "_law_letter"]) (fu T) h (by decide)⟩)
def nH (K:Fg) (t:Adr):TS :=
 (aT (bF (eJ aj) (ar 3))
  (aT (qh (ij K (ag 2)) (ar 4) (dQ (yB (bf (tOp (fun x y=>ltP.r K [x,y]) (tCB (gE.r K) (aa (ag 3) aj)) (tC (.int 3)))) (bf (tOp (fun x y=>gtP.r K [x,y]) (aJ (aD K) [] E0 (aa (ag 0) (aa (tC (.int 3)) aj))) (tC (.int 0))))) (aT (bF (tOp (fun x y=>ixP.r K [x,y]) (eJ (aa (tC (.int 0)) (aa (tC (.int 0)) (aa (tC (.int 0)) (aa (tC (.int 1)) (aa (tC (.int 1)) (aa (tC (.int 2)) (aa (tC (.int 3)) aj)))))))) (aJ (aD K) [] E0 (aa (ag 0) (aa (tC (.int 7)) aj)))) (ar 5))
  (aT (bF (tOp (fun x y=>ixP.r K [x,y]) (eJ (aa (tC .non) (aa (tC .non) (aa (ag 5) (aa (tCB (D2.r K) (aa (tC (.int 3)) (aa (tOp (fun x y=>bE.r K [x,y]) (ag 5) (tC (.int 1))) aj))) (aa (tC (.int 3)) aj)))))) (aJ (aD K) [] E0 (aa (ag 0) (aa (tC (.int 5)) aj)))) (ar 6))
  (gM (tBM K "list" (mS.r K) (ag 3) (aa (br (aa (ag 4) (aa (ag 5) (aa (ag 6) (aa (tOp (fun x y=>ixP.r K [x,y]) (ag 1) (aJ (aD K) [] E0 (aa (ag 0) (aa (tCB (gE.r K) (aa (ag 1) aj)) aj)))) aj))))) aj))))) bB))
  (cC (tCB (aP.r K) (aa (ag 3) aj)))))
theorem u3 (T:Txt K mg t) (G_draw:cA P w K mg base t) (hr:cP 1 (A.deeper (envOfC "_law_rows" (ae bM) s.heap.objs.size t.lB cdv))):JSs (iu CX0 P w K mg base ["_law_pen_here", "_law_names_here", "_law_bonds", "_law_rows_here", "_law_bond", "_law_low", "_law_high"] "_law_rows" (ae bM) t.lB cdv A outer s H E).nox (ak bM) (nH K t):=by
 unfold nH;refine ba ?_ ?_
 ·refine b8 (i:=3) ?_ iO.nd rfl (Or.inl rfl) rfl (Or.inl rfl);exact (fB ao)
 ·refine ba ?_ ?_
  ·refine wJ ?_ (eGN (i:=4) iO.nd rfl (Or.inl rfl) (Or.inl rfl)) ?_ IY rfl (fun _=>rfl)
   ·exact (eIL (ah 2 rfl (Or.inl rfl) rfl rfl))
   ·refine b7 ?_;refine fm ?_ ?_ ?_
    ·exact (eW (uU (bu wO (eB cf rfl T.z_len (by decide +kernel) (eA (ah 3 rfl (Or.inl rfl) rfl rfl) ao rfl) rfl rfl (by decide) rfl) aq (aK _)) (pI (bu hG (aS G_draw (hr.mono (by omega)) rfl T.aY T.aW.kp T.aX .nil aQ (eA (ah 0 rfl (Or.inl rfl) rfl rfl) (eA aq ao rfl) rfl) rfl rfl rfl) aq (aK _)))))
    ·refine ba ?_ ?_
     ·refine b8 (i:=5) ?_ iO.nd rfl (Or.inl rfl) rfl (Or.inl rfl);exact (eIx ai (fB (eA aq (eA aq (eA aq (eA aq (eA aq (eA aq (eA aq ao rfl) rfl) rfl) rfl) rfl) rfl) rfl)) (aS G_draw (hr.mono (by omega)) rfl T.aY T.aW.kp T.aX .nil aQ (eA (ah 0 rfl (Or.inl rfl) rfl rfl) (eA aq ao rfl) rfl) rfl rfl rfl) (fun _ _=>rfl))
     ·refine ba ?_ ?_
      ·refine b8 (i:=6) ?_ iO.nd rfl (Or.inl rfl) rfl (Or.inl rfl);exact (eIx ai (fB (eA j6 (eA j6 (eA (ah 5 rfl (Or.inl rfl) rfl rfl) (eA (eB (yw rfl) rfl T.z_min (by decide +kernel) (eA aq (eA (eOp az (ah 5 rfl (Or.inl rfl) rfl rfl) aq) ao rfl) rfl) rfl rfl (by decide) rfl) (eA aq ao rfl) rfl) rfl) rfl) rfl)) (aS G_draw (hr.mono (by omega)) rfl T.aY T.aW.kp T.aX .nil aQ (eA (ah 0 rfl (Or.inl rfl) rfl rfl) (eA aq ao rfl) rfl) rfl rfl rfl) (fun _ _=>rfl))
      ·refine b7 ?_;exact (lR (eBM (ah 3 rfl (Or.inl rfl) rfl rfl) (eA (bw (eA (ah 4 rfl (Or.inl rfl) rfl rfl) (eA (ah 5 rfl (Or.inl rfl) rfl rfl) (eA (ah 6 rfl (Or.inl rfl) rfl rfl) (eA (eIx ai (ah 1 rfl (Or.inl rfl) rfl rfl) (aS G_draw (hr.mono (by omega)) rfl T.aY T.aW.kp T.aX .nil aQ (eA (ah 0 rfl (Or.inl rfl) rfl rfl) (eA (eB cf rfl T.z_len (by decide +kernel) (eA (ah 1 rfl (Or.inl rfl) rfl rfl) ao rfl) rfl rfl (by decide) rfl) ao rfl) rfl) rfl rfl rfl) (fun _ _=>rfl)) ao rfl) rfl) rfl) rfl)) ao rfl) cw Ih Ic Ib rfl rfl rfl rfl rfl) rfl)
    ·exact fw
  ·refine b7 ?_;exact (dB (eTy aR rfl T.z_tuple (by decide +kernel) (eA (ah 3 rfl (Or.inl rfl) rfl rfl) ao rfl) rfl rfl (by decide) rfl))
theorem yN (T:Txt K mg t) (G_draw:cA P w K mg base t):rz P w K mg base t :=
 T.xg.okJ iO (fun vs H Q E h=>bt h) (fun cdv A outer s H vs Q E hr h=>⟨_,u3 T G_draw hr,by rw [show nH K t=rS K (gav t) nv from rfl];exact bQ (N:=["_law_pen_here", "_law_names_here", "_law_bonds", "_law_rows_here", "_law_bond", "_law_low", "_law_high"]) (fu T) h (by decide)⟩)
def kG (K:Fg) (t:Adr):TS :=
 (aT (bF (eJ aj) (ar 3))
  (aT (qh (ij K (ag 1)) (ar 4) (aT (bF (tOp (fun x y=>ixP.r K [x,y]) (eJ (aa (tC (.str "any")) (aa (tC (.str "any")) (aa (tC (.str "thing")) (aa (tC (.str "thing")) (aa (tC (.str "thing")) (aa (tC (.str "number")) (aa (tC (.str "said")) aj)))))))) (aJ (aD K) [] E0 (aa (ag 0) (aa (tC (.int 7)) aj)))) (ar 5))
  (aT (bF (aJ (tN K) [] E0 (aa (ag 0) (aa (ag 1) (aa (ag 2) aj)))) (ar 6))
  (aT (dQ (yB (bf (tOp (fun x y=>inP.r K [x,y]) (ag 5) (br (aa (tC (.str "number")) (aa (tC (.str "said")) aj))))) (bf (tOp (fun x y=>gtP.r K [x,y]) (aJ (aD K) [] E0 (aa (ag 0) (aa (tC (.int 4)) aj))) (tC (.int 0))))) (bF (tCB (aP.r K) (aa (pK ["_law_bond", "_law_low", "_law_high", "_law_other"] [] (xu K (ag 6)) (yC K 4 (fv (ar 0) (fv (ar 1) (fv (ar 2) (fv (ar 3) yV))))) (br (aa (ag 0) (aa (tC (.int 0)) (aa (ag 2) (aa (ag 3) aj)))))) aj)) (ar 6)) bB)
  (aT (bF (tC .non) (ar 7))
  (aT (dQ (bf (tOp (fun x y=>eqP.r K [x,y]) (aJ (aD K) [] E0 (aa (ag 0) (aa (tC (.int 3)) aj))) (tC (.int 0)))) (bF (tCB (aP.r K) (aa (i6 [0] (ij K (ag 2)) (bf (tOp (fun x y=>gtP.r K [x,y]) (aJ (aD K) [] E0 (aa (ag 1) (aa (tC (.int 9)) aj))) (tC (.int 0)))) (ag 0)) aj)) (ar 7)) bB)
  (gM (tBM K "list" (mS.r K) (ag 3) (aa (br (aa (ag 4) (aa (ag 5) (aa (ag 6) (aa (ag 7) aj))))) aj)))))))))
  (cC (ag 3))))
theorem sN (T:Txt K mg t) (G_draw:cA P w K mg base t) (G_rows:rz P w K mg base t) (hr:cP 2 (A.deeper (envOfC "_law_rungs" (ae bg) s.heap.objs.size t.jl cdv))):JSs (iu CX0 P w K mg base ["_law_pen_here", "_law_names_here", "_law_bonds", "_law_found", "_law_name", "_law_kind", "_law_rows_here", "_law_closed"] "_law_rungs" (ae bg) t.jl cdv A outer s H E).nox (ak bg) (kG K t):=by
 unfold kG;refine ba ?_ ?_
 ·refine b8 (i:=3) ?_ cT.nd rfl (Or.inl rfl) rfl (Or.inl rfl);exact (fB ao)
 ·refine ba ?_ ?_
  ·refine wJ ?_ (eGN (i:=4) cT.nd rfl (Or.inl rfl) (Or.inl rfl)) ?_ IY rfl (fun _=>rfl)
   ·exact (eIL (ah 1 rfl (Or.inl rfl) rfl rfl))
   ·refine ba ?_ ?_
    ·refine b8 (i:=5) ?_ cT.nd rfl (Or.inl rfl) rfl (Or.inl rfl);exact (eIx ai (fB (eA bh (eA bh (eA bh (eA bh (eA bh (eA bh (eA bh ao rfl) rfl) rfl) rfl) rfl) rfl) rfl)) (aS G_draw (hr.mono (by omega)) rfl T.aY T.aW.kp T.aX .nil aQ (eA (ah 0 rfl (Or.inr (Or.inl rfl)) rfl rfl) (eA aq ao rfl) rfl) rfl rfl rfl) (fun _ _=>rfl))
    ·refine ba ?_ ?_
     ·refine b8 (i:=6) ?_ cT.nd rfl (Or.inl rfl) rfl (Or.inl rfl);exact (aS G_rows (hr.mono (by omega)) rfl T.B1 T.xg.kp T.AW .nil aQ (eA (ah 0 rfl (Or.inr (Or.inl rfl)) rfl rfl) (eA (ah 1 rfl (Or.inl rfl) rfl rfl) (eA (ah 2 rfl (Or.inl rfl) rfl rfl) ao rfl) rfl) rfl) rfl rfl rfl)
     ·refine ba ?_ ?_
      ·refine fm ?_ ?_ ?_
       ·exact (eW (uU (bu (wB hr.units) (ah 5 rfl (Or.inl rfl) rfl rfl) (bw (eA bh (eA bh ao rfl) rfl)) (by with_unfolding_all rfl)) (pI (bu hG (aS G_draw (hr.mono (by omega)) rfl T.aY T.aW.kp T.aX .nil aQ (eA (ah 0 rfl (Or.inr (Or.inl rfl)) rfl rfl) (eA aq ao rfl) rfl) rfl rfl rfl) aq (aK _)))))
       ·refine b7 ?_;refine b8 (i:=6) ?_ cT.nd rfl (Or.inl rfl) rfl (Or.inl rfl);exact (eTy aR rfl T.z_tuple (by decide +kernel) (eA (Aa (n:=4) ["_law_bond", "_law_low", "_law_high", "_law_other"] [] (eIT (ah 6 rfl (Or.inl rfl) rfl rfl)) (C4 (i:=0) (by decide +kernel) rfl rfl (C4 (i:=1) (by decide +kernel) rfl rfl (C4 (i:=2) (by decide +kernel) rfl rfl (C4 (i:=3) (by decide +kernel) rfl rfl GW)))) (eC fun _ _ _ _=>(bw (eA (ah 0 rfl (Or.inl rfl) rfl rfl) (eA aq (eA (ah 2 rfl (Or.inl rfl) rfl rfl) (eA (ah 3 rfl (Or.inl rfl) rfl rfl) ao rfl) rfl) rfl) rfl))) rfl (Gu (sc:=ae bg) rfl (by decide +kernel)) trivial (fun _=>rfl) (fun _=>rfl) (fun _=>rfl)) ao rfl) rfl rfl (by decide) rfl)
       ·exact fw
      ·refine ba ?_ ?_
       ·refine b8 (i:=7) ?_ cT.nd rfl (Or.inl rfl) rfl (Or.inl rfl);exact j6
       ·refine ba ?_ ?_
        ·refine fm ?_ ?_ ?_
         ·exact (bu (cb hr.units) (aS G_draw (hr.mono (by omega)) rfl T.aY T.aW.kp T.aX .nil aQ (eA (ah 0 rfl (Or.inr (Or.inl rfl)) rfl rfl) (eA aq ao rfl) rfl) rfl rfl rfl) aq (aK _))
         ·refine b7 ?_;refine b8 (i:=7) ?_ cT.nd rfl (Or.inl rfl) rfl (Or.inl rfl);exact (eTy aR rfl T.z_tuple (by decide +kernel) (eA (By ["_law_pen_here"] (eIL (ah 2 rfl (Or.inl rfl) rfl rfl)) (eT1 fun _ _ _ _=>(bu hG (aS G_draw (hr.mono (by omega)) rfl T.aY T.aW.kp T.aX .nil aQ (eA (ah 1 rfl (Or.inr (Or.inl rfl)) rfl rfl) (eA aq ao rfl) rfl) rfl rfl rfl) aq (aK _))) (eC fun _ _ _ _=>(ah 0 rfl (Or.inl rfl) rfl rfl)) rfl (bsc (sc:=ae bg) rfl (by decide +kernel)) (by decide +kernel) ⟨rfl,⟨rfl,rfl⟩,trivial⟩ (fun _=>rfl)) ao rfl) rfl rfl (by decide) rfl)
         ·exact fw
        ·refine b7 ?_;exact (lR (eBM (ah 3 rfl (Or.inl rfl) rfl rfl) (eA (bw (eA (ah 4 rfl (Or.inl rfl) rfl rfl) (eA (ah 5 rfl (Or.inl rfl) rfl rfl) (eA (ah 6 rfl (Or.inl rfl) rfl rfl) (eA (ah 7 rfl (Or.inl rfl) rfl rfl) ao rfl) rfl) rfl) rfl)) ao rfl) cw Ih Ic Ib rfl rfl rfl rfl rfl) rfl)
  ·refine b7 ?_;exact (dB (ah 3 rfl (Or.inl rfl) rfl rfl))
theorem uL (T:Txt K mg t) (G_draw:cA P w K mg base t) (G_rows:rz P w K mg base t):iV P w K mg base t :=
 T.nG.okJ cT (fun vs H Q E h=>bt h) (fun cdv A outer s H vs Q E hr h=>⟨_,sN T G_draw G_rows hr,by rw [show kG K t=rS K (gav t) kB from rfl];exact bQ (N:=["_law_pen_here", "_law_names_here", "_law_bonds", "_law_found", "_law_name", "_law_kind", "_law_rows_here", "_law_closed"]) (fu T) h (by decide)⟩)
def oK (K:Fg) (t:Adr):TS :=
 (aT (bF (eJ aj) (ar 2))
  (aT (qh (ij K (ag 0)) (yC K 4 (fv (ar 3) (fv (ar 4) (fv (ar 5) (fv (ar 6) yV))))) (aT (bF (eJ (aa (br (aa (ag 4) aj)) aj)) (ar 7))
  (aT (qh (xu K (ag 5)) (yC K 4 (fv (ar 8) (fv (ar 9) (fv (ar 10) (fv (ar 11) yV))))) (gM (tBM K "list" (mS.r K) (ag 7) (aa (br (aa (tC (.str "each")) (aa (ag 9) (aa (ag 10) (aa (ag 8) (aa (br (aa (tC (.str "keeps")) (aa (ag 11) aj))) aj)))))) aj))))
  (aT (dQ (bf (tOp (fun x y=>lW.r K [x,y]) (ag 6) (tC .non))) (gM (tBM K "list" (mS.r K) (ag 7) (aa (br (aa (tC (.str "closed")) (aa (ag 6) aj))) aj))) bB)
  (gM (tBM K "list" (mS.r K) (ag 2) (aa (br (aa (ag 3) (aa (tC (.str "greatest")) (aa (br (aa (tC (.str "all")) (aa (tCB (aP.r K) (aa (ag 7) aj)) aj))) aj)))) aj)))))))
  (cC (br (aa (tCB (aP.r K) (aa (ag 2) aj)) (aa (tCB (aP.r K) (aa (ag 1) aj)) aj))))))
theorem vn (T:Txt K mg t) (hr:cP 0 (A.deeper (envOfC "_law_book" (ae bK) s.heap.objs.size t.lZ cdv))):JSs (iu CX0 P w K mg base ["_law_rungs_here", "_law_debts", "_law_shapes", "_law_name", "_law_kind", "_law_rows_here", "_law_closed", "_law_parts", "_law_bond", "_law_low", "_law_high", "_law_other"] "_law_book" (ae bK) t.lZ cdv A outer s H E).nox (ak bK) (oK K t):=by
 unfold oK;refine ba ?_ ?_
 ·refine b8 (i:=2) ?_ cI.nd rfl (Or.inl rfl) rfl (Or.inl rfl);exact (fB ao)
 ·refine ba ?_ ?_
  ·refine wJ ?_ (eGT (n:=4) rfl (wK (i:=3) cI.nd rfl (Or.inl rfl) (Or.inl rfl) (wK (i:=4) cI.nd rfl (Or.inl rfl) (Or.inl rfl) (wK (i:=5) cI.nd rfl (Or.inl rfl) (Or.inl rfl) (wK (i:=6) cI.nd rfl (Or.inl rfl) (Or.inl rfl) FR)))) rfl rfl) ?_ IY rfl (fun _=>rfl)
   ·exact (eIL (ah 0 rfl (Or.inl rfl) rfl rfl))
   ·refine ba ?_ ?_
    ·refine b8 (i:=7) ?_ cI.nd rfl (Or.inl rfl) rfl (Or.inl rfl);exact (fB (eA (bw (eA (ah 4 rfl (Or.inl rfl) rfl rfl) ao rfl)) ao rfl))
    ·refine ba ?_ ?_
     ·refine wJ ?_ (eGT (n:=4) rfl (wK (i:=8) cI.nd rfl (Or.inl rfl) (Or.inl rfl) (wK (i:=9) cI.nd rfl (Or.inl rfl) (Or.inl rfl) (wK (i:=10) cI.nd rfl (Or.inl rfl) (Or.inl rfl) (wK (i:=11) cI.nd rfl (Or.inl rfl) (Or.inl rfl) FR)))) rfl rfl) ?_ IY rfl (fun _=>rfl)
      ·exact (eIT (ah 5 rfl (Or.inl rfl) rfl rfl))
      ·refine b7 ?_;exact (lR (eBM (ah 7 rfl (Or.inl rfl) rfl rfl) (eA (bw (eA bh (eA (ah 9 rfl (Or.inl rfl) rfl rfl) (eA (ah 10 rfl (Or.inl rfl) rfl rfl) (eA (ah 8 rfl (Or.inl rfl) rfl rfl) (eA (bw (eA bh (eA (ah 11 rfl (Or.inl rfl) rfl rfl) ao rfl) rfl)) ao rfl) rfl) rfl) rfl) rfl)) ao rfl) cw Ih Ic Ib rfl rfl rfl rfl rfl) rfl)
     ·refine ba ?_ ?_
      ·refine fm ?_ ?_ ?_
       ·exact (bu lD (ah 6 rfl (Or.inl rfl) rfl rfl) j6 (aK _))
       ·refine b7 ?_;exact (lR (eBM (ah 7 rfl (Or.inl rfl) rfl rfl) (eA (bw (eA bh (eA (ah 6 rfl (Or.inl rfl) rfl rfl) ao rfl) rfl)) ao rfl) cw Ih Ic Ib rfl rfl rfl rfl rfl) rfl)
       ·exact fw
      ·refine b7 ?_;exact (lR (eBM (ah 2 rfl (Or.inl rfl) rfl rfl) (eA (bw (eA (ah 3 rfl (Or.inl rfl) rfl rfl) (eA bh (eA (bw (eA bh (eA (eTy aR rfl T.z_tuple (by decide +kernel) (eA (ah 7 rfl (Or.inl rfl) rfl rfl) ao rfl) rfl rfl (by decide) rfl) ao rfl) rfl)) ao rfl) rfl) rfl)) ao rfl) cw Ih Ic Ib rfl rfl rfl rfl rfl) rfl)
  ·refine b7 ?_;exact (dB (bw (eA (eTy aR rfl T.z_tuple (by decide +kernel) (eA (ah 2 rfl (Or.inl rfl) rfl rfl) ao rfl) rfl rfl (by decide) rfl) (eA (eTy aR rfl T.z_tuple (by decide +kernel) (eA (ah 1 rfl (Or.inl rfl) rfl rfl) ao rfl) rfl rfl (by decide) rfl) ao rfl) rfl)))
theorem zp (T:Txt K mg t):lN P w K mg base t :=
 T.oV.okJ cI (fun vs H Q E h=>bt h) (fun cdv A outer s H vs Q E hr h=>⟨_,vn T hr,by rw [show oK K t=rS K (gav t) n6 from rfl];exact bQ (N:=["_law_rungs_here", "_law_debts", "_law_shapes", "_law_name", "_law_kind", "_law_rows_here", "_law_closed", "_law_parts", "_law_bond", "_law_low", "_law_high", "_law_other"]) (fu T) h (by decide)⟩)
def fG (K:Fg) (t:Adr):TS :=
 (aT (bF (aJ (aD K) [] E0 (aa (ag 0) (aa (tC (.int 3)) aj))) (ar 3))
  (aT (bF (eJ (aa (br (aa (tC (.str "each")) (aa (tC (.int 0)) (aa (tC .non) (aa (tOp (fun x y=>ixP.r K [x,y]) (ag 2) (tC (.int 0))) (aa (br (aa (tC (.str "keeps")) (aa (tOp (fun x y=>ixP.r K [x,y]) (ag 1) (tC (.int 0))) aj))) aj)))))) aj)) (ar 4))
  (aT (gM (tBM K "list" (mS.r K) (ag 4) (aa (br (aa (tC (.str "each")) (aa (ag 3) (aa (tOp (fun x y=>ixP.r K [x,y]) (eJ (aa (tC .non) (aa (tC (.int 3)) aj))) (aJ (aD K) [] E0 (aa (ag 0) (aa (tC (.int 2)) aj)))) (aa (tOp (fun x y=>ixP.r K [x,y]) (ag 2) (tC (.int 2))) (aa (br (aa (tC (.str "keeps")) (aa (tOp (fun x y=>ixP.r K [x,y]) (ag 1) (tUn (rU fun i=>.int (-i)) (tC (.int 1)))) aj))) aj)))))) aj)))
  (cC (tOp (fun x y=>bE.r K [x,y]) (tOp (fun x y=>bE.r K [x,y]) (eJ (aa (tOp (fun x y=>ixP.r K [x,y]) (eJ (aa (br (aa (tC (.str "any")) aj)) (aa (br (aa (tC (.str "thing")) aj)) (aa (br (aa (tC (.str "said")) aj)) aj)))) (aJ (aD K) [] E0 (aa (ag 0) (aa (tC (.int 3)) aj)))) aj)) (ag 4)) (eJ (aa (br (aa (tC (.str "closed")) (aa (tCB (aP.r K) (aa (ag 2) aj)) aj))) aj)))))))
theorem lX (T:Txt K mg t) (G_draw:cA P w K mg base t) (hr:cP 1 (A.deeper (envOfC "_law_two_rows" (ae aH) s.heap.objs.size t.dq cdv))):JSs (iu CX0 P w K mg base ["_law_pen_here", "_law_names_here", "_law_bonds", "_law_far", "_law_rows_here"] "_law_two_rows" (ae aH) t.dq cdv A outer s H E).nox (ak aH) (fG K t):=by
 unfold fG;refine ba ?_ ?_
 ·refine b8 (i:=3) ?_ fO.nd rfl (Or.inl rfl) rfl (Or.inl rfl);exact (aS G_draw (hr.mono (by omega)) rfl T.aY T.aW.kp T.aX .nil aQ (eA (ah 0 rfl (Or.inl rfl) rfl rfl) (eA aq ao rfl) rfl) rfl rfl rfl)
 ·refine ba ?_ ?_
  ·refine b8 (i:=4) ?_ fO.nd rfl (Or.inl rfl) rfl (Or.inl rfl);exact (fB (eA (bw (eA bh (eA aq (eA j6 (eA (eIx ai (ah 2 rfl (Or.inl rfl) rfl rfl) aq (fun _ _=>rfl)) (eA (bw (eA bh (eA (eIx ai (ah 1 rfl (Or.inl rfl) rfl rfl) aq (fun _ _=>rfl)) ao rfl) rfl)) ao rfl) rfl) rfl) rfl) rfl)) ao rfl))
  ·refine ba ?_ ?_
   ·exact (lR (eBM (ah 4 rfl (Or.inl rfl) rfl rfl) (eA (bw (eA bh (eA (ah 3 rfl (Or.inl rfl) rfl rfl) (eA (eIx ai (fB (eA j6 (eA aq ao rfl) rfl)) (aS G_draw (hr.mono (by omega)) rfl T.aY T.aW.kp T.aX .nil aQ (eA (ah 0 rfl (Or.inl rfl) rfl rfl) (eA aq ao rfl) rfl) rfl rfl rfl) (fun _ _=>rfl)) (eA (eIx ai (ah 2 rfl (Or.inl rfl) rfl rfl) aq (fun _ _=>rfl)) (eA (bw (eA bh (eA (eIx ai (ah 1 rfl (Or.inl rfl) rfl rfl) (eUn jP aq) (fun _ _=>rfl)) ao rfl) rfl)) ao rfl) rfl) rfl) rfl) rfl)) ao rfl) cw Ih Ic Ib rfl rfl rfl rfl rfl) rfl)
   ·refine b7 ?_;exact (dB (eOp az (eOp az (fB (eA (eIx ai (fB (eA (bw (eA bh ao rfl)) (eA (bw (eA bh ao rfl)) (eA (bw (eA bh ao rfl)) ao rfl) rfl) rfl)) (aS G_draw (hr.mono (by omega)) rfl T.aY T.aW.kp T.aX .nil aQ (eA (ah 0 rfl (Or.inl rfl) rfl rfl) (eA aq ao rfl) rfl) rfl rfl rfl) (fun _ _=>rfl)) ao rfl)) (ah 4 rfl (Or.inl rfl) rfl rfl)) (fB (eA (bw (eA bh (eA (eTy aR rfl T.z_tuple (by decide +kernel) (eA (ah 2 rfl (Or.inl rfl) rfl rfl) ao rfl) rfl rfl (by decide) rfl) ao rfl) rfl)) ao rfl))))
theorem nA (T:Txt K mg t) (G_draw:cA P w K mg base t):gJ P w K mg base t :=
 T.j5.okJ fO (fun vs H Q E h=>bt h) (fun cdv A outer s H vs Q E hr h=>⟨_,lX T G_draw hr,by rw [show fG K t=rS K (gav t) fE from rfl];exact bQ (N:=["_law_pen_here", "_law_names_here", "_law_bonds", "_law_far", "_law_rows_here"]) (fu T) h (by decide)⟩)
def cW (K:Fg) (t:Adr):TS :=
 (aT (bF (tOp (fun x y=>ixP.r K [x,y]) (ag 1) (tC (.int 2))) (ar 3))
  (aT (bF (tOp (fun x y=>bE.r K [x,y]) (tC (.int 4)) (tOp (fun x y=>ixP.r K [x,y]) (eJ (aa (tC (.int 0)) (aa (tC (.int 0)) (aa (tC (.int 1)) (aa (aJ (aD K) [] E0 (aa (ag 0) (aa (tC (.int 57)) aj))) aj))))) (aJ (aD K) [] E0 (aa (ag 0) (aa (tC (.int 4)) aj))))) (ar 4))
  (aT (bF (eJ (aa (br (aa (tC (.str "many")) (aa (tOp (fun x y=>ixP.r K [x,y]) (ag 3) (tC (.int 1))) (aa (tC .non) (aa (tOp (fun x y=>ixP.r K [x,y]) (ag 3) (tC (.int 3))) (aa (tOp (fun x y=>ixP.r K [x,y]) (ag 3) (tC (.int 4))) aj)))))) (aa (tOp (fun x y=>bE.r K [x,y]) (tSl (fo mz (fo (mI K) (mr K))) (ag 3) bR (eE (tC (.int 3)))) (br (aa (tOp (fun x y=>bE.r K [x,y]) (tC (.str "^")) (tOp (fun x y=>ixP.r K [x,y]) (ag 3) (tC (.int 3)))) (aa (tOp (fun x y=>ixP.r K [x,y]) (ag 3) (tC (.int 4))) aj)))) (aa (tOp (fun x y=>bE.r K [x,y]) (tSl (fo mz (fo (mI K) (mr K))) (ag 3) bR (eE (tC (.int 4)))) (br (aa (br (aa (tC (.str "any")) aj)) aj))) aj)))) (ar 5))
  (aT (bF (tOp (fun x y=>bE.r K [x,y]) (ag 5) (eJ (aa (tOp (fun x y=>bE.r K [x,y]) (tSl (fo mz (fo (mI K) (mr K))) (ag 3) bR (eE (tC (.int 4)))) (br (aa (br (aa (tC (.str "all")) (aa (br (aa (tOp (fun x y=>ixP.r K [x,y]) (ag 3) (tC (.int 4))) aj)) aj))) aj))) (aa (br (aa (tC (.str "each")) (aa (ag 4) (aa (tC .non) (aa (tOp (fun x y=>ixP.r K [x,y]) (ag 3) (tC (.int 3))) (aa (tOp (fun x y=>ixP.r K [x,y]) (ag 3) (tC (.int 4))) aj)))))) aj)))) (ar 5))
  (aT (bF (tOp (fun x y=>bE.r K [x,y]) (ag 5) (eJ (aa (br (aa (tC (.str "each")) (aa (tOp (fun x y=>ixP.r K [x,y]) (ag 3) (tC (.int 1))) (aa (ag 4) (aa (tOp (fun x y=>ixP.r K [x,y]) (ag 3) (tC (.int 3))) (aa (tOp (fun x y=>ixP.r K [x,y]) (ag 3) (tC (.int 4))) aj)))))) (aa (tOp (fun x y=>bE.r K [x,y]) (tSl (fo mz (fo (mI K) (mr K))) (ag 3) bR (eE (tC (.int 3)))) (br (aa (tOp (fun x y=>ixP.r K [x,y]) (tOp (fun x y=>ixP.r K [x,y]) (ag 1) (tC (.int 1))) (tC (.int 3))) (aa (tOp (fun x y=>ixP.r K [x,y]) (ag 3) (tC (.int 4))) aj)))) (aa (tOp (fun x y=>ixP.r K [x,y]) (ag 3) (tC (.int 4))) (aa (br (aa (tC (.str "any")) aj)) aj)))))) (ar 5))
  (cC (tOp (fun x y=>bE.r K [x,y]) (tOp (fun x y=>bE.r K [x,y]) (tSl (fo mz (fo (mI K) (mr K))) (ag 1) bR (eE (tC (.int 2)))) (eJ (aa (tOp (fun x y=>ixP.r K [x,y]) (ag 5) (ag 2)) aj))) (tSl (fo mz (fo (mI K) (mr K))) (ag 1) (eE (tC (.int 3))) bR))))))))
theorem jb (T:Txt K mg t) (G_draw:cA P w K mg base t) (hr:cP 1 (A.deeper (envOfC "_law_rows_spoilt" (ae aw) s.heap.objs.size t.b6 cdv))):JSs (iu CX0 P w K mg base ["_law_pen_here", "_law_parts", "_law_way", "_law_row", "_law_great", "_law_some"] "_law_rows_spoilt" (ae aw) t.b6 cdv A outer s H E).nox (ak aw) (cW K t):=by
 unfold cW;refine ba ?_ ?_
 ·refine b8 (i:=3) ?_ bC.nd rfl (Or.inl rfl) rfl (Or.inl rfl);exact (eIx ai (ah 1 rfl (Or.inl rfl) rfl rfl) aq (fun _ _=>rfl))
 ·refine ba ?_ ?_
  ·refine b8 (i:=4) ?_ bC.nd rfl (Or.inl rfl) rfl (Or.inl rfl);exact (eOp az aq (eIx ai (fB (eA aq (eA aq (eA aq (eA (aS G_draw (hr.mono (by omega)) rfl T.aY T.aW.kp T.aX .nil aQ (eA (ah 0 rfl (Or.inl rfl) rfl rfl) (eA aq ao rfl) rfl) rfl rfl rfl) ao rfl) rfl) rfl) rfl)) (aS G_draw (hr.mono (by omega)) rfl T.aY T.aW.kp T.aX .nil aQ (eA (ah 0 rfl (Or.inl rfl) rfl rfl) (eA aq ao rfl) rfl) rfl rfl rfl) (fun _ _=>rfl)))
  ·refine ba ?_ ?_
   ·refine b8 (i:=5) ?_ bC.nd rfl (Or.inl rfl) rfl (Or.inl rfl);exact (fB (eA (bw (eA bh (eA (eIx ai (ah 3 rfl (Or.inl rfl) rfl rfl) aq (fun _ _=>rfl)) (eA j6 (eA (eIx ai (ah 3 rfl (Or.inl rfl) rfl rfl) aq (fun _ _=>rfl)) (eA (eIx ai (ah 3 rfl (Or.inl rfl) rfl rfl) aq (fun _ _=>rfl)) ao rfl) rfl) rfl) rfl) rfl)) (eA (eOp az (eSl (orS cG (orS bW cH)) (ah 3 rfl (Or.inl rfl) rfl rfl) o6 (eP aq)) (bw (eA (eOp az bh (eIx ai (ah 3 rfl (Or.inl rfl) rfl rfl) aq (fun _ _=>rfl))) (eA (eIx ai (ah 3 rfl (Or.inl rfl) rfl rfl) aq (fun _ _=>rfl)) ao rfl) rfl))) (eA (eOp az (eSl (orS cG (orS bW cH)) (ah 3 rfl (Or.inl rfl) rfl rfl) o6 (eP aq)) (bw (eA (bw (eA bh ao rfl)) ao rfl))) ao rfl) rfl) rfl))
   ·refine ba ?_ ?_
    ·refine b8 (i:=5) ?_ bC.nd rfl (Or.inl rfl) rfl (Or.inl rfl);exact (eOp az (ah 5 rfl (Or.inl rfl) rfl rfl) (fB (eA (eOp az (eSl (orS cG (orS bW cH)) (ah 3 rfl (Or.inl rfl) rfl rfl) o6 (eP aq)) (bw (eA (bw (eA bh (eA (bw (eA (eIx ai (ah 3 rfl (Or.inl rfl) rfl rfl) aq (fun _ _=>rfl)) ao rfl)) ao rfl) rfl)) ao rfl))) (eA (bw (eA bh (eA (ah 4 rfl (Or.inl rfl) rfl rfl) (eA j6 (eA (eIx ai (ah 3 rfl (Or.inl rfl) rfl rfl) aq (fun _ _=>rfl)) (eA (eIx ai (ah 3 rfl (Or.inl rfl) rfl rfl) aq (fun _ _=>rfl)) ao rfl) rfl) rfl) rfl) rfl)) ao rfl) rfl)))
    ·refine ba ?_ ?_
     ·refine b8 (i:=5) ?_ bC.nd rfl (Or.inl rfl) rfl (Or.inl rfl);exact (eOp az (ah 5 rfl (Or.inl rfl) rfl rfl) (fB (eA (bw (eA bh (eA (eIx ai (ah 3 rfl (Or.inl rfl) rfl rfl) aq (fun _ _=>rfl)) (eA (ah 4 rfl (Or.inl rfl) rfl rfl) (eA (eIx ai (ah 3 rfl (Or.inl rfl) rfl rfl) aq (fun _ _=>rfl)) (eA (eIx ai (ah 3 rfl (Or.inl rfl) rfl rfl) aq (fun _ _=>rfl)) ao rfl) rfl) rfl) rfl) rfl)) (eA (eOp az (eSl (orS cG (orS bW cH)) (ah 3 rfl (Or.inl rfl) rfl rfl) o6 (eP aq)) (bw (eA (eIx ai (eIx ai (ah 1 rfl (Or.inl rfl) rfl rfl) aq (fun _ _=>rfl)) aq (fun _ _=>rfl)) (eA (eIx ai (ah 3 rfl (Or.inl rfl) rfl rfl) aq (fun _ _=>rfl)) ao rfl) rfl))) (eA (eIx ai (ah 3 rfl (Or.inl rfl) rfl rfl) aq (fun _ _=>rfl)) (eA (bw (eA bh ao rfl)) ao rfl) rfl) rfl) rfl)))
     ·refine b7 ?_;exact (dB (eOp az (eOp az (eSl (orS cG (orS bW cH)) (ah 1 rfl (Or.inl rfl) rfl rfl) o6 (eP aq)) (fB (eA (eIx ai (ah 5 rfl (Or.inl rfl) rfl rfl) (ah 2 rfl (Or.inl rfl) rfl rfl) (fun _ _=>rfl)) ao rfl))) (eSl (orS cG (orS bW cH)) (ah 1 rfl (Or.inl rfl) rfl rfl) (eP aq) o6)))
theorem jI (T:Txt K mg t) (G_draw:cA P w K mg base t):dX P w K mg base t :=
 T.fU.okJ bC (fun vs H Q E h=>bt h) (fun cdv A outer s H vs Q E hr h=>⟨_,jb T G_draw hr,by rw [show cW K t=rS K (gav t) cU from rfl];exact bQ (N:=["_law_pen_here", "_law_parts", "_law_way", "_law_row", "_law_great", "_law_some"]) (fu T) h (by decide)⟩)
def jm (K:Fg) (t:Adr):TS :=
 (aT (bF (aJ (i8 K) [] E0 (aa (ag 0) (aa (ag 1) (aa (ag 2) aj)))) (ar 3))
  (aT (bF (aJ (aD K) [] E0 (aa (ag 0) (aa (tC (.int 20)) aj))) (ar 4))
  (aT (dQ (bf (tOp (fun x y=>eqP.r K [x,y]) (ag 4) (tC (.int 0)))) (cC (br (aa (tC (.str "least")) (aa (br (aa (tC (.str "all")) (aa (br (aa (tOp (fun x y=>ixP.r K [x,y]) (ag 3) (tC (.int 0))) (aa (tOp (fun x y=>ixP.r K [x,y]) (ag 3) (tC (.int 3))) aj))) aj))) aj)))) bB)
  (aT (dQ (bf (tOp (fun x y=>eqP.r K [x,y]) (ag 4) (tC (.int 1)))) (cC (br (aa (tC (.str "greatest")) (aa (tOp (fun x y=>ixP.r K [x,y]) (ag 3) (tC (.int 0))) aj)))) bB)
  (aT (dQ (bf (tOp (fun x y=>eqP.r K [x,y]) (ag 4) (tC (.int 2)))) (cC (br (aa (tC (.str "greatest")) (aa (br (aa (tC (.str "some")) (aa (tCB (aP.r K) (aa (ag 3) aj)) aj))) aj)))) bB)
  (aT (dQ (bf (tOp (fun x y=>eqP.r K [x,y]) (ag 4) (tC (.int 3)))) (cC (br (aa (tC (.str "greatest")) (aa (br (aa (tC (.str "all")) (aa (br aj) aj))) aj)))) bB)
  (aT (dQ (bf (tOp (fun x y=>eqP.r K [x,y]) (ag 4) (tC (.int 4)))) (cC (br (aa (tC (.str "greatest")) (aa (br (aa (tC (.str "all")) (aa (br (aa (br (aa (tC (.str "from")) (aa (tC (.int 0)) aj))) (aa (tOp (fun x y=>ixP.r K [x,y]) (ag 3) (tC (.int 1))) aj))) aj))) aj)))) bB)
  (aT (dQ (bf (tOp (fun x y=>eqP.r K [x,y]) (ag 4) (tC (.int 5)))) (cC (br (aa (tC (.str "greatest")) (aa (br (aa (tC (.str "all")) (aa (tCB (aP.r K) (aa (tSl (fo mz (fo (mI K) (mr K))) (ag 3) (eE (tC (.int 1))) bR) aj)) aj))) aj)))) bB)
  (aT (dQ (bf (tOp (fun x y=>eqP.r K [x,y]) (ag 4) (tC (.int 6)))) (cC (br (aa (tC (.str "greatest")) (aa (br (aa (tC (.str "all")) (aa (tOp (fun x y=>bE.r K [x,y]) (br (aa (br (aa (tC (.str "is")) (aa (tC (.str "ann")) aj))) aj)) (tCB (aP.r K) (aa (tSl (fo mz (fo (mI K) (mr K))) (ag 3) (eE (tC (.int 1))) bR) aj))) aj))) aj)))) bB)
  (aT (dQ (bf (tOp (fun x y=>eqP.r K [x,y]) (ag 4) (tC (.int 7)))) (cC (br (aa (tC (.str "greatest")) (aa (br (aa (tC (.str "all")) (aa (br (aa (tOp (fun x y=>ixP.r K [x,y]) (ag 3) (tC (.int 0))) (aa (tOp (fun x y=>ixP.r K [x,y]) (ag 3) (tC (.int 2))) (aa (tOp (fun x y=>ixP.r K [x,y]) (ag 3) (tC (.int 1))) (aa (tOp (fun x y=>ixP.r K [x,y]) (ag 3) (tC (.int 3))) aj))))) aj))) aj)))) bB)
  (aT (dQ (bf (tOp (fun x y=>eqP.r K [x,y]) (ag 4) (tC (.int 8)))) (aT (bF (i6 [1] (ij K (ag 2)) wL (br (aa (tC (.str "each")) (aa (tC (.int 0)) (aa (tC .non) (aa (ag 0) (aa (br (aa (tC (.str "keeps")) (aa (tOp (fun x y=>ixP.r K [x,y]) (ag 1) (tC (.int 0))) aj))) aj))))))) (ar 5))
  (aT (bF (tOp (fun x y=>bE.r K [x,y]) (ag 5) (tSl (fo mz (fo (mI K) (mr K))) (eJ (aa (br (aa (tC (.str "closed")) (aa (br aj) aj))) aj)) bR (eE (aJ (aD K) [] E0 (aa (ag 0) (aa (tC (.int 2)) aj)))))) (ar 5))
  (cC (br (aa (tC (.str "greatest")) (aa (br (aa (tC (.str "all")) (aa (tOp (fun x y=>bE.r K [x,y]) (br (aa (tOp (fun x y=>ixP.r K [x,y]) (ag 3) (tC (.int 0))) aj)) (tCB (aP.r K) (aa (ag 5) aj))) aj))) aj)))))) bB)
  (aT (dQ (bf (tOp (fun x y=>eqP.r K [x,y]) (ag 4) (tC (.int 9)))) (cC (br (aa (tC (.str "greatest")) (aa (br (aa (tC (.str "all")) (aa (br (aa (tOp (fun x y=>ixP.r K [x,y]) (ag 3) (tC (.int 0))) (aa (tOp (fun x y=>ixP.r K [x,y]) (ag 3) (tC (.int 3))) (aa (tOp (fun x y=>ixP.r K [x,y]) (ag 3) (tC (.int 1))) aj)))) aj))) aj)))) bB)
  (aT (dQ (bf (tOp (fun x y=>eqP.r K [x,y]) (ag 4) (tC (.int 10)))) (cC (br (aa (tC (.str "greatest")) (aa (br (aa (tC (.str "all")) (aa (tOp (fun x y=>bE.r K [x,y]) (tCB (aP.r K) (aa (ag 3) aj)) (tOp (fun x y=>ixP.r K [x,y]) (eJ (aa (br (aa (br (aa (tC (.str "any")) aj)) aj)) (aa (br (aa (tOp (fun x y=>ixP.r K [x,y]) (ag 3) (tC (.int 3))) aj)) aj))) (aJ (aD K) [] E0 (aa (ag 0) (aa (tC (.int 2)) aj))))) aj))) aj)))) bB)
  (cC (br (aa (tC (.str "greatest")) (aa (br (aa (tC (.str "all")) (aa (tCB (aP.r K) (aa (aJ (fC K) [] E0 (aa (ag 0) (aa (ag 3) (aa (tOp (fun x y=>zc.r K [x,y]) (ag 4) (tC (.int 11))) aj)))) aj)) aj))) aj)))))))))))))))))
theorem qL (T:Txt K mg t) (G_two_rows:gJ P w K mg base t) (G_draw:cA P w K mg base t) (G_rows_spoilt:dX P w K mg base t) (hr:cP 2 (A.deeper (envOfC "_law_spoilt" (ae aV) s.heap.objs.size t.gk cdv))):JSs (iu CX0 P w K mg base ["_law_pen_here", "_law_names_here", "_law_bonds", "_law_parts", "_law_way", "_law_more"] "_law_spoilt" (ae aV) t.gk cdv A outer s H E).nox (ak aV) (jm K t):=by
 unfold jm;refine ba ?_ ?_
 ·refine b8 (i:=3) ?_ eV.nd rfl (Or.inl rfl) rfl (Or.inl rfl);exact (aS G_two_rows (hr.mono (by omega)) rfl T.qM T.j5.kp T.qm .nil aQ (eA (ah 0 rfl (Or.inl rfl) rfl rfl) (eA (ah 1 rfl (Or.inr (Or.inl rfl)) rfl rfl) (eA (ah 2 rfl (Or.inl rfl) rfl rfl) ao rfl) rfl) rfl) rfl rfl rfl)
 ·refine ba ?_ ?_
  ·refine b8 (i:=4) ?_ eV.nd rfl (Or.inl rfl) rfl (Or.inl rfl);exact (aS G_draw (hr.mono (by omega)) rfl T.aY T.aW.kp T.aX .nil aQ (eA (ah 0 rfl (Or.inl rfl) rfl rfl) (eA aq ao rfl) rfl) rfl rfl rfl)
  ·refine ba ?_ ?_
   ·refine fm ?_ ?_ ?_
    ·exact (bu (cb hr.units) (ah 4 rfl (Or.inl rfl) rfl rfl) aq (aK _))
    ·refine b7 ?_;exact (dB (bw (eA bh (eA (bw (eA bh (eA (bw (eA (eIx ai (ah 3 rfl (Or.inl rfl) rfl rfl) aq (fun _ _=>rfl)) (eA (eIx ai (ah 3 rfl (Or.inl rfl) rfl rfl) aq (fun _ _=>rfl)) ao rfl) rfl)) ao rfl) rfl)) ao rfl) rfl)))
    ·exact fw
   ·refine ba ?_ ?_
    ·refine fm ?_ ?_ ?_
     ·exact (bu (cb hr.units) (ah 4 rfl (Or.inl rfl) rfl rfl) aq (aK _))
     ·refine b7 ?_;exact (dB (bw (eA bh (eA (eIx ai (ah 3 rfl (Or.inl rfl) rfl rfl) aq (fun _ _=>rfl)) ao rfl) rfl)))
     ·exact fw
    ·refine ba ?_ ?_
     ·refine fm ?_ ?_ ?_
      ·exact (bu (cb hr.units) (ah 4 rfl (Or.inl rfl) rfl rfl) aq (aK _))
      ·refine b7 ?_;exact (dB (bw (eA bh (eA (bw (eA bh (eA (eTy aR rfl T.z_tuple (by decide +kernel) (eA (ah 3 rfl (Or.inl rfl) rfl rfl) ao rfl) rfl rfl (by decide) rfl) ao rfl) rfl)) ao rfl) rfl)))
      ·exact fw
     ·refine ba ?_ ?_
      ·refine fm ?_ ?_ ?_
       ·exact (bu (cb hr.units) (ah 4 rfl (Or.inl rfl) rfl rfl) aq (aK _))
       ·refine b7 ?_;exact (dB (bw (eA bh (eA (bw (eA bh (eA (bw ao) ao rfl) rfl)) ao rfl) rfl)))
       ·exact fw
      ·refine ba ?_ ?_
       ·refine fm ?_ ?_ ?_
        ·exact (bu (cb hr.units) (ah 4 rfl (Or.inl rfl) rfl rfl) aq (aK _))
        ·refine b7 ?_;exact (dB (bw (eA bh (eA (bw (eA bh (eA (bw (eA (bw (eA bh (eA aq ao rfl) rfl)) (eA (eIx ai (ah 3 rfl (Or.inl rfl) rfl rfl) aq (fun _ _=>rfl)) ao rfl) rfl)) ao rfl) rfl)) ao rfl) rfl)))
        ·exact fw
       ·refine ba ?_ ?_
        ·refine fm ?_ ?_ ?_
         ·exact (bu (cb hr.units) (ah 4 rfl (Or.inl rfl) rfl rfl) aq (aK _))
         ·refine b7 ?_;exact (dB (bw (eA bh (eA (bw (eA bh (eA (eTy aR rfl T.z_tuple (by decide +kernel) (eA (eSl (orS cG (orS bW cH)) (ah 3 rfl (Or.inl rfl) rfl rfl) (eP aq) o6) ao rfl) rfl rfl (by decide) rfl) ao rfl) rfl)) ao rfl) rfl)))
         ·exact fw
        ·refine ba ?_ ?_
         ·refine fm ?_ ?_ ?_
          ·exact (bu (cb hr.units) (ah 4 rfl (Or.inl rfl) rfl rfl) aq (aK _))
          ·refine b7 ?_;exact (dB (bw (eA bh (eA (bw (eA bh (eA (eOp az (bw (eA (bw (eA bh (eA bh ao rfl) rfl)) ao rfl)) (eTy aR rfl T.z_tuple (by decide +kernel) (eA (eSl (orS cG (orS bW cH)) (ah 3 rfl (Or.inl rfl) rfl rfl) (eP aq) o6) ao rfl) rfl rfl (by decide) rfl)) ao rfl) rfl)) ao rfl) rfl)))
          ·exact fw
         ·refine ba ?_ ?_
          ·refine fm ?_ ?_ ?_
           ·exact (bu (cb hr.units) (ah 4 rfl (Or.inl rfl) rfl rfl) aq (aK _))
           ·refine b7 ?_;exact (dB (bw (eA bh (eA (bw (eA bh (eA (bw (eA (eIx ai (ah 3 rfl (Or.inl rfl) rfl rfl) aq (fun _ _=>rfl)) (eA (eIx ai (ah 3 rfl (Or.inl rfl) rfl rfl) aq (fun _ _=>rfl)) (eA (eIx ai (ah 3 rfl (Or.inl rfl) rfl rfl) aq (fun _ _=>rfl)) (eA (eIx ai (ah 3 rfl (Or.inl rfl) rfl rfl) aq (fun _ _=>rfl)) ao rfl) rfl) rfl) rfl)) ao rfl) rfl)) ao rfl) rfl)))
           ·exact fw
          ·refine ba ?_ ?_
           ·refine fm ?_ ?_ ?_
            ·exact (bu (cb hr.units) (ah 4 rfl (Or.inl rfl) rfl rfl) aq (aK _))
            ·refine ba ?_ ?_
             ·exact (u5 (i:=5) ["_law_names_here"] (eIL (ah 2 rfl (Or.inl rfl) rfl rfl)) eT0 (eC fun _ _ _ _=>(bw (eA bh (eA aq (eA j6 (eA (ah 0 rfl (Or.inl rfl) rfl rfl) (eA (bw (eA bh (eA (eIx ai (ah 1 rfl (Or.inr (Or.inl rfl)) rfl rfl) aq (fun _ _=>rfl)) ao rfl) rfl)) ao rfl) rfl) rfl) rfl) rfl))) eV.nd rfl rfl rfl rfl (bsc (sc:=ae aV) rfl (by decide +kernel)) (by decide +kernel) ⟨rfl,⟨rfl,rfl⟩,trivial⟩ (fun _=>rfl))
             ·refine ba ?_ ?_
              ·refine b8 (i:=5) ?_ eV.nd rfl (Or.inl rfl) rfl (Or.inl rfl);exact (eOp az (ah 5 rfl (Or.inl rfl) rfl rfl) (eSl (orS cG (orS bW cH)) (fB (eA (bw (eA bh (eA (bw ao) ao rfl) rfl)) ao rfl)) o6 (eP (aS G_draw (hr.mono (by omega)) rfl T.aY T.aW.kp T.aX .nil aQ (eA (ah 0 rfl (Or.inl rfl) rfl rfl) (eA aq ao rfl) rfl) rfl rfl rfl))))
              ·refine b7 ?_;exact (dB (bw (eA bh (eA (bw (eA bh (eA (eOp az (bw (eA (eIx ai (ah 3 rfl (Or.inl rfl) rfl rfl) aq (fun _ _=>rfl)) ao rfl)) (eTy aR rfl T.z_tuple (by decide +kernel) (eA (ah 5 rfl (Or.inl rfl) rfl rfl) ao rfl) rfl rfl (by decide) rfl)) ao rfl) rfl)) ao rfl) rfl)))
            ·exact fw
           ·refine ba ?_ ?_
            ·refine fm ?_ ?_ ?_
             ·exact (bu (cb hr.units) (ah 4 rfl (Or.inl rfl) rfl rfl) aq (aK _))
             ·refine b7 ?_;exact (dB (bw (eA bh (eA (bw (eA bh (eA (bw (eA (eIx ai (ah 3 rfl (Or.inl rfl) rfl rfl) aq (fun _ _=>rfl)) (eA (eIx ai (ah 3 rfl (Or.inl rfl) rfl rfl) aq (fun _ _=>rfl)) (eA (eIx ai (ah 3 rfl (Or.inl rfl) rfl rfl) aq (fun _ _=>rfl)) ao rfl) rfl) rfl)) ao rfl) rfl)) ao rfl) rfl)))
             ·exact fw
            ·refine ba ?_ ?_
             ·refine fm ?_ ?_ ?_
              ·exact (bu (cb hr.units) (ah 4 rfl (Or.inl rfl) rfl rfl) aq (aK _))
              ·refine b7 ?_;exact (dB (bw (eA bh (eA (bw (eA bh (eA (eOp az (eTy aR rfl T.z_tuple (by decide +kernel) (eA (ah 3 rfl (Or.inl rfl) rfl rfl) ao rfl) rfl rfl (by decide) rfl) (eIx ai (fB (eA (bw (eA (bw (eA bh ao rfl)) ao rfl)) (eA (bw (eA (eIx ai (ah 3 rfl (Or.inl rfl) rfl rfl) aq (fun _ _=>rfl)) ao rfl)) ao rfl) rfl)) (aS G_draw (hr.mono (by omega)) rfl T.aY T.aW.kp T.aX .nil aQ (eA (ah 0 rfl (Or.inl rfl) rfl rfl) (eA aq ao rfl) rfl) rfl rfl rfl) (fun _ _=>rfl))) ao rfl) rfl)) ao rfl) rfl)))
              ·exact fw
             ·refine b7 ?_;exact (dB (bw (eA bh (eA (bw (eA bh (eA (eTy aR rfl T.z_tuple (by decide +kernel) (eA (aS G_rows_spoilt (hr.mono (by omega)) rfl T.lj T.fU.kp T.kR .nil aQ (eA (ah 0 rfl (Or.inl rfl) rfl rfl) (eA (ah 3 rfl (Or.inl rfl) rfl rfl) (eA (eOp oS (ah 4 rfl (Or.inl rfl) rfl rfl) aq) ao rfl) rfl) rfl) rfl rfl rfl) ao rfl) rfl rfl (by decide) rfl) ao rfl) rfl)) ao rfl) rfl)))
theorem tK (T:Txt K mg t) (G_two_rows:gJ P w K mg base t) (G_draw:cA P w K mg base t) (G_rows_spoilt:dX P w K mg base t):fX P w K mg base t :=
 T.iF.okJ eV (fun vs H Q E h=>bt h) (fun cdv A outer s H vs Q E hr h=>⟨_,qL T G_two_rows G_draw G_rows_spoilt hr,by rw [show jm K t=rS K (gav t) iS from rfl];exact bQ (N:=["_law_pen_here", "_law_names_here", "_law_bonds", "_law_parts", "_law_way", "_law_more"]) (fu T) h (by decide)⟩)
def gK (K:Fg) (t:Adr):TS :=
 (cC (tCB (xS.r K) (aa (aJ (jf K) [] E0 (aa (ag 0) aj)) aj)))
theorem om (T:Txt K mg t) (G_rungs_of:cZ P w K mg base t) (hr:cP 5 (A.deeper (envOfC "_law_refused" (ae aN) s.heap.objs.size t.eM cdv))):JSs (iu CX0 P w K mg base ["_law_book_here", "_law_caught", "_ex"] "_law_refused" (ae aN) t.eM cdv A outer s H E).nox (ak aN) (gK K t):=by
 unfold gK;exact (Dz (i:=1) (j:=0) (C:=t.au) (Dc:=t.cu) (fld := "name") (Bs:=[t.eY,t.iL,t.jo,t.fS,t.gm,t.jC,t.gf,t.eZ]) (r:=xS.r K) G_rungs_of (hr.mono (by omega)) rfl T.j0 T.gQ.kp T.jW rfl xj ke.nd rfl (Or.inl rfl) (Or.inl rfl) (Or.inl rfl) rfl rfl rfl (Or.inl rfl) rfl rfl (by decide) rfl rfl rfl rfl rfl rfl (by show ¬("e" : Str)∈(["_law_book_here", "_law_caught", "_ex"]:List Str);decide +kernel) T.eO T.hJ T.kg T.mr_NotSimple_ShapeError rfl T.fW rfl rfl rfl (fun _ _ z=>z) rfl T.z_isinstance rfl T.fb rfl rfl T.z_ValueError T.mv_NotSimple T.mT (fun ea oe=>(by show PA _ _ (aa (tC (.ref t.eY)) (aa (tC (.ref t.iL)) (aa (tC (.ref t.jo)) (aa (tC (.ref t.fS)) (aa (tC (.ref t.gm)) (aa (tC (.ref t.jC)) (aa (tC (.ref t.gf)) (aa (tC (.ref t.eZ)) aj))))))));exact JA.h (eA (fL (v:=.ref t.eY) rfl T.qP rfl rfl) (eA (fL (v:=.ref t.iL) rfl T.vO rfl rfl) (eA (fL (v:=.ref t.jo) rfl T.vS rfl rfl) (eA (fL (v:=.ref t.fS) rfl T.tq rfl rfl) (eA (fL (v:=.ref t.gm) rfl T.ur rfl rfl) (eA (fL (v:=.ref t.jC) rfl T.vB rfl rfl) (eA (fL (v:=.ref t.gf) rfl T.uw rfl rfl) (eA (fL (v:=.ref t.eZ) rfl T.qQ rfl rfl) ao rfl) rfl) rfl) rfl) rfl) rfl) rfl) rfl))) (by show 8<=sizeLine;decide) (fun B hB=>by simp only [Hs,HV,Iv] at hB;rcases hB with rfl | rfl | rfl | rfl | rfl | rfl | rfl | rfl;exact T.k2_NotSimple_Against;exact T.k2_NotSimple_Clash;exact T.k2_NotSimple_Mixed;exact T.k2_NotSimple_NoBook;exact T.k2_NotSimple_NoForm;exact T.k2_NotSimple_NoMay;exact T.k2_NotSimple_NoText;exact T.k2_NotSimple_Unknown) rfl (fun _ _ _ h=>h))
theorem qF (T:Txt K mg t) (G_rungs_of:cZ P w K mg base t):ju P w K mg base t :=
 T.ji.okJ ke (fun vs H Q E h=>bt h) (fun cdv A outer s H vs Q E hr h=>⟨_,om T G_rungs_of hr,by rw [show gK K t=rS K (gav t) gy from rfl];exact bQ (N:=["_law_book_here", "_law_caught", "_ex"]) (fu T) h (by decide)⟩)
def oP (K:Fg) (t:Adr):TS :=
 (aT (bF (aJ (iB K) [] E0 (aa (ag 0) (aa (tOp (fun x y=>ixP.r K [x,y]) (eJ (aa (tC (.int 0)) (aa (tC (.int 5)) (aa (tC (.int 6)) (aa (tC (.int 7)) aj))))) (aJ (aD K) [] E0 (aa (ag 0) (aa (tC (.int 4)) aj)))) aj))) (ar 2))
  (aT (bF (tCB (qZ.r K) (aa (tOp (fun x y=>ixP.r K [x,y]) (aJ (kz K) [] E0 (aa (aJ (kT K) [] E0 (aa (ag 0) (aa (ag 2) (aa (ag 1) aj)))) (aa (eJ aj) aj))) (tC (.int 0))) aj)) (ar 3))
  (aT (bF (i6 [] (ij K (tSl (fo mz (fo (mI K) (mr K))) (ag 2) bR (eE (aJ (aD K) [] E0 (aa (ag 0) (aa (tC (.int 2)) aj)))))) wL (br (aa (tC (.str "kind")) (aa (tC (.str "thing")) (aa (ag 0) aj))))) (ar 4))
  (aT (dQ (yB (bf (tOp (fun x y=>neP.r K [x,y]) (ag 3) (eJ aj))) (bf (tOp (fun x y=>eqP.r K [x,y]) (aJ (aD K) [] E0 (aa (ag 0) (aa (tC (.int 2)) aj))) (tC (.int 0))))) (aT (bF (aJ (aD K) [] E0 (aa (ag 0) (aa (tCB (gE.r K) (aa (ag 3) aj)) aj))) (ar 5))
  (bF (tOp (fun x y=>bE.r K [x,y]) (br (aa (tOp (fun x y=>ixP.r K [x,y]) (ag 2) (ag 5)) aj)) (aJ (gq K) [] E0 (aa (ag 0) (aa (ag 2) (aa (ag 1) aj))))) (CF (ag 3) (ag 5) tS))) bB)
  (cC (br (aa (tCB (aP.r K) (aa (ag 3) aj)) (aa (tCB (aP.r K) (aa (ag 4) aj)) aj))))))))
theorem uX (T:Txt K mg t) (G_names:jy P w K mg base t) (G_draw:cA P w K mg base t) (G_book:lN P w K mg base t) (G_rungs:iV P w K mg base t) (G_spoilt:fX P w K mg base t) (hr:cP 3 (A.deeper (envOfC "_law_many" (ae bD) s.heap.objs.size t.mU cdv))):JSs (iu CX0 P w K mg base ["_law_pen_here", "_law_bonds", "_law_names_here", "_law_shapes", "_law_debts", "_law_at"] "_law_many" (ae bD) t.mU cdv A outer s H E).nox (ak bD) (oP K t):=by
 unfold oP;refine ba ?_ ?_
 ·refine b8 (i:=2) ?_ iY.nd rfl (Or.inl rfl) rfl (Or.inl rfl);exact (aS G_names (hr.mono (by omega)) rfl T.ot T.ll.kp T.oF .nil aQ (eA (ah 0 rfl (Or.inl rfl) rfl rfl) (eA (eIx ai (fB (eA aq (eA aq (eA aq (eA aq ao rfl) rfl) rfl) rfl)) (aS G_draw (hr.mono (by omega)) rfl T.aY T.aW.kp T.aX .nil aQ (eA (ah 0 rfl (Or.inl rfl) rfl rfl) (eA aq ao rfl) rfl) rfl rfl rfl) (fun _ _=>rfl)) ao rfl) rfl) rfl rfl rfl)
 ·refine ba ?_ ?_
  ·refine b8 (i:=3) ?_ iY.nd rfl (Or.inl rfl) rfl (Or.inl rfl);exact (eTy (o9 rfl) rfl T.z_list (by decide +kernel) (eA (eIx ai (aS G_book (hr.mono (by omega)) rfl T.um T.oV.kp T.rp .nil aQ (eA (aS G_rungs (hr.mono (by omega)) rfl T.sL T.nG.kp T.su .nil aQ (eA (ah 0 rfl (Or.inl rfl) rfl rfl) (eA (ah 2 rfl (Or.inl rfl) rfl rfl) (eA (ah 1 rfl (Or.inl rfl) rfl rfl) ao rfl) rfl) rfl) rfl rfl rfl) (eA (fB ao) ao rfl) rfl) rfl rfl rfl) aq (fun _ _=>rfl)) ao rfl) rfl rfl (by decide) rfl)
  ·refine ba ?_ ?_
   ·exact (u5 (i:=4) [] (eIL (eSl (orS cG (orS bW cH)) (ah 2 rfl (Or.inl rfl) rfl rfl) o6 (eP (aS G_draw (hr.mono (by omega)) rfl T.aY T.aW.kp T.aX .nil aQ (eA (ah 0 rfl (Or.inl rfl) rfl rfl) (eA aq ao rfl) rfl) rfl rfl rfl)))) eT0 (eC fun _ _ _ _=>(bw (eA bh (eA bh (eA (ah 0 rfl (Or.inl rfl) rfl rfl) ao rfl) rfl) rfl))) iY.nd rfl rfl rfl rfl (bsc (sc:=ae bD) rfl (by decide +kernel)) (by decide +kernel) trivial (fun _=>rfl))
   ·refine ba ?_ ?_
    ·refine fm ?_ ?_ ?_
     ·exact (eW (uU (bu (gW hr.units) (ah 3 rfl (Or.inl rfl) rfl rfl) (fB ao) (aK _)) (pI (bu (cb hr.units) (aS G_draw (hr.mono (by omega)) rfl T.aY T.aW.kp T.aX .nil aQ (eA (ah 0 rfl (Or.inl rfl) rfl rfl) (eA aq ao rfl) rfl) rfl rfl rfl) aq (aK _)))))
     ·refine ba ?_ ?_
      ·refine b8 (i:=5) ?_ iY.nd rfl (Or.inl rfl) rfl (Or.inl rfl);exact (aS G_draw (hr.mono (by omega)) rfl T.aY T.aW.kp T.aX .nil aQ (eA (ah 0 rfl (Or.inl rfl) rfl rfl) (eA (eB cf rfl T.z_len (by decide +kernel) (eA (ah 3 rfl (Or.inl rfl) rfl rfl) ao rfl) rfl rfl (by decide) rfl) ao rfl) rfl) rfl rfl rfl)
      ·refine b7 ?_;exact (DI (eOp az (bw (eA (eIx ai (ah 2 rfl (Or.inl rfl) rfl rfl) (ah 5 rfl (Or.inl rfl) rfl rfl) (fun _ _=>rfl)) ao rfl)) (aS G_spoilt (hr.mono (by omega)) rfl T.lp T.iF.kp T.kC .nil aQ (eA (ah 0 rfl (Or.inl rfl) rfl rfl) (eA (ah 2 rfl (Or.inl rfl) rfl rfl) (eA (ah 1 rfl (Or.inl rfl) rfl rfl) ao rfl) rfl) rfl) rfl rfl rfl)) (D8 (ah 3 rfl (Or.inl rfl) rfl rfl) (ah 5 rfl (Or.inl rfl) rfl rfl) set_list (fun _=>rfl)) rfl rfl rfl)
     ·exact fw
    ·refine b7 ?_;exact (dB (bw (eA (eTy aR rfl T.z_tuple (by decide +kernel) (eA (ah 3 rfl (Or.inl rfl) rfl rfl) ao rfl) rfl rfl (by decide) rfl) (eA (eTy aR rfl T.z_tuple (by decide +kernel) (eA (ah 4 rfl (Or.inl rfl) rfl rfl) ao rfl) rfl rfl (by decide) rfl) ao rfl) rfl)))
theorem yo (T:Txt K mg t) (G_names:jy P w K mg base t) (G_draw:cA P w K mg base t) (G_book:lN P w K mg base t) (G_rungs:iV P w K mg base t) (G_spoilt:fX P w K mg base t):rQ P w K mg base t :=
 T.wm.okJ iY (fun vs H Q E h=>bt h) (fun cdv A outer s H vs Q E hr h=>⟨_,uX T G_names G_draw G_book G_rungs G_spoilt hr,by rw [show oP K t=rS K (gav t) nJ from rfl];exact bQ (N:=["_law_pen_here", "_law_bonds", "_law_names_here", "_law_shapes", "_law_debts", "_law_at"]) (fu T) h (by decide)⟩)
def tQ (K:Fg) (t:Adr):TS :=
 (aT (bF (aJ (wq K) [] E0 (aa (ag 0) aj)) (ar 1))
  (aT (bF (tCB (ki.r K) (aa (aJ (iB K) [] E0 (aa (ag 1) (aa (tC (.int 4)) aj))) aj)) (ar 2))
  (aT (qh (qp (aa (tC (.int 6)) aj)) (ar 3) (aT (dQ (bf (tOp (fun x y=>neP.r K [x,y]) (aJ (gL K) [] E0 (aa (aJ (tE K) [] E0 (aa (ag 1) (aa (ag 2) aj))) aj)) (eJ (aa (tC .non) aj)))) (cC (tC (.bl false))) bB)
  (aT (bF (aJ (iB K) [] E0 (aa (ag 1) (aa (tOp (fun x y=>bE.r K [x,y]) (tC (.int 1)) (aJ (aD K) [] E0 (aa (ag 1) (aa (tC (.int 4)) aj)))) aj))) (ar 4))
  (aT (bF (aJ (kT K) [] E0 (aa (ag 1) (aa (ag 4) (aa (ag 2) aj)))) (ar 5))
  (aT (bF (tCB (qZ.r K) (aa (tOp (fun x y=>ixP.r K [x,y]) (aJ (kz K) [] E0 (aa (ag 5) (aa (eJ aj) aj))) (tC (.int 0))) aj)) (ar 6))
  (aT (bF (aJ (aD K) [] E0 (aa (ag 1) (aa (tCB (gE.r K) (aa (ag 4) aj)) aj))) (ar 7))
  (aT (dQ (bf (tOp (fun x y=>eqP.r K [x,y]) (aJ (aD K) [] E0 (aa (ag 1) (aa (tC (.int 2)) aj))) (tC (.int 0)))) (bF (tOp (fun x y=>bE.r K [x,y]) (br (aa (tOp (fun x y=>ixP.r K [x,y]) (ag 4) (tUn (rU fun i=>.int (-i)) (tC (.int 1)))) aj)) (aJ (gq K) [] E0 (aa (ag 1) (aa (ag 4) (aa (ag 2) aj))))) (CF (ag 6) (tUn (rU fun i=>.int (-i)) (tC (.int 1))) tS)) bB)
  (aT (bF (tOp (fun x y=>bE.r K [x,y]) (br (aa (tOp (fun x y=>ixP.r K [x,y]) (ag 4) (ag 7)) aj)) (aJ (gq K) [] E0 (aa (ag 1) (aa (ag 4) (aa (ag 2) aj))))) (CF (ag 6) (ag 7) tS))
  (aT (dQ (bf (tOp (fun x y=>neP.r K [x,y]) (aJ (gL K) [] E0 (aa (br (aa (tCB (aP.r K) (aa (ag 6) aj)) (aa (br (aa (br (aa (tC (.str "node")) (aa (tC (.int 7)) (aa (tOp (fun x y=>ixP.r K [x,y]) (ag 4) (tC (.int 0))) aj)))) aj)) aj))) aj)) (eJ (aa (tOp (fun x y=>ixP.r K [x,y]) (ag 4) (ag 7)) aj)))) (cC (tC (.bl false))) bB)
  (dQ (bf (tOp (fun x y=>C2.r K [x,y]) (aJ (jf K) [] E0 (aa (aJ (kz K) [] E0 (aa (ag 5) (aa (eJ (aa (br (aa (tC (.str "node")) (aa (tC (.int 7)) (aa (tOp (fun x y=>ixP.r K [x,y]) (ag 4) (tC (.int 0))) aj)))) aj)) aj))) aj)) (ag 5))) (cC (tC (.bl false))) bB))))))))))
  (cC (tC (.bl true))))))
theorem xG (T:Txt K mg t) (G_pen:yY P w K mg base t) (G_names:jy P w K mg base t) (G_refused:ju P w K mg base t) (G_many:rQ P w K mg base t) (G_draw:cA P w K mg base t) (G_rungs:iV P w K mg base t) (G_book:lN P w K mg base t) (G_spoilt:fX P w K mg base t) (G_rungs_of:cZ P w K mg base t) (hr:cP 6 (A.deeper (envOfC "law" (ae cj) s.heap.objs.size t.lY cdv))):JSs (iu CX0 P w K mg base ["_law_script", "_law_pen_here", "_law_bonds", "_law_turn", "_law_names_here", "_law_rungs_here", "_law_shapes", "_law_at"] "law" (ae cj) t.lY cdv A outer s H E).nox (ak cj) (tQ K t):=by
 unfold tQ;refine ba ?_ ?_
 ·refine b8 (i:=1) ?_ gR.nd rfl (Or.inl rfl) rfl (Or.inl rfl);exact (aS G_pen (hr.mono (by omega)) rfl T.FD T.Ce.kp T.EZ .nil aQ (eA (ah 0 rfl (Or.inl rfl) rfl rfl) ao rfl) rfl rfl rfl)
 ·refine ba ?_ ?_
  ·refine b8 (i:=2) ?_ gR.nd rfl (Or.inl rfl) rfl (Or.inl rfl);exact (eB qg rfl T.z_sorted (by decide +kernel) (eA (aS G_names (hr.mono (by omega)) rfl T.ot T.ll.kp T.oF .nil aQ (eA (ah 1 rfl (Or.inl rfl) rfl rfl) (eA aq ao rfl) rfl) rfl rfl rfl) ao rfl) rfl rfl (by decide) rfl)
  ·refine ba ?_ ?_
   ·refine wJ ?_ (eGN (i:=3) gR.nd rfl (Or.inl rfl) (Or.inl rfl)) ?_ IY rfl (fun _=>rfl)
    ·exact (eR1 rfl T.z_range (eA aq ao rfl) rfl)
    ·refine ba ?_ ?_
     ·refine fm ?_ ?_ ?_
      ·exact (bu (gW hr.units) (aS G_refused (hr.mono (by omega)) rfl T.mJ T.ji.kp T.me .nil aQ (eA (aS G_many (hr.mono (by omega)) rfl T.A2 T.wm.kp T.BG .nil aQ (eA (ah 1 rfl (Or.inl rfl) rfl rfl) (eA (ah 2 rfl (Or.inl rfl) rfl rfl) ao rfl) rfl) rfl rfl rfl) ao rfl) rfl rfl rfl) (fB (eA j6 ao rfl)) (aK _))
      ·refine b7 ?_;exact (dB eBl)
      ·exact fw
     ·refine ba ?_ ?_
      ·refine b8 (i:=4) ?_ gR.nd rfl (Or.inl rfl) rfl (Or.inl rfl);exact (aS G_names (hr.mono (by omega)) rfl T.ot T.ll.kp T.oF .nil aQ (eA (ah 1 rfl (Or.inl rfl) rfl rfl) (eA (eOp az aq (aS G_draw (hr.mono (by omega)) rfl T.aY T.aW.kp T.aX .nil aQ (eA (ah 1 rfl (Or.inl rfl) rfl rfl) (eA aq ao rfl) rfl) rfl rfl rfl)) ao rfl) rfl) rfl rfl rfl)
      ·refine ba ?_ ?_
       ·refine b8 (i:=5) ?_ gR.nd rfl (Or.inl rfl) rfl (Or.inl rfl);exact (aS G_rungs (hr.mono (by omega)) rfl T.sL T.nG.kp T.su .nil aQ (eA (ah 1 rfl (Or.inl rfl) rfl rfl) (eA (ah 4 rfl (Or.inl rfl) rfl rfl) (eA (ah 2 rfl (Or.inl rfl) rfl rfl) ao rfl) rfl) rfl) rfl rfl rfl)
       ·refine ba ?_ ?_
        ·refine b8 (i:=6) ?_ gR.nd rfl (Or.inl rfl) rfl (Or.inl rfl);exact (eTy (o9 rfl) rfl T.z_list (by decide +kernel) (eA (eIx ai (aS G_book (hr.mono (by omega)) rfl T.um T.oV.kp T.rp .nil aQ (eA (ah 5 rfl (Or.inl rfl) rfl rfl) (eA (fB ao) ao rfl) rfl) rfl rfl rfl) aq (fun _ _=>rfl)) ao rfl) rfl rfl (by decide) rfl)
        ·refine ba ?_ ?_
         ·refine b8 (i:=7) ?_ gR.nd rfl (Or.inl rfl) rfl (Or.inl rfl);exact (aS G_draw (hr.mono (by omega)) rfl T.aY T.aW.kp T.aX .nil aQ (eA (ah 1 rfl (Or.inl rfl) rfl rfl) (eA (eB cf rfl T.z_len (by decide +kernel) (eA (ah 4 rfl (Or.inl rfl) rfl rfl) ao rfl) rfl rfl (by decide) rfl) ao rfl) rfl) rfl rfl rfl)
         ·refine ba ?_ ?_
          ·refine fm ?_ ?_ ?_
           ·exact (bu (cb hr.units) (aS G_draw (hr.mono (by omega)) rfl T.aY T.aW.kp T.aX .nil aQ (eA (ah 1 rfl (Or.inl rfl) rfl rfl) (eA aq ao rfl) rfl) rfl rfl rfl) aq (aK _))
           ·refine b7 ?_;exact (DI (eOp az (bw (eA (eIx ai (ah 4 rfl (Or.inl rfl) rfl rfl) (eUn jP aq) (fun _ _=>rfl)) ao rfl)) (aS G_spoilt (hr.mono (by omega)) rfl T.lp T.iF.kp T.kC .nil aQ (eA (ah 1 rfl (Or.inl rfl) rfl rfl) (eA (ah 4 rfl (Or.inl rfl) rfl rfl) (eA (ah 2 rfl (Or.inl rfl) rfl rfl) ao rfl) rfl) rfl) rfl rfl rfl)) (D8 (ah 6 rfl (Or.inl rfl) rfl rfl) (eUn jP aq) set_list (fun _=>rfl)) rfl rfl rfl)
           ·exact fw
          ·refine ba ?_ ?_
           ·exact (DI (eOp az (bw (eA (eIx ai (ah 4 rfl (Or.inl rfl) rfl rfl) (ah 7 rfl (Or.inl rfl) rfl rfl) (fun _ _=>rfl)) ao rfl)) (aS G_spoilt (hr.mono (by omega)) rfl T.lp T.iF.kp T.kC .nil aQ (eA (ah 1 rfl (Or.inl rfl) rfl rfl) (eA (ah 4 rfl (Or.inl rfl) rfl rfl) (eA (ah 2 rfl (Or.inl rfl) rfl rfl) ao rfl) rfl) rfl) rfl rfl rfl)) (D8 (ah 6 rfl (Or.inl rfl) rfl rfl) (ah 7 rfl (Or.inl rfl) rfl rfl) set_list (fun _=>rfl)) rfl rfl rfl)
           ·refine ba ?_ ?_
            ·refine fm ?_ ?_ ?_
             ·exact (bu (gW hr.units) (aS G_refused (hr.mono (by omega)) rfl T.mJ T.ji.kp T.me .nil aQ (eA (bw (eA (eTy aR rfl T.z_tuple (by decide +kernel) (eA (ah 6 rfl (Or.inl rfl) rfl rfl) ao rfl) rfl rfl (by decide) rfl) (eA (bw (eA (bw (eA bh (eA aq (eA (eIx ai (ah 4 rfl (Or.inl rfl) rfl rfl) aq (fun _ _=>rfl)) ao rfl) rfl) rfl)) ao rfl)) ao rfl) rfl)) ao rfl) rfl rfl rfl) (fB (eA (eIx ai (ah 4 rfl (Or.inl rfl) rfl rfl) (ah 7 rfl (Or.inl rfl) rfl rfl) (fun _ _=>rfl)) ao rfl)) (aK _))
             ·refine b7 ?_;exact (dB eBl)
             ·exact fw
            ·refine b7 ?_;refine fm ?_ ?_ ?_
             ·exact (GV (C:=t.au) (fld := "name") hr.units G_rungs_of (hr.mono (by omega)) rfl T.j0 T.gQ.kp T.jW (eA (aS G_book (hr.mono (by omega)) rfl T.um T.oV.kp T.rp .nil aQ (eA (ah 5 rfl (Or.inl rfl) rfl rfl) (eA (fB (eA (bw (eA bh (eA aq (eA (eIx ai (ah 4 rfl (Or.inl rfl) rfl rfl) aq (fun _ _=>rfl)) ao rfl) rfl) rfl)) ao rfl)) ao rfl) rfl) rfl rfl rfl) ao rfl) rfl rfl rfl xj (ah 5 rfl (Or.inl rfl) rfl rfl) (aK _) (by repeat (first | exact BZ | exact Hc | exact As | refine xI ?_ ?_ | refine y0 ?_ | refine A5 ?_ | refine BY ?_ | refine Fq ?_ ?_ E7)))
             ·refine b7 ?_;exact (dB eBl)
             ·exact fw
   ·refine b7 ?_;exact (dB eBl)
theorem AF (T:Txt K mg t) (G_pen:yY P w K mg base t) (G_names:jy P w K mg base t) (G_refused:ju P w K mg base t) (G_many:rQ P w K mg base t) (G_draw:cA P w K mg base t) (G_rungs:iV P w K mg base t) (G_book:lN P w K mg base t) (G_spoilt:fX P w K mg base t) (G_rungs_of:cZ P w K mg base t):Fy P w K mg base t :=
 T.Dh.okJ gR (fun vs H Q E h=>bt h) (fun cdv A outer s H vs Q E hr h=>⟨_,xG T G_pen G_names G_refused G_many G_draw G_rungs G_book G_spoilt G_rungs_of hr,by rw [show tQ K t=rS K (gav t) rL from rfl];exact bQ (N:=["_law_script", "_law_pen_here", "_law_bonds", "_law_turn", "_law_names_here", "_law_rungs_here", "_law_shapes", "_law_at"]) (fu T) h (by decide)⟩)
end
theorem Bo {P:Program} {w:World} {K:Fg} {mg:Str->Option Value} {base:Heap} {t:Adr} (T:Txt K mg t):fK P w K mg base CX0 7 t.lY t.nt ["_law_script"] (tV K):=by
 have h_pen:=z4 (P:=P) (w:=w) (base:=base) T;have h_draw:=ye (P:=P) (w:=w) (base:=base) T;have h_names:=vg (P:=P) (w:=w) (base:=base) T h_draw;have h_row_of:=rn (P:=P) (w:=w) (base:=base) T;have h_are_rows:=n5 (P:=P) (w:=w) (base:=base) T;have h_rung_of:=qu (P:=P) (w:=w) (base:=base) T h_row_of h_are_rows;have h_rungs_of:=oj (P:=P) (w:=w) (base:=base) T h_rung_of;have h_refused:=qF (P:=P) (w:=w) (base:=base) T h_rungs_of;have h_book:=zp (P:=P) (w:=w) (base:=base) T;have h_rows:=yN (P:=P) (w:=w) (base:=base) T h_draw;have h_rungs:=uL (P:=P) (w:=w) (base:=base) T h_draw h_rows;have h_two_rows:=nA (P:=P) (w:=w) (base:=base) T h_draw;have h_rows_spoilt:=jI (P:=P) (w:=w) (base:=base) T h_draw;have h_spoilt:=tK (P:=P) (w:=w) (base:=base) T h_two_rows h_draw h_rows_spoilt;have h_many:=yo (P:=P) (w:=w) (base:=base) T h_names h_draw h_book h_rungs h_spoilt;have h_law:=AF (P:=P) (w:=w) (base:=base) T h_pen h_names h_refused h_many h_draw h_rungs h_book h_spoilt h_rungs_of;exact h_law
theorem CD {K:Fg} {h:Heap} {mg:Str->Option Value} (X:K.In h) (G:h.Ns mainGlobals mg)
  {f0:Addr} {od0 an0:Option Addr} {sl0:Array (Option Value)} {oc0 kV0 dc0 pm0 cd0 ct0:Value}
  (a0:PySem.W.nsIn K mainGlobals "row_of" = some (some (.ref f0))) (l0:K.lookup f0=some ⟨oc0,od0,.func (PySem.W.fnOf "row_of" "row_of" (ax aZ) (ak aZ) (ae aZ) .none kV0 dc0 pm0 an0 cd0 ct0),sl0⟩) (c0:PySem.W.codeIn K cd0 "row_of" = true) (k0:PySem.W.keepIn K (.ref f0)=true)
  {f1:Addr} {od1 an1:Option Addr} {sl1:Array (Option Value)} {oc1 kV1 dc1 pm1 cd1 ct1:Value}
  (a1:PySem.W.nsIn K mainGlobals "are_rows" = some (some (.ref f1))) (l1:K.lookup f1=some ⟨oc1,od1,.func (PySem.W.fnOf "are_rows" "are_rows" (ax aE) (ak aE) (ae aE) .none kV1 dc1 pm1 an1 cd1 ct1),sl1⟩) (c1:PySem.W.codeIn K cd1 "are_rows" = true) (k1:PySem.W.keepIn K (.ref f1)=true)
  {f2:Addr} {od2 an2:Option Addr} {sl2:Array (Option Value)} {oc2 kV2 dc2 pm2 cd2 ct2:Value}
  (a2:PySem.W.nsIn K mainGlobals "rung_of" = some (some (.ref f2))) (l2:K.lookup f2=some ⟨oc2,od2,.func (PySem.W.fnOf "rung_of" "rung_of" (ax aL) (ak aL) (ae aL) .none kV2 dc2 pm2 an2 cd2 ct2),sl2⟩) (c2:PySem.W.codeIn K cd2 "rung_of" = true) (k2:PySem.W.keepIn K (.ref f2)=true)
  {f3:Addr} {od3 an3:Option Addr} {sl3:Array (Option Value)} {oc3 kV3 dc3 pm3 cd3 ct3:Value}
  (a3:PySem.W.nsIn K mainGlobals "rungs_of" = some (some (.ref f3))) (l3:K.lookup f3=some ⟨oc3,od3,.func (PySem.W.fnOf "rungs_of" "rungs_of" (ax aI) (ak aI) (ae aI) .none kV3 dc3 pm3 an3 cd3 ct3),sl3⟩) (c3:PySem.W.codeIn K cd3 "rungs_of" = true) (k3:PySem.W.keepIn K (.ref f3)=true)
  {f4:Addr} {od4 an4:Option Addr} {sl4:Array (Option Value)} {oc4 kV4 dc4 pm4 cd4 ct4:Value}
  (a4:PySem.W.nsIn K mainGlobals "_law_pen" = some (some (.ref f4))) (l4:K.lookup f4=some ⟨oc4,od4,.func (PySem.W.fnOf "_law_pen" "_law_pen" (ax cg) (ak cg) (ae cg) .none kV4 dc4 pm4 an4 cd4 ct4),sl4⟩) (c4:PySem.W.codeIn K cd4 "_law_pen" = true) (k4:PySem.W.keepIn K (.ref f4)=true)
  {f5:Addr} {od5 an5:Option Addr} {sl5:Array (Option Value)} {oc5 kV5 dc5 pm5 cd5 ct5:Value}
  (a5:PySem.W.nsIn K mainGlobals "_law_draw" = some (some (.ref f5))) (l5:K.lookup f5=some ⟨oc5,od5,.func (PySem.W.fnOf "_law_draw" "_law_draw" (ax bL) (ak bL) (ae bL) .none kV5 dc5 pm5 an5 cd5 ct5),sl5⟩) (c5:PySem.W.codeIn K cd5 "_law_draw" = true) (k5:PySem.W.keepIn K (.ref f5)=true)
  {f6:Addr} {od6 an6:Option Addr} {sl6:Array (Option Value)} {oc6 kV6 dc6 pm6 cd6 ct6:Value}
  (a6:PySem.W.nsIn K mainGlobals "_law_names" = some (some (.ref f6))) (l6:K.lookup f6=some ⟨oc6,od6,.func (PySem.W.fnOf "_law_names" "_law_names" (ax bo) (ak bo) (ae bo) .none kV6 dc6 pm6 an6 cd6 ct6),sl6⟩) (c6:PySem.W.codeIn K cd6 "_law_names" = true) (k6:PySem.W.keepIn K (.ref f6)=true)
  {f7:Addr} {od7 an7:Option Addr} {sl7:Array (Option Value)} {oc7 kV7 dc7 pm7 cd7 ct7:Value}
  (a7:PySem.W.nsIn K mainGlobals "_law_rows" = some (some (.ref f7))) (l7:K.lookup f7=some ⟨oc7,od7,.func (PySem.W.fnOf "_law_rows" "_law_rows" (ax bM) (ak bM) (ae bM) .none kV7 dc7 pm7 an7 cd7 ct7),sl7⟩) (c7:PySem.W.codeIn K cd7 "_law_rows" = true) (k7:PySem.W.keepIn K (.ref f7)=true)
  {f8:Addr} {od8 an8:Option Addr} {sl8:Array (Option Value)} {oc8 kV8 dc8 pm8 cd8 ct8:Value}
  (a8:PySem.W.nsIn K mainGlobals "_law_rungs" = some (some (.ref f8))) (l8:K.lookup f8=some ⟨oc8,od8,.func (PySem.W.fnOf "_law_rungs" "_law_rungs" (ax bg) (ak bg) (ae bg) .none kV8 dc8 pm8 an8 cd8 ct8),sl8⟩) (c8:PySem.W.codeIn K cd8 "_law_rungs" = true) (k8:PySem.W.keepIn K (.ref f8)=true)
  {f9:Addr} {od9 an9:Option Addr} {sl9:Array (Option Value)} {oc9 kV9 dc9 pm9 cd9 ct9:Value}
  (a9:PySem.W.nsIn K mainGlobals "_law_book" = some (some (.ref f9))) (l9:K.lookup f9=some ⟨oc9,od9,.func (PySem.W.fnOf "_law_book" "_law_book" (ax bK) (ak bK) (ae bK) .none kV9 dc9 pm9 an9 cd9 ct9),sl9⟩) (c9:PySem.W.codeIn K cd9 "_law_book" = true) (k9:PySem.W.keepIn K (.ref f9)=true)
  {f10:Addr} {od10 an10:Option Addr} {sl10:Array (Option Value)} {oc10 kV10 dc10 pm10 cd10 ct10:Value}
  (a10:PySem.W.nsIn K mainGlobals "_law_two_rows" = some (some (.ref f10))) (l10:K.lookup f10=some ⟨oc10,od10,.func (PySem.W.fnOf "_law_two_rows" "_law_two_rows" (ax aH) (ak aH) (ae aH) .none kV10 dc10 pm10 an10 cd10 ct10),sl10⟩) (c10:PySem.W.codeIn K cd10 "_law_two_rows" = true) (k10:PySem.W.keepIn K (.ref f10)=true)
  {f11:Addr} {od11 an11:Option Addr} {sl11:Array (Option Value)} {oc11 kV11 dc11 pm11 cd11 ct11:Value}
  (a11:PySem.W.nsIn K mainGlobals "_law_rows_spoilt" = some (some (.ref f11))) (l11:K.lookup f11=some ⟨oc11,od11,.func (PySem.W.fnOf "_law_rows_spoilt" "_law_rows_spoilt" (ax aw) (ak aw) (ae aw) .none kV11 dc11 pm11 an11 cd11 ct11),sl11⟩) (c11:PySem.W.codeIn K cd11 "_law_rows_spoilt" = true) (k11:PySem.W.keepIn K (.ref f11)=true)
  {f12:Addr} {od12 an12:Option Addr} {sl12:Array (Option Value)} {oc12 kV12 dc12 pm12 cd12 ct12:Value}
  (a12:PySem.W.nsIn K mainGlobals "_law_spoilt" = some (some (.ref f12))) (l12:K.lookup f12=some ⟨oc12,od12,.func (PySem.W.fnOf "_law_spoilt" "_law_spoilt" (ax aV) (ak aV) (ae aV) .none kV12 dc12 pm12 an12 cd12 ct12),sl12⟩) (c12:PySem.W.codeIn K cd12 "_law_spoilt" = true) (k12:PySem.W.keepIn K (.ref f12)=true)
  {f13:Addr} {od13 an13:Option Addr} {sl13:Array (Option Value)} {oc13 kV13 dc13 pm13 cd13 ct13:Value}
  (a13:PySem.W.nsIn K mainGlobals "_law_refused" = some (some (.ref f13))) (l13:K.lookup f13=some ⟨oc13,od13,.func (PySem.W.fnOf "_law_refused" "_law_refused" (ax aN) (ak aN) (ae aN) .none kV13 dc13 pm13 an13 cd13 ct13),sl13⟩) (c13:PySem.W.codeIn K cd13 "_law_refused" = true) (k13:PySem.W.keepIn K (.ref f13)=true)
  {f14:Addr} {od14 an14:Option Addr} {sl14:Array (Option Value)} {oc14 kV14 dc14 pm14 cd14 ct14:Value}
  (a14:PySem.W.nsIn K mainGlobals "_law_many" = some (some (.ref f14))) (l14:K.lookup f14=some ⟨oc14,od14,.func (PySem.W.fnOf "_law_many" "_law_many" (ax bD) (ak bD) (ae bD) .none kV14 dc14 pm14 an14 cd14 ct14),sl14⟩) (c14:PySem.W.codeIn K cd14 "_law_many" = true) (k14:PySem.W.keepIn K (.ref f14)=true)
  {f15:Addr} {od15 an15:Option Addr} {sl15:Array (Option Value)} {oc15 kV15 dc15 pm15 cd15 ct15:Value}
  (a15:PySem.W.nsIn K mainGlobals "law" = some (some (.ref f15))) (l15:K.lookup f15=some ⟨oc15,od15,.func (PySem.W.fnOf "law" "law" (ax cj) (ak cj) (ae cj) .none kV15 dc15 pm15 an15 cd15 ct15),sl15⟩) (c15:PySem.W.codeIn K cd15 "law" = true) (k15:PySem.W.keepIn K (.ref f15)=true)
  (z_ValueError:PySem.W.nsIn K mainGlobals "ValueError" = some none)
  (z_abs:PySem.W.nsIn K mainGlobals "abs" = some none)
  (z_isinstance:PySem.W.nsIn K mainGlobals "isinstance" = some none)
  (z_len:PySem.W.nsIn K mainGlobals "len" = some none)
  (z_list:PySem.W.nsIn K mainGlobals "list" = some none)
  (z_min:PySem.W.nsIn K mainGlobals "min" = some none)
  (z_range:PySem.W.nsIn K mainGlobals "range" = some none)
  (z_set:PySem.W.nsIn K mainGlobals "set" = some none)
  (z_sorted:PySem.W.nsIn K mainGlobals "sorted" = some none)
  (z_tuple:PySem.W.nsIn K mainGlobals "tuple" = some none)
  {tk_MOST_COUNTED:Tok} (g_MOST_COUNTED:PySem.W.nsIn K mainGlobals "MOST_COUNTED" = some (some (Value.int 3 tk_MOST_COUNTED)))
  {tk_MOST_ROWS:Tok} (g_MOST_ROWS:PySem.W.nsIn K mainGlobals "MOST_ROWS" = some (some (Value.int 3 tk_MOST_ROWS)))
  {tk_MOST_SHAPES:Tok} (g_MOST_SHAPES:PySem.W.nsIn K mainGlobals "MOST_SHAPES" = some (some (Value.int 4 tk_MOST_SHAPES)))
  {ca_KIND_WORDS:Addr} (g_KIND_WORDS:PySem.W.nsIn K mainGlobals "KIND_WORDS" = some (some (.ref ca_KIND_WORDS)))
  {od_KIND_WORDS:Option Addr} {sl_KIND_WORDS:Array (Option Value)} {nn_KIND_WORDS:Nat} {tt_KIND_WORDS_0:Tok} {tt_KIND_WORDS_1:Tok} {tt_KIND_WORDS_2:Tok} {tt_KIND_WORDS_3:Tok} (s_KIND_WORDS:K.lookup ca_KIND_WORDS=some ⟨.type "tuple", od_KIND_WORDS,.seq #[.str "any" tt_KIND_WORDS_0,.str "thing" tt_KIND_WORDS_1,.str "number" tt_KIND_WORDS_2,.str "said" tt_KIND_WORDS_3] nn_KIND_WORDS,sl_KIND_WORDS⟩)
  {xa_NotSimple:Addr} (m_NotSimple:PySem.W.nsIn K mainGlobals "NotSimple" = some (some (.ref xa_NotSimple))) {xd_NotSimple:Option Addr} {xe_NotSimple:ClassData} {xg0_NotSimple xg1_NotSimple xg2_NotSimple xg3_NotSimple xg5_NotSimple:Option Value} (xl_NotSimple:K.lookup xa_NotSimple=some ⟨.type "type", xd_NotSimple,.cls xe_NotSimple,#[xg0_NotSimple,xg1_NotSimple,xg2_NotSimple,xg3_NotSimple,some (.builtin "ValueError.__new__"),xg5_NotSimple]⟩)
  {xb_NotSimple:List Value} (xm_NotSimple:xe_NotSimple.mro=.ref xa_NotSimple :: xb_NotSimple) (xh_NotSimple:xe_NotSimple.hasDel=false) (xt_NotSimple:PySem.W.tailIn K bmV xb_NotSimple=true) (xn_NotSimple:PySem.W.nsOkIn K xe_NotSimple.ns=true)
  {xi_NotSimple:Addr} (xj_NotSimple:PySem.W.nsIn K xe_NotSimple.ns "__init__" = some (some (.ref xi_NotSimple)))
  (cl_NotSimple:PySem.W.findIn K (.ref xa_NotSimple) "__class__" = some (some (.builtin "object.__class__"))) (ga_NotSimple:PySem.W.findIn K (.ref xa_NotSimple) "__getattribute__" = some (some (.builtin "BaseException.__getattribute__"))) (gg_NotSimple:PySem.W.findIn K (.ref xa_NotSimple) "__getattr__" = some none)
  {xa_ShapeError:Addr} (m_ShapeError:PySem.W.nsIn K mainGlobals "ShapeError" = some (some (.ref xa_ShapeError))) {xd_ShapeError:Option Addr} {xe_ShapeError:ClassData} {xg0_ShapeError xg1_ShapeError xg2_ShapeError xg3_ShapeError xg5_ShapeError:Option Value} (xl_ShapeError:K.lookup xa_ShapeError=some ⟨.type "type", xd_ShapeError,.cls xe_ShapeError,#[xg0_ShapeError,xg1_ShapeError,xg2_ShapeError,xg3_ShapeError,some (.builtin "ValueError.__new__"),xg5_ShapeError]⟩)
  {xb_ShapeError:List Value} (xm_ShapeError:xe_ShapeError.mro=.ref xa_ShapeError :: xb_ShapeError) (xh_ShapeError:xe_ShapeError.hasDel=false) (xt_ShapeError:PySem.W.tailIn K bmV xb_ShapeError=true) (xn_ShapeError:PySem.W.nsOkIn K xe_ShapeError.ns=true)
  (xj_ShapeError:PySem.W.nsIn K xe_ShapeError.ns "__init__" = some none)
  (cl_ShapeError:PySem.W.findIn K (.ref xa_ShapeError) "__class__" = some (some (.builtin "object.__class__"))) (ga_ShapeError:PySem.W.findIn K (.ref xa_ShapeError) "__getattribute__" = some (some (.builtin "BaseException.__getattribute__"))) (gg_ShapeError:PySem.W.findIn K (.ref xa_ShapeError) "__getattr__" = some none)
  (sa_NotSimple:PySem.W.findIn K (.ref xa_NotSimple) "__setattr__" = some (some (.builtin "object.__setattr__"))) (po_NotSimple:CS K xa_NotSimple=true) (tk_NotSimple:PySem.W.takerIn K xa_NotSimple "name" = some none) (hd_NotSimple:PySem.W.hasDictIn K xa_NotSimple=true) (sp_NotSimple:PySem.W.specialIn K (.ref xa_ShapeError) "__getattribute__" = some (some (.builtin "type.__getattribute__"))) (rd_NotSimple:PySem.W.readsIn K xa_ShapeError (.type "type")=true) (na_NotSimple:PySem.W.findIn K (.ref xa_NotSimple) "name" = some none) (fc_NotSimple:PySem.W.findCls K (.ref xa_ShapeError) (.type "type") "__init__" = some (.val (.builtin "ValueError.__init__"))) (kp_NotSimple:PySem.W.keepIn K (.ref xa_NotSimple)=true)
  {odI_NotSimple anI_NotSimple:Option Addr} {slI_NotSimple:Array (Option Value)} {kVI_NotSimple dcI_NotSimple pmI_NotSimple cdI_NotSimple ctI_NotSimple:Value} (lI_NotSimple:K.lookup xi_NotSimple=some ⟨.type "function", odI_NotSimple,.func (PySem.W.fnOf "__init__" "NotSimple.__init__" (ax aF) (ak aF) (ae aF) .none kVI_NotSimple dcI_NotSimple pmI_NotSimple anI_NotSimple cdI_NotSimple ctI_NotSimple),slI_NotSimple⟩) (cI_NotSimple:PySem.W.codeIn K cdI_NotSimple "NotSimple.__init__" = true) (kI_NotSimple:PySem.W.keepIn K (.ref xi_NotSimple)=true)
  (mr_NotSimple_ShapeError:PySem.W.mroIn K xa_NotSimple (.ref xa_ShapeError)=some true)
  (mv_NotSimple:PySem.W.mroIn K xa_NotSimple (.type "ValueError")=some true)
  {yb_Against:Addr} (n2_Against:PySem.W.nsIn K mainGlobals "Against" = some (some (.ref yb_Against))) {d2_Against:Option Addr} {c2_Against:ClassData} {s2_Against:Array (Option Value)} (l2_Against:K.lookup yb_Against=some ⟨.type "type", d2_Against,.cls c2_Against,s2_Against⟩)
  {yb_Clash:Addr} (n2_Clash:PySem.W.nsIn K mainGlobals "Clash" = some (some (.ref yb_Clash))) {d2_Clash:Option Addr} {c2_Clash:ClassData} {s2_Clash:Array (Option Value)} (l2_Clash:K.lookup yb_Clash=some ⟨.type "type", d2_Clash,.cls c2_Clash,s2_Clash⟩)
  {yb_Mixed:Addr} (n2_Mixed:PySem.W.nsIn K mainGlobals "Mixed" = some (some (.ref yb_Mixed))) {d2_Mixed:Option Addr} {c2_Mixed:ClassData} {s2_Mixed:Array (Option Value)} (l2_Mixed:K.lookup yb_Mixed=some ⟨.type "type", d2_Mixed,.cls c2_Mixed,s2_Mixed⟩)
  {yb_NoBook:Addr} (n2_NoBook:PySem.W.nsIn K mainGlobals "NoBook" = some (some (.ref yb_NoBook))) {d2_NoBook:Option Addr} {c2_NoBook:ClassData} {s2_NoBook:Array (Option Value)} (l2_NoBook:K.lookup yb_NoBook=some ⟨.type "type", d2_NoBook,.cls c2_NoBook,s2_NoBook⟩)
  {yb_NoForm:Addr} (n2_NoForm:PySem.W.nsIn K mainGlobals "NoForm" = some (some (.ref yb_NoForm))) {d2_NoForm:Option Addr} {c2_NoForm:ClassData} {s2_NoForm:Array (Option Value)} (l2_NoForm:K.lookup yb_NoForm=some ⟨.type "type", d2_NoForm,.cls c2_NoForm,s2_NoForm⟩)
  {yb_NoMay:Addr} (n2_NoMay:PySem.W.nsIn K mainGlobals "NoMay" = some (some (.ref yb_NoMay))) {d2_NoMay:Option Addr} {c2_NoMay:ClassData} {s2_NoMay:Array (Option Value)} (l2_NoMay:K.lookup yb_NoMay=some ⟨.type "type", d2_NoMay,.cls c2_NoMay,s2_NoMay⟩)
  {yb_NoText:Addr} (n2_NoText:PySem.W.nsIn K mainGlobals "NoText" = some (some (.ref yb_NoText))) {d2_NoText:Option Addr} {c2_NoText:ClassData} {s2_NoText:Array (Option Value)} (l2_NoText:K.lookup yb_NoText=some ⟨.type "type", d2_NoText,.cls c2_NoText,s2_NoText⟩)
  {yb_Unknown:Addr} (n2_Unknown:PySem.W.nsIn K mainGlobals "Unknown" = some (some (.ref yb_Unknown))) {d2_Unknown:Option Addr} {c2_Unknown:ClassData} {s2_Unknown:Array (Option Value)} (l2_Unknown:K.lookup yb_Unknown=some ⟨.type "type", d2_Unknown,.cls c2_Unknown,s2_Unknown⟩)
  (k2_NotSimple_Against:PySem.W.mroIn K xa_NotSimple (.ref yb_Against)=some false)
  (k2_NotSimple_Clash:PySem.W.mroIn K xa_NotSimple (.ref yb_Clash)=some false)
  (k2_NotSimple_Mixed:PySem.W.mroIn K xa_NotSimple (.ref yb_Mixed)=some false)
  (k2_NotSimple_NoBook:PySem.W.mroIn K xa_NotSimple (.ref yb_NoBook)=some false)
  (k2_NotSimple_NoForm:PySem.W.mroIn K xa_NotSimple (.ref yb_NoForm)=some false)
  (k2_NotSimple_NoMay:PySem.W.mroIn K xa_NotSimple (.ref yb_NoMay)=some false)
  (k2_NotSimple_NoText:PySem.W.mroIn K xa_NotSimple (.ref yb_NoText)=some false)
  (k2_NotSimple_Unknown:PySem.W.mroIn K xa_NotSimple (.ref yb_Unknown)=some false)
  : ∃ t:Adr,(∀ (s:Shared) (u:Value),BindsTo s t.nt ⟨[u],[]⟩ [("_law_script", u)])/\Txt K mg t:=by
 refine ⟨⟨f0,PySem.W.fnOf "row_of" "row_of" (ax aZ) (ak aZ) (ae aZ) .none kV0 dc0 pm0 an0 cd0 ct0,f1,PySem.W.fnOf "are_rows" "are_rows" (ax aE) (ak aE) (ae aE) .none kV1 dc1 pm1 an1 cd1 ct1,f2,PySem.W.fnOf "rung_of" "rung_of" (ax aL) (ak aL) (ae aL) .none kV2 dc2 pm2 an2 cd2 ct2,f3,PySem.W.fnOf "rungs_of" "rungs_of" (ax aI) (ak aI) (ae aI) .none kV3 dc3 pm3 an3 cd3 ct3,f4,PySem.W.fnOf "_law_pen" "_law_pen" (ax cg) (ak cg) (ae cg) .none kV4 dc4 pm4 an4 cd4 ct4,f5,PySem.W.fnOf "_law_draw" "_law_draw" (ax bL) (ak bL) (ae bL) .none kV5 dc5 pm5 an5 cd5 ct5,f6,PySem.W.fnOf "_law_names" "_law_names" (ax bo) (ak bo) (ae bo) .none kV6 dc6 pm6 an6 cd6 ct6,f7,PySem.W.fnOf "_law_rows" "_law_rows" (ax bM) (ak bM) (ae bM) .none kV7 dc7 pm7 an7 cd7 ct7,f8,PySem.W.fnOf "_law_rungs" "_law_rungs" (ax bg) (ak bg) (ae bg) .none kV8 dc8 pm8 an8 cd8 ct8,f9,PySem.W.fnOf "_law_book" "_law_book" (ax bK) (ak bK) (ae bK) .none kV9 dc9 pm9 an9 cd9 ct9,f10,PySem.W.fnOf "_law_two_rows" "_law_two_rows" (ax aH) (ak aH) (ae aH) .none kV10 dc10 pm10 an10 cd10 ct10,f11,PySem.W.fnOf "_law_rows_spoilt" "_law_rows_spoilt" (ax aw) (ak aw) (ae aw) .none kV11 dc11 pm11 an11 cd11 ct11,f12,PySem.W.fnOf "_law_spoilt" "_law_spoilt" (ax aV) (ak aV) (ae aV) .none kV12 dc12 pm12 an12 cd12 ct12,f13,PySem.W.fnOf "_law_refused" "_law_refused" (ax aN) (ak aN) (ae aN) .none kV13 dc13 pm13 an13 cd13 ct13,f14,PySem.W.fnOf "_law_many" "_law_many" (ax bD) (ak bD) (ae bD) .none kV14 dc14 pm14 an14 cd14 ct14,f15,PySem.W.fnOf "law" "law" (ax cj) (ak cj) (ae cj) .none kV15 dc15 pm15 an15 cd15 ct15,ca_KIND_WORDS,xa_NotSimple,xa_ShapeError,xi_NotSimple,PySem.W.fnOf "__init__" "NotSimple.__init__" (ax aF) (ak aF) (ae aF) .none kVI_NotSimple dcI_NotSimple pmI_NotSimple anI_NotSimple cdI_NotSimple ctI_NotSimple,yb_Against,yb_Clash,yb_Mixed,yb_NoBook,yb_NoForm,yb_NoMay,yb_NoText,yb_Unknown,tk_MOST_COUNTED,tk_MOST_ROWS,tk_MOST_SHAPES⟩,fun s u=>.of_eq rfl,?_⟩
 exact ⟨aU (st:=aZ) l0 c0 k0,
  (aU (st:=aZ) l0 c0 k0).binds (ps:=["form"]) fun _ _ _ _ _ _ us hl=>match us,hl with | [_],_=>rfl,
  HJ X G a0,
  aU (st:=aE) l1 c1 k1,
  (aU (st:=aE) l1 c1 k1).binds (ps:=["rows"]) fun _ _ _ _ _ _ us hl=>match us,hl with | [_],_=>rfl,
  HJ X G a1,
  aU (st:=aL) l2 c2 k2,
  (aU (st:=aL) l2 c2 k2).binds (ps:=["shape"]) fun _ _ _ _ _ _ us hl=>match us,hl with | [_],_=>rfl,
  HJ X G a2,
  aU (st:=aI) l3 c3 k3,
  (aU (st:=aI) l3 c3 k3).binds (ps:=["book"]) fun _ _ _ _ _ _ us hl=>match us,hl with | [_],_=>rfl,
  HJ X G a3,
  aU (st:=cg) l4 c4 k4,
  (aU (st:=cg) l4 c4 k4).binds (ps:=["_law_script"]) fun _ _ _ _ _ _ us hl=>match us,hl with | [_],_=>rfl,
  HJ X G a4,
  aU (st:=bL) l5 c5 k5,
  (aU (st:=bL) l5 c5 k5).binds (ps:=["_law_pen_here", "_law_many_here"]) fun _ _ _ _ _ _ us hl=>match us,hl with | [_,_],_=>rfl,
  HJ X G a5,
  aU (st:=bo) l6 c6 k6,
  (aU (st:=bo) l6 c6 k6).binds (ps:=["_law_pen_here", "_law_many_here"]) fun _ _ _ _ _ _ us hl=>match us,hl with | [_,_],_=>rfl,
  HJ X G a6,
  aU (st:=bM) l7 c7 k7,
  (aU (st:=bM) l7 c7 k7).binds (ps:=["_law_pen_here", "_law_names_here", "_law_bonds"]) fun _ _ _ _ _ _ us hl=>match us,hl with | [_,_,_],_=>rfl,
  HJ X G a7,
  aU (st:=bg) l8 c8 k8,
  (aU (st:=bg) l8 c8 k8).binds (ps:=["_law_pen_here", "_law_names_here", "_law_bonds"]) fun _ _ _ _ _ _ us hl=>match us,hl with | [_,_,_],_=>rfl,
  HJ X G a8,
  aU (st:=bK) l9 c9 k9,
  (aU (st:=bK) l9 c9 k9).binds (ps:=["_law_rungs_here", "_law_debts"]) fun _ _ _ _ _ _ us hl=>match us,hl with | [_,_],_=>rfl,
  HJ X G a9,
  aU (st:=aH) l10 c10 k10,
  (aU (st:=aH) l10 c10 k10).binds (ps:=["_law_pen_here", "_law_names_here", "_law_bonds"]) fun _ _ _ _ _ _ us hl=>match us,hl with | [_,_,_],_=>rfl,
  HJ X G a10,
  aU (st:=aw) l11 c11 k11,
  (aU (st:=aw) l11 c11 k11).binds (ps:=["_law_pen_here", "_law_parts", "_law_way"]) fun _ _ _ _ _ _ us hl=>match us,hl with | [_,_,_],_=>rfl,
  HJ X G a11,
  aU (st:=aV) l12 c12 k12,
  (aU (st:=aV) l12 c12 k12).binds (ps:=["_law_pen_here", "_law_names_here", "_law_bonds"]) fun _ _ _ _ _ _ us hl=>match us,hl with | [_,_,_],_=>rfl,
  HJ X G a12,
  aU (st:=aN) l13 c13 k13,
  (aU (st:=aN) l13 c13 k13).binds (ps:=["_law_book_here"]) fun _ _ _ _ _ _ us hl=>match us,hl with | [_],_=>rfl,
  HJ X G a13,
  aU (st:=bD) l14 c14 k14,
  (aU (st:=bD) l14 c14 k14).binds (ps:=["_law_pen_here", "_law_bonds"]) fun _ _ _ _ _ _ us hl=>match us,hl with | [_,_],_=>rfl,
  HJ X G a14,
  aU (st:=cj) l15 c15 k15,
  (aU (st:=cj) l15 c15 k15).binds (ps:=["_law_script"]) fun _ _ _ _ _ _ us hl=>match us,hl with | [_],_=>rfl,
  HJ X G a15,
  Ig X G z_ValueError,
  Ig X G z_abs,
  Ig X G z_isinstance,
  Ig X G z_len,
  Ig X G z_list,
  Ig X G z_min,
  Ig X G z_range,
  Ig X G z_set,
  Ig X G z_sorted,
  Ig X G z_tuple,
  HJ X G g_KIND_WORDS,
  HJ X G g_MOST_COUNTED,
  HJ X G g_MOST_ROWS,
  HJ X G g_MOST_SHAPES,
  fun H=>Or.inr ⟨_,_,_,s_KIND_WORDS,rfl,rfl,(by show 4<=sizeLine;decide),(.cons ⟨_,rfl⟩ (.cons ⟨_,rfl⟩ (.cons ⟨_,rfl⟩ (.cons ⟨_,rfl⟩ .nil))))⟩,
  HJ X G m_NotSimple,
  ⟨⟨_,_,_,_,_,_,_,_,xl_NotSimple,xm_NotSimple,xh_NotSimple,xt_NotSimple,xn_NotSimple,xj_NotSimple⟩,cl_NotSimple,ga_NotSimple,gg_NotSimple⟩,
  HJ X G m_ShapeError,
  ⟨⟨_,_,_,_,_,_,_,_,xl_ShapeError,xm_ShapeError,xh_ShapeError,xt_ShapeError,xn_ShapeError,xj_ShapeError⟩,cl_ShapeError,ga_ShapeError,gg_ShapeError⟩,
  ⟨sa_NotSimple,po_NotSimple,tk_NotSimple,hd_NotSimple,sp_NotSimple,rd_NotSimple,na_NotSimple,fc_NotSimple⟩,
  kp_NotSimple,
  aU (st:=aF) lI_NotSimple cI_NotSimple kI_NotSimple,
  (aU (st:=aF) lI_NotSimple cI_NotSimple kI_NotSimple).binds (ps:=["self", "name"]) fun _ _ _ _ _ _ us hl=>match us,hl with | [_,_],_=>rfl,
  ⟨_,lI_NotSimple,rfl⟩,
  mr_NotSimple_ShapeError,
  mv_NotSimple,
  HJ X G n2_Against,
  HJ X G n2_Clash,
  HJ X G n2_Mixed,
  HJ X G n2_NoBook,
  HJ X G n2_NoForm,
  HJ X G n2_NoMay,
  HJ X G n2_NoText,
  HJ X G n2_Unknown,
  yc (i:=some (.ref xi_NotSimple)) ⟨⟨_,_,_,_,_,_,_,_,xl_NotSimple,xm_NotSimple,xh_NotSimple,xt_NotSimple,xn_NotSimple,xj_NotSimple⟩,cl_NotSimple,ga_NotSimple,gg_NotSimple⟩,
  cR (i:=some (.ref xi_NotSimple)) ⟨⟨_,_,_,_,_,_,_,_,xl_NotSimple,xm_NotSimple,xh_NotSimple,xt_NotSimple,xn_NotSimple,xj_NotSimple⟩,cl_NotSimple,ga_NotSimple,gg_NotSimple⟩ l2_Against k2_NotSimple_Against,
  cR (i:=some (.ref xi_NotSimple)) ⟨⟨_,_,_,_,_,_,_,_,xl_NotSimple,xm_NotSimple,xh_NotSimple,xt_NotSimple,xn_NotSimple,xj_NotSimple⟩,cl_NotSimple,ga_NotSimple,gg_NotSimple⟩ l2_Clash k2_NotSimple_Clash,
  cR (i:=some (.ref xi_NotSimple)) ⟨⟨_,_,_,_,_,_,_,_,xl_NotSimple,xm_NotSimple,xh_NotSimple,xt_NotSimple,xn_NotSimple,xj_NotSimple⟩,cl_NotSimple,ga_NotSimple,gg_NotSimple⟩ l2_Mixed k2_NotSimple_Mixed,
  cR (i:=some (.ref xi_NotSimple)) ⟨⟨_,_,_,_,_,_,_,_,xl_NotSimple,xm_NotSimple,xh_NotSimple,xt_NotSimple,xn_NotSimple,xj_NotSimple⟩,cl_NotSimple,ga_NotSimple,gg_NotSimple⟩ l2_NoBook k2_NotSimple_NoBook,
  cR (i:=some (.ref xi_NotSimple)) ⟨⟨_,_,_,_,_,_,_,_,xl_NotSimple,xm_NotSimple,xh_NotSimple,xt_NotSimple,xn_NotSimple,xj_NotSimple⟩,cl_NotSimple,ga_NotSimple,gg_NotSimple⟩ l2_NoForm k2_NotSimple_NoForm,
  cR (i:=some (.ref xi_NotSimple)) ⟨⟨_,_,_,_,_,_,_,_,xl_NotSimple,xm_NotSimple,xh_NotSimple,xt_NotSimple,xn_NotSimple,xj_NotSimple⟩,cl_NotSimple,ga_NotSimple,gg_NotSimple⟩ l2_NoMay k2_NotSimple_NoMay,
  cR (i:=some (.ref xi_NotSimple)) ⟨⟨_,_,_,_,_,_,_,_,xl_NotSimple,xm_NotSimple,xh_NotSimple,xt_NotSimple,xn_NotSimple,xj_NotSimple⟩,cl_NotSimple,ga_NotSimple,gg_NotSimple⟩ l2_NoText k2_NotSimple_NoText,
  cR (i:=some (.ref xi_NotSimple)) ⟨⟨_,_,_,_,_,_,_,_,xl_NotSimple,xm_NotSimple,xh_NotSimple,xt_NotSimple,xn_NotSimple,xj_NotSimple⟩,cl_NotSimple,ga_NotSimple,gg_NotSimple⟩ l2_Unknown k2_NotSimple_Unknown⟩
local macro_rules | `(tactic| walk_at "e")=>`(tactic| (case e9=>exact rfl))
local macro_rules | `(tactic| walk_at "p")=>`(tactic| first | with_reducible refine A6 ?_ | walk_at "p0")
local macro_rules | `(tactic| walk_at "p0")=>`(tactic| first
 | (with_reducible first | refine Bv ?_ | refine AY ?_ | refine BU ?_ | refine BL ?_ | refine B6 ?_ | refine EY ?_ | refine Ci ?_ | refine D7 ?_ | refine Gs ?_ | refine DO ?_ | refine Eu ?_ | refine Ex ?_ | refine DY ?_ | refine D5 ?_ | refine A7 ?_ | refine DH ?_)
 | ((with_reducible refine w_var (d:=?d9) ?e9 ?_);walk_at "e") | ((with_reducible refine zU (d:=?d9) ?e9 ?_);walk_at "e") | ((with_reducible refine B5 (d:=?d9) ?e9 ?_);walk_at "e") | ((with_reducible refine Ax (d:=?d9) ?e9 ?_);walk_at "e")
 | ((with_reducible refine Dx (d:=?d9) ?e9 ?_);walk_at "e") | ((with_reducible refine Fo (d:=?d9) ?e9 ?_);walk_at "e") | ((with_reducible refine DR (d:=?d9) ?e9 ?_);walk_at "e")
 | (with_reducible first | refine FC ?_ | refine BO ?_ | refine DD ?_) | ((with_reducible refine EA (d:=?d9) ?e9 ?f9 ?_);walk_at "e"; (case f9=>exact rfl))
 | (with_reducible first | refine z6 ?_ | refine A9 ?_ | refine E3 ?_ | refine BB ?_ | refine ED ?_ | refine BQ ?_ | refine zR ?_ | refine DU ?_ | refine Fh rfl ?_ | refine Bx rfl ?_ | refine EM ?_ | refine EH ?_ | refine w_and ?_ | refine w_or ?_ | refine w_not ?_ | refine Ee ?_ | refine w_iZ ?_ | refine GC ?_ | refine GR ?_ | refine Gy ?_ | refine Hb ?_ | refine Gq ?_ | refine G8 ?_)
 | walk_at "q")
local macro_rules | `(tactic| walk_at "q0")=>`(tactic| first
 | ((with_reducible refine jF ?e9 ?_);walk_at "e") | ((with_reducible refine eG ?e9 ?_);walk_at "e")
 | ((show WPr _ _ _ _);refine ⟨_,_,rfl,rfl,?_⟩) | ((show WPr _ _ _ _);(refine ⟨_,_,rfl,Hy ?c9,?_⟩);(case c9=>walk_at "c")) | ((show zI _ _ _ _);refine ⟨_,_,rfl,rfl,?_⟩) | ((show uV _ _ _);refine ⟨_,rfl,?_⟩) | ((show CT _ _ _ _ _ _ _);refine ⟨_,rfl,rfl,?_⟩) | ((show zN _ _ _ _ _ _);refine ⟨_,_,_,rfl,rfl,rfl,?_⟩) | ((show CY _ _ _ _ _ _);refine ⟨_,rfl,rfl,?_⟩) | ((show C1 _ _ _ _ _);refine ⟨_,_,_,rfl,rfl,rfl,?_⟩) | ((show WMr _ _ _ _ _);refine ⟨_,_,_,_,rfl,rfl,rfl,?_⟩) | ((show WTp _ _ _ _);refine ⟨_,rfl,Nat.le_of_ble_eq_true rfl,?_⟩) | ((show C7 _ _ _ _);refine ⟨_,_,rfl,rfl,?_⟩) | ((show Cv _ _ _ _);refine ⟨_,rfl,rfl,?_⟩) | ((show sG _ _ _ _);refine ⟨_,rfl,rfl,?_⟩)
 | ((with_reducible refine ⟨_,rfl,?_⟩)))
local macro_rules | `(tactic| walk_at "pp")=>`(tactic| repeat walk_at "p")
local macro_rules | `(tactic| walk_at "c")=>`(tactic| first | exact rfl | assumption | (simp only [mulC,Bool.or_eq_true,HK,Ju] <;> omega))
local macro_rules | `(tactic| walk_at "pz")=>`(tactic| repeat walk_at "p0")
local macro_rules | `(tactic| walk_at "n=")=>`(tactic| ((try dsimp only [Cst.i,Cst.s,Cst.b,Cst.n,RV.av,aA,List.replicate_succ,List.replicate_zero,eD,gU,aO,cz,bA,fz,nU,List.set_cons_zero,List.set_cons_succ,List.getElem?_cons_zero,List.getElem?_cons_succ,List.map_cons,List.map_nil,List.tail_cons,Option.getD_some,decide_true,decide_false,List.drop_succ_cons,List.drop_zero]);exact rfl))
local macro_rules | `(tactic| walk_at "n")=>`(tactic| ((with_reducible first | refine BJ (e':=?e9) ?h9 ?_ | refine yA (e':=?e9) ?h9 ?_ | refine Cd (e':=?e9) ?h9 ?_ | refine Ha (e':=?e9) ?h9 ?_ | refine G6 (e':=?e9) ?h9 ?_ | refine GJ (e':=?e9) ?h9 ?_ | refine GH (e':=?e9) ?h9 ?_ | refine Gw (e':=?e9) ?h9 ?_ | refine Dr (e':=?e9) ?h9 ?_ | refine zu (e':=?e9) ?h9 ?_ | refine Dp (e':=?e9) ?h9 ?_ | refine Fe (e':=?e9) ?h9 ?_ | refine Df (e':=?e9) ?h9 ?_ | refine Cc (e':=?e9) ?h9 ?_ | refine Bz (e':=?e9) ?h9 ?_ | refine yH (e':=?e9) ?h9 ?_ | refine BM (e':=?e9) ?h9 ?_ | refine zV (e':=?e9) ?h9 ?_ | refine z0 (e':=?e9) ?h9 ?_);(case h9=>walk_at "n=")))
local macro_rules | `(tactic| walk_at "soft")=>`(tactic| first | exact m5 | exact DQ | exact ET | assumption)
local macro_rules | `(tactic| walk_at "l")=>`(tactic| (rename_i h9;apply lr.out h9;clear h9;dsimp only [uR];intros))
local macro_rules | `(tactic| walk_at "L1")=>`(tactic| first | exact (rfl:lr [] []) | refine ⟨_,?_,rfl⟩ | ((refine ⟨_,_,?s9,?_,rfl⟩);(case s9=>walk_at "soft")))
local macro_rules | `(tactic| walk_at "L")=>`(tactic| repeat walk_at "L1")
local macro_rules | `(tactic| walk_at "q")=>`(tactic| first | walk_at "q0" | ((show F3 _ _ _ _);refine ⟨_,_,_,rfl,rfl,rfl,?_⟩) | ((show FN _ _ _ _ _);refine ⟨_,_,rfl,rfl,?_⟩) | ((show Cv _ _ _ _);(refine ⟨_,rfl,lb rfl ?s9,?_⟩);(case s9=>walk_at "soft")) | ((show sG _ _ _ _);(refine ⟨_,rfl,lb rfl ?s9,?_⟩);(case s9=>walk_at "soft")))
local macro_rules | `(tactic| walk_at "fT1")=>`(tactic| ((refine qv ?f9 ?_);(case f9=>((refine lb rfl ?s9);(case s9=>walk_at "soft")))))
local macro_rules | `(tactic| walk_at "fT")=>`(tactic| ((refine Cr (e2:=?e9) ?h9 ?_);(case h9=>((repeat walk_at "fT1");exact rfl))))
local macro_rules | `(tactic| walk_at "f")=>`(tactic| ((refine ql ?h9 ?_);(case h9=>((refine lb rfl ?s9);(case s9=>walk_at "soft")));walk_at "n"))
local macro_rules | `(tactic| walk_at "ps1")=>`(tactic| ((fail_if_success (with_reducible refine isEq ?_));walk_at "p"))
local macro_rules | `(tactic| walk_at "ps")=>`(tactic| repeat walk_at "ps1")
noncomputable def zG (cs:List Int) (p l:Int):PyData:=.dict [(.str "script", .list (cs.map .int)),(.str "at", .int p),(.str "left", .int l)]
theorem Ao {ns:List Int} {Q:PR->List PyData->Prop} (q:Q (.frs (zG ns 0 0)) []):WF qV [.list (ns.map .int)] Q:=⟨_,_,rfl,q⟩
theorem zv {cs:List Int} {p l m:Int} {Q:PR->List PyData->Prop} (hp:0<=p) (hb:p < 2 ^ 60) (hl:0<=l) (h0:0 < m) (hm:m < 2 ^ 200) (q:∀ v p' l',0<=v->v < m->0<=p'->p'<=p+1->0<=l'->Q (.dat (.int v)) [zG cs p' l']):WF aB [zG cs p l,.int m] Q:=by
 refine fA rfl ?_;have m0:∀ x:Int,0<=x % m/\x % m < m:=fun x=>⟨Int.emod_nonneg _ (by omega),Int.emod_lt_of_pos _ h0⟩;have d0:∀ x:Int,0<=x->0<=x / m:=fun x h=>Int.ediv_nonneg h (Int.le_of_lt h0);have fin:∀ c:Int,0<=(if c < 0 then -c else c):=fun c=>by split <;> omega
 unfold oq;walk_at "pp";refine ix (fun e0=>?_) (fun e0=>?_)
 ·walk_at "pp";exact q _ _ _ (m0 l).1 (m0 l).2 hp (by omega) (d0 l hl)
 ·walk_at "pp";refine ix (fun e1=>?_) (fun e1=>?_)
  ·have h1:p < (((cs.map PyData.int).length:Nat):Int):=Jc e1;obtain ⟨d,hd,ed⟩:=atV (xs:=cs.map PyData.int) hp h1;obtain ⟨c,_,rfl⟩:=HM.mp hd;walk_at "pp";refine iQ rfl ed ?_;clear ed hd;walk_at "pp";refine ix (fun e2=>?_) (fun e2=>?_)
   ·walk_at "pp";exact q _ _ _ (m0 _).1 (m0 _).2 (by omega) (by omega) (d0 _ (fin c))
   ·walk_at "pp";exact q _ _ _ (m0 _).1 (m0 _).2 (by omega) (by omega) hl
  ·walk_at "pp";refine ix (fun e2=>?_) (fun e2=>?_)
   ·have h1:(0:Int) < (((cs.map PyData.int).length:Nat):Int):=Jc e2;obtain ⟨d,hd,ed⟩:=atV (xs:=cs.map PyData.int) (Int.emod_nonneg p (by omega)) (Int.emod_lt_of_pos p h1);obtain ⟨c,_,rfl⟩:=HM.mp hd;walk_at "pp";refine iQ rfl ed ?_;clear ed hd;walk_at "pp";exact q _ _ _ (m0 _).1 (m0 _).2 (by omega) (by omega) hl
   ·walk_at "pp";exact q _ _ _ (m0 _).1 (m0 _).2 (by omega) (by omega) hl
def bP (cs:List Int) (B:Nat) (d:PyData):Prop:=∃ p l:Int,d=zG cs p l/\0<=p/\p<=B/\0<=l
theorem bP.mono {cs:List Int} {B C:Nat} {d:PyData} (h:bP cs B d) (hb:B<=C):bP cs C d:=by
 obtain ⟨p,l,e,a,b,c⟩:=h;exact ⟨p,l,e,a,by omega,c⟩
theorem uQ {cs:List Int} {B:Nat} {pn:PyData} {m:Int} {e1:En} {Q:RV->En->Prop} {i:Nat} (hi:bx e1 i=some pn) (hP:bP cs B pn) (hb:B < 2 ^ 60) (h0:0 < m) (hm:m < 2 ^ 200) (q:∀ v pn',bP cs (B+1) pn'->0<=v->v < m->Q (.dat (.int v)) (gU e1 i pn')):qN aB [.bor i,.dat (.int m)] e1 Q:=by
 obtain ⟨p,l,rfl,hp,hb',hl⟩:=hP;refine aM (ds:=[zG cs p l,.int m]) (is:=[i]) ?_ rfl (zv hp (by omega) hl h0 hm fun v p' l' a b c d e=>⟨?_,q v _ ⟨p',l',rfl,c,by omega,e⟩ a b⟩)
 ·show jG e1 [.ino,.dat] _=_;simp only [jG,Ei,hi]
 ·rfl
local macro_rules | `(tactic| walk_at "d")=>`(tactic| ((repeat walk_at "p");(refine uQ (cs:=?c9) (B:=?b9) (pn:=?n9) (m:=?m9) (hi:=?hi9) (hP:=?hP9) ?hb9 ?h09 ?hm9 ?_);(case hi9=>exact rfl);(case hP9=>assumption);(case hb9=>omega);(case h09=>first | decide | omega);(case hm9=>first | decide | omega)))
def Ltr (x:Str):Prop:=∀ c∈x.cps.toList,97<=c/\c<=122
abbrev abc:Str := "abcdefghijklmnopqrstuvwxyz"
abbrev wds:List PyData:=[.str "any", .str "all", .str "keeps", .str "is", .str "many", .str "each", .str "least", .str "shape"]
theorem oQ (x y:Str):(x++y).length=x.length+y.length:=ja x y
theorem dO (x y:Str):(x++y).cps.toList=x.cps.toList++y.cps.toList:=by
 show (x.cps++y.cps).toList=_;simp
theorem kU (c:Nat):(⟨#[c]⟩:Str).length=1:=rfl
theorem nM {x y:Str} (hx:Ltr x) (hy:Ltr y):Ltr (x++y):=fun c hc=>by
 rw [dO] at hc;rcases IH.mp hc with h | h
 ·exact hx c h
 ·exact hy c h
theorem BD:∀ n < 26,abc.cps.toList[n]?=some (97+n):=by decide +kernel
theorem wj {r:Int} (h0:0<=r) (h1:r < 26):atI abc.cps.toList r=some (97+r.toNat):=by
 have:=rN (xs:=abc.cps.toList) (j:=r.toNat) (BD r.toNat (by omega))
 rwa [Int.toNat_of_nonneg h0] at this
theorem FX {r:Int} (h0:0<=r) (h1:r < 26):Ltr ⟨#[97+r.toNat]⟩:=fun c hc=>by
 have:c=97+r.toNat:=by simpa using hc
 omega
theorem e8:∀ w∈wds,∃ z:Str,w=.str z/\z.length<=5/\Ltr z:=by
 intro w h;simp only [Hs,HV,Iv] at h;rcases h with rfl | rfl | rfl | rfl | rfl | rfl | rfl | rfl <;> exact ⟨_,rfl,by decide +kernel,by unfold Ltr;decide +kernel⟩
theorem Bp {x:Str} {k:Int} (h:0<=k):(ly x none (some k)).cps.toList=x.cps.toList.take k.toNat:=by
 have:=uO (xs:=x.cps.toList) h;unfold L2.cutD at this;rw [dW] at this;unfold ly;simpa using this
theorem Fd {x:Str} {k:Int} (h:0<=k):(ly x (some k) none).cps.toList=x.cps.toList.drop k.toNat:=by
 unfold ly;have e1:HT.sIx x.length 0 (some k)=min k.toNat x.length:=by
  simp only [HT.sIx];rw [HC (by omega)]
 have e2:HT.sIx x.length x.length none=x.length:=rfl;rw [e1,e2];show (((x.cps.toList.drop (min k.toNat x.length)).take (x.length - min k.toNat x.length)).toArray).toList=_;rw [Io (by rw [Ik,dW];omega)];by_cases z:k.toNat<=x.length
 ·rw [Nat.min_eq_left z]
 ·rw [List.drop_of_length_le (by rw [dW];omega),List.drop_of_length_le (by rw [dW];omega)]
def Stp (i:Int):Prop:=i=1\/i=3\/i=5\/i=7\/i=9\/i=11\/i=15\/i=17\/i=19\/i=21\/i=23\/i=25
theorem yg {st sp:Int} {i j:Nat} (h:Stp sp) (hi:i < 26) (hj:j < 26) (e:(st+sp*i) % 26=(st+sp*j) % 26):i=j:=by
 unfold Stp at h;rcases h with rfl | rfl | rfl | rfl | rfl | rfl | rfl | rfl | rfl | rfl | rfl | rfl <;> omega
def NmK (S:Nat) (st sp:Int) (k:Nat) (x:Str):Prop:=Ltr x/\x.length<=8/\S < x.length/\x.cps.toList[S]?=some (97+((st+sp*k) % 26).toNat)
theorem xR {bs:Str} {s:Int} {st sp:Int} {k:Nat} (hs:0<=s) (hs2:s<=bs.length) (hb:Ltr bs) (hl:bs.length<=7):NmK s.toNat st sp k (ly bs none (some s)++⟨#[97+((st+sp*k) % 26).toNat]⟩++ly bs (some s) none):=by
 have l1:=Bp (x:=bs) hs;have l2:=Fd (x:=bs) hs;have hn:bs.cps.toList.length=bs.length:=dW bs;have tk:(bs.cps.toList.take s.toNat).length=s.toNat:=by rw [HW,hn];omega
 refine ⟨nM (nM (fun c hc=>?_) (FX (by omega) (by omega))) (fun c hc=>?_),?_,?_,?_⟩
 ·rw [l1] at hc;exact hb c (Jh hc)
 ·rw [l2] at hc;exact hb c (List.mem_of_mem_drop hc)
 ·rw [<- dW,dO,dO,l1,l2,Ho,Ho,tk,Ik,hn];simp;omega
 ·rw [<- dW (_++_),dO,dO,l1,l2,Ho,Ho,tk,Ik,hn];simp;omega
 ·rw [dO,dO,l1,List.append_assoc,Hr (by rw [tk];exact Hu _),tk,Nat.sub_self];rfl
theorem xy {S:Nat} {st sp:Int} {k:Nat} {x:Str} {z:Int} (h:NmK S st sp k x) (hz:(S:Int) < z):NmK S st sp k (ly x none (some z)):=by
 have l1:=Bp (x:=x) (k:=z) (by omega);obtain ⟨a,b,c,d⟩:=h;have hn:x.cps.toList.length=x.length:=dW x;refine ⟨fun u hu=>?_,?_,?_,?_⟩
 ·rw [l1] at hu;exact a u (Jh hu)
 ·exact HA (cN _ _ _) b
 ·rw [<- dW,l1,HW,hn];omega
 ·rw [l1,List.getElem?_take,Hy (by omega)];exact d
theorem mW {S:Nat} {st sp:Int} {xs:List Str} (hs:Stp sp) (hl:xs.length<=26) (h:∀ k x,xs[k]?=some x->NmK S st sp k x):xs.Nodup:=by
 refine List.pairwise_iff_getElem.mpr fun i j hi hj hij e=>?_;have a:=(h i _ (Hn hi)).2.2.2;have b:=(h j _ (Hn hj)).2.2.2;rw [e,b] at a;injection a with a;have:=yg (i:=i) (j:=j) (st:=st) hs (by omega) (by omega) (by omega);omega
def Nm (x:Str):Prop:=Ltr x/\x.length<=8
theorem kh {cs:List Int} {B:Nat} {pn:PyData} {m:Int} {Q:PR->List PyData->Prop} (hP:bP cs B pn) (hb:B < 2 ^ 59) (h0:0<=m) (hm:m<=8) (q:∀ (xs:List Str) pn',bP cs (B+40) pn'->(xs.length:Int)=m->xs.Nodup->(∀ x∈xs,Nm x)->Q (.frs (.list (xs.map .str))) [pn']):WF fY [pn,.int m] Q:=by
 refine fA rfl ?_;unfold ko;walk_at "d";intro w1 pn1 hP1 w10 w11;walk_at "n";walk_at "pp";obtain ⟨d1,hd1,ed1⟩:=atV (xs:=wds) w10 w11;obtain ⟨z1,rfl,hz1,lz1⟩:=e8 d1 hd1;refine iQ rfl ed1 ?_;clear ed1 hd1;walk_at "d";intro w2 pn2 hP2 w20 w21;walk_at "n";walk_at "pp";obtain ⟨d2,hd2,ed2⟩:=atV (xs:=([.str "", .str "", .str "", .str z1]:List PyData)) w20 w21;have hc:∃ z:Str,d2=.str z/\z.length<=5/\Ltr z:=by
  simp only [Hs,HV,Iv] at hd2;rcases hd2 with rfl | rfl | rfl | rfl
  ·exact ⟨_,rfl,by decide,by unfold Ltr;decide⟩
  ·exact ⟨_,rfl,by decide,by unfold Ltr;decide⟩
  ·exact ⟨_,rfl,by decide,by unfold Ltr;decide⟩
  ·exact ⟨_,rfl,hz1,lz1⟩
 obtain ⟨z2,rfl,hz2,lz2⟩:=hc;refine iQ rfl ed2 ?_;clear ed2 hd2;walk_at "d";intro w3 pn3 hP3 w30 w31;walk_at "n";walk_at "pp";refine ⟨⟨by omega,by omega⟩,?_⟩;refine dR (fun i e=>∃ (bs:Str) (pn':PyData),Ltr bs/\bs.length=z2.length+i/\bP cs (B+3+i) pn'/\lr [some (.ino pn'),some (.dat (.int m)),some (.dat (.str abc)),some (.dat (.list wds)),some (.dat (.str bs)),none,none,none,none,none,none] e) ⟨z2,pn3,lz2,rfl,hP3,by walk_at "L"⟩ ?_ ?_
 ·rintro i d e hd ⟨bs,pn',hbs,hbl,hP',_⟩;walk_at "l";obtain ⟨rfl,hi⟩:=nQ hd;refine ql (lb rfl (by assumption)) ?_;walk_at "d";intro w4 pn4 hP4 w40 w41;walk_at "n";walk_at "pp";refine A4 rfl (wj w40 w41) ?_;walk_at "pp";refine qa rfl (by rw [hbl,kU];show _<=2 ^ 24;omega) ?_;walk_at "pp";exact ⟨_,pn4,nM hbs (FX w40 w41),by rw [oQ,hbl,kU];omega,hP4,by walk_at "L"⟩
 rintro e ⟨bs,pn4,hbs,hbl,hP4,_⟩;walk_at "l";rw [tZ] at hbl hP4;have hbl7:bs.length<=7:=by omega
 replace hP4:bP cs (B+10) pn4:=hP4.mono (by omega);walk_at "d";intro sp pn5 hP5 sp0 sp1;walk_at "n";walk_at "d";intro st pn6 hP6 st0 st1;walk_at "n";walk_at "d";intro w7 pn7 hP7 w70 w71;walk_at "n";walk_at "pp";obtain ⟨d7,hd7,ed7⟩:=atV (xs:=([.int 1,.int 3,.int 5,.int 7,.int 9,.int 11,.int 15,.int 17,.int 19,.int 21,.int 23,.int 25]:List PyData)) w70 w71;have hc:∃ z:Int,d7=.int z/\Stp z:=by
  unfold Stp;simp only [Hs,HV,Iv] at hd7;rcases hd7 with rfl | rfl | rfl | rfl | rfl | rfl | rfl | rfl | rfl | rfl | rfl | rfl <;> exact ⟨_,rfl,by decide⟩
 obtain ⟨stp,rfl,hstp⟩:=hc;have hstp2:0<=stp/\stp<=25:=by unfold Stp at hstp;omega
 refine iQ rfl ed7 ?_;clear ed7 hd7;walk_at "n";walk_at "pp";refine ⟨⟨by omega,by omega⟩,?_⟩;refine dR (fun i e=>∃ (xs:List Str),xs.length=i/\(∀ k x,xs[k]?=some x->NmK sp.toNat st stp k x)/\lr [some (.ino pn7),some (.dat (.int m)),some (.dat (.str abc)),none,some (.dat (.str bs)),none,some (.dat (.int sp)),some (.dat (.int st)),some (.dat (.int stp)),some (.own (.list (xs.map .str))),none] e) ⟨[],rfl,fun k x h=>by simp at h,by walk_at "L"⟩ ?_ ?_
 ·rintro i d e hd ⟨xs,hxl,hx,_⟩;walk_at "l";obtain ⟨rfl,hi⟩:=nQ hd;refine ql (lb rfl (by assumption)) ?_;walk_at "n";walk_at "pp";refine A4 rfl (wj (r:=(st+stp*i) % 26) (by omega) (by omega)) ?_;walk_at "pp";have c1:=cN bs none (some sp);have c2:=cN bs (some sp) none;refine qa rfl (by rw [kU];show _<=2 ^ 24;omega) ?_;walk_at "pp";refine qa rfl (by rw [oQ,kU];show _<=2 ^ 24;omega) ?_;walk_at "pp";refine lK rfl (by rw [Hf,hxl];show i < 2 ^ 24;omega) rfl ?_;refine ⟨xs++[ly bs none (some sp)++⟨#[97+((st+stp*i) % 26).toNat]⟩++ly bs (some sp) none],by rw [Ho,hxl];rfl,fun k x h=>?_,by rw [HL];walk_at "L"⟩;rcases IV k xs.length with z | z
  ·rw [HG z] at h;exact hx k x h
  ·rw [Hr z] at h;have hk:k - xs.length=0:=by
    rcases Nat.eq_zero_or_pos (k - xs.length) with y | y
    ·exact y
    ·rw [Je (by simp;omega)] at h;cases h
   rw [hk] at h;have hk2:k=i:=by omega
   subst hk2;cases h;exact xR sp0 (by omega) hbs hbl7
 rintro e ⟨xs,hxl,hx,_⟩;walk_at "l";rw [tZ] at hxl;walk_at "d";intro w8 pn8 hP8 w80 w81;walk_at "n";walk_at "pp";refine ix (fun c1=>?_) (fun c1=>?_)
 ·walk_at "pp";exact q xs pn8 (hP8.mono (by omega)) (by omega) (mW hstp (by omega) hx) fun x hm=>by
   obtain ⟨k,hk⟩:=Ir.mp hm;exact ⟨(hx k x hk).1,(hx k x hk).2.1⟩
 ·walk_at "pp";refine FH rfl rfl ?_;refine dJ (fun i ys ec=>∃ (zs:List Str) (pn':PyData),ys=zs.map .str/\zs.length=i/\(∀ k x,zs[k]?=some x->NmK sp.toNat st stp k x)/\bP cs (B+14+i) pn'/\ec=[.dat (.int sp),.ino pn']) ⟨[],pn8,rfl,rfl,fun k x h=>by simp at h,hP8.mono (by omega),rfl⟩ ?_ ?_
  ·rintro i d ys ec hd ⟨zs,pn',rfl,hzl,hz,hP',rfl⟩;rw [Hl] at hd;obtain ⟨x,hxi,rfl⟩:=Hv.mp hd;have hn:=hx i x hxi;have hi:i < xs.length:=(Hi.mp hxi).1;have h3:=hn.2.2.1;have h4:=hn.2.1;refine g6 ?_;walk_at "d";intro w9 pn9 hP9 w90 w91;walk_at "n";walk_at "pp";refine ⟨zs++[ly x none (some (sp+1+w9))],pn9,by rw [HL];rfl,by rw [Ho,hzl];rfl,fun k y h=>?_,hP9,rfl⟩;rcases IV k zs.length with z | z
   ·rw [HG z] at h;exact hz k y h
   ·rw [Hr z] at h;have hk:k - zs.length=0:=by
     rcases Nat.eq_zero_or_pos (k - zs.length) with y | y
     ·exact y
     ·rw [Je (by simp;omega)] at h;cases h
    rw [hk] at h;have hk2:k=i:=by omega
    subst hk2;cases h;exact xy hn (by omega)
  ·rintro ys ec ⟨zs,pn',rfl,hzl,hz,hP',rfl⟩;rw [Hf] at hzl hP';walk_at "pp";exact q zs pn' (hP'.mono (by omega)) (by omega) (mW hstp (by omega) hz) fun x hm=>by
    obtain ⟨k,hk⟩:=Ir.mp hm;exact ⟨(hz k x hk).1,(hz k x hk).2.1⟩
structure Rw where
 b:Str
 lo:Int
 hi:Option Int
 nm:Str
noncomputable def qy:Option Int->PyData
 | none=>.none
 | some h=>.int h
noncomputable def Rw.enc (r:Rw):PyData:=.tuple [.str r.b,.int r.lo,qy r.hi,.str r.nm]
noncomputable def Rw.part (r:Rw):PyData:=.tuple [.str "each", .int r.lo,qy r.hi,.str r.b,.tuple [.str "keeps", .str r.nm]]
def Rw.ok (r:Rw):Prop:=r.lo<=3/\(∀ h,r.hi=some h->h<=3)/\Nm r.b
structure Rg where
 n:Str
 k:Str
 rows:List Rw
 cl:Option (List Str)
noncomputable def BI:Option (List Str)->PyData
 | none=>.none
 | some bs=>.tuple (bs.map .str)
noncomputable def Rg.enc (g:Rg):PyData:=.tuple [.str g.n,.str g.k,.tuple (g.rows.map Rw.enc),BI g.cl]
noncomputable def clP:Option (List Str)->List PyData
 | none=>[]
 | some bs=>[.tuple [.str "closed", .tuple (bs.map .str)]]
noncomputable def Rg.parts (g:Rg):List PyData:=.tuple [.str g.k] :: (g.rows.map Rw.part++clP g.cl)
noncomputable def Rg.shp (g:Rg):PyData:=.tuple [.str g.n,.str "greatest", .tuple [.str "all", .tuple g.parts]]
def i9 (k:Str):Prop:=k = "any" \/ k = "thing" \/ k = "number" \/ k = "said"
def Rg.ok (bs:List Str) (g:Rg):Prop:=i9 g.k/\g.rows.length<=3/\(∀ r∈g.rows,r.ok)/\(g.rows.map (·.b)).Sublist bs
theorem ID {α:Type} {xs:List α} {i:Nat} {x:α} (h:xs[i]?=some x):xs.take i++[x]=xs.take (i+1):=by
 rw [List.take_add_one,h];rfl
theorem kO {α:Type} {P:α->Prop} {xs:List α} {y:α} (h:∀ x∈xs,P x) (hy:P y):∀ x∈xs++[y],P x:=fun x hm=>by
 rcases IH.mp hm with hm | hm
 ·exact h x hm
 ·rw [Hm.mp hm];exact hy
theorem ze {cs:List Int} {B:Nat} {pn:PyData} {ns bs:List Str} {Q:PR->List PyData->Prop} (hP:bP cs B pn) (hb:B < 2 ^ 58) (hn:0 < ns.length) (hn2:ns.length<=8) (hbl:bs.length<=8) (hB:∀ x∈bs,Nm x)
  (q:∀ (rs:List Rw) pn',bP cs (B+40) pn'->rs.length<=3->(∀ r∈rs,r.ok)->(rs.map (·.b)).Sublist bs->Q (.dat (.tuple (rs.map Rw.enc))) [pn']):WF og [pn,.list (ns.map .str),.list (bs.map .str)] Q:=by
 refine fA rfl ?_;unfold nv;walk_at "pp";refine lG rfl (dR (fun i e=>∃ (rs:List Rw) (pn':PyData),rs.length<=3/\(∀ r∈rs,r.ok)/\(rs.map (·.b)).Sublist (bs.take i)/\bP cs (B+4*i) pn'/\lr [some (.ino pn'),some (.dat (.list (ns.map .str))),some (.dat (.list (bs.map .str))),some (.own (.list (rs.map Rw.enc))),none,none,none] e) ⟨[],pn,by decide,fun r h=>(by cases h),by simp,hP,by walk_at "L"⟩ ?_ ?_)
 ·rintro i d e hd ⟨rs,pn',hl,hr,hs,hP',_⟩;walk_at "l";rw [Hl] at hd;obtain ⟨x,hx,rfl⟩:=Hv.mp hd;have hi:i < bs.length:=(Hi.mp hx).1;have hxN:=hB x (HF hx);have hs':(rs.map (·.b)).Sublist (bs.take (i+1)):=by rw [<- ID hx];exact hs.trans (List.sublist_append_left _ _)
  refine ql (lb rfl (by assumption)) ?_;walk_at "n";walk_at "pp";refine ix (fun c1=>?_) (fun c1=>?_)
  ·walk_at "d";intro w1 pn1 hP1 w10 w11;walk_at "n";walk_at "pp";refine ix (fun c2=>?_) (fun c2=>?_)
   ·walk_at "d";intro w2 pn2 hP2 w20 w21;walk_at "n";walk_at "pp";obtain ⟨d2,hd2,ed2⟩:=atV (xs:=([.int 0,.int 0,.int 0,.int 1,.int 1,.int 2,.int 3]:List PyData)) w20 w21;have hc:∃ z:Int,d2=.int z/\z<=3:=by
     simp only [Hs,HV,Iv] at hd2;rcases hd2 with rfl | rfl | rfl | rfl | rfl | rfl | rfl <;> exact ⟨_,rfl,by decide⟩
    obtain ⟨lo,rfl,hlo⟩:=hc;refine iQ rfl ed2 ?_;clear ed2 hd2;walk_at "d";intro w3 pn3 hP3 w30 w31;walk_at "n";walk_at "pp";obtain ⟨d3,hd3,ed3⟩:=atV (xs:=([.none,.none,.int lo,.int (if lo+1 < 3 then lo+1 else 3),.int 3]:List PyData)) w30 w31;have hc:∃ o:Option Int,d3=qy o/\∀ h,o=some h->h<=3:=by
     simp only [Hs,HV,Iv] at hd3;rcases hd3 with rfl | rfl | rfl | rfl | rfl
     ·exact ⟨none,rfl,fun h e=>by cases e⟩
     ·exact ⟨none,rfl,fun h e=>by cases e⟩
     ·exact ⟨some _,rfl,fun h e=>by cases e;exact hlo⟩
     ·exact ⟨some _,rfl,fun h e=>by cases e;split <;> omega⟩
     ·exact ⟨some 3,rfl,fun h e=>by cases e;decide⟩
    obtain ⟨o,rfl,ho⟩:=hc;refine iQ rfl ed3 ?_;clear ed3 hd3;walk_at "pp";refine uQ (hi:=rfl) (hP:=hP3) (m:=((ns.map PyData.str).length:Nat)) (by omega) (by rw [Hf];omega) (by rw [Hf];omega) ?_;intro w4 pn4 hP4 w40 w41;walk_at "n";walk_at "pp";obtain ⟨d4,hd4,ed4⟩:=atV (xs:=ns.map PyData.str) w40 w41;obtain ⟨y,hy,rfl⟩:=HM.mp hd4;refine iQ rfl ed4 ?_;clear ed4 hd4;walk_at "pp";refine lK rfl (by rw [Hf];show _ < 2 ^ 24;omega) rfl ?_;have hlt:rs.length < 3:=by
     have:=Jc c1;rw [Hf] at this;omega
    refine ⟨rs++[⟨x,lo,o,y⟩],pn4,by rw [Ho];show _+1<=_;omega,kO hr ⟨hlo,ho,hxN⟩,?_,hP4.mono (by omega),by rw [HL];walk_at "L"⟩;rw [HL,<-ID hx];exact hs.append (List.Sublist.refl _)
   ·walk_at "pp";exact ⟨rs,pn1,hl,hr,hs',hP1.mono (by omega),by walk_at "L"⟩
  ·walk_at "pp";exact ⟨rs,pn',hl,hr,hs',hP'.mono (by omega),by walk_at "L"⟩
 ·rintro e ⟨rs,pn',hl,hr,hs,hP',_⟩;walk_at "l";rw [Hf] at hs hP';rw [Iq] at hs;walk_at "pp";exact q rs pn' (hP'.mono (by omega)) hl hr hs
theorem DS:∀ w∈([.str "any", .str "any", .str "thing", .str "thing", .str "thing", .str "number", .str "said"]:List PyData),∃ z:Str,w=.str z/\i9 z:=by
 intro w h;simp only [Hs,HV,Iv] at h;rcases h with rfl | rfl | rfl | rfl | rfl | rfl | rfl <;> exact ⟨_,rfl,by unfold i9;decide +kernel⟩
theorem qe {cs:List Int} {B:Nat} {pn:PyData} {ns bs:List Str} {Q:PR->List PyData->Prop} (hP:bP cs B pn) (hb:B < 2 ^ 57) (hn2:ns.length<=8) (hbl:bs.length<=8) (hB:∀ x∈bs,Nm x)
  (q:∀ (gs:List Rg) pn',bP cs (B+1000) pn'->gs.length=ns.length->(∀ g∈gs,g.ok bs)->Q (.frs (.list (gs.map Rg.enc))) [pn']):WF iE [pn,.list (ns.map .str),.list (bs.map .str)] Q:=by
 refine fA rfl ?_;unfold kB;walk_at "pp";refine lG rfl (dR (fun i e=>∃ (gs:List Rg) (pn':PyData),gs.length=i/\(∀ g∈gs,g.ok bs)/\bP cs (B+100*i) pn'/\lr [some (.ino pn'),some (.dat (.list (ns.map .str))),some (.dat (.list (bs.map .str))),some (.own (.list (gs.map Rg.enc))),none,none,none,none] e) ⟨[],pn,rfl,fun r h=>(by cases h),hP,by walk_at "L"⟩ ?_ ?_)
 ·rintro i d e hd ⟨gs,pn',hl,hg,hP',_⟩;walk_at "l";rw [Hl] at hd;obtain ⟨x,hx,rfl⟩:=Hv.mp hd;have hi:i < ns.length:=(Hi.mp hx).1;have hn:0 < ns.length:=by omega
  refine ql (lb rfl (by assumption)) ?_;walk_at "n";walk_at "d";intro w1 pn1 hP1 w10 w11;walk_at "n";walk_at "pp";obtain ⟨d1,hd1,ed1⟩:=atV (xs:=([.str "any", .str "any", .str "thing", .str "thing", .str "thing", .str "number", .str "said"]:List PyData)) w10 w11;obtain ⟨k,rfl,hk⟩:=DS d1 hd1;refine iQ rfl ed1 ?_;clear ed1 hd1;walk_at "pp";refine aM (is:=[0]) rfl rfl (ze hP1 (by omega) hn hn2 hbl hB fun rs pn2 hP2 rl hr hs=>⟨rfl,?_⟩);walk_at "n";walk_at "q";with_reducible refine kd fun N eN=>?_
  have rest:∀ (rs:List Rw) (pn3:PyData) (x7:Sl),soft x7->bP cs (B+100*i+50) pn3->rs.length<=3->(∀ r∈rs,r.ok)->(rs.map (·.b)).Sublist bs->N ([.ino pn3,.dat (.list (ns.map .str)),.dat (.list (bs.map .str)),.own (.list (gs.map Rg.enc)),.dat (.str x),.dat (.str k),.dat (.tuple (rs.map Rw.enc)),x7]:En):=by
   intro rs pn3 x7 s7 hP3 rl hr hs;rw [eN];clear eN N;walk_at "p";walk_at "pz";with_reducible refine kd fun N eN=>?_
   have rest:∀ (o:Option (List Str)) (pn4:PyData),bP cs (B+100*i+90) pn4->N ([.ino pn4,.dat (.list (ns.map .str)),.dat (.list (bs.map .str)),.own (.list (gs.map Rg.enc)),.dat (.str x),.dat (.str k),.dat (.tuple (rs.map Rw.enc)),.dat (BI o)]:En):=by
    intro o pn4 hP4;rw [eN];walk_at "pp";refine lK rfl (by rw [Hf];show _ < 2 ^ 24;omega) rfl ?_;exact ⟨gs++[⟨x,k,rs,o⟩],pn4,by rw [Ho,hl];rfl,kO hg ⟨hk,rl,hr,hs⟩,hP4.mono (by omega),by rw [HL];walk_at "L"⟩
   walk_at "d";intro w4 pn4 hP4 w40 w41;walk_at "n";walk_at "pp";refine ix (fun c3=>?_) (fun c3=>?_)
   ·walk_at "pp";refine lG rfl (dJ (fun j ys ec=>∃ (zs:List Str) (pn':PyData),ys=zs.map .str/\bP cs (B+100*i+60+j) pn'/\ec=[.ino pn']) ⟨[],pn4,rfl,hP4.mono (by omega),rfl⟩ ?_ ?_)
    ·rintro j d ys ec hd ⟨zs,pn',rfl,hP',rfl⟩;rw [Hl] at hd;obtain ⟨y,hy,rfl⟩:=Hv.mp hd;have hj:j < bs.length:=(Hi.mp hy).1;refine g6 ?_;walk_at "d";intro w5 pn5 hP5 w50 w51;walk_at "n";walk_at "pp";refine ix (fun c4=>?_) (fun c4=>?_)
     ·walk_at "pp";exact ⟨zs++[y],pn5,by rw [HL];rfl,hP5,rfl⟩
     ·exact ⟨zs,pn5,by simp,hP5,rfl⟩
    ·rintro ys ec ⟨zs,pn',rfl,hP',rfl⟩;rw [Hf] at hP';walk_at "n";walk_at "pp";exact rest (some zs) pn' (hP'.mono (by omega))
   ·walk_at "pp";exact rest none pn4 (hP4.mono (by omega))
  have noch:∀ pn3,bP cs (B+100*i+50) pn3->∀ x7,soft x7->N ([.ino pn3,.dat (.list (ns.map .str)),.dat (.list (bs.map .str)),.own (.list (gs.map Rg.enc)),.dat (.str x),.dat (.str k),.dat (.tuple (rs.map Rw.enc)),x7]:En):=fun pn3 hP3 x7 s7=>rest rs pn3 x7 s7 hP3 rl hr hs
  have chg:∀ pn3,bP cs (B+100*i+50) pn3->∀ x7,soft x7->N ([.ino pn3,.dat (.list (ns.map .str)),.dat (.list (bs.map .str)),.own (.list (gs.map Rg.enc)),.dat (.str x),.dat (.str k),.dat (.tuple ((rs.map fun r=>{ r with lo:=0 }).map Rw.enc)),x7]:En):=fun pn3 hP3 x7 s7=>rest _ pn3 x7 s7 hP3 (by rw [Hf];exact rl) (fun r h=>by
   obtain ⟨r',h',rfl⟩:=HM.mp h
   exact ⟨(by show (0:Int)<=3;decide),(hr r' h').2⟩) (by rw [Jz];exact hs)
  clear rest eN;have main:(∀ {Q:Bool->En->Prop} {e:En},Q true e->Q true e):=fun q=>q;rcases hk with rfl | rfl | rfl | rfl
  ·walk_at "pp";exact noch pn2 (hP2.mono (by omega)) _ (by walk_at "soft")
  ·walk_at "pp";exact noch pn2 (hP2.mono (by omega)) _ (by walk_at "soft")
  all_goals
   walk_at "d";intro w3 pn3 hP3 w30 w31;walk_at "n";walk_at "pp";refine ix (fun c3=>?_) (fun c3=>?_)
   ·walk_at "pp";refine dJ (fun j ys ec=>ys=((rs.take j).map fun r=>({ r with lo:=0 }:Rw)).map Rw.enc/\ec=[]) ⟨rfl,rfl⟩ ?_ ?_
    ·rintro j d ys ec hd ⟨rfl,rfl⟩;rw [Hl] at hd;obtain ⟨r,hr',rfl⟩:=Hv.mp hd;refine zg rfl ?_;walk_at "pp";exact ⟨by rw [<- ID hr',HL,HL];rfl,rfl⟩
    ·rintro ys ec ⟨rfl,rfl⟩;rw [Hf,Iq];walk_at "n";walk_at "pp";exact chg pn3 (hP3.mono (by omega)) _ (by walk_at "soft")
   ·walk_at "pp";exact noch pn3 (hP3.mono (by omega)) _ (by walk_at "soft")
 ·rintro e ⟨gs,pn',hl,hg,hP',_⟩;walk_at "l";rw [Hf] at hl hP';walk_at "pp";exact q gs pn' (hP'.mono (by omega)) hl hg
theorem oO {gs:List Rg} {ds:List PyData} {Q:PR->List PyData->Prop} (hg:gs.length<=8) (hr:∀ g∈gs,g.rows.length<=3) (q:Q (.dat (.tuple [.tuple (gs.map Rg.shp),.tuple ds])) []):WF iJ [.list (gs.map Rg.enc),.list ds] Q:=by
 refine fA rfl ?_;unfold n6;walk_at "pp";refine lG rfl (dR (fun i e=>lr [some (.dat (.list (gs.map Rg.enc))),some (.dat (.list ds)),some (.own (.list ((gs.take i).map Rg.shp))),none,none,none,none,none,none,none,none,none] e) (by walk_at "L") ?_ ?_)
 ·rintro i d e hd _;walk_at "l";rw [Hl] at hd;obtain ⟨g,hgi,rfl⟩:=Hv.mp hd;have hi:i < gs.length:=(Hi.mp hgi).1;have hrl:=hr g (HF hgi);walk_at "fT";walk_at "n";walk_at "pp";refine dR (fun j e=>lr [some (.dat (.list (gs.map Rg.enc))),some (.dat (.list ds)),some (.own (.list ((gs.take i).map Rg.shp))),some (.dat (.str g.n)),some (.dat (.str g.k)),some (.dat (.tuple (g.rows.map Rw.enc))),some (.dat (BI g.cl)),some (.own (.list (.tuple [.str g.k] :: (g.rows.take j).map Rw.part))),none,none,none,none] e) (by walk_at "L") ?_ ?_
  ·rintro j d e hd _;walk_at "l";rw [Hl] at hd;obtain ⟨r,hrj,rfl⟩:=Hv.mp hd;have hj:j < g.rows.length:=(Hi.mp hrj).1;walk_at "fT";walk_at "n";walk_at "pp";refine lK rfl (by rw [HD,Hf,HW];show _ < 2 ^ 24;omega) rfl ?_;show lr _ _;rw [<- ID hrj,HL];walk_at "L"
  rintro e hL;rw [Hf,Iq] at hL;revert hL;intro _;walk_at "l";with_reducible refine kd fun N eN=>?_
  have rest:∀ y8 y9 y10 y11:Sl,soft y8->soft y9->soft y10->soft y11->N ([.dat (.list (gs.map Rg.enc)),.dat (.list ds),.own (.list ((gs.take i).map Rg.shp)),.dat (.str g.n),.dat (.str g.k),.dat (.tuple (g.rows.map Rw.enc)),.dat (BI g.cl),.own (.list g.parts),y8,y9,y10,y11]:En):=by
   intro y8 y9 y10 y11 s8 s9 s10 s11;rw [eN];walk_at "pp";refine lK rfl (by rw [Hf,HW];show _ < 2 ^ 24;omega) rfl ?_;show lr _ _;rw [<- ID hgi,HL];walk_at "L"
  unfold Rg.parts at rest;cases hc:g.cl with
  | none =>
   rw [hc,show clP none=[] from rfl,Ie] at rest;walk_at "pp";refine rest _ _ _ _ ?_ ?_ ?_ ?_ <;> assumption
  | some c =>
   rw [hc] at rest;walk_at "pp";refine lK rfl (by rw [HD,Hf];show _ < 2 ^ 24;omega) rfl ?_;refine rest _ _ _ _ ?_ ?_ ?_ ?_ <;> assumption
 ·rintro e hL;rw [Hf,Iq] at hL;revert hL;intro _;walk_at "l";walk_at "pp";exact q
theorem qd {x:Str} (h:Ltr x):(decide ((Str.ofString "^").length<=x.length)&&Builtin.Str.subAt x "^" 0)=false:=by
 rcases Nat.eq_zero_or_pos x.length with z | z
 ·rw [z];rfl
 ·rw [Bool.and_eq_false_iff];refine .inr ?_;unfold Builtin.Str.subAt;rw [Bool.eq_false_iff];intro e;have e:=eq_of_beq e;have h1:(x.cps.extract 0 (0+(Str.ofString "^").length)).toList=(Str.ofString "^").cps.toList:=by rw [e]
  have h2:(Str.ofString "^").cps.toList=[94]:=by decide +kernel
  rw [h2] at h1;have h3:(94:Nat)∈x.cps.toList:=by
   have:(94:Nat)∈(x.cps.extract 0 (0+(Str.ofString "^").length)).toList:=by rw [h1];simp
   rw [Array.toList_extract] at this;have h4:(94:Nat)∈List.take (Str.ofString "^").length x.cps.toList:=by simpa [List.extract] using this
   exact Jh h4
  have:=h 94 h3;omega
theorem lL {r:Rw} {Q:PR->List PyData->Prop} (h:r.ok) (q:Q (.dat r.enc) []):WF eR [r.part] Q:=by
 obtain ⟨h1,h2,h3⟩:=h;refine fA rfl ?_;unfold bH Rw.part;walk_at "pp";refine eG (qd h3.1) ?_;walk_at "pp";refine eG (HS (by omega)) ?_;cases hh:r.hi with
 | none =>
  walk_at "pp";unfold Rw.enc at q;rw [hh] at q;exact q
 | some z =>
  have:=h2 z hh;walk_at "pp";refine eG (HS (by omega)) ?_;walk_at "pp";unfold Rw.enc at q;rw [hh] at q;exact q
theorem yx (r:Rw):noD r.enc=true:=by
 unfold Rw.enc;cases r.hi <;> rfl
theorem i7 (rs:List Rw):fg (rs.map Rw.enc)=true:=cS.mpr fun d hd=>by
 obtain ⟨r,_,rfl⟩:=HM.mp hd;exact yx r
theorem nj {rs:List Rw} {bs:List Str} {Q:PR->List PyData->Prop} (h:rs.length<=3) (hs:(rs.map (·.b)).Sublist bs) (h1:bs.Pairwise fun a b=>leT a b=true) (h2:bs.Nodup) (q:Q (.dat (.bool true)) []):WF cM [.list (rs.map Rw.enc)] Q:=by
 refine fA rfl ?_;unfold cm;walk_at "pp";refine eG (HS (by rw [Hf];omega)) ?_;walk_at "pp";refine El (z:=.none) (ds:=rs.map Rw.enc) (b:=false) rfl (by decide) (i7 rs) ?_ ?_
 ·unfold mQ;rw [List.any_eq_false];intro d hd;obtain ⟨r,_,rfl⟩:=HM.mp hd;simp [Rw.enc,PyData.eqv]
 walk_at "pp";refine lG rfl (dJ (fun i ys ec=>ys=((rs.take i).map (·.b)).map .str/\ec=[]) ⟨rfl,rfl⟩ ?_ ?_)
 ·rintro i d ys ec hd ⟨rfl,rfl⟩;rw [Hl] at hd;obtain ⟨r,hr,rfl⟩:=Hv.mp hd;refine g6 ?_;walk_at "pp";exact ⟨by rw [<- ID hr,HL,HL];rfl,rfl⟩
 ·rintro ys ec ⟨rfl,rfl⟩;rw [Hf,Iq];walk_at "pp";refine xp (ss:=rs.map (·.b)) rfl (by rw [Hf];omega) ?_;rw [uT (h1.sublist hs) (h2.sublist hs)];walk_at "pp";refine Dg rfl (oA _) ?_;walk_at "pp";exact q
theorem Bm {x y:PyData} {ms:List PyData}:slD (some 1) (some (-1)) (.tuple (x :: (ms++[y])))=some (.dat (.tuple ms)):=by
 have hl:(x :: (ms++[y])).length=ms.length+2:=by simp
 have e1:HT.sIx (x :: (ms++[y])).length 0 (some 1)=1:=by
  rw [hl];simp only [HT.sIx];rw [HC (by decide)];omega
 have e2:HT.sIx (x :: (ms++[y])).length (x :: (ms++[y])).length (some (-1))=ms.length+1:=by
  rw [hl];simp only [HT.sIx];rw [Hy (by decide)];omega
 show (if HT.sIx (x :: (ms++[y])).length 0 (some 1)=0/\HT.sIx (x :: (ms++[y])).length (x :: (ms++[y])).length (some (-1))=(x :: (ms++[y])).length then none else some (PR.dat (.tuple (L2.cutD (x :: (ms++[y])) (some 1) (some (-1))))))=_;rw [HC (by rw [e1];omega)];unfold L2.cutD;rw [e1,e2];simp
theorem vR {k:Str} (h:i9 k):PyData.eqv (.str k) (.str "closed")=false:=by
 rcases h with rfl | rfl | rfl | rfl <;> rfl
theorem d8 {k:Str} (h:i9 k):ngB true (mQ [.str "any", .str "thing", .str "number", .str "said"] (.str k))=false:=by
 rcases h with rfl | rfl | rfl | rfl <;> rfl
theorem rW {g:Rg} (h:g.cl=none) (hk:i9 g.k):∃ y:Str,∃ zs:List PyData,atI g.parts (-1)=some (.tuple (.str y :: zs))/\PyData.eqv (.str y) (.str "closed")=false:=by
 unfold Rg.parts;rw [h];show ∃ y:Str,∃ zs:List PyData,atI (.tuple [.str g.k] :: (g.rows.map Rw.part++[])) (-1)=_/\_;rw [Ie];rcases List.eq_nil_or_concat g.rows with e | ⟨ys,y,e⟩
 ·rw [e];exact ⟨g.k,[],iK (xs:=[]),vR hk⟩
 ·rw [e,List.concat_eq_append,HL,<-List.cons_append];exact ⟨"each", _,iK,rfl⟩
theorem jV {g:Rg} {bs:List Str} {Q:PR->List PyData->Prop} (h:g.ok bs) (h1:bs.Pairwise fun a b=>leT a b=true) (h2:bs.Nodup) (q:Q (.dat g.enc) []):WF fj [g.shp] Q:=by
 obtain ⟨hk,hl,hr,hs⟩:=h;refine fA rfl ?_;unfold ck Rg.shp;have hlp:0 < g.parts.length:=by unfold Rg.parts;simp
 walk_at "pp";refine iP (i:=0) (xs:=g.parts) rfl at0 ?_;walk_at "pp"
 have rest:∀ (c:Bool),c=g.cl.isSome->∀ {E:Kn} {e5:En} {x5:Sl},soft x5->e5=([.dat (.tuple [.str g.n,.str "greatest", .tuple [.str "all", .tuple g.parts]]),.dat (.tuple [.str "all", .tuple g.parts]),.dat (.str g.k),.dat (.bool c),.dat (.tuple (g.rows.map Rw.part)),x5]:En)->(E.rt=zI [.dat] Q)->WS gds (.seq (.cp 5 (.cmp [] (.tup (.var 4)) .yes (.call eR (.cons (.var 0) .nil))))
  (.seq (.ifs (.or (.tst (.prm pV (.cons (.var 2) (.cons (.glb 0) .nil)))) (.not (.tst (.call cM (.cons (.var 5) .nil))))) (.ret (.cst .n)) .skip)
  (.ret (.tup (.cons (.prm ixP (.cons (.var 0) (.cons (.cst (.i 0)) .nil))) (.cons (.var 2) (.cons (.prm aP (.cons (.var 5) .nil)) (.cons (.ifx (.tst (.var 3)) (.prm ixP (.cons (.prm ixP (.cons (.prm ixP (.cons (.var 1) (.cons (.cst (.i 1)) .nil))) (.cons (.prm yS (.cons (.cst (.i 1)) .nil)) .nil))) (.cons (.cst (.i 1)) .nil))) (.cst .n)) .nil)))))))) e5 E:=by
  intro c hc E e5 x5 s5 he hE;subst he;walk_at "pp";refine dJ (fun i ys ec=>ys=(g.rows.take i).map Rw.enc/\ec=[]) ⟨rfl,rfl⟩ ?_ ?_
  ·rintro i d ys ec hd ⟨rfl,rfl⟩;rw [Hl] at hd;obtain ⟨r,hri,rfl⟩:=Hv.mp hd;refine g6 ?_;walk_at "pp";refine aM (is:=[]) rfl rfl (lL (hr r (HF hri)) ⟨rfl,?_⟩);walk_at "pp";exact ⟨by rw [<- ID hri,HL];rfl,rfl⟩
  rintro ys ec ⟨rfl,rfl⟩;rw [Hf,Iq];walk_at "n";walk_at "pp";refine eG (d8 hk) ?_;walk_at "pp";refine aM (is:=[]) rfl rfl (nj hl hs h1 h2 ⟨rfl,?_⟩);walk_at "pp";unfold Rg.enc at q;cases hcl:g.cl with
  | none =>
   rw [hcl] at hc q;subst hc;walk_at "pp";rw [hE];walk_at "pp";exact q
  | some cl =>
   rw [hcl] at hc q;subst hc;walk_at "pp";have:atI g.parts (-1)=some (.tuple [.str "closed", .tuple (cl.map .str)]):=by
    unfold Rg.parts;rw [hcl,show clP (some cl)=[.tuple [.str "closed", .tuple (cl.map .str)]] from rfl,<-List.cons_append];exact iK
   refine iP (i:=-1) (xs:=g.parts) rfl this ?_;walk_at "pp";rw [hE];walk_at "pp";exact q
 cases hcl:g.cl with
 | none =>
  rw [hcl] at rest;obtain ⟨y,zs,e1,e2⟩:=rW hcl hk;refine iP (i:=-1) (xs:=g.parts) rfl e1 ?_;walk_at "pp";refine iP (i:=0) rfl at0 ?_;walk_at "pp";refine eG e2 ?_;walk_at "pz";have e3:L2.cutD g.parts (some 1) none=g.rows.map Rw.part:=by
   unfold Rg.parts;rw [hcl,show clP none=[] from rfl,Ie];unfold L2.cutD;have e4:HT.sIx (PyData.tuple [.str g.k] :: g.rows.map Rw.part).length 0 (some 1)=1:=by
    simp only [HT.sIx];rw [HC (by decide),HD];omega
   rw [e4];have:HT.sIx (PyData.tuple [.str g.k] :: g.rows.map Rw.part).length (PyData.tuple [.str g.k] :: g.rows.map Rw.part).length none=(PyData.tuple [.str g.k] :: g.rows.map Rw.part).length:=rfl;rw [this,Io (by rw [Ik];omega)];rfl
  refine rest _ e2 m5 ?_ rfl;rw [<- e3];rfl
 | some cl =>
  rw [hcl] at rest;have e1:g.parts=.tuple [.str g.k] :: (g.rows.map Rw.part++[.tuple [.str "closed", .tuple (cl.map .str)]]):=by
   unfold Rg.parts;rw [hcl];rfl
  have e2:atI g.parts (-1)=some (.tuple [.str "closed", .tuple (cl.map .str)]):=by
   rw [e1,<-List.cons_append];exact iK
  refine iP (i:=-1) (xs:=g.parts) rfl e2 ?_;walk_at "pp";refine ⟨_,_,rfl,(by show slD (some 1) (some (-1)) (.tuple g.parts)=_;rw [e1];exact Bm),?_⟩;walk_at "q";exact rest _ rfl m5 rfl rfl
def pb (m r:PyData):Prop:=∀ {Q:PR->List PyData->Prop},Q (.dat r) []->WF eR [m] Q
theorem zS {r:Rw} (h:r.ok):pb r.part r.enc:=fun q=>lL h q
theorem xX {d:PyData}:pb (.tuple [.str "closed", d]) .none:=fun q=>by
 refine fA rfl ?_;unfold bH;walk_at "pp";exact q
theorem yZ {a b c d:PyData}:pb (.tuple [.str "many", a,b,c,d]) .none:=fun q=>by
 refine fA rfl ?_;unfold bH;walk_at "pp";exact q
theorem wY:pb (.tuple [.str "any"]) .none:=fun q=>by
 refine fA rfl ?_;unfold bH;walk_at "pp";exact q
theorem EJ {d:PyData}:pb (.tuple [.str "keeps", d]) .none:=fun q=>by
 refine fA rfl ?_;unfold bH;walk_at "pp";exact q
theorem hat {x:Str}:(decide ((Str.ofString "^").length<=(Str.ofString "^" ++ x).length)&&Builtin.Str.subAt (Str.ofString "^" ++ x) "^" 0)=true:=by
 rw [HK];refine ⟨Ii (by rw [oQ];omega),?_⟩;unfold Builtin.Str.subAt;refine IF.mpr ?_;have:(Str.ofString "^" ++ x).cps=(Str.ofString "^").cps++x.cps:=rfl;rw [this];show ((Str.ofString "^").cps++x.cps).extract 0 (0+(Str.ofString "^").cps.size)=(Str.ofString "^").cps;rw [Nat.zero_add];simp
theorem Ah {a b d:PyData} {x:Str}:pb (.tuple [.str "each", a,b,.str (Str.ofString "^" ++ x),d]) .none:=fun q=>by
 refine fA rfl ?_;unfold bH;walk_at "pp";refine jF hat ?_;walk_at "pp";exact q
theorem rm {a b:PyData} {x w:Str} {ws:List PyData} (h:Ltr x) (hw:w = "any" \/ w = "all"):pb (.tuple [.str "each", a,b,.str x,.tuple (.str w :: ws)]) .none:=fun q=>by
 refine fA rfl ?_;unfold bH;walk_at "pp";refine eG (qd h) ?_;walk_at "pp";refine iP (i:=0) rfl at0 ?_;rcases hw with rfl | rfl
 all_goals
  walk_at "pp";exact q
theorem B7 {b y:PyData} {g:Int} {x:Str} (h:Ltr x) (hg:3 < g):pb (.tuple [.str "each", .int g,b,.str x,.tuple [.str "keeps", y]]) .none:=fun q=>by
 refine fA rfl ?_;unfold bH;walk_at "pp";refine eG (qd h) ?_;walk_at "pp";refine jF (Ii hg) ?_;walk_at "pp";exact q
theorem zd {y:PyData} {lo g:Int} {x:Str} (h:Ltr x) (hl:lo<=3) (hg:3 < g):pb (.tuple [.str "each", .int lo,.int g,.str x,.tuple [.str "keeps", y]]) .none:=fun q=>by
 refine fA rfl ?_;unfold bH;walk_at "pp";refine eG (qd h) ?_;walk_at "pp";refine eG (HS (by omega)) ?_;walk_at "pp";refine jF (Ii hg) ?_;walk_at "pp";exact q
def zM (rs:List PyData):Prop:=∀ {Q:PR->List PyData->Prop},Q (.dat (.bool false)) []->WF cM [.list rs] Q
theorem nB {rs:List PyData} (h:3 < rs.length):zM rs:=fun q=>by
 refine fA rfl ?_;unfold cm;walk_at "pp";refine jF (Ii (by omega)) ?_;walk_at "pp";exact q
theorem oM {rs:List PyData} (h:rs.length<=3) (hn:fg rs=true) (hi:mQ rs .none=true):zM rs:=fun q=>by
 refine fA rfl ?_;unfold cm;walk_at "pp";refine eG (HS (by omega)) ?_;walk_at "pp";refine El (z:=.none) (ds:=rs) (b:=true) rfl (by decide) hn hi ?_;walk_at "pp";exact q
theorem rM {rs:List Rw} (h:rs.length<=3) (hb:¬((rs.map (·.b)).Pairwise (fun a b=>leT a b=true)/\(rs.map (·.b)).Nodup)):zM (rs.map Rw.enc):=fun q=>by
 refine fA rfl ?_;unfold cm;walk_at "pp";refine eG (HS (by rw [Hf];omega)) ?_;walk_at "pp";refine El (z:=.none) (ds:=rs.map Rw.enc) (b:=false) rfl (by decide) (i7 rs) ?_ ?_
 ·unfold mQ;rw [List.any_eq_false];intro d hd;obtain ⟨r,_,rfl⟩:=HM.mp hd;simp [Rw.enc,PyData.eqv]
 walk_at "pp";refine lG rfl (dJ (fun i ys ec=>ys=((rs.take i).map (·.b)).map .str/\ec=[]) ⟨rfl,rfl⟩ ?_ ?_)
 ·rintro i d ys ec hd ⟨rfl,rfl⟩;rw [Hl] at hd;obtain ⟨r,hr,rfl⟩:=Hv.mp hd;refine g6 ?_;walk_at "pp";exact ⟨by rw [<- ID hr,HL,HL];rfl,rfl⟩
 ·rintro ys ec ⟨rfl,rfl⟩;rw [Hf,Iq];walk_at "pp";refine xp (ss:=rs.map (·.b)) rfl (by rw [Hf];omega) ?_;walk_at "pp";refine w_eq rfl (oA _) (oA _) ?_;have z:PyData.eqv (.list ((rs.map (·.b)).map .str)) (.list ((ig (dG (rs.map (·.b)))).map .str))=false:=by
   rw [vm];refine HS fun u=>hb ?_;have p1:=jj (dG (rs.map (·.b)));have p2:=(bU (dG (rs.map (·.b)))).nodup_iff.mpr (jN _);rw [<- u] at p1 p2;exact ⟨p1,p2⟩
  rw [z];walk_at "pp";exact q
structure Bad (w f:PyData):Prop where
 h:∀ {n:Str} {Q:PR->List PyData->Prop},Q (.dat .none) []->WF fj [.tuple [.str n,w,f]] Q
theorem vf {f:PyData}:Bad (.str "least") f:=⟨fun q=>by
 refine fA rfl ?_;unfold ck;walk_at "pp"
 exact q⟩
theorem pY {k:Str} {zs:List PyData} (hk:k = "any" \/ k = "thing" \/ k = "said" \/ k = "some"):Bad (.str "greatest") (.tuple (.str k :: zs)):=⟨fun q=>by
 refine fA rfl ?_;unfold ck;walk_at "pp";refine iP (i:=0) rfl at0 ?_;rcases hk with rfl | rfl | rfl | rfl
 all_goals
  walk_at "pp"
  exact q⟩
theorem yK:Bad (.str "greatest") (.tuple [.str "all", .tuple []]):=⟨fun q=>by
 refine fA rfl ?_;unfold ck;walk_at "pp"
 exact q⟩
inductive Rws:List PyData->List PyData->Prop
 | nil:Rws [] []
 | cons {m r ms rs}:pb m r->Rws ms rs->Rws (m :: ms) (r :: rs)
theorem Rws.get {ms rs:List PyData} (h:Rws ms rs):∀ {i:Nat} {m:PyData},ms[i]?=some m->∃ r,rs[i]?=some r/\pb m r:=by
 induction h with
 | nil=>intro i m e;cases e
 | cons h1 _ ih =>
  intro i m e;cases i with
  | zero=>cases e;exact ⟨_,rfl,h1⟩
  | succ i=>exact ih e
theorem Rws.len {ms rs:List PyData} (h:Rws ms rs):ms.length=rs.length:=by
 induction h with
 | nil=>rfl
 | cons _ _ ih=>rw [HD,HD,ih]
theorem qb {k y:Str} {P zs ws ms rs:List PyData} {c:Bool} (h0:atI P 0=some (.tuple (.str k :: zs))) (hl:atI P (-1)=some (.tuple (.str y :: ws))) (hn:PyData.eqv (.int ((P.length:Nat):Int)) (.int 0)=false) (hy:PyData.eqv (.str y) (.str "closed")=c)
  (hs:if c=true then slD (some 1) (some (-1)) (.tuple P)=some (.dat (.tuple ms)) else yG.f [.tuple P,.int 1]=some (.dat (.tuple ms))) (hr:Rws ms rs)
  (hb:ngB true (mQ [.str "any", .str "thing", .str "number", .str "said"] (.str k))=true\/(ngB true (mQ [.str "any", .str "thing", .str "number", .str "said"] (.str k))=false/\zM rs)):Bad (.str "greatest") (.tuple [.str "all", .tuple P]):=⟨fun {n Q} q=>by
 subst hy;refine fA rfl ?_;unfold ck;walk_at "pp";refine eG hn ?_;walk_at "pp";refine iP (i:=0) (xs:=P) rfl h0 ?_;walk_at "pp";refine iP (i:=0) rfl at0 ?_;walk_at "pp";refine iP (i:=-1) (xs:=P) rfl hl ?_;walk_at "pp";refine iP (i:=0) rfl at0 ?_;walk_at "pz";with_reducible refine kd fun N eN=>?_
 have rest:∀ (x5:Sl),soft x5->N ([.dat (.tuple [.str n,.str "greatest", .tuple [.str "all", .tuple P]]),.dat (.tuple [.str "all", .tuple P]),.dat (.str k),.dat (.bool (PyData.eqv (.str y) (.str "closed"))),.dat (.tuple ms),x5]:En):=by
  intro x5 s5;rw [eN];walk_at "pp";refine dJ (fun i ys ec=>ys=rs.take i/\ec=[]) ⟨rfl,rfl⟩ ?_ ?_
  ·rintro i d ys ec hd ⟨rfl,rfl⟩;obtain ⟨r,hri,hR⟩:=hr.get hd;refine g6 ?_;walk_at "pp";refine aM (is:=[]) rfl rfl (hR ⟨rfl,?_⟩);walk_at "pp";exact ⟨ID hri,rfl⟩
  rintro ys ec ⟨rfl,rfl⟩;rw [hr.len,Iq];walk_at "n";walk_at "pp";rcases hb with hb | ⟨hb,ha⟩
  ·refine jF hb ?_;walk_at "pp";exact q
  ·refine eG hb ?_;walk_at "pp";refine aM (is:=[]) rfl rfl (ha ⟨rfl,?_⟩);walk_at "pp";exact q
 clear eN;walk_at "pp";cases e:PyData.eqv (.str y) (.str "closed") with
 | true =>
  rw [e] at hs;refine jF e ?_;walk_at "pp";refine ⟨_,_,rfl,hs,?_⟩;walk_at "q";exact rest _ m5
 | false =>
  rw [e] at hs;refine eG e ?_;walk_at "pp";refine ⟨_,_,rfl,hs,?_⟩;walk_at "q"
  exact rest _ m5⟩
section
variable {k y:Str} {P zs ws ms rs:List PyData} (h0:atI P 0=some (.tuple (.str k :: zs))) (hl:atI P (-1)=some (.tuple (.str y :: ws))) (hn:PyData.eqv (.int ((P.length:Nat):Int)) (.int 0)=false)
include h0 hl hn
theorem iX (hy:PyData.eqv (.str y) (.str "closed")=true) (hs:slD (some 1) (some (-1)) (.tuple P)=some (.dat (.tuple ms))) (hr:Rws ms rs)
  (hb:ngB true (mQ [.str "any", .str "thing", .str "number", .str "said"] (.str k))=true\/(ngB true (mQ [.str "any", .str "thing", .str "number", .str "said"] (.str k))=false/\zM rs)):Bad (.str "greatest") (.tuple [.str "all", .tuple P]):=qb h0 hl hn hy (by rw [Hy rfl];exact hs) hr hb
theorem qc (hy:PyData.eqv (.str y) (.str "closed")=false) (hs:yG.f [.tuple P,.int 1]=some (.dat (.tuple ms))) (hr:Rws ms rs)
  (hb:ngB true (mQ [.str "any", .str "thing", .str "number", .str "said"] (.str k))=true\/(ngB true (mQ [.str "any", .str "thing", .str "number", .str "said"] (.str k))=false/\zM rs)):Bad (.str "greatest") (.tuple [.str "all", .tuple P]):=qb h0 hl hn hy (by rw [HC (by decide)];exact hs) hr hb
end
abbrev R1 (b n:Str):PyData:=.tuple [.str "each", .int 0,.none,.str b,.tuple [.str "keeps", .str n]]
noncomputable abbrev R2 (lo:Int) (o:Option Int) (b n:Str):PyData:=.tuple [.str "each", .int lo,qy o,.str b,.tuple [.str "keeps", .str n]]
abbrev CL (bs:List Str):PyData:=.tuple [.str "closed", .tuple (bs.map .str)]
def K3 (k:Str):Prop:=k = "any" \/ k = "thing" \/ k = "said"
theorem rr1 {b n:Str} (h:Nm b):pb (R1 b n) (.tuple [.str b,.int 0,.none,.str n]):=zS (r:=⟨b,0,none,n⟩) ⟨(by show (0:Int)<=3;decide),fun _ e=>(by cases e),h⟩
theorem rr2 {b n:Str} {lo:Int} {o:Option Int} (h:Nm b) (hl:lo<=3) (ho:∀ z,o=some z->z<=3):pb (R2 lo o b n) (.tuple [.str b,.int lo,qy o,.str n]):=zS (r:=⟨b,lo,o,n⟩) ⟨hl,ho,h⟩
section
variable {k b0 b2 n nl:Str} {lo:Int} {o:Option Int} {bs:List Str}
theorem w4 (h0:Nm b0):Bad (.str "greatest") (.tuple [.str "all", .tuple [.tuple [.str "from", .int 0],R1 b0 n]]) :=
 qc (ms:=[R1 b0 n]) rfl rfl rfl rfl rfl (.cons (rr1 h0) .nil) (.inl rfl)
theorem w5 (h2:Nm b2) (hl:lo<=3) (ho:∀ z,o=some z->z<=3):Bad (.str "greatest") (.tuple [.str "all", .tuple [R1 b0 n,R2 lo o b2 nl,CL bs]]) :=
 iX (ms:=[R2 lo o b2 nl]) rfl rfl rfl rfl rfl (.cons (rr2 h2 hl ho) .nil) (.inl rfl)
end
section
variable {k b0 b1 b2 b3 n nl:Str} {lo:Int} {o:Option Int} {bs:List Str}
theorem K3.ok (h:K3 k):i9 k:=by
 rcases h with rfl | rfl | rfl
 ·exact .inl rfl
 ·exact .inr (.inl rfl)
 ·exact .inr (.inr (.inr rfl))
theorem w6 (h0:Nm b0) (h2:Nm b2) (hl:lo<=3) (ho:∀ z,o=some z->z<=3):Bad (.str "greatest") (.tuple [.str "all", .tuple [.tuple [.str "is", .str "ann"],R1 b0 n,R2 lo o b2 nl,CL bs]]) :=
 iX (ms:=[R1 b0 n,R2 lo o b2 nl]) rfl rfl rfl rfl rfl (.cons (rr1 h0) (.cons (rr2 h2 hl ho) .nil)) (.inl rfl)
theorem w7 (hk:K3 k) (h0:Nm b0) (h2:Nm b2) (hl:lo<=3) (ho:∀ z,o=some z->z<=3) (hs:leT b0 b2=true) (hd:b0≠b2):Bad (.str "greatest") (.tuple [.str "all", .tuple [.tuple [.str k],R2 lo o b2 nl,R1 b0 n,CL bs]]) :=
 iX (ms:=[R2 lo o b2 nl,R1 b0 n]) rfl rfl rfl rfl rfl (.cons (rr2 h2 hl ho) (.cons (rr1 h0) .nil)) (.inr ⟨d8 hk.ok,rM (rs:=[⟨b2,lo,o,nl⟩,⟨b0,0,none,n⟩]) (by simp) fun z=>hd (kq hs (by
  have z1:([b2,b0]:List Str).Pairwise (fun a b=>leT a b=true):=z.1;simp only [IG] at z1
  exact z1.1 b0 Hw))⟩)
theorem w8 (hk:K3 k) (h0:Nm b0) (h1:Nm b1) (h2:Nm b2) (h3:Nm b3):Bad (.str "greatest") (.tuple [.str "all", .tuple [.tuple [.str k],R1 b0 n,R1 b1 n,R1 b2 n,R1 b3 n]]) :=
 qc (ms:=[R1 b0 n,R1 b1 n,R1 b2 n,R1 b3 n]) rfl rfl rfl rfl rfl (.cons (rr1 h0) (.cons (rr1 h1) (.cons (rr1 h2) (.cons (rr1 h3) .nil)))) (.inr ⟨d8 hk.ok,nB (by simp)⟩)
theorem w8c (hk:K3 k) (h0:Nm b0) (h1:Nm b1) (h2:Nm b2) (h3:Nm b3):Bad (.str "greatest") (.tuple [.str "all", .tuple [.tuple [.str k],R1 b0 n,R1 b1 n,R1 b2 n,R1 b3 n,.tuple [.str "closed", .tuple []]]]) :=
 iX (ms:=[R1 b0 n,R1 b1 n,R1 b2 n,R1 b3 n]) rfl rfl rfl rfl rfl (.cons (rr1 h0) (.cons (rr1 h1) (.cons (rr1 h2) (.cons (rr1 h3) .nil)))) (.inr ⟨d8 hk.ok,nB (by simp)⟩)
theorem w9 (hk:K3 k) (h0:Nm b0):Bad (.str "greatest") (.tuple [.str "all", .tuple [.tuple [.str k],CL bs,R1 b0 n]]) :=
 qc (ms:=[CL bs,R1 b0 n]) rfl rfl rfl rfl rfl (.cons xX (.cons (rr1 h0) .nil)) (.inr ⟨d8 hk.ok,oM (by simp) rfl rfl⟩)
theorem w10 (hk:K3 k) (h0:Nm b0) (h2:Nm b2) (hl:lo<=3) (ho:∀ z,o=some z->z<=3):Bad (.str "greatest") (.tuple [.str "all", .tuple [.tuple [.str k],R1 b0 n,R2 lo o b2 nl,CL bs,.tuple [.str "any"]]]) :=
 qc (ms:=[R1 b0 n,R2 lo o b2 nl,CL bs,.tuple [.str "any"]]) rfl rfl rfl rfl rfl (.cons (rr1 h0) (.cons (rr2 h2 hl ho) (.cons xX (.cons wY .nil)))) (.inr ⟨d8 hk.ok,nB (by simp)⟩)
theorem GB:noD (qy o)=true:=by cases o <;> rfl
theorem G3 (hk:K3 k) (h0:Nm b0) (h2:Nm b2) (hl:lo<=3) (ho:∀ z,o=some z->z<=3):Bad (.str "greatest") (.tuple [.str "all", .tuple [.tuple [.str k],R1 b0 n,R2 lo o b2 nl,CL bs,CL bs]]) :=
 iX (ms:=[R1 b0 n,R2 lo o b2 nl,CL bs]) rfl rfl rfl rfl rfl (.cons (rr1 h0) (.cons (rr2 h2 hl ho) (.cons xX .nil))) (.inr ⟨d8 hk.ok,oM (by simp) (by simp [fg,noD,GB]) (by simp [mQ,PyData.eqv])⟩)
theorem w11 {X:PyData} (hk:K3 k) (h0:Nm b0) (hX:pb X .none):Bad (.str "greatest") (.tuple [.str "all", .tuple [.tuple [.str k],R1 b0 n,X,CL bs]]) :=
 iX (ms:=[R1 b0 n,X]) rfl rfl rfl rfl rfl (.cons (rr1 h0) (.cons hX .nil)) (.inr ⟨d8 hk.ok,oM (by simp) rfl rfl⟩)
theorem w17 (hk:K3 k) (h0:Nm b0) (hl:lo<=3) (ho:∀ z,o=some z->z<=3):Bad (.str "greatest") (.tuple [.str "all", .tuple [.tuple [.str k],R1 b0 n,R2 lo o b0 nl,CL bs]]) :=
 iX (ms:=[R1 b0 n,R2 lo o b0 nl]) rfl rfl rfl rfl rfl (.cons (rr1 h0) (.cons (rr2 h0 hl ho) .nil)) (.inr ⟨d8 hk.ok,rM (rs:=[⟨b0,0,none,n⟩,⟨b0,lo,o,nl⟩]) (by simp) fun z=>by
  have z2:([b0,b0]:List Str).Nodup:=z.2
  simp at z2⟩)
end
theorem Fx:∀ w∈([.tuple [.str "any"],.tuple [.str "thing"],.tuple [.str "said"]]:List PyData),∃ z:Str,w=.tuple [.str z]/\K3 z:=by
 intro w h;simp only [Hs,HV,Iv] at h;rcases h with rfl | rfl | rfl
 ·exact ⟨_,rfl,.inl rfl⟩
 ·exact ⟨_,rfl,.inr (.inl rfl)⟩
 ·exact ⟨_,rfl,.inr (.inr rfl)⟩
theorem nz {cs:List Int} {B:Nat} {pn:PyData} {ns:List Str} {n0 nl b0 b1 b2 b3:Str} {Q:PR->List PyData->Prop} (hP:bP cs B pn) (hb:B < 2 ^ 58) (hn0:atI (ns.map PyData.str) 0=some (.str n0)) (hnl:atI (ns.map PyData.str) (-1)=some (.str nl))
  (q:∀ k lo o pn',K3 k->lo<=3->(∀ z,o=some z->z<=3)->bP cs (B+3) pn'->Q (.frs (.list [.tuple [.str k],R1 b0 n0,R2 lo o b2 nl,CL [b0,b1,b2,b3]])) [pn']):WF fN [pn,.list (ns.map .str),.list [.str b0,.str b1,.str b2,.str b3]] Q:=by
 refine fA rfl ?_;unfold fE;walk_at "d";intro lo pn1 hP1 l0 l1;walk_at "n";walk_at "pp";refine iQ (i:=0) rfl hn0 ?_;walk_at "d";intro v2 pn2 hP2 v20 v21;walk_at "n";walk_at "pp";have ho:∃ o:Option Int,atI ([.none,.int 3]:List PyData) v2=some (qy o)/\∀ z,o=some z->z<=3:=by
  have:v2=0\/v2=1:=by omega
  rcases this with rfl | rfl
  ·exact ⟨none,rfl,fun _ e=>by cases e⟩
  ·exact ⟨some 3,rfl,fun _ e=>by cases e;decide⟩
 obtain ⟨o,eo,ho⟩:=ho;refine iQ rfl eo ?_;clear eo;walk_at "pp";refine iQ (i:=-1) rfl hnl ?_;walk_at "pp";walk_at "n";walk_at "d";intro v3 pn3 hP3 v30 v31;walk_at "n";walk_at "pp";obtain ⟨d3,hd3,ed3⟩:=atV (xs:=([.tuple [.str "any"],.tuple [.str "thing"],.tuple [.str "said"]]:List PyData)) v30 v31;obtain ⟨k,rfl,hk⟩:=Fx d3 hd3;refine iQ rfl ed3 ?_;clear ed3 hd3;walk_at "pp";exact q k lo o pn3 hk (by omega) ho hP3
theorem jK {cs:List Int} {B:Nat} {pn:PyData} {k b0 b2 n nl:Str} {lo w:Int} {o:Option Int} {bs:List Str} {Q:PR->List PyData->Prop} (hP:bP cs B pn) (hb:B < 2 ^ 58) (hk:K3 k) (h0:Nm b0) (h2:Nm b2) (hl:lo<=3) (ho:∀ z,o=some z->z<=3) (w0:0<=w) (w9:w < 9)
  (q:∀ X pn',bP cs (B+2) pn'->Bad (.str "greatest") (.tuple [.str "all", .tuple [.tuple [.str k],R1 b0 n,X,CL bs]])->Q (.frs (.list [.tuple [.str k],R1 b0 n,X,CL bs])) [pn']):WF cV [pn,.list [.tuple [.str k],R1 b0 n,R2 lo o b2 nl,CL bs],.int w] Q:=by
 refine fA rfl ?_;unfold cU;walk_at "d";intro g pn1 hP1 g0 g1;walk_at "n";walk_at "d";intro v pn2 hP2 v0 v1;walk_at "n";walk_at "pp";have hg:∃ z:Int,atI ([.int 0,.int 0,.int 1,.int g]:List PyData) v=some (.int z)/\0<=z:=by
  have:v=0\/v=1\/v=2\/v=3:=by omega
  rcases this with rfl | rfl | rfl | rfl
  ·exact ⟨0,rfl,by decide⟩
  ·exact ⟨0,rfl,by decide⟩
  ·exact ⟨1,rfl,by decide⟩
  ·exact ⟨g,rfl,g0⟩
 obtain ⟨z,ez,hz⟩:=hg;refine iQ rfl ez ?_;clear ez;walk_at "pp";refine qa rfl (by have:=h2.2;rw [show (Str.ofString "^").length=1 from rfl];show _<=2 ^ 24;omega) ?_;walk_at "pp"
 have key:∃ X,atI ([.tuple [.str "many", .int lo,.none,.str b2,.tuple [.str "keeps", .str nl]],.tuple [.str "each", .int lo,qy o,.str (Str.ofString "^" ++ b2),.tuple [.str "keeps", .str nl]],.tuple [.str "each", .int lo,qy o,.str b2,.tuple [.str "any"]],
   .tuple [.str "each", .int lo,qy o,.str b2,.tuple [.str "all", .tuple [.tuple [.str "keeps", .str nl]]]],.tuple [.str "each", .int (4+z),.none,.str b2,.tuple [.str "keeps", .str nl]],.tuple [.str "each", .int lo,.int (4+z),.str b2,.tuple [.str "keeps", .str nl]],
   .tuple [.str "each", .int lo,qy o,.str b0,.tuple [.str "keeps", .str nl]],.tuple [.str "keeps", .str nl],.tuple [.str "any"]]:List PyData) w=some X/\Bad (.str "greatest") (.tuple [.str "all", .tuple [.tuple [.str k],R1 b0 n,X,CL bs]]):=by
  have:w=0\/w=1\/w=2\/w=3\/w=4\/w=5\/w=6\/w=7\/w=8:=by omega
  rcases this with rfl | rfl | rfl | rfl | rfl | rfl | rfl | rfl | rfl
  ·exact ⟨_,rfl,w11 hk h0 yZ⟩
  ·exact ⟨_,rfl,w11 hk h0 Ah⟩
  ·exact ⟨_,rfl,w11 hk h0 (rm h2.1 (.inl rfl))⟩
  ·exact ⟨_,rfl,w11 hk h0 (rm h2.1 (.inr rfl))⟩
  ·exact ⟨_,rfl,w11 hk h0 (B7 h2.1 (by omega))⟩
  ·exact ⟨_,rfl,w11 hk h0 (zd h2.1 hl (by omega))⟩
  ·exact ⟨_,rfl,w17 hk h0 hl ho⟩
  ·exact ⟨_,rfl,w11 hk h0 EJ⟩
  ·exact ⟨_,rfl,w11 hk h0 wY⟩
 obtain ⟨X,eX,hX⟩:=key;refine iQ rfl eX ?_;clear eX;walk_at "pp";exact q X pn2 hP2 hX
theorem eS {i j:Int} (h:PyData.eqv (.int i) (.int j)=false):i≠j:=fun e=>by subst e;simp [PyData.eqv] at h
theorem jg {cs:List Int} {B:Nat} {pn:PyData} {ns:List Str} {n0 nl b0 b1 b2 b3:Str} {Q:PR->List PyData->Prop} (hP:bP cs B pn) (hb:B < 2 ^ 57) (hn0:atI (ns.map PyData.str) 0=some (.str n0)) (hnl:atI (ns.map PyData.str) (-1)=some (.str nl))
  (h0:Nm b0) (h1:Nm b1) (h2:Nm b2) (h3:Nm b3) (hs:leT b0 b2=true) (hd:b0≠b2)
  (q:∀ w f pn',bP cs (B+20) pn'->Bad w f->Q (.dat (.tuple [w,f])) [pn']):WF eU [pn,.list (ns.map .str),.list [.str b0,.str b1,.str b2,.str b3]] Q:=by
 refine fA rfl ?_;unfold iS;walk_at "pp";refine aM (is:=[0]) rfl rfl (nz hP (by omega) hn0 hnl fun k lo o pn1 hk hl ho hP1=>⟨rfl,?_⟩);walk_at "n";walk_at "d";intro w pn2 hP2 w0 w1;walk_at "n";walk_at "pp";refine ix (fun e=>?_) (fun e0=>?_)
 ·walk_at "pp";exact q _ _ pn2 (hP2.mono (by omega)) vf
 have e0:=eS e0;walk_at "pp";refine ix (fun e=>?_) (fun e1=>?_)
 ·walk_at "pp";exact q _ _ pn2 (hP2.mono (by omega)) (pY (by rcases hk with h | h | h <;> simp [h]))
 have e1:=eS e1;walk_at "pp";refine ix (fun e=>?_) (fun e2=>?_)
 ·walk_at "pp";exact q _ _ pn2 (hP2.mono (by omega)) (pY (.inr (.inr (.inr rfl))))
 have e2:=eS e2;walk_at "pp";refine ix (fun e=>?_) (fun e3=>?_)
 ·walk_at "pp";exact q _ _ pn2 (hP2.mono (by omega)) yK
 have e3:=eS e3;walk_at "pp";refine ix (fun e=>?_) (fun e4=>?_)
 ·walk_at "pp";exact q _ _ pn2 (hP2.mono (by omega)) (w4 h0)
 have e4:=eS e4;walk_at "pp";refine ix (fun e=>?_) (fun e5=>?_)
 ·walk_at "pp";exact q _ _ pn2 (hP2.mono (by omega)) (w5 h2 hl ho)
 have e5:=eS e5;walk_at "pp";refine ix (fun e=>?_) (fun e6=>?_)
 ·walk_at "pp";exact q _ _ pn2 (hP2.mono (by omega)) (w6 h0 h2 hl ho)
 have e6:=eS e6;walk_at "pp";refine ix (fun e=>?_) (fun e7=>?_)
 ·walk_at "pp";exact q _ _ pn2 (hP2.mono (by omega)) (w7 hk h0 h2 hl ho hs hd)
 have e7:=eS e7;walk_at "pp";refine ix (fun e=>?_) (fun e8=>?_)
 ·walk_at "pp";refine lG rfl (dJ (fun i ys ec=>ys=(([b0,b1,b2,b3]:List Str).take i).map (fun b=>R1 b n0)/\ec=[.dat (.list (ns.map .str))]) ⟨rfl,rfl⟩ ?_ ?_)
  ·rintro i d ys ec hd' ⟨rfl,rfl⟩;have hd':(([b0,b1,b2,b3]:List Str).map PyData.str)[i]?=some d:=hd';rw [Hl] at hd';obtain ⟨x,hx,rfl⟩:=Hv.mp hd';refine g6 ?_;walk_at "pp";refine iQ (i:=0) rfl hn0 ?_;walk_at "pp";exact ⟨by rw [<- ID hx,HL];rfl,rfl⟩
  ·rintro ys ec ⟨rfl,rfl⟩;walk_at "n";walk_at "d";intro v pn3 hP3 v0 v1;walk_at "n";have:v=0\/v=1:=by omega
   rcases this with rfl | rfl
   ·walk_at "pp";exact q _ _ pn3 (hP3.mono (by omega)) (w8 hk h0 h1 h2 h3)
   ·walk_at "pp";exact q _ _ pn3 (hP3.mono (by omega)) (w8c hk h0 h1 h2 h3)
 have e8:=eS e8;walk_at "pp";refine ix (fun e=>?_) (fun e9=>?_)
 ·walk_at "pp";exact q _ _ pn2 (hP2.mono (by omega)) (w9 hk h0)
 have e9:=eS e9;walk_at "pp";refine ix (fun e=>?_) (fun e10=>?_)
 ·walk_at "d";intro v pn3 hP3 v0 v1;walk_at "n";have:v=0\/v=1:=by omega
  rcases this with rfl | rfl
  ·walk_at "pp";exact q _ _ pn3 (hP3.mono (by omega)) (w10 hk h0 h2 hl ho)
  ·walk_at "pp";exact q _ _ pn3 (hP3.mono (by omega)) (G3 hk h0 h2 hl ho)
 have e10:=eS e10;walk_at "pp";refine aM (is:=[0]) rfl rfl (jK (w:=w - 11) hP2 (by omega) hk h0 h2 hl ho (by omega) (by omega) fun X pn3 hP3 hX=>⟨rfl,?_⟩);walk_at "n";walk_at "pp";exact q _ _ pn3 (hP3.mono (by omega)) hX
theorem ER {e:En} {x:AV} {d:PyData} {Q:RV->En->Prop} (h1:bS e [x]=some [d]) (h2:oI d=true) (q:Q (.dat d) e):WPr zE [x] e Q:=⟨_,.dat d,h1,by show (if oI d=true then some (PR.dat d) else none)=_;rw [Hy h2],q⟩
structure Ref (bk d:PyData):Prop where
 h:∀ {Q:PR->List PyData->Prop},Q (.dat d) []->WF cn [bk] Q
theorem jQ {bk d:PyData} {Q:PR->List PyData->Prop} (h:Ref bk d) (hp:oI d=true) (q:Q (.frs (.list [d])) []):WF fi [bk] Q:=by
 refine fA rfl ?_;unfold gy;walk_at "pp";refine aM (is:=[]) rfl rfl (h.h ⟨rfl,?_⟩);walk_at "pp";show zI [PM.dat] Q (PR.rv (if oI d=true then _ else _)) _;rw [Hy hp];walk_at "pp";exact q
theorem vY {ss:List PyData} {x:PyData} (h:ss.length=0\/5<=ss.length):Ref (.tuple [.tuple ss,x]) .none:=⟨fun {Q} q=>by
 refine fA rfl ?_;unfold cK;walk_at "pp";refine ix (fun c=>?_) (fun c=>?_)
 ·have:=Jc c;walk_at "pp";refine jF (by show (!decide (((ss.length:Nat):Int)<=4))=true;rw [HS (by omega)];rfl) ?_;walk_at "pp";exact q
 ·walk_at "pp"
  exact q⟩
theorem oy {gs:List Rg} {bs:List Str} {x:PyData} {Q:PR->List PyData->Prop} (h0:1<=gs.length) (h3:gs.length<=4) (h:∀ g∈gs,g.ok bs) (h1:bs.Pairwise fun a b=>leT a b=true) (h2:bs.Nodup) (q:Q (.frs (.list (gs.map Rg.enc))) []):WF cn [.tuple [.tuple (gs.map Rg.shp),x]] Q:=by
 refine fA rfl ?_;unfold cK;walk_at "pp";refine jF (Ii (by rw [Hf];omega)) ?_;walk_at "pp";refine eG (by show (!decide ((((gs.map Rg.shp).length:Nat):Int)<=4))=false;rw [Ii (by rw [Hf];omega)];rfl) ?_;walk_at "pp";refine dR (fun i e=>lr [some (.dat (.tuple [.tuple (gs.map Rg.shp),x])),some (.own (.list ((gs.take i).map Rg.enc))),none,none] e) (by walk_at "L") ?_ ?_
 ·rintro i d e hd _;walk_at "l";rw [Hl] at hd;obtain ⟨g,hgi,rfl⟩:=Hv.mp hd;walk_at "f";walk_at "pp";refine aM (is:=[]) rfl rfl (jV (h g (HF hgi)) h1 h2 ⟨rfl,?_⟩);walk_at "n";walk_at "pp";refine lK rfl (by rw [Hf,HW];show _ < 2 ^ 24;omega) rfl ?_;show lr _ _;rw [<- ID hgi,HL];walk_at "L"
 ·rintro e hL;rw [Hf,Iq] at hL;revert hL;intro _;walk_at "l";walk_at "pp";exact q
theorem xt {x:Str} (h:Nm x):oI (.str x)=true:=Ii (HA h.2 (by decide))
theorem yT {gs:List Rg} {bs:List Str} {nm:Str} {w f x:PyData} {ss:List PyData} (h:∀ g∈gs,g.ok bs) (h1:bs.Pairwise fun a b=>leT a b=true) (h2:bs.Nodup) (hn:Nm nm) (hb:Bad w f) (hl:gs.length+ss.length<=3) :
  Ref (.tuple [.tuple (gs.map Rg.shp++.tuple [.str nm,w,f] :: ss),x]) (.str nm):=⟨fun {Q} q=>by
 have len:(gs.map Rg.shp++.tuple [.str nm,w,f] :: ss).length=gs.length+ss.length+1:=by simp;omega
 refine fA rfl ?_;unfold cK;walk_at "pp";refine jF (Ii (by rw [len];omega)) ?_;walk_at "pp";refine eG (by show (!decide ((((gs.map Rg.shp++.tuple [.str nm,w,f] :: ss).length:Nat):Int)<=4))=false;rw [Ii (by rw [len];omega)];rfl) ?_;walk_at "pp";refine dR (fun i e=>i<=gs.length/\lr [some (.dat (.tuple [.tuple (gs.map Rg.shp++.tuple [.str nm,w,f] :: ss),x])),some (.own (.list ((gs.take i).map Rg.enc))),none,none] e) ⟨Iw _,by walk_at "L"⟩ ?_ ?_
 ·rintro i d e hd ⟨hi,_⟩;walk_at "l";by_cases hlt:i < gs.length
  ·rw [HG (by rw [Hf];exact hlt),Hl] at hd;obtain ⟨g,hgi,rfl⟩:=Hv.mp hd;walk_at "f";walk_at "pp";refine aM (is:=[]) rfl rfl (jV (h g (HF hgi)) h1 h2 ⟨rfl,?_⟩);walk_at "n";walk_at "pp";refine lK rfl (by rw [Hf,HW];show _ < 2 ^ 24;omega) rfl ?_;refine ⟨hlt,?_⟩;rw [<- ID hgi,HL];walk_at "L"
  ·have ei:i=gs.length:=by omega
   subst ei;rw [Hr (by rw [Hf];exact Hu _),Hf,Nat.sub_self] at hd;cases hd;walk_at "f";walk_at "pp";refine aM (is:=[]) rfl rfl (hb.h ⟨rfl,?_⟩);walk_at "n";walk_at "pp";refine ER rfl (xt hn) ?_;walk_at "pp";exact q
 ·rintro e ⟨hi,_⟩;rw [len] at hi
  omega⟩
theorem B2 (gs:List Rg):gr (.list (gs.map Rg.shp))=true:=by
 have hp:∀ g:Rg,∀ d∈g.parts,noD d=true/\d.depth<=6:=by
  intro g d hd;unfold Rg.parts at hd;rcases Hs.mp hd with rfl | hd
  ·exact ⟨rfl,by simp [PyData.depth,PyData.depthAll]⟩
  rcases IH.mp hd with hd | hd
  ·obtain ⟨r,_,rfl⟩:=HM.mp hd;unfold Rw.part;cases r.hi <;> exact ⟨rfl,by simp [qy,PyData.depth,PyData.depthAll]⟩
  ·cases hc:g.cl with
   | none=>rw [hc] at hd;cases hd
   | some c =>
    rw [hc] at hd;rw [Hm.mp hd];refine ⟨?_,HA (bz (k:=2) fun d hd=>?_) (by omega)⟩
    ·simp only [noD,fg,Bool.and_true,Bool.true_and];exact cS.mpr fun d hd=>by
      obtain ⟨x,_,rfl⟩:=HM.mp hd;rfl
    ·simp only [Hs,HV,Iv] at hd;rcases hd with rfl | rfl
     ·simp [PyData.depth]
     ·refine HA (bz (k:=0) fun d hd=>?_) (by omega);obtain ⟨x,_,rfl⟩:=HM.mp hd;simp [PyData.depth]
 refine oU ?_ ?_
 ·simp only [noD];refine cS.mpr fun d hd=>?_;obtain ⟨g,_,rfl⟩:=HM.mp hd;unfold Rg.shp;simp only [noD,fg,Bool.and_true,Bool.true_and];exact cS.mpr fun d hd=>(hp g d hd).1
 ·refine HA (gz (k:=12) fun d hd=>?_) (by omega);obtain ⟨g,_,rfl⟩:=HM.mp hd;refine HA (bz (k:=10) fun d hd=>?_) (by omega);simp only [Hs,HV,Iv] at hd;rcases hd with rfl | rfl | rfl
  ·simp [PyData.depth]
  ·simp [PyData.depth]
  ·refine HA (bz (k:=8) fun d hd=>?_) (by omega);simp only [Hs,HV,Iv] at hd;rcases hd with rfl | rfl
   ·simp [PyData.depth]
   ·exact HA (bz (k:=6) fun d hd=>(hp g d hd).2) (by omega)
theorem ends {ns:List Str} (h:0 < ns.length):(∃ n0,atI (ns.map PyData.str) 0=some (.str n0))/\∃ nl,atI (ns.map PyData.str) (-1)=some (.str nl):=by
 rcases List.eq_nil_or_concat ns with e | ⟨ys,y,e⟩
 ·subst e;cases h
 ·refine ⟨?_,y,?_⟩
  ·cases ns with
   | nil=>cases h
   | cons a l=>exact ⟨a,at0⟩
  ·rw [e,List.concat_eq_append,HL];exact iK
theorem yp {cs:List Int} {B:Nat} {pn:PyData} {b0 b1 b2 b3:Str} {Q:PR->List PyData->Prop} (hP:bP cs B pn) (hb:B < 2 ^ 56) (h0:Nm b0) (h1:Nm b1) (h2:Nm b2) (h3:Nm b3) (hs:leT b0 b2=true) (hd:b0≠b2)
  (q:∀ ss ds pn',bP cs (B+2000) pn'->(ss.length=0\/5<=ss.length)->Q (.dat (.tuple [.tuple ss,.tuple ds])) [pn']):WF oH [pn,.list [.str b0,.str b1,.str b2,.str b3]] Q:=by
 have hB:∀ x∈[b0,b1,b2,b3],Nm x:=fun x h=>by
  simp only [Hs,HV,Iv] at h;rcases h with rfl | rfl | rfl | rfl <;> assumption
 refine fA rfl ?_;unfold nJ;walk_at "d";intro v pn1 hP1 v0 v1;walk_at "n";walk_at "pp";have hv:∃ m:Int,atI ([.int 0,.int 5,.int 6,.int 7]:List PyData) v=some (.int m)/\(m=0\/5<=m)/\0<=m/\m<=8:=by
  have:v=0\/v=1\/v=2\/v=3:=by omega
  rcases this with rfl | rfl | rfl | rfl
  ·exact ⟨0,rfl,by omega,by omega,by omega⟩
  ·exact ⟨5,rfl,by omega,by omega,by omega⟩
  ·exact ⟨6,rfl,by omega,by omega,by omega⟩
  ·exact ⟨7,rfl,by omega,by omega,by omega⟩
 obtain ⟨m,em,hm,m0,m8⟩:=hv;refine iQ rfl em ?_;clear em;walk_at "pp";refine aM (is:=[0]) rfl rfl (kh hP1 (by omega) m0 m8 fun ns pn2 hP2 nl nn hn=>⟨rfl,?_⟩);walk_at "n";walk_at "pp";refine aM (is:=[0]) rfl rfl (qe (bs:=[b0,b1,b2,b3]) hP2 (by omega) (by omega) (by simp) hB fun gs pn3 hP3 gl hg=>⟨rfl,?_⟩);walk_at "n";walk_at "pp";refine aM (is:=[]) rfl rfl (oO (ds:=[]) (by omega) (fun g h=>(hg g h).2.1) ⟨rfl,?_⟩);walk_at "n";walk_at "d";intro v4 pn4 hP4 v40 v41;walk_at "n";walk_at "pp";refine lG rfl (dJ (fun i ys ec=>ec=[]) rfl ?_ ?_)
 ·rintro i d ys ec hd' rfl;refine g6 ?_;walk_at "pp";rfl
 rintro ds ec rfl;walk_at "n";walk_at "pz";with_reducible refine kd fun N eN=>?_
 have rest:∀ (ss:List PyData) (pn5:PyData) (x5:Sl),soft x5->bP cs (B+2000) pn5->(ss.length=0\/5<=ss.length)->N ([.ino pn5,.dat (.list [.str b0,.str b1,.str b2,.str b3]),.dat (.list (ns.map .str)),.own (.list ss),.dat (.list ds),x5]:En):=by
  intro ss pn5 x5 s5 hP5 hl;rw [eN];walk_at "pp";exact q ss ds pn5 hP5 hl
 clear eN;walk_at "ps";refine F8 rfl (B2 gs) rfl ?_;have gl5:gs.length≠0->5<=gs.length:=fun h=>by omega
 have gl8:gs.length<=8:=by omega
 cases gs with
 | nil =>
  walk_at "pp";exact rest [] pn4 _ m5 (hP4.mono (by omega)) (.inl rfl)
 | cons g gs =>
  walk_at "d";intro v6 pn6 hP6 v60 v61;walk_at "n";walk_at "pp";have hl5:5<=((g :: gs).map Rg.shp).length:=by rw [Hf];exact gl5 (by rw [HD];omega)
  have hl8:((g :: gs).map Rg.shp).length=ns.length:=by rw [Hf];exact gl
  have hl9:((g :: gs).map Rg.shp).length<=8:=by rw [Hf];exact gl8
  refine ix (fun c=>?_) (fun c=>?_)
  ·walk_at "pp";refine uQ (hi:=rfl) (hP:=hP6) (m:=((((g :: gs).map Rg.shp).length:Nat):Int)) (by omega) (by omega) (by omega) ?_;intro at7 pn7 hP7 a0 a1;walk_at "n";walk_at "pp";obtain ⟨⟨n0,hn0⟩,nl',hnl⟩:=ends (ns:=ns) (by omega);obtain ⟨dx,hdx,edx⟩:=atV (xs:=ns.map PyData.str) (r:=at7) a0 (by rw [Hf,<-hl8];exact a1);refine iQ rfl edx ?_;walk_at "pp";refine aM (is:=[0]) rfl rfl (jg hP7 (by omega) hn0 hnl h0 h1 h2 h3 hs hd fun w f pn8 hP8 hW=>⟨rfl,?_⟩);walk_at "n";walk_at "pp";refine wM rfl rfl a0 a1 ?_;exact rest _ pn8 _ (by walk_at "soft") (hP8.mono (by omega)) (.inr (by rw [HI];exact hl5))
  ·walk_at "pp";exact rest _ pn6 _ m5 (hP6.mono (by omega)) (.inr hl5)
theorem DL (gs:List Rg):gr (.list (gs.map Rg.enc))=true:=by
 refine oU ?_ ?_
 ·simp only [noD];refine cS.mpr fun d hd=>?_;obtain ⟨g,_,rfl⟩:=HM.mp hd;unfold Rg.enc;simp only [noD,fg,i7,Bool.and_true,Bool.true_and];cases g.cl with
  | none=>rfl
  | some c =>
   show noD (.tuple (c.map PyData.str))=true;simp only [noD];exact cS.mpr fun d hd=>by
    obtain ⟨x,_,rfl⟩:=HM.mp hd;rfl
 ·refine HA (gz (k:=10) fun d hd=>?_) (by omega);obtain ⟨g,_,rfl⟩:=HM.mp hd;refine HA (bz (k:=9) fun d hd=>?_) (by omega);simp only [Hs,HV,Iv] at hd;rcases hd with rfl | rfl | rfl | rfl
  ·simp [PyData.depth]
  ·simp [PyData.depth]
  ·refine HA (bz (k:=8) fun d hd=>?_) (by omega);obtain ⟨r,_,rfl⟩:=HM.mp hd;refine HA (bz (k:=7) fun d hd=>?_) (by omega);simp only [Hs,HV,Iv] at hd;rcases hd with rfl | rfl | rfl | rfl
   ·simp [PyData.depth]
   ·simp [PyData.depth]
   ·cases r.hi <;> simp [qy,PyData.depth]
   ·simp [PyData.depth]
  ·cases g.cl with
   | none=>simp [BI,PyData.depth]
   | some c =>
    refine HA (bz (k:=0) fun d hd=>?_) (by omega);obtain ⟨x,_,rfl⟩:=HM.mp hd;simp [PyData.depth]
theorem BC {e:En} {x y:AV} {d:PyData} {Q:RV->En->Prop} (h1:bS e [x,y]=some [d,d]) (h2:gr d=true) (h3:oI d=false) (q:Q (.dat (.bool false)) e):WPr C2 [x,y] e Q:=by
 obtain ⟨ds,pr,g1,g2,g3⟩:=x6 (Q:=Q) h1 h2 q;rw [h1] at g1;cases g1;refine ⟨_,pr,h1,?_,g3⟩;show (if oI d=true then none else neP.f [d,d])=_;rw [HC (by rw [h3];exact Il)];exact g2
theorem yX {i:Nat} {v:PyData} {rk:RV} {e2:En} {N:En->Prop} {xs:List PyData} (h1:rk.view e2=some (.int (-1))) (h2:bx e2 i=some (.list xs)) (h3:0 < xs.length) (q:N (gU e2 i (.list (xs.set (xs.length - 1) v)))):zN uC i v rk e2 N:=by
 refine ⟨_,_,.list (xs.set (xs.length - 1) v),h1,h2,?_,q⟩;show (ixN xs.length (-1)).map _=_;have:ixN xs.length (-1)=some (xs.length - 1):=by
  unfold ixN;simp;omega
 rw [this];rfl
theorem A1 {zs ys:List PyData} {i:Nat} {x:PyData} (h:ys.take i=zs.take i) (hi:i < ys.length):ys.set i x=zs.take i++x :: ys.drop (i+1):=by
 rw [List.set_eq_take_append_cons_drop,Hy hi,h]
theorem kE {zs:List PyData} {i:Nat} {x:PyData} (hi:i < zs.length):(zs.set (zs.length - 1) x).take i=zs.take i:=by
 rw [List.take_set,List.set_eq_of_length_le (by rw [HW];omega)]
theorem vL {ns:List Int} (hl:ns.length<=63):WF v8 [.list (ns.map .int)] fun pr outs=>pr=.dat (.bool true)/\outs=[]:=by
 refine fA rfl ?_;unfold rL;walk_at "pp";refine aM (is:=[]) rfl rfl (Ao ⟨rfl,?_⟩);walk_at "n";have hP0:bP ns 0 (zG ns 0 0):=⟨0,0,rfl,by decide,by decide,by decide⟩;walk_at "pp";refine aM (is:=[1]) rfl rfl (kh hP0 (by decide) (by decide) (by decide) fun xs pn1 hP1 xl xn hx=>⟨rfl,?_⟩);walk_at "n";walk_at "pp";refine Cb (ss:=xs) rfl (by omega) ?_;have pm:=bU xs;have b1:=jj xs;have b2:(ig xs).Nodup:=pm.nodup_iff.mpr xn;have b3:(ig xs).length=4:=by rw [pm.length_eq];omega
 have b4:∀ x∈ig xs,Nm x:=fun x h=>hx x (pm.mem_iff.mp h);generalize ig xs=bs at b1 b2 b3 b4;clear pm hx xn xl
 match bs,b3 with
 | [c0,c1,c2,c3],_ =>
 have h0:=b4 c0 (by simp);have h1:=b4 c1 (by simp);have h2:=b4 c2 (by simp);have h3:=b4 c3 (by simp);have hs:leT c0 c2=true:=by
  simp only [IG] at b1;exact b1.1 c2 (by simp)
 have hd:c0≠c2:=by
  simp only [Ia] at b2;exact fun e=>b2.1 (by simp [e])
 walk_at "pp";refine ⟨⟨by decide,by decide⟩,?_⟩;refine dR (fun i e=>∃ pn':PyData,bP ns (100+10000*i) pn'/\lr [some (.dat (.list (ns.map .int))),some (.own pn'),some (.dat (.list [.str c0,.str c1,.str c2,.str c3])),none,none,none,none,none] e) ⟨pn1,hP1.mono (by omega),by walk_at "L"⟩ ?_ ?_
 ·rintro i d e hdd ⟨pn',hP',_⟩;walk_at "l";obtain ⟨rfl,hi⟩:=nQ hdd;clear hdd;refine ql (lb rfl (by assumption)) ?_;walk_at "n";walk_at "pp";refine aM (is:=[1]) rfl rfl (yp hP' (by omega) h0 h1 h2 h3 hs hd fun ss ds pn2 hP2 hss=>⟨rfl,?_⟩);walk_at "n";walk_at "pp";refine aM (is:=[]) rfl rfl (jQ (vY hss) rfl ⟨rfl,?_⟩);walk_at "n";walk_at "ps";refine x6 rfl rfl ?_;walk_at "d";intro v3 pn3 hP3 v30 v31;walk_at "n";walk_at "pp";refine aM (is:=[1]) rfl rfl (kh hP3 (by omega) (by omega) (by omega) fun ys pn4 hP4 yl yn hy=>⟨rfl,?_⟩);walk_at "n";walk_at "pp";refine aM (is:=[1]) rfl rfl (qe (bs:=[c0,c1,c2,c3]) hP4 (by omega) (by omega) (by simp) b4 fun gs pn5 hP5 gl hg=>⟨rfl,?_⟩);walk_at "n";walk_at "pp";refine aM (is:=[]) rfl rfl (oO (ds:=[]) (by omega) (fun g h=>(hg g h).2.1) ⟨rfl,?_⟩);walk_at "n";walk_at "pp";refine uQ (hi:=rfl) (hP:=hP5) (m:=(((ys.map PyData.str).length:Nat):Int)) (by omega) (by rw [Hf];omega) (by rw [Hf];omega) ?_;intro at6 pn6 hP6 a0 a1;walk_at "n";walk_at "pz";rw [Hf] at a1;obtain ⟨⟨n0,hn0⟩,nl,hnl⟩:=ends (ns:=ys) (by omega);obtain ⟨nm,hnm,enm⟩:∃ nm,nm∈ys/\atI (ys.map PyData.str) at6=some (.str nm):=by
   obtain ⟨dx,hdx,edx⟩:=atV (xs:=ys.map PyData.str) (r:=at6) a0 (by rw [Hf];exact a1);obtain ⟨x,hx,rfl⟩:=HM.mp hdx;exact ⟨x,hx,edx⟩
  have hzl:(gs.map Rg.shp).length=ys.length:=by rw [Hf];exact gl
  with_reducible refine kd fun N eN=>?_
  have rest:∀ (sh:List PyData) (pn7:PyData),bP ns (100+10000*i+8000) pn7->sh.length=ys.length->sh.take at6.toNat=(gs.map Rg.shp).take at6.toNat->N ([.dat (.list (ns.map .int)),.own pn7,.dat (.list [.str c0,.str c1,.str c2,.str c3]),.dat (.int i),.dat (.list (ys.map .str)),.dat (.list (gs.map Rg.enc)),.own (.list sh),.dat (.int at6)]:En):=by
   intro sh pn7 hP7 shl sht;rw [eN];clear eN;walk_at "pp";refine iQ rfl enm ?_;walk_at "pp";refine aM (is:=[1]) rfl rfl (jg hP7 (by omega) hn0 hnl h0 h1 h2 h3 hs hd fun w f pn8 hP8 hW=>⟨rfl,?_⟩);walk_at "n";walk_at "pp";refine wM rfl rfl a0 (by rw [shl];exact a1) ?_;rw [A1 sht (by rw [shl];omega),<-List.map_take];walk_at "n";walk_at "pp";refine iQ (i:=0) rfl hn0 ?_;walk_at "pp";refine aM (is:=[]) rfl rfl (jQ (yT (gs:=gs.take at6.toNat) (bs:=[c0,c1,c2,c3]) (fun g h=>hg g (Jh h)) b1 b2 (hy nm hnm) hW (by rw [HW,Ik];omega)) (xt (hy nm hnm)) ⟨rfl,?_⟩);walk_at "n";walk_at "pp";refine iQ rfl enm ?_;walk_at "ps";refine x6 rfl rfl ?_;walk_at "pp";refine iQ (i:=0) rfl hn0 ?_;walk_at "pp";refine aM (is:=[]) rfl rfl (oO (ds:=[.tuple [.str "node", .int 7,.str n0]]) (by omega) (fun g h=>(hg g h).2.1) ⟨rfl,?_⟩);walk_at "n";walk_at "pp";refine aM (is:=[]) rfl rfl (oy (by omega) (by omega) hg b1 b2 ⟨rfl,?_⟩);walk_at "n";walk_at "pp";refine BC rfl (DL gs) rfl ?_;walk_at "pp";exact ⟨pn8,hP8.mono (by omega),by walk_at "L"⟩
  clear eN;walk_at "d";intro v7 pn7 hP7 v70 v71;walk_at "n";walk_at "pp";refine ix (fun c=>?_) (fun c=>?_)
  ·walk_at "pp";refine iQ (i:=-1) rfl hnl ?_;walk_at "pp";refine aM (is:=[1]) rfl rfl (jg hP7 (by omega) hn0 hnl h0 h1 h2 h3 hs hd fun w f pn8 hP8 hW=>⟨rfl,?_⟩);walk_at "n";walk_at "pp";refine yX rfl rfl (by omega) ?_;exact rest _ pn8 (hP8.mono (by omega)) (by rw [HI];exact hzl) (kE (by omega))
  ·walk_at "pp";exact rest _ pn7 (hP7.mono (by omega)) hzl rfl
 ·rintro e ⟨pn',hP',_⟩;walk_at "l";walk_at "pp";exact ⟨rfl,rfl⟩
end K72
end
namespace PySem.W.Fast
noncomputable def tw2012258252585616058:=()
noncomputable def tw17291794989847220275:=()
noncomputable def tw3305794560028515098:=()
noncomputable def tw11997783779485088152:=()
noncomputable def tw856417974903353803:=()
noncomputable def tw4203636905007497338:=()
noncomputable def tw12292095351323672802:=()
noncomputable def tw16502290197215373077:=()
noncomputable def tw2815257481547647190:=()
noncomputable def tw13657842338938968941:=()
noncomputable def tw10796531843075815441:=()
noncomputable def tw12316767872875531101:=()
noncomputable def tw9016119663320642471:=()
noncomputable def tw15823255991027612672:=()
noncomputable def tw6130071382665368766:=()
noncomputable def tw12124457537461331723:=()
noncomputable def tw14917320959852259278:=()
noncomputable def tw15362665310821506016:=()
noncomputable def tw15497174550828095587:=()
noncomputable def tw4887104473591658836:=()
noncomputable def tw14785777499724309223:=()
noncomputable def tw415235648065167683:=()
noncomputable def tw1491127873144195397:=()
noncomputable def tw3271007641422711745:=()
noncomputable def tw15197784126397639627:=()
noncomputable def tw2219573742107871993:=()
noncomputable def tw9023344677002048586:=()
noncomputable def tw17450437677985253678:=()
noncomputable def tw17011928872517987729:=()
noncomputable def tw15822108464615521641:=()
noncomputable def tw15967000209639264071:=()
noncomputable def tw17060321715609579842:=()
noncomputable def tw17737354122746138294:=()
noncomputable def tw16373390004950968407:=()
noncomputable def tw17801374004419122182:=()
noncomputable def tw5119524867602840434:=()
noncomputable def tw16939566517802692987:=()
noncomputable def tw3915947286103304990:=()
noncomputable def tw2441834375351595151:=()
noncomputable def tw13781098702506979581:=()
noncomputable def tw1624821417594877086:=()
noncomputable def tw6254346650354883295:=()
end PySem.W.Fast
open PySem PySem.W PyProof.Rows
set_option maxRecDepth 100000 in
set_option maxHeartbeats 0 in
theorem PySem.Challenge.cw_webshapes_k72_not_simple_holds : PySem.Challenge.rw_webshapes_k72_not_simple.Holds := by
  w_on; (refine holds_law L2.ws fun said => ?_); k_head; (case hw => w_witness2)
  k_fill
  refine L2.vc (l := PySem.Challenge.rw_webshapes_k72_not_simple) (n := 63) (k := 7) (x := "_law_script") (CX := L2.CX0) (sp := K72.tV) rfl (by decide) rfl ⟨rfl, by decide, by decide, rfl⟩ (fun w h Y => PySem.W.kIn_of Y) ?F ?S ?C
  case F =>
    intro w mg fa h KX G hmg;have TT : ∃ t : K72.Adr, (∀ (s : Shared) (u : Value), BindsTo s t.nt ⟨[u], []⟩ [("_law_script", u)]) ∧ K72.Txt (L2.KOf KX) mg t := by
      dsimp only [L2.KOf];refine' K72.CD KX G ?a0 ?l0 ?c0 ?k0 ?a1 ?l1 ?c1 ?k1 ?a2 ?l2 ?c2 ?k2 ?a3 ?l3 ?c3 ?k3 ?a4 ?l4 ?c4 ?k4 ?a5 ?l5 ?c5 ?k5 ?a6 ?l6 ?c6 ?k6 ?a7 ?l7 ?c7 ?k7 ?a8 ?l8 ?c8 ?k8 ?a9 ?l9 ?c9 ?k9 ?a10 ?l10 ?c10 ?k10 ?a11 ?l11 ?c11 ?k11 ?a12 ?l12 ?c12 ?k12 ?a13 ?l13 ?c13 ?k13 ?a14 ?l14 ?c14 ?k14 ?a15 ?l15 ?c15 ?k15 ?z_ValueError ?z_abs ?z_isinstance ?z_len ?z_list ?z_min ?z_range ?z_set ?z_sorted ?z_tuple ?g_MOST_COUNTED ?g_MOST_ROWS ?g_MOST_SHAPES ?g_KIND_WORDS ?s_KIND_WORDS ?m_NotSimple ?xl_NotSimple ?xm_NotSimple ?xh_NotSimple ?xt_NotSimple ?xn_NotSimple ?xj_NotSimple ?cl_NotSimple ?ga_NotSimple ?gg_NotSimple ?m_ShapeError ?xl_ShapeError ?xm_ShapeError ?xh_ShapeError ?xt_ShapeError ?xn_ShapeError ?xj_ShapeError ?cl_ShapeError ?ga_ShapeError ?gg_ShapeError ?sa_NotSimple ?po_NotSimple ?tk_NotSimple ?hd_NotSimple ?sp_NotSimple ?rd_NotSimple ?na_NotSimple ?fc_NotSimple ?kp_NotSimple ?lI_NotSimple ?cI_NotSimple ?kI_NotSimple ?mr_NotSimple_ShapeError ?mv_NotSimple ?n2_Against ?l2_Against ?n2_Clash ?l2_Clash ?n2_Mixed ?l2_Mixed ?n2_NoBook ?l2_NoBook ?n2_NoForm ?l2_NoForm ?n2_NoMay ?l2_NoMay ?n2_NoText ?l2_NoText ?n2_Unknown ?l2_Unknown ?k2_NotSimple_Against ?k2_NotSimple_Clash ?k2_NotSimple_Mixed ?k2_NotSimple_NoBook ?k2_NotSimple_NoForm ?k2_NotSimple_NoMay ?k2_NotSimple_NoText ?k2_NotSimple_Unknown
      (case a0 => k_is)
      (case l0 => k_is)
      (case c0 => k_is)
      (case k0 => k_is)
      (case a1 => k_is)
      (case l1 => k_is)
      (case c1 => k_is)
      (case k1 => k_is)
      (case a2 => k_is)
      (case l2 => k_is)
      (case c2 => k_is)
      (case k2 => k_is)
      (case a3 => k_is)
      (case l3 => k_is)
      (case c3 => k_is)
      (case k3 => k_is)
      (case a4 => k_is)
      (case l4 => k_is)
      (case c4 => k_is)
      (case k4 => k_is)
      (case a5 => k_is)
      (case l5 => k_is)
      (case c5 => k_is)
      (case k5 => k_is)
      (case a6 => k_is)
      (case l6 => k_is)
      (case c6 => k_is)
      (case k6 => k_is)
      (case a7 => k_is)
      (case l7 => k_is)
      (case c7 => k_is)
      (case k7 => k_is)
      (case a8 => k_is)
      (case l8 => k_is)
      (case c8 => k_is)
      (case k8 => k_is)
      (case a9 => k_is)
      (case l9 => k_is)
      (case c9 => k_is)
      (case k9 => k_is)
      (case a10 => k_is)
      (case l10 => k_is)
      (case c10 => k_is)
      (case k10 => k_is)
      (case a11 => k_is)
      (case l11 => k_is)
      (case c11 => k_is)
      (case k11 => k_is)
      (case a12 => k_is)
      (case l12 => k_is)
      (case c12 => k_is)
      (case k12 => k_is)
      (case a13 => k_is)
      (case l13 => k_is)
      (case c13 => k_is)
      (case k13 => k_is)
      (case a14 => k_is)
      (case l14 => k_is)
      (case c14 => k_is)
      (case k14 => k_is)
      (case a15 => k_is)
      (case l15 => k_is)
      (case c15 => k_is)
      (case k15 => k_is)
      (case z_ValueError => k_is)
      (case z_abs => k_is)
      (case z_isinstance => k_is)
      (case z_len => k_is)
      (case z_list => k_is)
      (case z_min => k_is)
      (case z_range => k_is)
      (case z_set => k_is)
      (case z_sorted => k_is)
      (case z_tuple => k_is)
      (case g_MOST_COUNTED => k_is)
      (case g_MOST_ROWS => k_is)
      (case g_MOST_SHAPES => k_is)
      (case g_KIND_WORDS => k_is)
      (case s_KIND_WORDS => k_is)
      (case m_NotSimple => k_is)
      (case xl_NotSimple => k_is)
      (case xm_NotSimple => exact rfl)
      (case xh_NotSimple => exact rfl)
      (case xt_NotSimple => kernel_rfl)
      (case xn_NotSimple => kernel_rfl)
      (case xj_NotSimple => k_is)
      (case cl_NotSimple => k_is)
      (case ga_NotSimple => k_is)
      (case gg_NotSimple => k_is)
      (case m_ShapeError => k_is)
      (case xl_ShapeError => k_is)
      (case xm_ShapeError => exact rfl)
      (case xh_ShapeError => exact rfl)
      (case xt_ShapeError => kernel_rfl)
      (case xn_ShapeError => kernel_rfl)
      (case xj_ShapeError => k_is)
      (case cl_ShapeError => k_is)
      (case ga_ShapeError => k_is)
      (case gg_ShapeError => k_is)
      (case sa_NotSimple => k_is)
      (case po_NotSimple => kernel_rfl)
      (case tk_NotSimple => k_is)
      (case hd_NotSimple => k_is)
      (case sp_NotSimple => k_is)
      (case rd_NotSimple => k_is)
      (case na_NotSimple => k_is)
      (case fc_NotSimple => k_is)
      (case kp_NotSimple => k_is)
      (case lI_NotSimple => k_is)
      (case cI_NotSimple => k_is)
      (case kI_NotSimple => k_is)
      (case mr_NotSimple_ShapeError => k_is)
      (case mv_NotSimple => k_is)
      (case n2_Against => k_is)
      (case l2_Against => k_is)
      (case n2_Clash => k_is)
      (case l2_Clash => k_is)
      (case n2_Mixed => k_is)
      (case l2_Mixed => k_is)
      (case n2_NoBook => k_is)
      (case l2_NoBook => k_is)
      (case n2_NoForm => k_is)
      (case l2_NoForm => k_is)
      (case n2_NoMay => k_is)
      (case l2_NoMay => k_is)
      (case n2_NoText => k_is)
      (case l2_NoText => k_is)
      (case n2_Unknown => k_is)
      (case l2_Unknown => k_is)
      (case k2_NotSimple_Against => k_is)
      (case k2_NotSimple_Clash => k_is)
      (case k2_NotSimple_Mixed => k_is)
      (case k2_NotSimple_NoBook => k_is)
      (case k2_NotSimple_NoForm => k_is)
      (case k2_NotSimple_NoMay => k_is)
      (case k2_NotSimple_NoText => k_is)
      (case k2_NotSimple_Unknown => k_is)
    obtain ⟨t, hb, T⟩ := TT;have e : some (Value.ref fa) = some (Value.ref t.lY) := hmg.symm.trans T.Du;have e' : fa = t.lY := by injection e with e; injection e
    subst e';exact ⟨t.nt, hb, fun base _ _ => K72.Bo T⟩
  case S => exact fun K H a ns hl _ hS => L2.AE rfl hl hS (by obtain ⟨pr, outs, h, rfl, rfl⟩ := K72.vL hl; exact h)
  case C => exact fun _ _ _ _ z => z

