import PyProof.Rows.All
import Wide.All
import OpenK.AllK
import Wide.FinOn
import Lean
import PyProof.EqAt
import PyProof.EqKinds
import PyProof.TupleCall
import PyProof.ConsumeWalk
import PyProof.EqLayable
import PyProof.ReprRoads
import PyProof.StrWalks
import PyProof.SliceStr2
import PyProof.StrLawsIn
import PyProof.StrLawsRepr
import PyProof.SliceList
import PyProof.Rows.FStr
import PyProof.CallStr
import PyProof.Rows.SeqMore
import PyProof.ListStr
import PyProof.Claim2Refuses
import PyProof.Rows.SetFrom
import PyProof.Rows.StrMeet
import PyProof.WalksMore
import PyProof.StrCalls
import PyProof.ListMulRoad
import PyProof.MaxThree
import PyProof.Rows.SumAny
import PyProof.AutoSeq1
import PyProof.StrBlock2
import PyProof.ZipIter
import PyProof.Rows.ZipGen
import PyProof.EnumIter
import PyProof.EnumFor
import PyProof.EnumMake
import KE.KIntText
import PyProof.StrCalls2
import PyProof.Rows.StrSplitMax
import PySem.Challenge.RW_webshapes_k19_forms_read
set_option compiler.extract_closed false
set_option bootstrap.genMatcherCode false
set_option Elab.async false
set_option linter.all false
set_option maxRecDepth 100000
set_option maxHeartbeats 4000000
section
open PySem PySem.Spec PyProof.Rows PySem.W
theorem LY:type_of% @List.length_append:=@List.length_append
theorem LZ:type_of% @List.length_map:=@List.length_map
theorem L0:type_of% @List.getElem?_set_ne:=@List.getElem?_set_ne
theorem L3:type_of% @List.length_cons:=@List.length_cons
theorem L4:type_of% @Heap.get?_push_of_some:=@Heap.get?_push_of_some
theorem L5:type_of% @List.getElem?_eq_some_iff:=@List.getElem?_eq_some_iff
theorem L6:type_of% @List.getElem?_eq_getElem:=@List.getElem?_eq_getElem
theorem L7:type_of% @decide_eq_true:=@decide_eq_true
theorem L8:type_of% @List.mem_cons_of_mem:=@List.mem_cons_of_mem
theorem L9:type_of% @List.mem_singleton:=@List.mem_singleton
theorem Ma:type_of% @List.getElem?_set_self:=@List.getElem?_set_self
theorem Mb:type_of% @decide_eq_false:=@decide_eq_false
theorem Mc:type_of% @List.mem_cons:=@List.mem_cons
theorem Md:type_of% @Nat.lt_of_lt_of_le:=@Nat.lt_of_lt_of_le
theorem Me:type_of% @if_pos:=@if_pos
theorem Mf:type_of% @Heap.lt_size:=@Heap.lt_size
theorem Mg:type_of% @Nat.le_refl:=@Nat.le_refl
theorem Mh:type_of% @List.size_toArray:=@List.size_toArray
theorem Mi:type_of% @List.getElem?_append_right:=@List.getElem?_append_right
theorem Mj:type_of% @List.mem_cons_self:=@List.mem_cons_self
theorem Ml:type_of% @List.mem_append_right:=@List.mem_append_right
theorem Mm:type_of% @List.getElem?_map:=@List.getElem?_map
theorem Mn:type_of% @if_neg:=@if_neg
theorem Mo:type_of% @List.length_nil:=@List.length_nil
theorem Mp:type_of% @wpAny_bind:=@wpAny_bind
theorem Mq:type_of% @List.length_set:=@List.length_set
theorem Mr:type_of% @Nat.le_trans:=@Nat.le_trans
theorem Ms:type_of% @Bool.and_eq_true:=@Bool.and_eq_true
theorem Mt:type_of% @Option.map_eq_some_iff:=@Option.map_eq_some_iff
theorem Mu:type_of% @Heap.get?_push_size:=@Heap.get?_push_size
theorem Mv:type_of% @Nat.le_of_ble_eq_true:=@Nat.le_of_ble_eq_true
theorem Mw:type_of% @List.map_append:=@List.map_append
theorem Mx:type_of% @Nat.lt_irrefl:=@Nat.lt_irrefl
theorem My:type_of% @List.mem_of_getElem?:=@List.mem_of_getElem?
theorem Mz:type_of% @List.length_singleton:=@List.length_singleton
theorem MA:type_of% @wpAny_pure:=@wpAny_pure
theorem MB:type_of% @PySem.F.plainAttrs_list:=@PySem.F.plainAttrs_list
theorem MC:type_of% @List.getElem?_append_left:=@List.getElem?_append_left
theorem MD:type_of% @Nat.ne_of_lt:=@Nat.ne_of_lt
theorem ME:type_of% @wpAny_mono:=@wpAny_mono
theorem MF:type_of% @Option.some.inj:=@Option.some.inj
theorem MG:type_of% @Heap.get?_update_of_ne:=@Heap.get?_update_of_ne
theorem MH:type_of% @PySem.W.mg_none_of:=@PySem.W.mg_none_of
theorem MI:type_of% @PySem.F.type_list_append:=@PySem.F.type_list_append
theorem MJ:type_of% @PySem.F.slot_list_append:=@PySem.F.slot_list_append
theorem MK:type_of% @List.mem_map:=@List.mem_map
theorem ML:type_of% @List.mem_nil_iff:=@List.mem_nil_iff
theorem MM:type_of% @List.append_assoc:=@List.append_assoc
theorem MN:type_of% @List.length_take:=@List.length_take
theorem MO:type_of% @Heap.SameBut.update:=@Heap.SameBut.update
theorem MP:type_of% @of_decide_eq_true:=@of_decide_eq_true
theorem MQ:type_of% @decide_eq_true_eq:=@decide_eq_true_eq
theorem MR:type_of% @PySem.W.mg_of:=@PySem.W.mg_of
theorem MS:type_of% @List.append_nil:=@List.append_nil
theorem MT:type_of% @List.cons_ne_nil:=@List.cons_ne_nil
theorem MU:type_of% @wpAny_truthy_bool:=@wpAny_truthy_bool
theorem MV:type_of% @Nat.zero_le:=@Nat.zero_le
theorem MW:type_of% @List.nodup_cons:=@List.nodup_cons
theorem MX:type_of% @List.cons_lt_cons_iff:=@List.cons_lt_cons_iff
theorem MY:type_of% @Heap.get?_update_self:=@Heap.get?_update_self
theorem MZ:type_of% @List.length_drop:=@List.length_drop
theorem M0:type_of% @List.all_eq_true:=@List.all_eq_true
theorem M3:type_of% @Bool.false_ne_true:=@Bool.false_ne_true
theorem M4:type_of% @List.set_set:=@List.set_set
theorem M5:type_of% @Bool.true_and:=@Bool.true_and
theorem M6:type_of% @Heap.size_push:=@Heap.size_push
theorem M7:type_of% @or_false:=@or_false
theorem M8:type_of% @Nat.lt_succ_self:=@Nat.lt_succ_self
theorem M9:type_of% @List.take_length:=@List.take_length
theorem Na:type_of% @of_decide_eq_false:=@of_decide_eq_false
theorem Nb:type_of% @List.nil_append:=@List.nil_append
theorem Nc:type_of% @PySem.mem_of_lookup:=@PySem.mem_of_lookup
theorem Nd:type_of% @List.lookup_cons:=@List.lookup_cons
theorem Nf:type_of% @Bool.or_eq_true:=@Bool.or_eq_true
theorem Ng:type_of% @List.length_range:=@List.length_range
theorem Nh:type_of% @sizeLine_eq:=@sizeLine_eq
theorem Ni:type_of% @List.mem_of_mem_take:=@List.mem_of_mem_take
theorem Nj:type_of% @List.drop_eq_getElem_cons:=@List.drop_eq_getElem_cons
theorem Nk:type_of% @beq_eq_false_iff_ne:=@beq_eq_false_iff_ne
theorem Nl:type_of% @wpAny_passesOwn:=@wpAny_passesOwn
theorem Nn:type_of% @List.mem_append:=@List.mem_append
theorem Np:type_of% @wpAny_callSpecial?_slot:=@wpAny_callSpecial?_slot
theorem Nq:type_of% @take_snoc:=@take_snoc
theorem Nr:type_of% @wpAny_newObj_type:=@wpAny_newObj_type
theorem Nt:type_of% @PySem.F.plainAttrs_str:=@PySem.F.plainAttrs_str
theorem Nu:type_of% @List.take_of_length_le:=@List.take_of_length_le
theorem Nv:type_of% @List.length_replicate:=@List.length_replicate
theorem Nw:type_of% @List.getElem?_eq_none:=@List.getElem?_eq_none
theorem Ny:type_of% @beq_iff_eq:=@beq_iff_eq
theorem Nz:type_of% @if_true:=@if_true
theorem NA:type_of% @Nat.pow_le_pow_right:=@Nat.pow_le_pow_right
theorem NB:type_of% @List.mem_append_left:=@List.mem_append_left
theorem NC:type_of% @PySem.W.kia_one:=@PySem.W.kia_one
theorem ND:type_of% @Nat.ne_of_gt:=@Nat.ne_of_gt
theorem NF:type_of% @wpAny_Call_Name_kw:=@wpAny_Call_Name_kw
theorem NG:type_of% @call_meets:=@call_meets
theorem NH:type_of% @List.pairwise_cons:=@List.pairwise_cons
theorem NI:type_of% @List.getElem?_drop:=@List.getElem?_drop
theorem NJ:type_of% @F.slot_tuple_iterator_next:=@F.slot_tuple_iterator_next
theorem NK:type_of% @Int.toNat_natCast:=@Int.toNat_natCast
theorem NL:type_of% @Nat.le_add_right:=@Nat.le_add_right
theorem NM:type_of% @List.not_mem_nil:=@List.not_mem_nil
theorem NN:type_of% @Heap.size_update:=@Heap.size_update
theorem NO:type_of% @Nat.le_of_lt:=@Nat.le_of_lt
theorem NP:type_of% @PassesOwn.never:=@PassesOwn.never
theorem NQ:type_of% @Option.map_some:=@Option.map_some
theorem NR:type_of% @List.foldl_cons:=@List.foldl_cons
end
section
namespace L2
abbrev Fg:=PySem.W.Frag
set_option maxRecDepth 100000 in
set_option maxHeartbeats 0 in
theorem ws:PySem.W.OpenLaw.wellSaid PySem.Challenge.rw_webshapes_k19_forms_read=true:=by decide +kernel
open PySem PySem.Spec PyProof.Rows
abbrev Key:=Sum Int Str
noncomputable def DJ:Key->Value->Bool
 | .inl k,v=>Value.isInt k v
 | .inr x,v=>Value.isStrOf x v
noncomputable def KS (w:World):Key->Int
 | .inl k=>hashInt k
 | .inr x=>hashStr w x
theorem aX:∀ {k:Key} {v:Value},DJ k v=true->(∃ i t,k=Sum.inl i/\v=Value.int i t)\/(∃ x t,k=Sum.inr x/\v=Value.str x t)
 | .inl i,v,h=>by
  obtain ⟨t,e⟩:=Value.isInt_shape (k:=i) (v:=v) h;exact .inl ⟨i,t,rfl,e⟩
 | .inr x,v,h=>by
  obtain ⟨t,e⟩:=Value.isStrOf_shape (x:=x) (v:=v) h;exact .inr ⟨x,t,rfl,e⟩
theorem Gf (a b:Int):decide ((Sum.inl a:Key)=Sum.inl b)=(a==b):=by
 by_cases e:a=b
 ·subst e;simp
 ·have h:¬(Sum.inl a:Key)=Sum.inl b:=fun q=>e (Sum.inl.inj q);rw [Mb h];exact (Nk.mpr e).symm
theorem Fl (a b:Str):decide ((Sum.inr a:Key)=Sum.inr b)=decide (a=b):=by
 by_cases e:a=b
 ·subst e;simp
 ·have h:¬(Sum.inr a:Key)=Sum.inr b:=fun q=>e (Sum.inr.inj q);rw [Mb h,Mb e]
theorem ET (a:Int) (b:Str):decide ((Sum.inl a:Key)=Sum.inr b)=false:=Mb (fun q=>nomatch q)
theorem Dx (a:Str) (b:Int):decide ((Sum.inr a:Key)=Sum.inl b)=false:=Mb (fun q=>nomatch q)
noncomputable def rX (prog:Program) (w:World):PySem.KeyKind prog w Key where
 is:=DJ
 hash:=KS w
 inj:=fun v a b ha hb=>by
  rcases aX ha with ⟨i,t,rfl,rfl⟩ | ⟨x,t,rfl,rfl⟩
  ·rcases aX hb with ⟨j,u,rfl,e⟩ | ⟨y,u,rfl,e⟩
   ·injection e with e1 _;rw [e1]
   ·exact nomatch e
  ·rcases aX hb with ⟨j,u,rfl,e⟩ | ⟨y,u,rfl,e⟩
   ·exact nomatch e
   ·injection e with e1 _;rw [e1]
 byValue:=fun k v h=>by
  rcases aX h with ⟨i,t,rfl,rfl⟩ | ⟨x,t,rfl,rfl⟩ <;> rfl
 pyHash:=fun hv h=>by
  rcases aX hv with ⟨i,t,rfl,rfl⟩ | ⟨x,t,rfl,rfl⟩
  ·exact wpAny_pyHash_int h
  ·exact wpAny_pyHash_str h
 eqBool:=fun hu hv h=>by
  rcases aX hu with ⟨i,t,rfl,rfl⟩ | ⟨x,t,rfl,rfl⟩
  ·rcases aX hv with ⟨j,u,rfl,rfl⟩ | ⟨y,u,rfl,rfl⟩
   ·rw [Gf] at h;exact wpAny_eqBool_int h
   ·rw [ET] at h;exact SeqAt.EqAt.int_str i t y u _ _ _ _ h
  ·rcases aX hv with ⟨j,u,rfl,rfl⟩ | ⟨y,u,rfl,rfl⟩
   ·rw [Dx] at h;exact SeqAt.EqAt.str_int x t j u _ _ _ _ h
   ·rw [Fl] at h;exact wpAny_eqBool_str h
 «strs»:=fun k x t v h=>by
  rcases aX h with ⟨i,u,rfl,e⟩ | ⟨y,u,rfl,e⟩
  ·exact nomatch e
  ·injection e with e1 _;subst e1;cases v <;> rfl
end L2
namespace L2
open PySem PySem.Spec PyProof.Rows
inductive V where
 | non | bl (b:Bool) | int (i:Int) | str (x:Str) | byt (b:Array UInt8) | flt (b:UInt64) | ref (a:Addr) | ty (n:String)
 deriving DecidableEq
def RelV:V->Value->Prop
 | .non,u=>u=Value.none
 | .bl b,u=>u=Value.bool b
 | .int i,u=>∃ t,u=Value.int i t
 | .str x,u=>∃ t,u=Value.str x t
 | .byt b,u=>∃ t,u=Value.bytes b t
 | .flt b,u=>∃ t,u=Value.float b t
 | .ref a,u=>u=Value.ref a
 | .ty n,u=>u=Value.type n
abbrev Vals:List V->List Value->Prop:=Paired RelV
theorem Vals.length {xs:List V} {us:List Value} (r:Vals xs us):xs.length=us.length:=Paired.length r
theorem Vals.get:∀ {xs:List V} {us:List Value} {i:Nat} {x:V},Vals xs us->xs[i]?=some x->∃ u,us[i]?=some u/\RelV x u
 | _,_,_,_,.nil,e=>by simp at e
 | _,_,0,_,.cons r _,e=>by simp at e;subst e;exact ⟨_,rfl,r⟩
 | _,_,i+1,x,.cons _ t,e=>by
  obtain ⟨u,h1,h2⟩:=Vals.get (i:=i) (x:=x) t (by simpa using e);exact ⟨u,by simpa using h1,h2⟩
theorem Vals.set {x:V} {u:Value} (r:RelV x u):∀ {xs:List V} {us:List Value} (i:Nat),Vals xs us->Vals (xs.set i x) (us.set i u)
 | _,_,_,.nil=>.nil
 | _,_,0,.cons _ t=>.cons r t
 | _,_,i+1,.cons q t=>.cons q (Vals.set r i t)
theorem Vals.append:∀ {xs ys:List V} {us ws:List Value},Vals xs us->Vals ys ws->Vals (xs++ys) (us++ws)
 | _,_,_,_,.nil,s=>s
 | _,_,_,_,.cons r t,s=>.cons r (Vals.append t s)
theorem Vals.take:∀ {xs:List V} {us:List Value} (n:Nat),Vals xs us->Vals (xs.take n) (us.take n)
 | _,_,0,_=>.nil
 | _,_,_+1,.nil=>.nil
 | _,_,n+1,.cons r t=>.cons r (Vals.take n t)
theorem Vals.drop:∀ {xs:List V} {us:List Value} (n:Nat),Vals xs us->Vals (xs.drop n) (us.drop n)
 | _,_,0,r=>r
 | _,_,_+1,.nil=>.nil
 | _,_,n+1,.cons _ t=>Vals.drop n t
def yp:Option V->Option Value->Prop
 | some v,some u=>RelV v u
 | none,none=>True
 | _,_=>False
def KV {κ:Type}:List (κ×V)->List (κ×Value)->Prop:=Paired fun (p:κ×V) (q:κ×Value)=>p.1=q.1/\RelV p.2 q.2
noncomputable def kV:Key->V
 | .inl i=>.int i
 | .inr x=>.str x
mutual
noncomputable def FX (w:World):PyData->Int
 | .int i=>hashInt i
 | .str x=>hashStr w x
 | .tuple ds=>reduceHash (Builtin.Tuple.tupleHashOf (Am w ds))
 | _=>0
noncomputable def Am (w:World):List PyData->List Int
 | []=>[]
 | d :: ds=>FX w d :: Am w ds
end
def Lu (w:World) (x:PyData×V×V) (e:DictEntry):Prop:=e.hash=FX w x.1/\RelV x.2.1 e.key/\RelV x.2.2 e.val
inductive HO where
 /-- a list -/
 | lst (xs:List V)
 /-- a tuple (never changes) -/
 | tup (xs:List V)
 /-- a dict whose keys are ints and texts;one whose keys are tuples of ints and texts (the empty one is both) -/
 | dK (kvs:List (Key×V)) | dT (kvs:List (List Key×V))
 /-- a dict by any hashable data: its epoch;the keys as data and as values,what they hold -/
 | dD (ep:Nat) (xs:List (PyData×V×V))
 /-- a set of ints: its members,its size -/
 | set (S:Int->Bool) (n:Nat)
 /-- an instance of the class at C,its dict at dx,its attributes -/
 | ins (C dx:Addr) (fs:List (Str×V))
 /-- the dict of the instance at x -/
 | own (x:Addr)
 /-- the dict of an exception -/
 | xd (fs:List (Str×V))
 /-- a bound method,f of x -/
 | met (f x:Addr)
 /-- a range object lo,lo+1,.. below hi -/
 | rng (lo hi:Int)
 /-- a thing that is known to the object (the script;a dict while a loop walks it): read,never written while it is so -/
 | frz (o:Obj) (u:HO)
 /-- a code object's table -/
 | tbl (ps:Array Value)
 /-- any other thing,by what is true of its one object (a def of one's own: LA a S n:=HO.ext fun h=>..) -/
 | ext (φ:Heap->Prop)
abbrev Hp:=Addr->Option HO
noncomputable def upd (H:Hp) (a:Addr) (o:HO):Hp:=fun b=>if b=a then some o else H b
theorem aE {H:Hp} {a:Addr} {o:HO}:upd H a o a=some o:=by unfold upd;rw [Me rfl]
theorem ao {H:Hp} {a b:Addr} {o:HO} (h:b≠a):upd H a o b=H b:=by unfold upd;rw [Mn h]
theorem aD {H:Hp} {a b:Addr} {o:HO} (h:H a=some o) (h':H b=none):a≠b:=by
 intro e;subst e;rw [h] at h';cases h'
section
variable (P:Program) (w:World)
def fh (H:Hp) (h:Heap) (a:Addr):HO->Prop
 | .lst xs=>xs.length<=sizeLine/\∃ (its:List Value) (n:Nat),Vals xs its/\h.get? a=some { cls:=.type "list", data:=.seq its.toArray n }
 | .tup xs=>xs.length<=sizeLine/\∃ its:List Value,Vals xs its/\IsTup h a its.toArray
 | .dK kvs=>kvs.length<=sizeLine/\(a==sysModules)=false/\∃ vs,KV kvs vs/\h.DictOf (rX P w) a vs
 | .dT kvs=>kvs.length<=sizeLine/\(a==sysModules)=false/\∃ xs:List (List Key×Addr×Value),
   Paired (fun (p:List Key×V) (q:List Key×Addr×Value)=>p.1=q.1/\H q.2.1=some (.tup (p.1.map kV))/\RelV p.2 q.2.2) kvs xs /\
   ∃ o es ep,h.get? a=some o/\o.ExactDict/\o.data=.dict es ep/\es.toList=xs.map (entryOfKey (tupleKind (rX P w)))/\(xs.map (·.1)).Nodup
 | .dD ep xs=>xs.length<=sizeLine/\(a==sysModules)=false/\(xs.map (·.1)).Nodup/\∃ o es,h.get? a=some o/\o.ExactDict/\o.data=.dict es ep/\Paired (Lu w) xs es.toList
 | .set S n=>h.SetOf (intKind P w) a S n
 | .ins C dx fs=>H dx=some (.own a)/\fs.length<=1000/\dx≠a/\h.get? a=some (PySem.W.instObj C dx) /\
   ∃ mA,h.Ns1 dx mA/\(∀ f,yp (fs.lookup f) (mA f))/\PySem.Within mA (fs.map (·.1))
 | .own _=>∃ o,h.get? a=some o
 | .xd fs=>∃ mA,h.Ns1 a mA/\∀ f,yp (fs.lookup f) (mA f)
 | .rng lo hi=>∃ t u v,h.get? a=some { cls:=.type "range", data:=.fields #[.int lo t,.int hi u,.int 1 v] }
 | .frz o u=>h.get? a=some o/\fh H h a u
 | .tbl ps=>h.get? a=some { cls:=.none,data:=.fields ps }
 | .met f x=>h.get? a=some (PySem.W.methodObj (.ref f) (.ref x))
 | .ext φ=>φ h/\(∃ o,h.get? a=some o)/\∀ h1 h2:Heap,φ h1->(∀ o,h1.get? a=some o->h2.get? a=some o)->φ h2
def HOk (H:Hp) (h:Heap):Prop:=∀ a o,H a=some o->fh P w H h a o
end
section
variable {P:Program} {w:World} {H H':Hp} {h h':Heap} {a:Addr} {o:HO}
theorem fh.lt (x:fh P w H h a o):a < h.objs.size:=by
 cases o with
 | lst xs=>obtain ⟨_,_,_,_,e⟩:=x;exact Mf e
 | tup xs=>obtain ⟨_,_,_,p⟩:=x;exact p.lt
 | dK kvs=>obtain ⟨_,_,_,_,o,_,_,e,_⟩:=x;exact Mf e
 | dT kvs=>obtain ⟨_,_,_,_,o,_,_,e,_⟩:=x;exact Mf e
 | dD ep xs=>obtain ⟨_,_,_,o,_,e,_⟩:=x;exact Mf e
 | set S n=>obtain ⟨o,_,_,_,e,_⟩:=x;exact Mf e
 | ins C dx fs=>obtain ⟨_,_,_,e,_⟩:=x;exact Mf e
 | own y=>obtain ⟨_,e⟩:=x;exact Mf e
 | xd fs=>obtain ⟨_,⟨_,_,_,e,_⟩,_⟩:=x;exact Mf e
 | rng lo hi=>obtain ⟨_,_,_,e⟩:=x;exact Mf e
 | frz ob u=>obtain ⟨e,_⟩:=x;exact Mf e
 | tbl ps=>exact Mf (show h.get? a=some _ from x)
 | met f y=>exact Mf (show h.get? a=some _ from x)
 | ext φ=>obtain ⟨_,⟨_,e⟩,_⟩:=x;exact Mf e
theorem Paired.Kr {α β:Type} {F G:α->β->Prop}:∀ {l₁:List α} {l₂:List β},Paired F l₁ l₂->(∀ a b,F a b->G a b)->Paired G l₁ l₂
 | _,_,.nil,_=>.nil
 | _,_,.cons r t,f=>.cons (f _ _ r) (Paired.Kr t f)
theorem fh.mB (x:fh P w H h a o) (k:∀ b u,(b=a\/H b=some (.own a))->h.get? b=some u->h'.get? b=some u)
  (ho:∀ b,H b=some (.own a)->H' b=some (.own a)) (ht:∀ b xs,H b=some (.tup xs)->H' b=some (.tup xs)):fh P w H' h' a o:=by
 induction o with
 | lst xs=>obtain ⟨z,its,n,r,e⟩:=x;exact ⟨z,its,n,r,k _ _ (.inl rfl) e⟩
 | tup xs=>obtain ⟨z,its,r,ob,e,c⟩:=x;exact ⟨z,its,r,ob,k _ _ (.inl rfl) e,c⟩
 | dK kvs=>obtain ⟨z,y,vs,r,ob,es,ep,e,c⟩:=x;exact ⟨z,y,vs,r,ob,es,ep,k _ _ (.inl rfl) e,c⟩
 | dT kvs =>
  obtain ⟨z,y,xs,r,ob,es,ep,e,c⟩:=x;exact ⟨z,y,xs,Paired.Kr r fun p q z=>⟨z.1,ht _ _ z.2.1,z.2.2⟩,ob,es,ep,k _ _ (.inl rfl) e,c⟩
 | dD ep xs=>obtain ⟨z,y,nd,ob,es,e,c⟩:=x;exact ⟨z,y,nd,ob,es,k _ _ (.inl rfl) e,c⟩
 | set S n=>obtain ⟨ob,es,ep,t,e,c⟩:=x;exact ⟨ob,es,ep,t,k _ _ (.inl rfl) e,c⟩
 | ins C dx fs =>
  obtain ⟨d,z,ne,e,mA,⟨od,es,ep,e2,c⟩,r⟩:=x;exact ⟨ho _ d,z,ne,k _ _ (.inl rfl) e,mA,⟨od,es,ep,k _ _ (.inr d) e2,c⟩,r⟩
 | own y=>obtain ⟨ob,e⟩:=x;exact ⟨ob,k _ _ (.inl rfl) e⟩
 | xd fs=>obtain ⟨mA,⟨od,es,ep,e,c⟩,r⟩:=x;exact ⟨mA,⟨od,es,ep,k _ _ (.inl rfl) e,c⟩,r⟩
 | rng lo hi=>obtain ⟨t,u,v,e⟩:=x;exact ⟨t,u,v,k _ _ (.inl rfl) e⟩
 | frz ob u ih=>obtain ⟨e,q⟩:=x;exact ⟨k _ _ (.inl rfl) e,ih q⟩
 | tbl ps =>
  have e:h.get? a=some { cls:=.none,data:=.fields ps }:=x;show h'.get? a=some { cls:=.none,data:=.fields ps };exact k a _ (.inl rfl) e
 | met f y =>
  have e:h.get? a=some (PySem.W.methodObj (.ref f) (.ref y)):=x;show h'.get? a=some (PySem.W.methodObj (.ref f) (.ref y));exact k a _ (.inl rfl) e
 | ext φ=>obtain ⟨p,⟨o,e⟩,st⟩:=x;exact ⟨st _ _ p fun o q=>k _ _ (.inl rfl) q,⟨o,k _ _ (.inl rfl) e⟩,st⟩
theorem HOk.lt (x:HOk P w H h) (e:H a=some o):a < h.objs.size:=(x a o e).lt
theorem HOk.fresh (x:HOk P w H h) (e:h.objs.size<=a):H a=none:=by
 cases q:H a with
 | none=>rfl
 | some u=>exact absurd (Md (x.lt q) e) (Mx _)
theorem HOk.kept (x:HOk P w H h) (k:∀ b u,h.get? b=some u->h'.get? b=some u):HOk P w H h':=fun a o e =>
 (x a o e).mB (fun b u _ q=>k b u q) (fun _ q=>q) fun _ _ q=>q
theorem HOk.laid (x:HOk P w H h) (k:∀ b u,h.get? b=some u->h'.get? b=some u) (hp:h.objs.size<=a) (new:fh P w (upd H a o) h' a o):HOk P w (upd H a o) h':=fun b u e=>by
 have hn:=x.fresh hp;by_cases hb:b=a
 ·subst hb;rw [aE] at e;cases e;exact new
 ·rw [ao hb] at e;exact (x b u e).mB (fun c v _ q=>k c v q) (fun c q=>by rw [ao (aD q hn)];exact q) fun c xs q=>by rw [ao (aD q hn)];exact q
end
def Rd (H:Hp) (a:Addr) (u:HO):Prop:=H a=some u\/∃ o,H a=some (.frz o u)
theorem Rd.ok {P:Program} {w:World} {H:Hp} {h:Heap} {a:Addr} {u:HO} (r:Rd H a u) (x:HOk P w H h):fh P w H h a u:=by
 rcases r with r | ⟨o,r⟩
 ·exact x a u r
 ·obtain ⟨_,q⟩:=x a _ r;exact q
def Mut:Option HO->Prop
 | some (.lst _)=>True
 | some (.dK _)=>True
 | some (.dT _)=>True
 | some (.dD _ _)=>True
 | some (.set _ _)=>True
 | some (.ins _ _ _)=>True
 | some (.ext _)=>True
 | _=>False
section
variable {P:Program} {w:World} {H:Hp} {h h':Heap} {x e:Addr} {o':HO}
theorem HOk.write (ok:HOk P w H h) (mu:Mut (H x)) (he:e=x\/H e=some (.own x)) (k:∀ b u,b≠e->h.get? b=some u->h'.get? b=some u) (heo:∃ u,h'.get? e=some u)
  (new:fh P w (upd H x o') h' x o'):HOk P w (upd H x o') h':=fun b u q=>by
 have nown:∀ c y,H c=some (.own y)->c≠x:=fun c y r z=>by subst z;rw [r] at mu;exact mu
 have ntup:∀ c xs,H c=some (.tup xs)->c≠x:=fun c xs r z=>by subst z;rw [r] at mu;exact mu
 by_cases hb:b=x
 ·subst hb;rw [aE] at q;cases q;exact new
 ·rw [ao hb] at q;by_cases hbe:b=e
  ·have q':H b=some (.own x):=by
    rcases he with z | z
    ·exact absurd (hbe.trans z) hb
    ·rw [hbe];exact z
   rw [q] at q';cases q';obtain ⟨v,hv⟩:=heo;exact ⟨v,by rw [hbe];exact hv⟩
  ·refine (ok b u q).mB (fun c v hc r=>k c v ?_ r) (fun c r=>by rw [ao (nown c b r)];exact r) fun c xs r=>by rw [ao (ntup c xs r)];exact r
   rcases hc with rfl | hc
   ·exact hbe
   ·rintro rfl;rcases he with z | z
    ·exact nown c b hc z
    ·rw [hc] at z;cases z;exact hb rfl
end
structure Un (fs ex:List Addr) (H H':Hp) (h h':Heap):Prop where
 keep:∀ b o,h.get? b=some o->H b=none->b ∉ fs->b ∉ ex->h'.get? b=some o
 slot:∀ b o,h.get? b=some o->H b=none->b∈fs->b ∉ ex->∃ sl,h'.get? b=some { o with slots:=sl }
 free:∀ b o,h.get? b=some o->H b=none->b ∉ ex->H' b=none
 there:∀ b o,h.get? b=some o->b ∉ ex->∃ o',h'.get? b=some o'
 vf:∀ b xs,H b=some (.tup xs)->H' b=some (.tup xs)
 uY:∀ b o u,H b=some (.frz o u)->H' b=some (.frz o u)
 yo:∀ b ps,H b=some (.tbl ps)->∃ more,H' b=some (.tbl (ps++more))
section
variable {fs fs' ex ex':List Addr} {H H1 H2:Hp} {h h1 h2 h':Heap} {a x e:Addr} {o:HO}
theorem Un.any (u:Un fs ex H H1 h h1) {b:Addr} {ob:Obj} (q:h.get? b=some ob) (n:H b=none) (hx:b ∉ ex):∃ sl,h1.get? b=some { ob with slots:=sl }:=by
 by_cases hb:b∈fs
 ·exact u.slot b ob q n hb hx
 ·exact ⟨ob.slots,u.keep b ob q n hb hx⟩
theorem Un.kept (k:∀ b u,h.get? b=some u->h'.get? b=some u):Un fs ex H H h h' :=
 ⟨fun b ob q _ _ _=>k b ob q,fun b ob q _ _ _=>⟨ob.slots,k b ob q⟩,fun _ _ _ n _=>n,fun b ob q _=>⟨ob,k b ob q⟩,fun _ _ q=>q,fun _ _ _ q=>q,fun _ ps q=>⟨#[],by rw [q];simp⟩⟩
theorem Un.refl:Un fs ex H H h h:=Un.kept fun _ _ q=>q
theorem Un.laid (k:∀ b u,h.get? b=some u->h'.get? b=some u) (hp:h.objs.size<=a) (hn:H a=none):Un fs ex H (upd H a o) h h' where
 keep:=fun b u q _ _ _=>k b u q
 slot:=fun b u q _ _ _=>⟨u.slots,k b u q⟩
 free:=fun b u q n _=>by rw [ao (MD (Md (Mf q) hp))];exact n
 there:=fun b u q _=>⟨u,k b u q⟩
 vf:=fun b xs q=>by rw [ao (aD q hn)];exact q
 uY:=fun b u xs q=>by rw [ao (aD q hn)];exact q
 yo:=fun b ps q=>⟨#[],by rw [ao (aD q hn),q];simp⟩
theorem Un.write (mu:Mut (H x)) (he:e=x\/H e=some (.own x)) (k:∀ b u,b≠e->h.get? b=some u->h'.get? b=some u) (heo:∃ u,h'.get? e=some u):Un fs ex H (upd H x o) h h':=by
 have hx:∀ b,H b=none->b≠x:=fun b n z=>by subst z;rw [n] at mu;exact mu
 have hb:∀ b,H b=none->b≠e:=fun b n z=>by
  subst z;rcases he with r | r
  ·exact hx b n r
  ·rw [n] at r;cases r
 have hm:∀ b u,H b=some u->¬Mut (some u)->b≠x:=fun b u q nm z=>by subst z;rw [q] at mu;exact nm mu
 refine ⟨fun b u q n _ _=>k b u (hb b n) q,fun b u q n _ _=>⟨u.slots,k b u (hb b n) q⟩,fun b u q n _=>by rw [ao (hx b n)];exact n,fun b u q _=>?_,
  fun b xs q=>by rw [ao (hm b _ q fun z=>z)];exact q,fun b u xs q=>by rw [ao (hm b _ q fun z=>z)];exact q,fun b ps q=>⟨#[],by rw [ao (hm b _ q fun z=>z),q];simp⟩⟩
 by_cases hbe:b=e
 ·subst hbe;exact heo
 ·exact ⟨u,k b u hbe q⟩
end
noncomputable def trk (h:Heap) (H:Hp):List Addr:=(List.range h.objs.size).filter fun a=>(H a).isSome
noncomputable def yS (h:Heap) (H:Hp):Heap:=PySem.W.hideAll h (trk h H)
theorem xw (h:Heap) (H:Hp):(yS h H).objs.size=h.objs.size:=PySem.W.hideAll_size _ _
theorem yE {h:Heap} {H:Hp} {b:Addr} {o:Obj} (e:h.get? b=some o) (n:H b=none):(yS h H).get? b=some o :=
 PySem.W.hideAll_get _ e fun hm=>by
  have q:(H b).isSome=true:=(List.mem_filter.mp hm).2;rw [n] at q;simp at q
theorem Bt {h:Heap} {H:Hp} {b:Addr} {o:Obj} (e:(yS h H).get? b=some o):h.get? b=some o/\H b=none:=by
 have e':h.get? b=some o:=PySem.W.of_hideAll (trk h H) e;refine ⟨e',?_⟩;cases q:H b with
 | none=>rfl
 | some x =>
  have hm:b∈trk h H:=List.mem_filter.mpr ⟨List.mem_range.mpr (Mf e'),by simp [q]⟩;have z:(yS h H).get? b=none:=PySem.W.hideAll_none (trk h H) hm;rw [z] at e;cases e
noncomputable def Cp (g h:Heap) (L:Addr):List (Addr×Obj):=(List.range h.objs.size).filterMap fun a=>if a=L\/(g.get? a).isSome=true then none else (h.get? a).map fun o=>(a,o)
noncomputable def rest (g h:Heap) (L d:Addr):List (Addr×Obj):=(Cp g h L).filter fun p=>decide (p.1≠d)
end L2
namespace L2
open PySem PySem.Spec PyProof.Rows
structure Mod (K:Fg) (mg:Str->Option Value) (base:Heap):Prop where
 kin:K.In base
 glob:base.Ns mainGlobals mg
 blt:∃ mb,base.Ns builtinsNs mb/\∀ x:Str,x ≠ "__name__" -> mb x=bootBuiltins x
 nolimit:base.NoLimit
structure Cx where
 prog:Program
 w:World
 K:Fg
 mg:Str->Option Value
 base:Heap
 A:Around
 N:List Str
 s₀:Shared
 H₀:Hp
 env:Env
 outer:List Env
 stack:List Env
 ex:List Addr
 fn:Str->Bool
 calm:Bool
 pn:List (Addr×Obj)
 xe:Value->Shared->Prop
noncomputable def frs (l:List Env):List Addr:=l.filterMap (·.frame)
noncomputable abbrev Cx.fs (X:Cx):List Addr:=frs X.outer
def Vis (sc:Scope) (x:Str):Prop:=sc.names.lookup x=some .local\/sc.names.lookup x=some .cell\/sc.names.lookup x=some .free
def Loc (sc:Scope) (x:Str):Prop:=sc.names.lookup x=some .local\/sc.names.lookup x=some .cell
def Look (env:Env) (h:Heap) (m:Str->Option Value) (x:Str) (u:Value):Prop :=
 (env.kindOf x=some .local/\m x=some u)\/((env.kindOf x=some .cell\/env.kindOf x=some .free)/\∃ c,env.cells.lookup x=some c/\h.IsCell c (some u))
structure Cx.Ok (X:Cx):Prop where
 mod:Mod X.K X.mg X.base
 kind:X.env.scope.kind=.function
 glob:X.env.globals=mainGlobals
 blt:X.env.builtins=builtinsNs
 above:X.s₀.heap.objs.size<=X.env.locals
 inj:∀ x y c,X.env.cells.lookup x=some c->X.env.cells.lookup y=some c->x=y
 has:∀ x,(X.env.kindOf x=some .cell\/X.env.kindOf x=some .free)->∃ c,X.env.cells.lookup x=some c
 cab:∀ x c,X.fn x=true->X.env.cells.lookup x=some c->X.s₀.heap.objs.size<=c
 hd:X.calm=true->X.A.handled=none
 frames:X.A.frames=some X.stack
 stk:X.stack=X.outer\/(X.stack=X.env :: X.outer/\X.env.frame=some X.env.locals)
 exf:∀ b∈X.ex,b≠X.env.locals/\∀ x c,X.env.cells.lookup x=some c->c≠b
 bs:∀ b o,X.base.get? b=some o->X.s₀.heap.get? b=some o/\X.H₀ b=none
 bsz:X.base.objs.size<=X.s₀.heap.objs.size
 CV:∀ b o,X.base.get? b=some o->b ∉ X.ex
 Gh:∀ b∈X.ex,b ∉ X.fs
 vm:X.s₀.heap.FunFrames X.base X.outer
 frf:∀ b∈X.fs,X.H₀ b=none
structure Inv (X:Cx) (pins:List (Addr×Obj)) (σ:List (Option V)) (H:Hp) (s:Shared):Prop where
 ok:X.Ok
 os:s.os=X.s₀.os
 bare:AllBare s.gens
 base:Un X.fs X.ex X.H₀ H X.s₀.heap s.heap
 loc:∃ m,s.heap.Ns X.env.locals m/\∀ (i:Nat) (x:Str) (v:V),X.N[i]?=some x->σ[i]?=some (some v)->Vis X.env.scope x->∃ u,RelV v u/\Look X.env s.heap m x u
 cell:∀ x c,X.env.cells.lookup x=some c->∃ v,s.heap.IsCell c v
 free:H X.env.locals=none
 jH:∀ x c,X.env.cells.lookup x=some c->H c=none
 pin:∀ p∈X.pn++pins,s.heap.get? p.1=some p.2/\H p.1=none/\p.1≠X.env.locals/\p.1 ∉ X.fs/\∀ v,p.2.data≠.cell v
 hok:HOk X.prog X.w H s.heap
 len:σ.length=X.N.length
section
variable {X:Cx} {pins:List (Addr×Obj)} {σ:List (Option V)} {H H':Hp} {s:Shared} {h':Heap}
theorem Cx.Ok.Lh (ok:X.Ok) {b:Addr} {o:Obj} (e:X.base.get? b=some o):b ∉ X.fs:=fun hb=>by
 have:=(ok.vm.mem hb).1;rw [e] at this;cases this
theorem Inv.bs (I:Inv X pins σ H s):∀ b o,X.base.get? b=some o->s.heap.get? b=some o/\H b=none:=fun b o e =>
 ⟨I.base.keep b o (I.ok.bs b o e).1 (I.ok.bs b o e).2 (I.ok.Lh e) (I.ok.CV b o e),I.base.free b o (I.ok.bs b o e).1 (I.ok.bs b o e).2 (I.ok.CV b o e)⟩
theorem Inv.bk (I:Inv X pins σ H s):∀ b o,X.base.get? b=some o->s.heap.get? b=some o:=fun b o e=>(I.bs b o e).1
theorem Inv.mod (I:Inv X pins σ H s):Mod X.K X.mg X.base:=I.ok.mod
theorem Inv.kIn (I:Inv X pins σ H s):X.K.In s.heap:=I.ok.mod.kin.keeps I.bk
theorem Inv.lt (I:Inv X pins σ H s):X.env.locals < s.heap.objs.size:=let ⟨_,hn,_⟩:=I.loc;hn.lt
theorem Inv.sz (I:Inv X pins σ H s):X.s₀.heap.objs.size<=s.heap.objs.size:=Mr I.ok.above (NO I.lt)
theorem Inv.Gp (I:Inv X pins σ H s) {a:Addr} (h:s.heap.objs.size<=a):a ∉ X.fs:=fun hb=>by
 obtain ⟨_,o,ho,_⟩:=I.ok.vm.mem hb;exact absurd (Md (Mf ho) (Mr I.sz h)) (Mx _)
theorem Inv.cne (I:Inv X pins σ H s):∀ x c,X.env.cells.lookup x=some c->c≠X.env.locals:=fun x c e z=>by
 obtain ⟨v,o,ho,hd⟩:=I.cell x c e;obtain ⟨m,⟨o',es,ep,ho',hd',_⟩,_⟩:=I.loc;rw [z,ho'] at ho;cases ho;rw [hd'] at hd;cases hd
theorem Inv.vm (I:Inv X pins σ H s):s.heap.FunFrames X.base X.outer:=by
 have all:∀ (l:List Env),(∀ b∈frs l,b∈X.fs)->X.s₀.heap.FunFrames X.base l->s.heap.FunFrames X.base l:=by
  intro l;induction l with
  | nil=>intro _ _;trivial
  | cons env r ih =>
   intro hs hl;obtain ⟨hk,⟨L,o,hf,hn,ho,hd⟩,hr⟩:=hl;have hL:L∈X.fs:=hs L (by unfold frs;rw [List.filterMap_cons,hf];exact Mj);obtain ⟨sl,e⟩:=I.base.slot L o ho (I.ok.frf L hL) hL fun z=>I.ok.Gh L z hL;exact ⟨hk,⟨L,_,hf,hn,e,hd⟩,ih (fun b hb=>hs b (by unfold frs;rw [List.filterMap_cons,hf];exact L8 _ hb)) hr⟩
 exact all X.outer (fun _ hb=>hb) I.ok.vm
theorem Inv.stack (I:Inv X pins σ H s):s.heap.FunFrames X.base X.stack:=by
 rcases I.ok.stk with e | ⟨e,hf⟩
 ·rw [e];exact I.vm
 ·rw [e];obtain ⟨m,hn,_⟩:=I.loc;refine .cons (by rw [I.ok.kind];decide) hf hn ?_ I.vm;exact Heap.get?_none_of_le (Mr I.ok.bsz I.ok.above)
theorem Inv.t5 (I:Inv X pins σ H s):∀ b∈frs X.stack,b∈X.env.locals :: X.fs:=fun b hb=>by
 rcases I.ok.stk with e | ⟨e,hf⟩
 ·rw [e] at hb;exact L8 _ hb
 ·rw [e] at hb;unfold frs at hb;rw [List.filterMap_cons,hf] at hb;exact hb
theorem Inv.rK (I:Inv X pins σ H s):∀ b∈frs X.stack,H b=none:=fun b hb=>by
 rcases Mc.mp (I.t5 b hb) with e | hb
 ·rw [e];exact I.free
 ·obtain ⟨_,o,ho,_⟩:=I.ok.vm.mem hb;exact I.base.free b o ho (I.ok.frf b hb) fun z=>I.ok.Gh b z hb
theorem Inv.step {g':Array GenState} {t':Nat} {d':Drawn} {ch:List Addr} (I:Inv X pins σ H s)
  (hch:∀ b∈ch,(b∈X.ex\/X.s₀.heap.objs.size<=b)/\b≠X.env.locals/\(∀ x c,X.env.cells.lookup x=some c->c≠b)/\∀ p∈X.pn++pins,p.1≠b)
  (keep:∀ b o,b≠X.env.locals->b ∉ X.fs->b ∉ ch->s.heap.get? b=some o->H b=none->h'.get? b=some o)
  (slot:∀ b o,b≠X.env.locals->b∈X.fs->b ∉ ch->s.heap.get? b=some o->H b=none->∃ sl,h'.get? b=some { o with slots:=sl }) (free:∀ b o,b ∉ ch->s.heap.get? b=some o->H b=none->H' b=none)
  (there:∀ b o,b ∉ ch->s.heap.get? b=some o->∃ o',h'.get? b=some o')
  (vf:∀ b xs,H b=some (.tup xs)->H' b=some (.tup xs)) (uY:∀ b o u,H b=some (.frz o u)->H' b=some (.frz o u)) (yo:∀ b ps,H b=some (.tbl ps)->∃ more,H' b=some (.tbl (ps++more)))
  (ns:∀ m,s.heap.Ns X.env.locals m->h'.Ns X.env.locals m) (hok:HOk X.prog X.w H' h') (hg:AllBare g') :
  Inv X pins σ H' { s with heap:=h',gens:=g',drawn:=d',toks:=t' }:=by
 have neL:∀ b o,X.s₀.heap.get? b=some o->b≠X.env.locals:=fun b o e=>MD (Md (Mf e) I.ok.above);have neC:∀ b o,X.s₀.heap.get? b=some o->b ∉ X.ex->b ∉ ch:=fun b o e hx hb=>by
  rcases (hch b hb).1 with z | z
  ·exact hx z
  ·exact absurd (Md (Mf e) z) (Mx _)
 have cellK:∀ x c,X.env.cells.lookup x=some c->∀ v,s.heap.IsCell c v->h'.IsCell c v:=fun x c e v ⟨o,ho,hd⟩=>by
  have nch:c ∉ ch:=fun z=>(hch c z).2.2.1 x c e rfl;by_cases hc:c∈X.fs
  ·obtain ⟨sl,q⟩:=slot c o (I.cne x c e) hc nch ho (I.jH x c e);exact ⟨_,q,hd⟩
  ·exact ⟨o,keep c o (I.cne x c e) hc nch ho (I.jH x c e),hd⟩
 refine ⟨I.ok,I.os,hg,⟨fun b o e n hb hx=>?_,fun b o e n hb hx=>?_,fun b o e n hx=>?_,fun b o e hx=>?_,fun b xs e=>vf b xs (I.base.vf b xs e),fun b o xs e=>uY b o xs (I.base.uY b o xs e),fun b ps e=>?_⟩,?_,fun x c e=>?_,?_,fun x c e=>?_,fun p hp=>?_,hok,I.len⟩
 ·exact keep b o (neL b o e) hb (neC b o e hx) (I.base.keep b o e n hb hx) (I.base.free b o e n hx)
 ·obtain ⟨sl,e1⟩:=I.base.slot b o e n hb hx;obtain ⟨sl',e2⟩:=slot b _ (neL b o e) hb (neC b o e hx) e1 (I.base.free b o e n hx);exact ⟨sl',e2⟩
 ·obtain ⟨o',e1⟩:=I.base.there b o e hx;exact free b o' (neC b o e hx) e1 (I.base.free b o e n hx)
 ·obtain ⟨o',e1⟩:=I.base.there b o e hx;exact there b o' (neC b o e hx) e1
 ·obtain ⟨m1,e1⟩:=I.base.yo b ps e;obtain ⟨m2,e2⟩:=yo b _ e1;exact ⟨m1++m2,by rw [e2,Array.append_assoc]⟩
 ·obtain ⟨m,hn,hl⟩:=I.loc;refine ⟨m,ns m hn,fun i x v e1 e2 e3=>?_⟩;obtain ⟨u,r,l⟩:=hl i x v e1 e2 e3;refine ⟨u,r,?_⟩;rcases l with l | ⟨k,c,e,z⟩
  ·exact .inl l
  ·exact .inr ⟨k,c,e,cellK x c e _ z⟩
 ·obtain ⟨v,z⟩:=I.cell x c e;exact ⟨v,cellK x c e v z⟩
 ·obtain ⟨m,⟨o,_,_,ho,_⟩,_⟩:=I.loc;exact free _ o (fun z=>(hch _ z).2.1 rfl) ho I.free
 ·obtain ⟨v,o,ho,hd⟩:=I.cell x c e;exact free c o (fun z=>(hch c z).2.2.1 x c e rfl) ho (I.jH x c e)
 ·obtain ⟨e,n,ne,nf,d⟩:=I.pin p hp;have nch:p.1 ∉ ch:=fun z=>(hch p.1 z).2.2.2 p hp rfl;exact ⟨keep p.1 p.2 ne nf nch e n,free p.1 p.2 nch e n,ne,nf,d⟩
theorem Inv.un {t':Nat} (I:Inv X pins σ H s) (u:Un X.fs [] H H' s.heap h') (hok:HOk X.prog X.w H' h'):Inv X pins σ H' { s with heap:=h',toks:=t' }:=by
 obtain ⟨m,⟨o,es,ep,ho,r⟩,_⟩:=id I.loc;obtain ⟨sl,hL⟩:=u.any ho I.free (by simp)
 exact I.step (g':=s.gens) (d':=s.drawn) (ch:=[]) (fun _ z=>nomatch z) (fun b o _ hb _ e n=>u.keep b o e n hb (by simp)) (fun b o _ hb _ e n=>u.slot b o e n hb (by simp)) (fun b o _ e n=>u.free b o e n (by simp)) (fun b o _ e=>u.there b o e (by simp)) u.vf u.uY u.yo (fun m' hm=>by
  obtain ⟨o',es',ep',ho',r'⟩:=hm;rw [ho] at ho';cases ho'
  exact ⟨_,es',ep',hL,r'⟩) hok I.bare
theorem Inv.call {g':Array GenState} {t':Nat} {d':Drawn} {ch:List Addr} (I:Inv X pins σ H s) (u:Un (frs X.stack) ch H H' s.heap h') (hok:HOk X.prog X.w H' h') (hg:AllBare g')
  (hch:∀ b∈ch,(b∈X.ex\/X.s₀.heap.objs.size<=b)/\b≠X.env.locals/\(∀ x c,X.env.cells.lookup x=some c->c≠b)/\∀ p∈X.pn++pins,p.1≠b) :
  Inv X pins σ H' { s with heap:=h',gens:=g',drawn:=d',toks:=t' }:=by
 obtain ⟨m,⟨o,es,ep,ho,r⟩,_⟩:=id I.loc;obtain ⟨sl,hL⟩:=u.any ho I.free fun z=>(hch _ z).2.1 rfl
 exact I.step (ch:=ch) hch (fun b o hL hb hc e n=>u.keep b o e n (fun z=>(Mc.mp (I.t5 b z)).elim hL hb) hc) (fun b o _ _ hc e n=>u.any e n hc) (fun b o hc e n=>u.free b o e n hc) (fun b o hc e=>u.there b o e hc) u.vf u.uY u.yo (fun m' hm=>by
  obtain ⟨o',es',ep',ho',r'⟩:=hm;rw [ho] at ho';cases ho'
  exact ⟨_,es',ep',hL,r'⟩) hok hg
theorem Inv.turned {t':Nat} {it:Addr} (I:Inv X pins σ H s) (k:∀ b o,b≠it->s.heap.get? b=some o->h'.get? b=some o) (hn:H it=none) (hL:it≠X.env.locals)
  (h1:it∈X.ex\/X.s₀.heap.objs.size<=it) (h2:∀ x c,X.env.cells.lookup x=some c->c≠it) (h3:∀ p∈X.pn++pins,p.1≠it):Inv X pins σ H { s with heap:=h',toks:=t' }:=by
 have nit:∀ b u,H b=some u->b≠it:=fun b u e z=>by rw [z,hn] at e;cases e
 refine I.step (g':=s.gens) (d':=s.drawn) (ch:=[it]) (fun b hb=>?_) (fun b o _ _ hc e _=>k b o (fun z=>hc (by simp [z])) e) (fun b o _ _ hc e _=>⟨o.slots,k b o (fun z=>hc (by simp [z])) e⟩) (fun _ _ _ _ n=>n)
  (fun b o hc e=>⟨o,k b o (fun z=>hc (by simp [z])) e⟩) (fun _ _ e=>e) (fun _ _ _ e=>e) (fun b ps e=>⟨#[],by rw [e];simp⟩) (fun m hm=>?_) (fun b u e=>?_) I.bare
 ·have e:b=it:=by simpa using hb
  subst e;exact ⟨h1,hL,h2,h3⟩
 ·obtain ⟨o,es,ep,ho,r⟩:=hm;exact ⟨o,es,ep,k _ o (Ne.symm hL) ho,r⟩
 ·refine (I.hok b u e).mB (fun c v hc q=>k c v ?_ q) (fun _ q=>q) fun _ _ q=>q;rcases hc with z | z
  ·rw [z];exact nit b u e
  ·exact nit c _ z
theorem Inv.tok (I:Inv X pins σ H s) (t:Nat):Inv X pins σ H { s with toks:=t }:=I.un (h':=s.heap) (t':=t) Un.refl I.hok
theorem Inv.kept {t':Nat} (I:Inv X pins σ H s) (k:∀ b u,s.heap.get? b=some u->h'.get? b=some u):Inv X pins σ H { s with heap:=h',toks:=t' }:=I.un (Un.kept k) (I.hok.kept k)
theorem Inv.laid {a:Addr} {o:HO} {t':Nat} (I:Inv X pins σ H s) (k:∀ b u,s.heap.get? b=some u->h'.get? b=some u) (hp:s.heap.objs.size<=a) (new:fh X.prog X.w (upd H a o) h' a o) :
  Inv X pins σ (upd H a o) { s with heap:=h',toks:=t' }:=I.un (Un.laid k hp (I.hok.fresh hp)) (I.hok.laid k hp new)
theorem Inv.write {x e:Addr} {o:HO} {t':Nat} (I:Inv X pins σ H s) (mu:Mut (H x)) (he:e=x\/H e=some (.own x)) (k:∀ b u,b≠e->s.heap.get? b=some u->h'.get? b=some u) (heo:∃ u,h'.get? e=some u)
  (new:fh X.prog X.w (upd H x o) h' x o):Inv X pins σ (upd H x o) { s with heap:=h',toks:=t' }:=I.un (Un.write mu he k heo) (I.hok.write mu he k heo new)
theorem Inv.fC {pins':List (Addr×Obj)} (I:Inv X pins σ H s) (h:∀ p∈pins',s.heap.get? p.1=some p.2/\H p.1=none/\p.1≠X.env.locals/\p.1 ∉ X.fs/\∀ v,p.2.data≠.cell v):Inv X pins' σ H s :=
 ⟨I.ok,I.os,I.bare,I.base,I.loc,I.cell,I.free,I.jH,fun p hp=>(Nn.mp hp).elim (fun z=>I.pin p (NB _ z)) (h p),I.hok,I.len⟩
theorem sW {N:List Str} (hN:N.Nodup) {i j:Nat} {x:Str} (a:N[i]?=some x) (b:N[j]?=some x):i=j:=by
 obtain ⟨h1,e1⟩:=L5.mp a;obtain ⟨h2,e2⟩:=L5.mp b;exact (List.getElem_inj hN).mp (e1.trans e2.symm)
theorem v9 {M:Model} {A:Around} {E:Value->Shared->Prop} {i:Nat} {x:Str} {v:V} {u:Value} {Q:Unit->Shared->Prop} (I:Inv X pins σ H s) (hN:X.N.Nodup) (hi:X.N[i]?=some x) (hx:Loc X.env.scope x) (r:RelV v u)
  (h:∀ s',Inv X pins (σ.set i (some v)) H s'->(∃ a,Heap.SameBut a s.heap s'.heap/\(a=X.env.locals\/X.env.cells.lookup x=some a))->Q () s') (hf:X.fn x=true\/X.env.scope.names.lookup x=some .local:=by first | exact .inl rfl | exact .inr rfl | assumption):wpAny M A (storeName X.env x u) Q E s:=by
 obtain ⟨m,hn,hl⟩:=id I.loc;have hcls:(X.env.scope.kind==.class||(X.env.scope.kind==.module&&X.env.locals != X.env.globals))=false:=by rw [I.ok.kind];rfl
 have hiσ:i < σ.length:=by rw [I.len];exact (L5.mp hi).1
 have cne:=I.cne;have tracked:∀ {a:Addr} {h':Heap},(∃ o,s.heap.get? a=some o/\H a=none)->Heap.SameBut a s.heap h'->HOk X.prog X.w H h':=fun {a h'} ha hs b ob e=>by
  obtain ⟨_,_,hfree⟩:=ha;refine (I.hok b ob e).mB (fun c w' hc q=>(hs.2 c ?_).trans q) (fun _ q=>q) fun _ _ q=>q;rintro rfl;rcases hc with rfl | hc
  ·rw [hfree] at e;cases e
  ·rw [hfree] at hc;cases hc
 rcases hx with hk | hk
 ·refine wpAny_storeName_local hk hn (fun h' hn' hs=>?_) hcls;obtain ⟨oL,_,_,hoL,_⟩:=id hn;refine h _ ⟨I.ok,I.os,I.bare,⟨fun b o e n hb hx=>?_,fun b o e n hb hx=>?_,I.base.free,fun b o e hx=>?_,I.base.vf,I.base.uY,I.base.yo⟩,⟨_,hn',fun j y v' e1 e2 e3=>?_⟩,fun y c e=>?_,I.free,I.jH,fun p hp=>?_,tracked ⟨oL,hoL,I.free⟩ hs,by simpa using I.len⟩ ⟨_,hs,.inl rfl⟩
  ·exact (hs.2 b (MD (Md (Mf e) I.ok.above))).trans (I.base.keep b o e n hb hx)
  ·obtain ⟨sl,e1⟩:=I.base.slot b o e n hb hx;exact ⟨sl,(hs.2 b (MD (Md (Mf e) I.ok.above))).trans e1⟩
  ·obtain ⟨o',e1⟩:=I.base.there b o e hx;exact ⟨o',(hs.2 b (MD (Md (Mf e) I.ok.above))).trans e1⟩
  ·by_cases hj:j=i
   ·subst hj;rw [hi] at e1;cases e1;rw [Ma hiσ] at e2;cases e2;exact ⟨u,r,.inl ⟨hk,by simp⟩⟩
   ·rw [L0 (Ne.symm hj)] at e2;obtain ⟨u',r',q⟩:=hl j y v' e1 e2 e3;refine ⟨u',r',?_⟩;rcases q with ⟨k,e⟩ | ⟨k,c,e,z⟩
    ·refine .inl ⟨k,?_⟩;have:y≠x:=fun e=>hj (sW hN e1 (e▸hi));simp [this,e]
    ·exact .inr ⟨k,c,e,z.sameBut hs (cne y c e)⟩
  ·obtain ⟨w',z⟩:=I.cell y c e;exact ⟨w',z.sameBut hs (cne y c e)⟩
  ·obtain ⟨e,n,ne,nf,d⟩:=I.pin p hp;exact ⟨(hs.2 p.1 ne).trans e,n,ne,nf,d⟩
 ·have hfn:X.fn x=true:=by
   rcases hf with z | z
   ·exact z
   ·rw [z] at hk;cases hk
  obtain ⟨c,hc⟩:=I.ok.has x (.inl hk);obtain ⟨w',z⟩:=I.cell x c hc;refine wpAny_storeName_cell I.ok.kind hk hc z (fun h' hc' hs=>?_);obtain ⟨oc,hoc,hocd⟩:=id z;refine h { s with heap:=h' } ⟨I.ok,I.os,I.bare,⟨fun b o e n hb hx=>?_,fun b o e n hb hx=>?_,I.base.free,fun b o e hx=>?_,I.base.vf,I.base.uY,I.base.yo⟩,⟨m,hn.sameBut hs (Ne.symm (cne x c hc)),fun j y v' e1 e2 e3=>?_⟩,fun y c' e=>?_,I.free,I.jH,fun p hp=>?_,tracked ⟨oc,hoc,I.jH x c hc⟩ hs,by simpa using I.len⟩ ⟨c,hs,.inr hc⟩
  ·exact (hs.2 b (MD (Md (Mf e) (I.ok.cab x c hfn hc)))).trans (I.base.keep b o e n hb hx)
  ·obtain ⟨sl,e1⟩:=I.base.slot b o e n hb hx;exact ⟨sl,(hs.2 b (MD (Md (Mf e) (I.ok.cab x c hfn hc)))).trans e1⟩
  ·obtain ⟨o',e1⟩:=I.base.there b o e hx;exact ⟨o',(hs.2 b (MD (Md (Mf e) (I.ok.cab x c hfn hc)))).trans e1⟩
  ·by_cases hj:j=i
   ·subst hj;rw [hi] at e1;cases e1;rw [Ma hiσ] at e2;cases e2;exact ⟨u,r,.inr ⟨.inl hk,c,hc,hc'⟩⟩
   ·rw [L0 (Ne.symm hj)] at e2;obtain ⟨u',r',q⟩:=hl j y v' e1 e2 e3;refine ⟨u',r',?_⟩;rcases q with q | ⟨k,c',e,z'⟩
    ·exact .inl q
    ·refine .inr ⟨k,c',e,z'.sameBut hs ?_⟩;rintro rfl;exact hj (sW hN e1 (I.ok.inj _ _ _ e hc▸hi))
  ·by_cases hcc:c'=c
   ·subst hcc;exact ⟨_,hc'⟩
   ·obtain ⟨w2,z2⟩:=I.cell y c' e;exact ⟨w2,z2.sameBut hs hcc⟩
  ·obtain ⟨e,n,ne,nf,d⟩:=I.pin p hp;refine ⟨(hs.2 p.1 ?_).trans e,n,ne,nf,d⟩;intro q;rw [q,hoc] at e;have q':oc=p.2:=MF e;exact d w' (by rw [<- q'];exact hocd)
theorem tF {M:Model} {A:Around} {E:Value->Shared->Prop} {i:Nat} {x:Str} {v:V} {u:Value} {Q:Unit->Shared->Prop} (I:Inv X pins σ H s) (hN:X.N.Nodup) (hi:X.N[i]?=some x) (hx:Loc X.env.scope x) (r:RelV v u)
  (h:∀ s',Inv X pins (σ.set i (some v)) H s'->Q () s') (hf:X.fn x=true\/X.env.scope.names.lookup x=some .local:=by first | exact .inl rfl | exact .inr rfl | assumption):wpAny M A (storeName X.env x u) Q E s :=
 v9 I hN hi hx r (fun s' I' _=>h s' I') hf
end
abbrev XK:=Value->Option Addr->Hp->Prop
abbrev St:=List (Option V)
abbrev VK:=V->Hp->Prop
abbrev TE:=St->Hp->VK->Prop
abbrev TT:=St->Hp->(Bool->Hp->Prop)->Prop
abbrev TA:=St->Hp->(List V->Hp->Prop)->Prop
structure Ends where
 nx:St->Hp->Prop
 rt:VK
 bk:St->Hp->Prop:=fun _ _=>False
 ct:St->Hp->Prop:=fun _ _=>False
abbrev TS:=Ends->St->Hp->Prop
def EP (X:Cx) (pins:List (Addr×Obj)) (σ:St) (Q:VK) (u:Value) (s':Shared):Prop:=∃ v H',Inv X pins σ H' s'/\RelV v u/\Q v H'
def TP (X:Cx) (pins:List (Addr×Obj)) (σ:St) (Q:Bool->Hp->Prop) (b:Bool) (s':Shared):Prop:=∃ H',Inv X pins σ H' s'/\Q b H'
def AP (X:Cx) (pins:List (Addr×Obj)) (σ:St) (Q:List V->Hp->Prop) (us:List Value) (s':Shared):Prop:=∃ vs H',Inv X pins σ H' s'/\Vals vs us/\Q vs H'
def SP (X:Cx) (pins:List (Addr×Obj)) (D:Ends) (f:Flow) (s':Shared):Prop :=
 match f with
 | .next=>∃ σ' H',Inv X pins σ' H' s'/\D.nx σ' H'
 | .brk=>∃ σ' H',Inv X pins σ' H' s'/\D.bk σ' H'
 | .cont=>∃ σ' H',Inv X pins σ' H' s'/\D.ct σ' H'
 | .ret u=>∃ v σ' H',Inv X pins σ' H' s'/\RelV v u/\D.rt v H'
def PE (X:Cx) (e:Expr) (t:TE):Prop :=
 ∀ (pins:List (Addr×Obj)) (s:Shared) (σ:St) (H:Hp) (Q:VK),Inv X pins σ H s->t σ H Q->wpAny (model X.prog X.w) X.A (eval e X.env) (EP X pins σ Q) X.xe s
def PT (X:Cx) (e:Expr) (t:TT):Prop :=
 ∀ (pins:List (Addr×Obj)) (s:Shared) (σ:St) (H:Hp) (Q:Bool->Hp->Prop),Inv X pins σ H s->t σ H Q->wpAny (model X.prog X.w) X.A (isTrue e X.env (eval e X.env)) (TP X pins σ Q) X.xe s
def PW (X:Cx) (e:Expr) (t:TT):Prop :=
 ∀ (whole:Sem Value) (pins:List (Addr×Obj)) (s:Shared) (σ:St) (H:Hp) (Q:Bool->Hp->Prop),Inv X pins σ H s->t σ H Q->wpAny (model X.prog X.w) X.A (isTrue e X.env whole) (TP X pins σ Q) X.xe s
theorem PW.pt {X:Cx} {e:Expr} {t:TT} (h:PW X e t):PT X e t:=h _
def PA (X:Cx) (es:List Expr) (t:TA):Prop :=
 ∀ (pos:Pos) (pins:List (Addr×Obj)) (s:Shared) (σ:St) (H:Hp) (Q:List V->Hp->Prop),Inv X pins σ H s->t σ H Q->wpAny (model X.prog X.w) X.A (spliced (backTo pos (starEach es X.env))) (AP X pins σ Q) X.xe s
def PS (X:Cx) (st:Stmt) (t:TS):Prop :=
 ∀ (pins:List (Addr×Obj)) (s:Shared) (σ:St) (H:Hp) (D:Ends),Inv X pins σ H s->t D σ H->wpAny (model X.prog X.w) X.A (exec st X.env) (SP X pins D) X.xe s
def PSs (X:Cx) (st:List Stmt) (t:TS):Prop :=
 ∀ (pins:List (Addr×Obj)) (s:Shared) (σ:St) (H:Hp) (D:Ends),Inv X pins σ H s->t D σ H->wpAny (model X.prog X.w) X.A (execs st X.env) (SP X pins D) X.xe s
theorem thn {α:Type} {t:Sem α} {Q Q':α->Shared->Prop} {M:Model} {A:Around} {E:Value->Shared->Prop} {s:Shared} (h:wpAny M A t Q E s) (hQ:∀ a s,Q a s->Q' a s):wpAny M A t Q' E s:=ME h hQ fun _ _ x=>x
end L2
namespace L2
open PySem PySem.Spec PyProof.Rows
section
variable {X:Cx}
theorem bin {a b:Expr} {ta tb:TE} (ha:PE X a ta) (hb:PE X b tb) {pins:List (Addr×Obj)} {s:Shared} {σ:St} {H:Hp} {R:V->V->Hp->Prop} (I:Inv X pins σ H s) (h:ta σ H fun x H1=>tb σ H1 fun y H2=>R x y H2)
  {α:Type} {Q:α->Shared->Prop} {f:Value->Value->Sem α}
  (hf:∀ v u s2 x y H2,Inv X pins σ H2 s2->RelV x v->RelV y u->R x y H2->wpAny (model X.prog X.w) X.A (f v u) Q X.xe s2) :
  wpAny (model X.prog X.w) X.A (eval a X.env) (fun v s₁=>wpAny (model X.prog X.w) X.A (eval b X.env) (fun u s₂=>wpAny (model X.prog X.w) X.A (f v u) Q X.xe s₂) X.xe s₁) X.xe s:=by
 refine thn (ha pins s σ H _ I h) fun v s1 ⟨x,H1,I1,r1,q1⟩=>?_;refine thn (hb pins s1 σ H1 _ I1 q1) fun u s2 ⟨y,H2,I2,r2,q2⟩=>?_;exact hf v u s2 x y H2 I2 r1 r2 q2
def bE (i:Nat):TE:=fun σ H Q=>∃ v,σ[i]?=some (some v)/\Q v H
def tC (v:V):TE:=fun _ H Q=>Q v H
theorem Fm {i:Nat} {x:Str} {pos:Pos} (hN:X.N[i]?=some x) (hv:Vis X.env.scope x) (hd:(x==("__debug__" : Str))=false:=by decide) (hcd:(x==("__classdict__" : Str))=false:=by decide):PE X (.Name x pos) (bE i):=by
 intro pins s σ H Q I h;obtain ⟨v,e,h⟩:=h;obtain ⟨m,hn,hl⟩:=I.loc;obtain ⟨u,r,l⟩:=hl i x v hN e hv;have fin:EP X pins σ Q u s:=⟨v,H,I,r,h⟩;rcases l with ⟨hk,hm⟩ | ⟨hk,c,hc,hcell⟩
 ·exact wpAny_Name (wpAny_loadName_local I.ok.kind hk hn hm fin) hd
 ·rcases hk with hk | hk
  ·exact wpAny_Name (wpAny_loadName_cell I.ok.kind hk hc hcell fin) hd
  ·exact wpAny_Name (wpAny_loadName_free I.ok.kind hk hc hcell fin hcd) hd
theorem Ew {i j pos}:PE X (.Constant (.int i) j pos) (tC (.int i)):=fun _ _ _ H _ I h=>wpAny_Constant_int ⟨.int i,H,I.tok _,⟨_,rfl⟩,h⟩
theorem Iq {b j pos}:PE X (.Constant (.bool b) j pos) (tC (.bl b)):=fun _ _ _ H _ I h=>Constant_bool ⟨.bl b,H,I,rfl,h⟩
theorem DH {j pos}:PE X (.Constant .none j pos) (tC .non):=fun _ _ _ H _ I h=>Constant_none ⟨.non,H,I,rfl,h⟩
theorem C8 {x j pos}:PE X (.Constant (.str x) j pos) (tC (.str x)):=fun _ _ _ H _ I h=>Calls.Constant_str ⟨.str x,H,I.tok _,⟨_,rfl⟩,h⟩
def Gl (X:Cx) (x:Str):Prop:=X.env.kindOf x=some .globalImplicit
theorem qI {E:Value->Shared->Prop} {pins:List (Addr×Obj)} {s:Shared} {σ:St} {H:Hp} {x:Str} {u:Value} {pos:Pos} {Q:Value->Shared->Prop} (I:Inv X pins σ H s) (hg:Gl X x) (hm:X.mg x=some u) (h:Q u s)
  (hd:(x==("__debug__" : Str))=false:=by decide):wpAny (model X.prog X.w) X.A (eval (.Name x pos) X.env) Q E s :=
 Calls.Name_function_global I.ok.kind hg (Calls.loadGlobal_global (by rw [I.ok.glob];exact I.mod.glob.keeps I.bk) hm h) hd
theorem pT {E:Value->Shared->Prop} {pins:List (Addr×Obj)} {s:Shared} {σ:St} {H:Hp} {x:Str} {u:Value} {pos:Pos} {Q:Value->Shared->Prop} (I:Inv X pins σ H s) (hg:Gl X x) (hm:X.mg x=none) (hv:bootBuiltins x=some u) (h:Q u s)
  (hn:x ≠ "__name__" := by decide) (hd:(x==("__debug__" : Str))=false:=by decide):wpAny (model X.prog X.w) X.A (eval (.Name x pos) X.env) Q E s:=by
 obtain ⟨mb,h1,h2⟩:=I.mod.blt;exact Calls.Name_function_global I.ok.kind hg (Calls.loadGlobal_builtin (by rw [I.ok.glob];exact I.mod.glob.keeps I.bk) hm (by rw [I.ok.blt];exact h1.keeps I.bk) ((h2 x hn).trans hv) h) hd
theorem BF {x:Str} {v:V} {u:Value} {pos:Pos} (hg:Gl X x) (hm:X.mg x=some u) (r:RelV v u) (hd:(x==("__debug__" : Str))=false:=by decide):PE X (.Name x pos) (tC v) :=
 fun _ _ _ H _ I h=>qI I hg hm ⟨v,H,I,r,h⟩ hd
theorem Cn {x:Str} {v:V} {u:Value} {pos:Pos} (hg:Gl X x) (hm:X.mg x=none) (hv:bootBuiltins x=some u) (r:RelV v u) (hn:x ≠ "__name__" := by decide) (hd:(x==("__debug__" : Str))=false:=by decide):PE X (.Name x pos) (tC v) :=
 fun _ _ _ H _ I h=>pT I hg hm hv ⟨v,H,I,r,h⟩ hn hd
variable {a b:Expr} {ta tb:TE} {pos:Pos}
def PC (X:Cx) (op:CmpOp) (a b:Expr) (t:TE):Prop :=
 ∀ (pins:List (Addr×Obj)) (s:Shared) (σ:St) (H:Hp) (Q:VK),Inv X pins σ H s->t σ H Q ->
  wpAny (model X.prog X.w) X.A (eval a X.env) (fun v s₁=>wpAny (model X.prog X.w) X.A (eval b X.env) (fun u s₂=>wpAny (model X.prog X.w) X.A (compareOp op v u) (EP X pins σ Q) X.xe s₂) X.xe s₁) X.xe s
theorem yt (b:Expr) {op:CmpOp} (h:op≠.In) (h2:op≠.NotIn):behindInMarks op b=false:=by
 have e1:(op==CmpOp.In)=false:=by cases op <;> first | rfl | exact absurd rfl h
 have e2:(op==CmpOp.NotIn)=false:=by cases op <;> first | rfl | exact absurd rfl h2
 cases b <;> simp [behindInMarks,e1,e2]
def tB (t:TE):TT:=fun σ H Q=>t σ H fun x H1=>∃ c,x=.bl c/\Q c H1
theorem Kh {op:CmpOp} {t:TE} (h:PC X op a b t) (h1:behindInMarks op b=false:=by first | exact yt _ (by decide) (by decide) | rfl):PT X (.Compare a [op] [b] pos) (tB t):=by
 intro pins s σ H Q I hw;refine wpAny_isTrue_Compare1 (thn (h pins s σ H _ I hw) fun v s1 h1=>thn h1 fun u s2 h2=>thn h2 fun c s3 ⟨x,H1,I1,r1,q1⟩=>?_) h1;obtain ⟨d,rfl,q⟩:=q1;cases r1;exact MU ⟨H1,I1,q⟩
theorem Ey {e:Expr} {t:TE} (h:PE X e t) (he:∀ whole,isTrue e X.env whole=(do let v<-whole;standAt e.pos;holding [v] (truthy v)):=by intro _;rfl):PT X e (tB t):=by
 intro pins s σ H Q I hw;refine isTrue_plain (thn (h pins s σ H _ I hw) fun v s1 ⟨x,H1,I1,r1,q1⟩=>?_) (he _);obtain ⟨d,rfl,q⟩:=q1;cases r1;exact MU ⟨H1,I1,q⟩
variable {tA tB':TT} {rest:List Expr}
def Ic (t u:TT):TT:=fun σ H Q=>t σ H fun c H1=>if c=true then u σ H1 Q else Q false H1
def tOr (t u:TT):TT:=fun σ H Q=>t σ H fun c H1=>if c=true then Q true H1 else u σ H1 Q
def Gx (t:TT):TT:=fun σ H Q=>t σ H fun c H1=>Q (!c) H1
theorem pw_and1 (ha:PT X a tA):PW X (.BoolOp .And [a] pos) tA:=by
 intro wh pins s σ H Q I h;refine isTrue_and (thn (ha pins s σ H Q I h) fun c s1 e=>?_);cases c with
 | true=>exact isTrue_and_nil e
 | false=>exact e
theorem pw_or1 (ha:PT X a tA):PW X (.BoolOp .Or [a] pos) tA:=by
 intro wh pins s σ H Q I h;refine isTrue_or (thn (ha pins s σ H Q I h) fun c s1 e=>?_);cases c with
 | false=>exact isTrue_or_nil e
 | true=>exact e
theorem pw_and (ha:PT X a tA) (hb:PW X (.BoolOp .And (b :: rest) pos) tB'):PW X (.BoolOp .And (a :: b :: rest) pos) (Ic tA tB'):=by
 intro wh pins s σ H Q I h;refine isTrue_and (thn (ha pins s σ H _ I h) fun c s1 ⟨H1,I1,q1⟩=>?_);cases c with
 | true=>exact hb wh pins s1 σ H1 Q I1 q1
 | false=>exact ⟨H1,I1,q1⟩
theorem pw_or (ha:PT X a tA) (hb:PW X (.BoolOp .Or (b :: rest) pos) tB'):PW X (.BoolOp .Or (a :: b :: rest) pos) (tOr tA tB'):=by
 intro wh pins s σ H Q I h;refine isTrue_or (thn (ha pins s σ H _ I h) fun c s1 ⟨H1,I1,q1⟩=>?_);cases c with
 | true=>exact ⟨H1,I1,q1⟩
 | false=>exact hb wh pins s1 σ H1 Q I1 q1
theorem E4 (ha:PT X a tA):PT X (.UnaryOp .Not a pos) (Gx tA):=by
 intro pins s σ H Q I h;exact isTrue_not (ha pins s σ H (fun c H1=>Q (!c) H1) I h)
def AY (ta tb:TE):TE:=fun σ H Q=>ta σ H fun x H1=>∃ c,x=.bl c/\if c=true then tb σ H1 Q else Q (.bl false) H1
def IW (ta tb:TE):TE:=fun σ H Q=>ta σ H fun x H1=>∃ c,x=.bl c/\if c=true then Q (.bl true) H1 else tb σ H1 Q
def BX (ta:TE):TE:=fun σ H Q=>ta σ H fun x H1=>∃ c,x=.bl c/\Q (.bl (!c)) H1
theorem Er {op} {t:TE} (h:PE X a t):PE X (.BoolOp op [a] pos) t:=fun pins s σ H Q I hw=>BoolOp_one (h pins s σ H Q I hw)
theorem DE (ha:PE X a ta) (hb:PE X (.BoolOp .And (b :: rest) pos) tb):PE X (.BoolOp .And (a :: b :: rest) pos) (AY ta tb):=by
 intro pins s σ H Q I h;refine BoolOp_and (thn (ha pins s σ H _ I h) fun v s1 ⟨x,H1,I1,r1,q1⟩=>?_);obtain ⟨c,rfl,q1⟩:=q1;cases r1;refine MU ?_;cases c with
 | true=>exact hb pins s1 σ H1 Q I1 q1
 | false=>exact ⟨.bl false,H1,I1,rfl,q1⟩
theorem Ja (ha:PE X a ta) (hb:PE X (.BoolOp .Or (b :: rest) pos) tb):PE X (.BoolOp .Or (a :: b :: rest) pos) (IW ta tb):=by
 intro pins s σ H Q I h;refine BoolOp_or (thn (ha pins s σ H _ I h) fun v s1 ⟨x,H1,I1,r1,q1⟩=>?_);obtain ⟨c,rfl,q1⟩:=q1;cases r1;refine MU ?_;cases c with
 | false=>exact hb pins s1 σ H1 Q I1 q1
 | true=>exact ⟨.bl true,H1,I1,rfl,q1⟩
theorem FP (ha:PE X a ta):PE X (.UnaryOp .Not a pos) (BX ta):=by
 intro pins s σ H Q I h;refine UnaryOp_ (thn (ha pins s σ H _ I h) fun v s1 ⟨x,H1,I1,r1,q1⟩=>?_);obtain ⟨c,rfl,q1⟩:=q1;cases r1;exact not_of (MU ⟨.bl (!c),H1,I1,rfl,q1⟩)
def tIf (t:TT) (ta tb:TE):TE:=fun σ H Q=>t σ H fun c H1=>if c=true then ta σ H1 Q else tb σ H1 Q
theorem zN {c:Expr} (hc:PT X c tA) (ha:PE X a ta) (hb:PE X b tb):PE X (.IfExp c a b pos) (tIf tA ta tb):=by
 intro pins s σ H Q I h;refine wpAny_IfExp (thn (hc pins s σ H _ I h) fun d s1 ⟨H1,I1,q1⟩=>?_);cases d with
 | true=>exact ha pins s1 σ H1 Q I1 q1
 | false=>exact hb pins s1 σ H1 Q I1 q1
end
end L2
namespace L2
open PySem PySem.Spec PyProof.Rows
def SqL (K:Fg) (H:Hp) (a:Addr) (xs:List V):Prop :=
 Rd H a (.lst xs) \/
  ∃ (o:Obj) (its:Array Value) (n:Nat),K.lookup a=some o/\o.cls=.type "list" /\ o.dict=none/\o.data=.seq its n/\its.size<=sizeLine/\Vals xs its.toList
def SqT (K:Fg) (H:Hp) (a:Addr) (xs:List V):Prop :=
 Rd H a (.tup xs) \/
  ∃ (o:Obj) (its:Array Value) (n:Nat),K.lookup a=some o/\o.cls=.type "tuple" /\ o.data=.seq its n/\its.size<=sizeLine/\Vals xs its.toList
noncomputable def LR:Value->Option V
 | .none=>some .non
 | .bool b=>some (.bl b)
 | .int i _=>some (.int i)
 | .str x _=>some (.str x)
 | .bytes b _=>some (.byt b)
 | .float b _=>some (.flt b)
 | .ref a=>some (.ref a)
 | .type n=>some (.ty n)
 | _=>none
theorem RelV.abs {x:V} {u:Value} (r:RelV x u):LR u=some x:=by
 cases x with
 | non=>cases r;rfl
 | bl _=>cases r;rfl
 | int _=>obtain ⟨t,rfl⟩:=r;rfl
 | str _=>obtain ⟨t,rfl⟩:=r;rfl
 | byt _=>obtain ⟨t,rfl⟩:=r;rfl
 | flt _=>obtain ⟨t,rfl⟩:=r;rfl
 | ref _=>cases r;rfl
 | ty _=>cases r;rfl
theorem RelV.inj {x y:V} {u:Value} (r:RelV x u) (q:RelV y u):x=y:=MF (r.abs.symm.trans q.abs)
theorem Vals.inj:∀ {xs ys:List V} {us:List Value},Vals xs us->Vals ys us->xs=ys
 | _,_,_,.nil,.nil=>rfl
 | _,_,_,.cons r t,.cons r' t'=>by rw [r.inj r',Vals.inj t t']
section
variable {X:Cx} {pins:List (Addr×Obj)} {σ:St} {H:Hp} {s:Shared} {a:Addr} {xs ys:List V}
theorem SqT.of {K:Fg} (h:H a=some (.tup xs)):SqT K H a xs:=.inl (.inl h)
theorem Inv.list (I:Inv X pins σ H s) (h:SqL X.K H a xs):∃ its:List Value,Vals xs its/\PlainL s.heap a its.toArray/\xs.length<=sizeLine:=by
 rcases h with h | ⟨o,its,n,hk,hc,hd,hs,hz,r⟩
 ·obtain ⟨z,its,n,r,e⟩:=h.ok I.hok;exact ⟨its,r,⟨_,n,e,rfl,rfl,rfl⟩,z⟩
 ·refine ⟨its.toList,r,⟨o,n,I.kIn a o hk,hc,hd,by simpa using hs⟩,?_⟩;have e:=r.length;simp only [Array.length_toList] at e;omega
theorem Inv.tuple (I:Inv X pins σ H s) (h:SqT X.K H a xs):∃ its:List Value,Vals xs its/\IsTup s.heap a its.toArray/\xs.length<=sizeLine:=by
 rcases h with h | ⟨o,its,n,hk,hc,hs,hz,r⟩
 ·obtain ⟨z,its,r,p⟩:=h.ok I.hok;exact ⟨its,r,p,z⟩
 ·refine ⟨its.toList,r,⟨o,I.kIn a o hk,hc,n,by simpa using hs⟩,?_⟩;have e:=r.length;simp only [Array.length_toList] at e;omega
theorem Inv.yY (I:Inv X pins σ H s) (h:SqL X.K H a xs) (h':SqL X.K H a ys):xs=ys:=by
 obtain ⟨its,r,⟨o,n,e,_,_,d⟩,_⟩:=I.list h;obtain ⟨its',r',⟨o',n',e',_,_,d'⟩,_⟩:=I.list h';rw [e] at e';cases e';rw [d] at d';injection d' with d1 _;have:its=its':=by simpa using congrArg Array.toList d1
 subst this;exact r.inj r'
theorem Inv.xD (I:Inv X pins σ H s) (h:SqT X.K H a xs) (h':SqT X.K H a ys):xs=ys:=by
 obtain ⟨its,r,⟨o,e,_,n,d⟩,_⟩:=I.tuple h;obtain ⟨its',r',⟨o',e',_,n',d'⟩,_⟩:=I.tuple h';rw [e] at e';cases e';rw [d] at d';injection d' with d1 _;have:its=its':=by simpa using congrArg Array.toList d1
 subst this;exact r.inj r'
end
abbrev Cx.yk (X:Cx) (E:Value->Shared->Prop):Cx:={ X with xe:=E }
abbrev Cx.nox (X:Cx):Cx:=X.yk fun _ _=>False
theorem Cx.Ok.yk {X:Cx} (ok:X.Ok) (E:Value->Shared->Prop):(X.yk E).Ok :=
 ⟨ok.mod,ok.kind,ok.glob,ok.blt,ok.above,ok.inj,ok.has,ok.cab,ok.hd,ok.frames,ok.stk,ok.exf,ok.bs,ok.bsz,ok.CV,ok.Gh,ok.vm,ok.frf⟩
theorem Cx.Ok.i0 {X:Cx} {E:Value->Shared->Prop} (ok:(X.yk E).Ok):X.Ok :=
 ⟨ok.mod,ok.kind,ok.glob,ok.blt,ok.above,ok.inj,ok.has,ok.cab,ok.hd,ok.frames,ok.stk,ok.exf,ok.bs,ok.bsz,ok.CV,ok.Gh,ok.vm,ok.frf⟩
section
variable {X:Cx} {pins:List (Addr×Obj)} {σ:St} {H:Hp} {s:Shared} {E:Value->Shared->Prop}
theorem Inv.yk (I:Inv X pins σ H s) (E:Value->Shared->Prop):Inv (X.yk E) pins σ H s:=⟨I.ok.yk E,I.os,I.bare,I.base,I.loc,I.cell,I.free,I.jH,I.pin,I.hok,I.len⟩
theorem Inv.i0 (I:Inv (X.yk E) pins σ H s):Inv X pins σ H s:=⟨I.ok.i0,I.os,I.bare,I.base,I.loc,I.cell,I.free,I.jH,I.pin,I.hok,I.len⟩
theorem SP.i0 {D:Ends} {f:Flow} {s':Shared} (h:SP (X.yk E) pins D f s'):SP X pins D f s':=by
 cases f with
 | next=>obtain ⟨σ',H',I,q⟩:=h;exact ⟨σ',H',I.i0,q⟩
 | brk=>obtain ⟨σ',H',I,q⟩:=h;exact ⟨σ',H',I.i0,q⟩
 | cont=>obtain ⟨σ',H',I,q⟩:=h;exact ⟨σ',H',I.i0,q⟩
 | ret u=>obtain ⟨v,σ',H',I,r,q⟩:=h;exact ⟨v,σ',H',I.i0,r,q⟩
theorem PSs.nox {st:List Stmt} {t:TS} (h:PSs X.nox st t):PSs X st t:=fun pins s σ H D I hw =>
 ME (h pins s σ H D (I.yk _) hw) (fun _ _ q=>q.i0) fun _ _ z=>False.elim z
end
section
variable {X:Cx} {st:Stmt} {rest:List Stmt} {t u:TS} {e:Expr} {te:TE} {pos:Pos}
def lg:TS:=fun D σ H=>D.nx σ H
def mh (t u:TS):TS:=fun D σ H=>t { D with nx:=u D } σ H
theorem BC:PSs X [] lg:=fun _ _ σ H _ I h=>wpAny_execs_nil ⟨σ,H,I,h⟩
theorem zI (h1:PS X st t) (h2:PSs X rest u):PSs X (st :: rest) (mh t u):=by
 intro pins s σ H D I h;refine wpAny_execs_cons (thn (h1 pins s σ H { D with nx:=u D } I h) fun f s1 q=>?_);cases f with
 | next =>
  obtain ⟨σ',H',I',q⟩:=q;exact h2 pins s1 σ' H' D I' q
 | ret v=>exact q
 | brk=>exact q
 | cont=>exact q
theorem CG (h1:PS X st t):PSs X [st] t:=by
 intro pins s σ H D I h;refine wpAny_execs_cons (thn (h1 pins s σ H D I h) fun f s1 q=>?_);cases f with
 | next=>exact wpAny_execs_nil q
 | ret v=>exact q
 | brk=>exact q
 | cont=>exact q
def Eg:TS:=fun D σ H=>D.bk σ H
def JQ:TS:=fun D σ H=>D.ct σ H
theorem Inv.quiet {pins:List (Addr×Obj)} {σ:St} {H:Hp} {s:Shared} (I:Inv X pins σ H s):interactive X.env=false:=by simp [interactive,I.ok.kind]
def ud (te:TE):TS:=fun D σ H=>te σ H fun _ H1=>D.nx σ H1
theorem Cc (he:PE X e te) (hs:swapsWith e none pos.line X.env=pure false:=by rfl):PS X (.Expr e pos) (ud te):=by
 intro pins s σ H D I h;exact wpAny_Expr_any (thn (he pins s σ H _ I h) fun v s1 ⟨x,H1,I1,r1,q1⟩=>⟨σ,H1,I1,q1⟩) I.quiet hs
def vg (te:TE):TS:=fun D σ H=>te σ H D.rt
theorem Dj (he:PE X e te):PS X (.Return (some e) pos) (vg te):=by
 intro pins s σ H D I h;exact wpAny_Return_some (thn (he pins s σ H _ I h) fun v s1 ⟨x,H1,I1,r1,q1⟩=>⟨x,σ,H1,I1,r1,q1⟩)
def Hj:TS:=fun D _ H=>D.rt .non H
def wq (c:TT) (t u:TS):TS:=fun D σ H=>c σ H fun b H1=>if b=true then t D σ H1 else u D σ H1
theorem Ij {c:Expr} {a b:List Stmt} {tc:TT} (hc:PT X c tc) (ha:PSs X a t) (hb:PSs X b u):PS X (.If c a b pos) (wq tc t u):=by
 intro pins s σ H D I h;refine wpAny_If (thn (hc pins s σ H _ I h) fun d s1 ⟨H1,I1,q1⟩=>?_);cases d with
 | true=>exact ha pins s1 σ H1 D I1 q1
 | false=>exact hb pins s1 σ H1 D I1 q1
def wA:TS:=fun _ _ _=>False
end
abbrev TG:=V->St->Hp->(St->Hp->Prop)->Prop
abbrev TGs:=List V->St->Hp->(St->Hp->Prop)->Prop
def PG (X:Cx) (target:Expr) (t:TG):Prop :=
 ∀ (pins:List (Addr×Obj)) (s:Shared) (σ:St) (H:Hp) (v:V) (u:Value) (Q:St->Hp->Prop),Inv X pins σ H s->RelV v u->t v σ H Q ->
  wpAny (model X.prog X.w) X.A (assign target X.env u) (fun _ s'=>∃ σ' H',Inv X pins σ' H' s'/\Q σ' H') X.xe s
def PGs (X:Cx) (ts:List Expr) (t:TGs):Prop :=
 ∀ (pins:List (Addr×Obj)) (s:Shared) (σ:St) (H:Hp) (vs:List V) (us:List Value) (Q:St->Hp->Prop),Inv X pins σ H s->Vals vs us->t vs σ H Q ->
  wpAny (model X.prog X.w) X.A (assignInOrder ((assignEach ts X.env).map (·.2)) us) (fun _ s'=>∃ σ' H',Inv X pins σ' H' s'/\Q σ' H') X.xe s
abbrev Gr:=V->V->V->Hp->(Hp->Prop)->Prop
def Je (X:Cx) (t:Gr):Prop :=
 ∀ (pins:List (Addr×Obj)) (s:Shared) (σ:St) (H:Hp) (o i v:V) (ov iv u:Value) (Q:Hp->Prop),Inv X pins σ H s->RelV o ov->RelV i iv->RelV v u->t o i v H Q ->
  wpAny (model X.prog X.w) X.A (setItem ov iv u) (fun _ s'=>∃ H',Inv X pins σ H' s'/\Q H') X.xe s
section
variable {X:Cx} {pos:Pos}
def cy (i:Nat):TG:=fun v σ H Q=>Q (σ.set i (some v)) H
theorem kq {i:Nat} {x:Str} (hN:X.N.Nodup) (hi:X.N[i]?=some x) (hx:Loc X.env.scope x) (hf:X.fn x=true\/X.env.scope.names.lookup x=some .local:=by first | exact .inl rfl | exact .inr rfl | assumption):PG X (.Name x pos) (cy i):=by
 intro pins s σ H v u Q I r h;exact wpAny_assign_Name (tF I hN hi hx r (fun s' I'=>⟨_,H,I',h⟩) hf)
def GH:TGs:=fun vs σ H Q=>vs=[]/\Q σ H
def zM (t:TG) (u:TGs):TGs:=fun vs σ H Q=>∃ v r,vs=v :: r/\t v σ H fun σ' H'=>u r σ' H' Q
theorem vE:PGs X [] GH:=by
 intro pins s σ H vs us Q I r h;obtain ⟨e,h⟩:=h;subst e;cases r;exact assignInOrder_nil ⟨σ,H,I,h⟩
theorem tY {e:Expr} {es:List Expr} {t:TG} {u:TGs} (h1:PG X e t) (h2:PGs X es u)
  (hs:(assignEach (e :: es) X.env).map (·.2)=assign e X.env :: (assignEach es X.env).map (·.2):=by rfl):PGs X (e :: es) (zM t u):=by
 intro pins s σ H vs us Q I r h;obtain ⟨v,vr,e1,h⟩:=h;subst e1;cases r with
 | cons r rr =>
  rw [hs];refine assignInOrder_cons (thn (h1 pins s σ H _ _ _ I r h) fun _ s1 ⟨σ1,H1,I1,q1⟩=>?_);exact h2 pins s1 σ1 H1 _ _ Q I1 rr q1
def GJ (K:Fg) (n:Nat) (t:TGs):TG:=fun v σ H Q=>∃ a xs,v=.ref a/\SqT K H a xs/\xs.length=n/\t xs σ H Q
theorem Ae {es:List Expr} {k:Nat} {t:TGs} {n:Nat} (hc:X.calm=true) (h:PGs X es t)
  (hn:(assignEach es X.env).length=n:=by rfl) (hst:(assignEach es X.env).findIdx? (·.1)=none:=by rfl):PG X (.Tuple es k pos) (GJ X.K n t):=by
 intro pins s σ H v u Q I r hw;obtain ⟨a,xs,e1,hq,hl,hw⟩:=hw;subst e1;cases r;obtain ⟨its,rv,ht,hz⟩:=I.tuple hq;refine assign_Tuple_tuple (I.ok.hd hc) ht (by simp [hn,<-hl,rv.length]) hst fun h' hx=>?_;have I1:Inv X pins σ H { s with heap:=h' }:=I.kept (t':=s.toks) fun b o e=>hx b o (MD (Mf e)) e;exact h pins _ σ H xs _ Q I1 (by simpa using rv) hw
def KN (to ti:TE) (t:Gr):TG:=fun v σ H Q=>to σ H fun o H1=>ti σ H1 fun i H2=>t o i v H2 fun H3=>Q σ H3
theorem DG {o i:Expr} {to ti:TE} {t:Gr} (ho:PE X o to) (hi:PE X i ti) (hs:Je X t)
  (ha:∀ v,assign (.Subscript o i pos) X.env v=(do
   let ov<-holding [v] (eval o X.env)
   let iv<-holding [v,ov] (eval i X.env)
   standAt pos
   holding [v,ov,iv] (setItem ov iv v)
   release [v,ov,iv] []):=by intro _;rfl):PG X (.Subscript o i pos) (KN to ti t):=by
 intro pins s σ H v u Q I r h;rw [ha];refine Mp (wpAny_holding (thn (ho pins s σ H _ I h) fun ov s1 ⟨x,H1,I1,r1,q1⟩=>?_));refine Mp (wpAny_holding (thn (hi pins s1 σ H1 _ I1 q1) fun iv s2 ⟨y,H2,I2,r2,q2⟩=>?_));refine Mp (wpAny_standAt (Mp (wpAny_holding (thn (hs pins s2 σ H2 x y v ov iv u _ I2 r1 r2 r q2) fun _ s3 ⟨H3,I3,q3⟩=>?_))));exact wpAny_release ⟨σ,H3,I3,q3⟩
def om (te:TE) (g:TG):TS:=fun D σ H=>te σ H fun x H1=>g x σ H1 D.nx
theorem Ga {tg e:Expr} {te:TE} {g:TG} (he:PE X e te) (hg:PG X tg g) (hs:swapsWithSole [tg] e pos.line X.env=pure false:=by rfl) (hw:swappedStores [tg] e X.env=pure none:=by rfl)
  (h1:(assignEach [tg] X.env).map (·.2)=[assign tg X.env]:=by rfl):PS X (.Assign [tg] e pos) (om te g):=by
 intro pins s σ H D I h;refine wpAny_Assign_stores (thn (he pins s σ H _ I h) fun v s1 ⟨x,H1,I1,r1,q1⟩=>?_) hs hw;rw [h1];exact thn (hg pins s1 σ H1 x v _ I1 r1 q1) fun _ s2 q=>q
theorem FI {i:Nat} {x:Str} {e:Expr} {te:TE} {pos':Pos} (hN:X.N.Nodup) (hi:X.N[i]?=some x) (hx:Loc X.env.scope x) (he:PE X e te) (hs:swapsWith e (some (.Name x pos')) pos.line X.env=pure false:=by rfl) (hf:X.fn x=true\/X.env.scope.names.lookup x=some .local:=by first | exact .inl rfl | exact .inr rfl | assumption) :
  PS X (.Assign [.Name x pos'] e pos) (om te (cy i)):=by
 intro pins s σ H D I h;refine wpAny_Assign_Name (thn (he pins s σ H _ I h) fun v s1 ⟨y,H1,I1,r1,q1⟩=>?_) hs;exact tF I1 hN hi hx r1 (fun s2 I2=>⟨_,H1,I2,q1⟩) hf
end
section
variable {X:Cx} {pos:Pos}
def xI (c:TT) (tb:TS):TS:=fun D σ H=>∃ W:Nat->St->Hp->Prop,(∃ m,W m σ H)/\∀ m σ H,W m σ H ->
 c σ H fun b H1=>if b=true then ∃ N:St->Hp->Prop,(∀ σ' H',N σ' H'->∃ m',m' < m/\W m' σ' H')/\tb { D with nx:=N,ct:=N,bk:=D.nx } σ H1 else D.nx σ H1
theorem yJ {c:Expr} {body:List Stmt} {tc:TT} {tb:TS} (hp:PassesOwn (model X.prog X.w) X.A X.env X.xe) (hc:PT X c tc) (hb:PSs X body tb):PS X (.While c body [] pos) (xI tc tb):=by
 intro pins s σ H D I h;obtain ⟨W,⟨m0,w0⟩,turn⟩:=h;refine wpAny_While (codeAny_whileLoop (fun n s'=>∃ σ' H',Inv X pins σ' H' s'/\W n σ' H') ?_ m0 ⟨σ,H,I,w0⟩);rintro n s1 ⟨σ1,H1,I1,w1⟩;refine Nl hp (thn (hc pins s1 σ1 H1 _ I1 (turn n σ1 H1 w1)) fun b s2 ⟨H2,I2,q2⟩=>?_);cases b with
 | true =>
  obtain ⟨N,hN,q2⟩:=q2;rw [Me rfl];refine Nl hp (thn (hb pins s2 σ1 H2 _ I2 q2) fun f s3 q3=>?_);cases f with
  | next =>
   obtain ⟨σ3,H3,I3,n3⟩:=q3;obtain ⟨m',hm,w3⟩:=hN σ3 H3 n3;exact ⟨m',hm,σ3,H3,I3,w3⟩
  | cont =>
   obtain ⟨σ3,H3,I3,n3⟩:=q3;obtain ⟨m',hm,w3⟩:=hN σ3 H3 n3;exact ⟨m',hm,σ3,H3,I3,w3⟩
  | brk=>exact q3
  | ret v=>exact q3
 | false =>
  rw [Mn M3];exact wpAny_execs_nil ⟨σ1,H2,I2,q2⟩
end
structure It where
 go:Nat->Hp->Prop
 yld:Nat->Hp->V->Hp->Prop
 stop:Nat->Hp->Prop
def wm (X:Cx) (pins:List (Addr×Obj)) (H:Hp) (b:Addr):Prop :=
 H b=none/\b≠X.env.locals/\b ∉ X.fs/\(b∈X.ex\/X.s₀.heap.objs.size<=b)/\(∀ x c,X.env.cells.lookup x=some c->c≠b)/\∀ p∈X.pn++pins,p.1≠b
theorem Inv.DM {X:Cx} {pins:List (Addr×Obj)} {σ:St} {H H':Hp} {s:Shared} {b:Addr} (I:Inv X pins σ H s) (hb:s.heap.objs.size<=b) (hn:H' b=none):wm X pins H' b:=by
 refine ⟨hn,ND (Md I.lt hb),I.Gp hb,.inr (Mr I.sz hb),fun x c e z=>?_,fun p hp z=>?_⟩
 ·obtain ⟨v,q⟩:=I.cell x c e;exact absurd (Md q.lt (by rw [z];exact hb)) (Mx _)
 ·exact absurd (Md (Mf (I.pin p hp).1) (by rw [z];exact hb)) (Mx _)
structure Turn (P:Program) (w:World) (K:Fg) (tg:Expr) (J:It) (fp:List Addr) (it:Addr) (tn:Nat->Heap->Prop):Prop where
 mem:it∈fp
 obj:∀ i h,tn i h->∀ b∈fp,∃ o,h.get? b=some o/\∀ v,o.data≠.cell v
 keep:∀ i h h',tn i h->(∀ b∈fp,∀ o,h.get? b=some o->h'.get? b=some o)->tn i h'
 item:∀ (X:Cx),X.prog=P->X.w=w->X.K=K->X.calm=true->∀ (i:Nat) (pins:List (Addr×Obj)) (s:Shared) (σ:St) (H:Hp) (E:Value->Shared->Prop),Inv X pins σ H s->(∀ b∈fp,wm X pins H b)->tn i s.heap->J.go i H ->
  wpAny (model P w) X.A (pyNext (.ref it)) (fun r s1=>∃ u,r=some u /\
   wpAny (model P w) X.A (letOwnedTupleGo tg (.ref it) u) (fun _ s2=>∃ x H',Inv X pins σ H' s2/\RelV x u/\J.yld i H x H'/\tn (i+1) s2.heap/\∀ b∈fp,H' b=none) E s1) E s
 done:∀ (X:Cx),X.prog=P->X.w=w->X.K=K->X.calm=true->∀ (i:Nat) (pins:List (Addr×Obj)) (s:Shared) (σ:St) (H:Hp) (E:Value->Shared->Prop),Inv X pins σ H s->(∀ b∈fp,wm X pins H b)->tn i s.heap->J.stop i H ->
  wpAny (model P w) X.A (pyNext (.ref it)) (fun r s1=>r=none/\Inv X pins σ H s1) E s
 self:∀ (A:Around) (i:Nat) (s:Shared) (Q:Value->Shared->Prop) (E:Value->Shared->Prop),tn i s.heap->Q (.ref it) s->wpAny (model P w) A (pyIter (.ref it)) Q E s
abbrev TI:=St->Hp->(It->Hp->Prop)->Prop
def PIE (X:Cx) (pins:List (Addr×Obj)) (σ:St) (tg:Expr) (R:It->Hp->Prop) (itv:Value) (s2:Shared):Prop :=
 ∃ (it:Addr) (fp:List Addr) (tn:Nat->Heap->Prop) (J:It) (H':Hp),itv=.ref it/\Inv X pins σ H' s2/\Turn X.prog X.w X.K tg J fp it tn/\tn 0 s2.heap/\(∀ b∈fp,wm X pins H' b)/\R J H'
def PI (X:Cx) (tg iter:Expr) (wi:TI):Prop :=
 ∀ (pins:List (Addr×Obj)) (s:Shared) (σ:St) (H:Hp) (R:It->Hp->Prop),Inv X pins σ H s->wi σ H R ->
  wpAny (model X.prog X.w) X.A (eval iter X.env) (fun v s1=>wpAny (model X.prog X.w) X.A (pyIter v) (PIE X pins σ tg R) X.xe s1) X.xe s
theorem BD {M:Model} {A:Around} {E:Value->Shared->Prop} {s:Shared} {tg:Expr} {it:Addr} {u:Value} {o:Obj} {n:String} {vs:Array Value} {Q:Unit->Shared->Prop} (ho:s.heap.get? it=some o) (hc:o.cls=.type n) (hd:o.data=.fields vs)
    (hn:["enumerate", "zip", "dict_itemiterator", "dict_reverseitemiterator", "odict_iterator", "itertools.zip_longest", "itertools.pairwise"].contains n=false) (hQ:Q () s):wpAny M A (letOwnedTupleGo tg (.ref it) u) Q E s:=by
  unfold letOwnedTupleGo;cases tg <;> first
    | exact MA hQ
    | (cases u <;> first
        | exact MA hQ
        | (refine Mp (wpAny_load ho ?_)
           rw [hc,hd];show wpAny M A (if (["enumerate", "zip", "dict_itemiterator", "dict_reverseitemiterator", "odict_iterator", "itertools.zip_longest", "itertools.pairwise"].contains n&&vs[0]?==some (rawInt _))=true then _ else _) Q E s;rw [Mn (by intro h;rw [hn,Bool.false_and] at h;cases h)]
           exact MA hQ))
def Itl (K:Fg) (a:Addr):It :=
 ⟨fun i H=>∃ xs x,SqL K H a xs/\xs[i]?=some x,fun i H x H'=>H'=H/\∀ xs,SqL K H a xs->xs[i]?=some x,fun i H=>∃ xs,SqL K H a xs/\xs.length<=i⟩
def Itt (K:Fg) (a:Addr):It :=
 ⟨fun i H=>∃ xs x,SqT K H a xs/\xs[i]?=some x,fun i H x H'=>H'=H/\∀ xs,SqT K H a xs->xs[i]?=some x,fun i H=>∃ xs,SqT K H a xs/\xs.length<=i⟩
def Itr (lo:Int) (n:Nat):It:=⟨fun i _=>i < n,fun i H x H'=>H'=H/\x=.int (lo+i),fun i _=>n<=i⟩
theorem vW {P:Program} {w:World} {K:Fg} {tg:Expr} (a it:Addr):Turn P w K tg (Itl K a) [it] it (fun i h=>h.IsListIter it a i) where
 mem:=by simp
 obj:=fun i h st b hb=>by
  have e:b=it:=by simpa using hb
  subst e;obtain ⟨o,e,c,d⟩:=st;exact ⟨o,e,fun v z=>by rw [d] at z;cases z⟩
 keep:=fun i h h' st k=>st.at fun o e=>k it (by simp) o e
 item:=by
  intro X hP hw hK hc i pins s σ H E I hf st hg;subst hP hw hK;obtain ⟨xs,x,hq,hx⟩:=hg;obtain ⟨its,rv,p,hz⟩:=I.list hq;obtain ⟨u,hu,ru⟩:=rv.get hx;obtain ⟨f0,f1,f2,f3,f4,f5⟩:=hf it (by simp);refine wpAny_pyNext_list_item st p.isList (x:=u) (by simpa using hu) fun h' st' sb=>?_;have I1:Inv X pins σ H { s with heap:=h' }:=I.turned (t':=s.toks) (fun b o hb e=>(sb.2 b hb).trans e) f0 f1 f3 f4 f5;obtain ⟨o,e,c,d⟩:=id st';exact ⟨u,rfl,BD (s:={ s with heap:=h' }) e c d (by decide) ⟨x,H,I1,ru,⟨rfl,fun ys hy=>by rw [I.yY hy hq];exact hx⟩,st',fun b hb=>(hf b hb).1⟩⟩
 done:=by
  intro X hP hw hK hc i pins s σ H E I hf st hg;subst hP hw hK;obtain ⟨xs,hq,hx⟩:=hg;obtain ⟨its,rv,p,hz⟩:=I.list hq;obtain ⟨f0,f1,f2,f3,f4,f5⟩:=hf it (by simp);have hl:=rv.length;exact wpAny_pyNext_list_end (I.ok.hd hc) st p.isList (by simp;omega) fun h' eb=>⟨rfl,I.turned (t':=s.toks) (fun b o hb e=>eb b o hb e) f0 f1 f3 f4 f5⟩
 self:=fun _ _ _ _ _ st h=>wpAny_pyIter_listiter st h
theorem um {P:Program} {w:World} {K:Fg} {tg:Expr} (a it:Addr):Turn P w K tg (Itt K a) [it] it (fun i h=>h.IsTupleIter it a i) where
 mem:=by simp
 obj:=fun i h st b hb=>by
  have e:b=it:=by simpa using hb
  subst e;obtain ⟨o,e,c,d⟩:=st;exact ⟨o,e,fun v z=>by rw [d] at z;cases z⟩
 keep:=fun i h h' st k=>st.at fun o e=>k it (by simp) o e
 item:=by
  intro X hP hw hK hc i pins s σ H E I hf st hg;subst hP hw hK;obtain ⟨xs,x,hq,hx⟩:=hg;obtain ⟨its,rv,p,hz⟩:=I.tuple hq;obtain ⟨u,hu,ru⟩:=rv.get hx;obtain ⟨f0,f1,f2,f3,f4,f5⟩:=hf it (by simp);refine wpAny_pyNext_tuple_item st (show s.heap.IsTuple a its.toArray from p) (x:=u) (by simpa using hu) fun h' st' sb=>?_;have I1:Inv X pins σ H { s with heap:=h' }:=I.turned (t':=s.toks) (fun b o hb e=>(sb.2 b hb).trans e) f0 f1 f3 f4 f5;obtain ⟨o,e,c,d⟩:=id st';exact ⟨u,rfl,BD (s:={ s with heap:=h' }) e c d (by decide) ⟨x,H,I1,ru,⟨rfl,fun ys hy=>by rw [I.xD hy hq];exact hx⟩,st',fun b hb=>(hf b hb).1⟩⟩
 done:=by
  intro X hP hw hK hc i pins s σ H E I hf st hg;subst hP hw hK;obtain ⟨xs,hq,hx⟩:=hg;obtain ⟨its,rv,p,hz⟩:=I.tuple hq;obtain ⟨f0,f1,f2,f3,f4,f5⟩:=hf it (by simp);have hl:=rv.length;exact wpAny_pyNext_tuple_end (I.ok.hd hc) st (show s.heap.IsTuple a its.toArray from p) (by simp;omega) fun h' eb=>⟨rfl,I.turned (t':=s.toks) (fun b o hb e=>eb b o hb e) f0 f1 f3 f4 f5⟩
 self:=fun _ _ _ _ _ st h=>wpAny_pyIter_tupleiter st h
theorem uj {P:Program} {w:World} {K:Fg} {tg:Expr} (it:Addr) (lo:Int) (n:Nat):Turn P w K tg (Itr lo n) [it] it (fun i h=>IsRangeIter h it (lo+(i:Nat)*1) ((n:Int) - (i:Nat)) 1) where
 mem:=by simp
 obj:=fun i h st b hb=>by
  have e:b=it:=by simpa using hb
  subst e
  exact ⟨_,st,fun v z=>by
   have z':Data.fields _=Data.cell v:=z
   cases z'⟩
 keep:=fun i h h' st k=>k it (by simp) _ st
 item:=by
  intro X hP hw hK hc i pins s σ H E I hf st hg;subst hP hw hK;obtain ⟨f0,f1,f2,f3,f4,f5⟩:=hf it (by simp);have W:=Walks.range (prog:=X.prog) (w:=X.w) (I.ok.hd hc) it lo 1 n;refine W.item i s _ _ hg st fun v h' tk hv st' kk=>?_;obtain ⟨t,rfl⟩:=hv;have I1:Inv X pins σ H { s with heap:=h',toks:=tk }:=I.turned (fun b o hb e=>kk b o (by simpa using hb) e) f0 f1 f3 f4 f5;refine ⟨_,rfl,BD (s:={ s with heap:=h',toks:=tk }) (n := "range_iterator") st' rfl rfl (by decide) ⟨.int (lo+i),H,I1,⟨t,?_⟩,⟨rfl,rfl⟩,st',fun b hb=>(hf b hb).1⟩⟩;rw [Int.mul_one]
 done:=by
  intro X hP hw hK hc i pins s σ H E I hf st hg;subst hP hw hK;obtain ⟨f0,f1,f2,f3,f4,f5⟩:=hf it (by simp);exact wpAny_pyNext_range_end (I.ok.hd hc) st (by have:n<=i:=hg;omega) fun h' eb=>⟨rfl,I.turned (t':=s.toks) (fun b o hb e=>eb b o hb e) f0 f1 f3 f4 f5⟩
 self:=fun _ _ _ _ _ st h=>wpAny_pyIter_rangeiter st h
end L2
namespace L2
open PySem PySem.Spec PyProof.Rows
section
variable {X:Cx} {tg:Expr}
def yH (K:Fg) (tl:TE):TI:=fun σ H R=>tl σ H fun x H1=>∃ a,x=.ref a/\(∃ xs,SqL K H1 a xs)/\R (Itl K a) H1
def CT (K:Fg) (tl:TE):TI:=fun σ H R=>tl σ H fun x H1=>∃ a,x=.ref a/\(∃ xs,SqT K H1 a xs)/\R (Itt K a) H1
theorem CA {l:Expr} {tl:TE} (hl:PE X l tl):PI X tg l (yH X.K tl):=by
 intro pins s σ H R I h;refine thn (hl pins s σ H _ I h) fun v s1 ⟨x,H1,I1,r1,q1⟩=>?_;obtain ⟨a,e,⟨xs,hq⟩,q⟩:=q1;subst e;cases r1;obtain ⟨its,rv,p,hz⟩:=I1.list hq;refine wpAny_pyIter_list p.isList ?_;refine ⟨s1.heap.objs.size,[s1.heap.objs.size],_,_,H1,rfl,I1.kept (t':=s1.toks) fun b o e=>L4 _ e,vW a _,⟨_,Mu _ rfl,rfl,rfl⟩,fun b hb=>?_,q⟩;have e:b=s1.heap.objs.size:=by simpa using hb
 subst e;exact I1.DM (Mg _) (I1.hok.fresh (Mg _))
theorem EK {l:Expr} {tl:TE} (hl:PE X l tl):PI X tg l (CT X.K tl):=by
 intro pins s σ H R I h;refine thn (hl pins s σ H _ I h) fun v s1 ⟨x,H1,I1,r1,q1⟩=>?_;obtain ⟨a,e,⟨xs,hq⟩,q⟩:=q1;subst e;cases r1;obtain ⟨its,rv,p,hz⟩:=I1.tuple hq;refine wpAny_pyIter_tuple (show s1.heap.IsTuple a its.toArray from p) ?_;refine ⟨s1.heap.objs.size,[s1.heap.objs.size],_,_,H1,rfl,I1.kept (t':=s1.toks) fun b o e=>L4 _ e,um a _,⟨_,Mu _ rfl,rfl,rfl⟩,fun b hb=>?_,q⟩;have e:b=s1.heap.objs.size:=by simpa using hb
 subst e;exact I1.DM (Mg _) (I1.hok.fresh (Mg _))
theorem zQ {pins:List (Addr×Obj)} {σ:St} {H:Hp} {s:Shared} {R:It->Hp->Prop} {E:Value->Shared->Prop} {lo hi:Int} {t u v:Tok} {tk:Nat} (I:Inv X pins σ H s) (h1:-(2 ^ 62)<=lo) (h2:lo < 2 ^ 62) (h3:-(2 ^ 62)<=hi) (h4:hi < 2 ^ 62)
  (q:R (Itr lo (hi - lo).toNat) H):wpAny (model X.prog X.w) X.A (pyIter (.ref s.heap.objs.size)) (PIE X pins σ tg R) E { s with heap:=s.heap.push { cls:=.type "range", data:=.fields #[.int lo t,.int hi u,.int 1 v] },toks:=tk }:=by
 refine wpAny_pyIter_range (IsRange.new ..) (small_one h1 h2 h3 h4) ?_;have I1:Inv X pins σ H { s with heap:=s.heap.push { cls:=.type "range", data:=.fields #[.int lo t,.int hi u,.int 1 v] },toks:=tk }:=I.kept fun b o e=>L4 _ e
 refine ⟨(s.heap.push { cls:=.type "range", data:=.fields #[.int lo t,.int hi u,.int 1 v] }).objs.size,[(s.heap.push { cls:=.type "range", data:=.fields #[.int lo t,.int hi u,.int 1 v] }).objs.size],_,_,H,rfl,
  I1.kept (t':=tk) fun b o e=>L4 _ e,uj _ lo (hi - lo).toNat,?_,fun b hb=>?_,q⟩
 ·have e1:lo+((0:Nat):Int)*1=lo:=by simp
  have e2:(((hi - lo).toNat:Nat):Int) - ((0:Nat):Int)=Builtin.Range.rangeSize lo hi 1:=by rw [rangeSize_one];split <;> omega
  show IsRangeIter _ _ (lo+((0:Nat):Int)*1) ((((hi - lo).toNat:Nat):Int) - ((0:Nat):Int)) 1;rw [e1,e2];exact Mu _ rfl
 ·have e:b=(s.heap.push { cls:=.type "range", data:=.fields #[.int lo t,.int hi u,.int 1 v] }).objs.size:=by simpa using hb
  subst e;exact I1.DM (Mg _) (I1.hok.fresh (Mg _))
def Bm (ta:TA):TI:=fun σ H R=>ta σ H fun vs H1=>∃ j:Int,vs=[.int j]/\-(2 ^ 62)<=j/\j < 2 ^ 62/\R (Itr 0 j.toNat) H1
def Hk (ta:TA):TI:=fun σ H R=>ta σ H fun vs H1=>∃ i j:Int,vs=[.int i,.int j]/\(-(2 ^ 62)<=i/\i < 2 ^ 62/\-(2 ^ 62)<=j/\j < 2 ^ 62)/\R (Itr i (j - i).toNat) H1
theorem xV {a:Expr} {ta:TA} {p pos:Pos} (hg:Gl X "range") (hm:X.mg "range" = none) (ha:PA X [a] ta) (hs:starEach [a] X.env=[(false,eval a X.env)]:=by rfl):PI X tg (.Call (.Name "range" p) [a] [] pos) (Bm ta):=by
 intro pins s σ H R I h;refine Call_ (pT I hg hm boot_range (PyProof.Rows.callWith_type1 (thn (ha pos pins s σ H _ I h) fun us s1 ⟨vs,H1,I1,r1,q1⟩=>?_) hs rfl));obtain ⟨j,e,q1,q2,q⟩:=q1;subst e;cases r1 with
 | cons r rr =>
  cases rr;obtain ⟨t,rfl⟩:=r;exact call_range_1 (zQ I1 (by omega) (by omega) q1 q2 (by simpa using q))
def D3 (wi:TI) (g:TG) (tb:TS):TS:=fun D σ H=>wi σ H fun J H1=>∃ W:Nat->Nat->St->Hp->Prop,(∃ m,W 0 m σ H1)/\∀ i m σ H,W i m σ H ->
 (J.stop i H/\D.nx σ H)\/(J.go i H/\∃ N:St->Hp->Prop,(∀ σ' H',N σ' H'->∃ m',m' < m/\W (i+1) m' σ' H')/\∀ x H',J.yld i H x H'->g x σ H' fun σ2 H2=>tb { D with nx:=N,ct:=N,bk:=D.nx } σ2 H2)
noncomputable def mz (fp:List Addr) (h:Heap):List (Addr×Obj):=fp.filterMap fun b=>(h.get? b).map fun o=>(b,o)
theorem cB {fp:List Addr} {h:Heap} {b:Addr} {o:Obj} (hb:b∈fp) (e:h.get? b=some o):(b,o)∈mz fp h:=List.mem_filterMap.mpr ⟨b,hb,by rw [e];rfl⟩
theorem wb {fp:List Addr} {h:Heap} {p:Addr×Obj} (hp:p∈mz fp h):p.1∈fp/\h.get? p.1=some p.2:=by
 obtain ⟨b,hb,e⟩:=List.mem_filterMap.mp hp;cases q:h.get? b with
 | none=>rw [q] at e;cases e
 | some o =>
  rw [q] at e;have e':(b,o)=p:=MF e;subst e';exact ⟨hb,q⟩
theorem Inv.pinned {pins:List (Addr×Obj)} {σ:St} {H:Hp} {s:Shared} {fp:List Addr} (I:Inv X pins σ H s) (hf:∀ b∈fp,wm X pins H b) (ho:∀ b∈fp,∃ o,s.heap.get? b=some o/\∀ v,o.data≠.cell v):Inv X (pins++mz fp s.heap) σ H s :=
 I.fC fun p hp=>(Nn.mp hp).elim (fun z=>I.pin p (Ml _ z)) fun z=>by
  obtain ⟨hb,e⟩:=wb z;obtain ⟨f0,f1,f2,_⟩:=hf p.1 hb;obtain ⟨o,e',d⟩:=ho p.1 hb;rw [e] at e';cases e';exact ⟨e,f0,f1,f2,d⟩
theorem Inv.jT {pins pl:List (Addr×Obj)} {σ:St} {H:Hp} {s:Shared} (I:Inv X (pins++pl) σ H s):Inv X pins σ H s:=I.fC fun p hp=>I.pin p (Ml _ (NB _ hp))
theorem Ep {iter:Expr} {body:List Stmt} {wi:TI} {g:TG} {tb:TS} {pos:Pos} (hp:PassesOwn (model X.prog X.w) X.A X.env X.xe) (hc:X.calm=true) (hi:PI X tg iter wi) (hg:PG X tg g) (hb:PSs X body tb)
  (hs:∀ x,foldedSetIterable iter X.env x=pure x:=by intro _;rfl):PS X (.For tg iter body [] pos) (D3 wi g tb):=by
 intro pins s σ H D I h;refine wpAny_For (thn (hi pins s σ H _ I h) fun v s1 h1=>thn h1 fun itv s2 h2=>?_) hs;obtain ⟨it,fp,tn,J,H2,e,I2,T,st2,f2,W,⟨m0,w0⟩,turn⟩:=h2;subst e;have stat:∀ {H':Hp},(∀ b∈fp,H' b=none)->∀ b∈fp,wm X pins H' b:=fun hn b hb=>⟨hn b hb,(f2 b hb).2⟩;refine codeAny_forLoop_any (fun n s'=>∃ i σ' H',Inv X pins σ' H' s'/\tn i s'.heap/\(∀ b∈fp,H' b=none)/\W i n σ' H') ?_ m0 ⟨0,σ,H2,I2,st2,fun b hb=>(f2 b hb).1,w0⟩;rintro n s3 ⟨i,σ3,H3,I3,st3,fr3,w3⟩;rcases turn i n σ3 H3 w3 with ⟨stop,qn⟩ | ⟨go,N,hN,step⟩
 ·refine Nl hp (thn (T.done X rfl rfl rfl hc i pins s3 σ3 H3 X.xe I3 (stat fr3) st3 stop) fun r s4 ⟨hr,I4⟩=>?_);subst hr;exact wpAny_execs_nil ⟨σ3,H3,I4,qn⟩
 ·refine Nl hp (thn (T.item X rfl rfl rfl hc i pins s3 σ3 H3 X.xe I3 (stat fr3) st3 go) fun r s4 ⟨u,hr,h4⟩=>?_);subst hr;refine Nl hp (thn h4 fun _ s5 ⟨x,H5,I5,r5,y5,st5,fr5⟩=>?_);have I5':=I5.pinned (stat fr5) (T.obj _ _ st5);refine Nl hp (thn (hg _ s5 σ3 H5 x u _ I5' r5 (step x H5 y5)) fun _ s6 ⟨σ6,H6,I6,q6⟩=>?_);refine Nl hp (thn (hb _ s6 σ6 H6 _ I6 q6) fun f s7 q7=>?_);have again:∀ {σ7:St} {H7:Hp},Inv X (pins++mz fp s5.heap) σ7 H7 s7->N σ7 H7->∃ m,m < n/\∃ i σ' H',Inv X pins σ' H' s7/\tn i s7.heap/\(∀ b∈fp,H' b=none)/\W i m σ' H':=fun {σ7 H7} I7 n7=>by
   obtain ⟨m',hm,w7⟩:=hN σ7 H7 n7;refine ⟨m',hm,i+1,σ7,H7,I7.jT,T.keep _ _ _ st5 fun b hb o e=>(I7.pin (b,o) (Ml _ (Ml _ (cB hb e)))).1,fun b hb=>?_,w7⟩;obtain ⟨o,e,d⟩:=T.obj _ _ st5 b hb;exact (I7.pin (b,o) (Ml _ (Ml _ (cB hb e)))).2.1
  cases f with
  | next=>obtain ⟨σ7,H7,I7,n7⟩:=q7;exact again I7 n7
  | cont=>obtain ⟨σ7,H7,I7,n7⟩:=q7;exact again I7 n7
  | brk=>obtain ⟨σ7,H7,I7,q7⟩:=q7;exact ⟨σ7,H7,I7.jT,q7⟩
  | ret v=>obtain ⟨x7,σ7,H7,I7,r7,q7⟩:=q7;exact ⟨x7,σ7,H7,I7.jT,r7,q7⟩
end
end L2
namespace L2
open PySem PySem.Spec PyProof.Rows
abbrev R2:=V->V->Hp->VK->Prop
def OpR (X:Cx) (f:Value->Value->Sem Value) (r:R2):Prop :=
 ∀ (pins:List (Addr×Obj)) (s:Shared) (σ:St) (H:Hp) (x y:V) (v u:Value) (Q:VK),Inv X pins σ H s->RelV x v->RelV y u->r x y H Q ->
  wpAny (model X.prog X.w) X.A (f v u) (EP X pins σ Q) X.xe s
def UnR (X:Cx) (f:Value->Sem Value) (r:V->Hp->VK->Prop):Prop :=
 ∀ (pins:List (Addr×Obj)) (s:Shared) (σ:St) (H:Hp) (x:V) (v:Value) (Q:VK),Inv X pins σ H s->RelV x v->r x H Q ->
  wpAny (model X.prog X.w) X.A (f v) (EP X pins σ Q) X.xe s
def aW (X:Cx) (f:Value) (r:List V->Hp->VK->Prop):Prop :=
 ∀ (pins:List (Addr×Obj)) (s:Shared) (σ:St) (H:Hp) (xs:List V) (us:List Value) (Q:VK),Inv X pins σ H s->Vals xs us->r xs H Q ->
  wpAny (model X.prog X.w) X.A (call f us) (EP X pins σ Q) X.xe s
def K3 (X:Cx) (r:V->Hp->(Bool->Hp->Prop)->Prop):Prop :=
 ∀ (pins:List (Addr×Obj)) (s:Shared) (σ:St) (H:Hp) (x:V) (v:Value) (Q:Bool->Hp->Prop),Inv X pins σ H s->RelV x v->r x H Q ->
  wpAny (model X.prog X.w) X.A (truthy v) (TP X pins σ Q) X.xe s
def tOp (r:R2) (ta tb:TE):TE:=fun σ H Q=>ta σ H fun x H1=>tb σ H1 fun y H2=>r x y H2 Q
def tUn (r:V->Hp->VK->Prop) (ta:TE):TE:=fun σ H Q=>ta σ H fun x H1=>r x H1 Q
def rI (C:Int->Int->Prop) (g:Int->Int->V):R2:=fun x y H Q=>∃ i j,x=.int i/\y=.int j/\C i j/\Q (g i j) H
def rI0 (g:Int->Int->V):R2:=fun x y H Q=>∃ i j,x=.int i/\y=.int j/\Q (g i j) H
def rU (g:Int->V):V->Hp->VK->Prop:=fun x H Q=>∃ i,x=.int i/\Q (g i) H
section
variable {X:Cx} {a b c:Expr} {ta tb tc:TE} {pos:Pos}
theorem Ih (ha:PE X a ta) (hb:PE X b tb) {pins:List (Addr×Obj)} {s:Shared} {σ:St} {H:Hp} {R:V->V->Hp->Prop} (I:Inv X pins σ H s)
  (h:ta σ H fun x H1=>tb σ H1 fun y H2=>R x y H2) {Q:Value->Shared->Prop} {f:Value->Value->Sem Value}
  (hf:∀ v u s2 x y H2,Inv X pins σ H2 s2->RelV x v->RelV y u->R x y H2->wpAny (model X.prog X.w) X.A (f v u) Q X.xe s2) :
  wpAny (model X.prog X.w) X.A (eval a X.env) (fun v s₁=>wpAny (model X.prog X.w) X.A (eval b X.env) (fun u s₂=>wpAny (model X.prog X.w) X.A (f v u) Q X.xe s₂) X.xe s₁) X.xe s:=by
 refine thn (ha pins s σ H _ I h) fun v s1 ⟨x,H1,I1,r1,q1⟩=>?_;refine thn (hb pins s1 σ H1 _ I1 q1) fun u s2 ⟨y,H2,I2,r2,q2⟩=>?_;exact hf v u s2 x y H2 I2 r1 r2 q2
theorem JN {op:Operator} {r:R2} (ho:OpR X (binaryOp op) r) (ha:PE X a ta) (hb:PE X b tb):PE X (.BinOp a op b pos) (tOp r ta tb):=by
 intro pins s σ H Q I h;exact wpAny_BinOp (Ih ha hb I h fun v u s2 x y H2 I2 rx ry q=>ho pins s2 σ H2 x y v u Q I2 rx ry q)
theorem GS {op:UnaryOp} {r:V->Hp->VK->Prop} (ho:UnR X (unaryOp op) r) (ha:PE X a ta):PE X (.UnaryOp op a pos) (tUn r ta):=by
 intro pins s σ H Q I h;exact UnaryOp_ (thn (ha pins s σ H _ I h) fun v s1 ⟨x,H1,I1,r1,q1⟩=>ho pins s1 σ H1 x v Q I1 r1 q1)
theorem opI {f:Value->Value->Sem Value} {C:Int->Int->Prop} {g:Int->Int->Int}
  (rule:∀ (i j:Int) (t u:Tok) (s:Shared) (Q:Value->Shared->Prop) (E:Value->Shared->Prop),C i j->Q (.int (g i j) s.toks) { s with toks:=s.toks+1 }->wpAny (model X.prog X.w) X.A (f (.int i t) (.int j u)) Q E s) :
  OpR X f (rI C fun i j=>.int (g i j)):=by
 intro pins s σ H x y v u Q I rx ry h;obtain ⟨i,j,rfl,rfl,hc,q⟩:=h;obtain ⟨t,rfl⟩:=rx;obtain ⟨t',rfl⟩:=ry;exact rule i j t t' s _ _ hc ⟨.int (g i j),H,I.tok _,⟨_,rfl⟩,q⟩
theorem Kj {f:Value->Value->Sem Value} {g:Int->Int->Int}
  (rule:∀ (i j:Int) (t u:Tok) (s:Shared) (Q:Value->Shared->Prop) (E:Value->Shared->Prop),Q (.int (g i j) s.toks) { s with toks:=s.toks+1 }->wpAny (model X.prog X.w) X.A (f (.int i t) (.int j u)) Q E s) :
  OpR X f (rI0 fun i j=>.int (g i j)):=by
 intro pins s σ H x y v u Q I rx ry h;obtain ⟨i,j,rfl,rfl,q⟩:=h;obtain ⟨t,rfl⟩:=rx;obtain ⟨t',rfl⟩:=ry;exact rule i j t t' s _ _ ⟨.int (g i j),H,I.tok _,⟨_,rfl⟩,q⟩
theorem Gs {f:Value->Value->Sem Value} {g:Int->Int->Bool}
  (rule:∀ (i j:Int) (t u:Tok) (s:Shared) (Q:Value->Shared->Prop) (E:Value->Shared->Prop),Q (.bool (g i j)) s->wpAny (model X.prog X.w) X.A (f (.int i t) (.int j u)) Q E s) :
  OpR X f (rI0 fun i j=>.bl (g i j)):=by
 intro pins s σ H x y v u Q I rx ry h;obtain ⟨i,j,rfl,rfl,q⟩:=h;obtain ⟨t,rfl⟩:=rx;obtain ⟨t',rfl⟩:=ry;exact rule i j t t' s _ _ ⟨.bl (g i j),H,I,rfl,q⟩
def Km (i j:Int):Prop:=0<=j/\j<=1000000/\i.natAbs < 2 ^ 64
def Df (i j:Int):Prop:=(-(2 ^ 64) < i/\i < 2 ^ 64)\/(-(2 ^ 64) < j/\j < 2 ^ 64)
theorem Df.ok {i j:Int} (h:Df i j):IntMulOk i j:=by
 rcases h with ⟨h1,h2⟩ | ⟨h1,h2⟩
 ·exact .of_left (intBits_le_64 h1 h2)
 ·exact .of_right (intBits_le_64 h1 h2)
theorem ED:OpR X (binaryOp .Add) (rI0 fun i j=>.int (i+j)):=Kj fun _ _ _ _ _ _ _ q=>add_int q
theorem Fh:OpR X (binaryOp .Sub) (rI0 fun i j=>.int (i - j)):=Kj fun _ _ _ _ _ _ _ q=>sub_int q
theorem F5:OpR X (binaryOp .Mult) (rI Df fun i j=>.int (i*j)):=opI fun _ _ _ _ _ _ _ hc q=>mul_int q hc.ok
theorem Et:OpR X (binaryOp .Mod) (rI (fun _ j=>0 < j) fun i j=>.int (i % j)):=opI fun i j _ _ _ _ _ hc q=>by
 have h1:(0:Int) < j:=hc;exact mod_int' (by omega) (by rw [Int.fmod_eq_emod_of_nonneg i (by omega)];exact q)
theorem Fx:OpR X (binaryOp .Pow) (rI Km fun i j=>.int (i ^ j.toNat)):=opI fun _ _ _ _ _ _ _ hc q=>pow_int_small hc.1 hc.2.1 hc.2.2 q
theorem unI {f:Value->Sem Value} {g:Int->Int}
  (rule:∀ (i:Int) (t:Tok) (s:Shared) (Q:Value->Shared->Prop) (E:Value->Shared->Prop),Q (.int (g i) s.toks) { s with toks:=s.toks+1 }->wpAny (model X.prog X.w) X.A (f (.int i t)) Q E s) :
  UnR X f (rU fun i=>.int (g i)):=by
 intro pins s σ H x v Q I rx h;obtain ⟨i,rfl,q⟩:=h;obtain ⟨t,rfl⟩:=rx;exact rule i t s _ _ ⟨.int (g i),H,I.tok _,⟨_,rfl⟩,q⟩
theorem Fy:UnR X (unaryOp .USub) (rU fun i=>.int (-i)):=unI fun _ _ _ _ _ q=>neg_int q
end
section
variable {X:Cx} {a b c:Expr} {ta tb tc:TE} {pos:Pos}
theorem sU {pins:List (Addr×Obj)} {σ:St} {H:Hp} {s:Shared} {Q:VK} {k k':Bool} (I:Inv X pins σ H s) (q:Q (.bl k) H) (e:k=k'):EP X pins σ Q (.bool k') s:=by
 subst e;exact ⟨.bl k,H,I,rfl,q⟩
theorem JP:OpR X (compareOp .Lt) (rI0 fun i j=>.bl (decide (i < j))):=Gs fun _ _ _ _ _ _ _ q=>lt_int q
theorem HS:OpR X (compareOp .LtE) (rI0 fun i j=>.bl (decide (i<=j))):=Gs fun _ _ _ _ _ _ _ q=>le_int q
theorem IL:OpR X (compareOp .Gt) (rI0 fun i j=>.bl (decide (j < i))):=Gs fun _ _ _ _ _ _ _ q=>gt_int q
theorem Ju:OpR X (compareOp .GtE) (rI0 fun i j=>.bl (decide (j<=i))):=Gs fun _ _ _ _ _ _ _ q=>ge_int q
theorem vy:OpR X (compareOp .Lt) (fun x y H Q=>∃ i j,x=.str i/\y=.str j/\Q (.bl (decide (i.cps.toList < j.cps.toList))) H):=by
 intro pins s σ H x y v u Q I rx ry h;obtain ⟨i,j,rfl,rfl,q⟩:=h;obtain ⟨t,rfl⟩:=rx;obtain ⟨t',rfl⟩:=ry;exact lt_str (sU I q rfl)
theorem yd:OpR X (compareOp .In) (fun x y H Q=>∃ i j,x=.str i/\y=.str j/\Q (.bl (!(Builtin.Str.occurrences j i 0 j.length 1).isEmpty)) H):=by
 intro pins s σ H x y v u Q I rx ry h;obtain ⟨i,j,rfl,rfl,q⟩:=h;obtain ⟨t,rfl⟩:=rx;obtain ⟨t',rfl⟩:=ry;exact in_str (sU I q rfl)
theorem Dr:OpR X (compareOp .Is) (fun x y H Q=>y=.non/\Q (.bl (decide (x=.non))) H):=by
 intro pins s σ H x y v u Q I rx ry h;obtain ⟨rfl,q⟩:=h;cases ry;refine is_none_gen (sU I q ?_);cases x <;> first
  | (cases rx;rfl)
  | (obtain ⟨t,rfl⟩:=rx;rfl)
theorem AW:OpR X (compareOp .IsNot) (fun x y H Q=>y=.non/\Q (.bl (!decide (x=.non))) H):=by
 intro pins s σ H x y v u Q I rx ry h;obtain ⟨rfl,q⟩:=h;cases ry;refine isnot_none_gen (sU I q ?_);cases x <;> first
  | (cases rx;rfl)
  | (obtain ⟨t,rfl⟩:=rx;rfl)
theorem bN (b:Expr) {op:CmpOp} (h:op≠.In:=by decide) (h2:op≠.NotIn:=by decide):behindInMarks op b=false:=by
 have e1:(op==CmpOp.In)=false:=by cases op <;> first | rfl | exact absurd rfl h
 have e2:(op==CmpOp.NotIn)=false:=by cases op <;> first | rfl | exact absurd rfl h2
 cases b <;> simp [behindInMarks,e1,e2]
theorem Bp {op:CmpOp} {r:R2} (ho:OpR X (compareOp op) r) (ha:PE X a ta) (hb:PE X b tb) (hm:behindInMarks op b=false):PE X (.Compare a [op] [b] pos) (tOp r ta tb):=by
 intro pins s σ H Q I h;exact wpAny_Compare1 (Ih ha hb I h fun v u s2 x y H2 I2 rx ry q=>ho pins s2 σ H2 x y v u Q I2 rx ry q) hm
def jL (t:TE):TT:=fun σ H Q=>t σ H fun x H'=>∃ k,x=.bl k/\Q k H'
theorem AR {op:CmpOp} {r:R2} (ho:OpR X (compareOp op) r) (ha:PE X a ta) (hb:PE X b tb) (hm:behindInMarks op b=false):PT X (.Compare a [op] [b] pos) (jL (tOp r ta tb)):=by
 intro pins s σ H Q I h
 refine wpAny_isTrue_Compare1 (thn (ha pins s σ H _ I h) fun v s1 ⟨x,H1,I1,r1,q1⟩=>thn (hb pins s1 σ H1 _ I1 q1) fun u s2 ⟨y,H2,I2,r2,q2⟩ =>
  thn (ho pins s2 σ H2 x y v u _ I2 r1 r2 q2) fun c s3 ⟨z,H3,I3,r3,k,e,q3⟩=>?_) hm
 subst e;cases r3;exact MU ⟨H3,I3,q3⟩
def oO (r r':R2) (ta tb tc:TE):TE:=fun σ H Q=>ta σ H fun x H1=>tb σ H1 fun y H2=>r x y H2 fun z H3=>∃ k,z=.bl k /\
 (if k=true then tc σ H3 fun w' H4=>r' y w' H4 Q else Q (.bl false) H3)
theorem zP {op op':CmpOp} {r r':R2} (ho:OpR X (compareOp op) r) (ho':OpR X (compareOp op') r') (ha:PE X a ta) (hb:PE X b tb) (hc:PE X c tc)
  (hm:lastMarks [op,op'] [b,c]=false:=by with_unfolding_all rfl):PE X (.Compare a [op,op'] [b,c] pos) (oO r r' ta tb tc):=by
 intro pins s σ H Q I h
 refine Compare_chain (thn (ha pins s σ H _ I h) fun v s1 ⟨x,H1,I1,r1,q1⟩=>chain_link (thn (hb pins s1 σ H1 _ I1 q1) fun u s2 ⟨y,H2,I2,r2,q2⟩ =>
  thn (ho pins s2 σ H2 x y v u _ I2 r1 r2 q2) fun d s3 ⟨z,H3,I3,r3,k,e,q3⟩=>?_)) hm
 subst e;cases r3;refine MU ?_;cases k with
 | false=>exact ite_ff ⟨.bl false,H3,I3,rfl,q3⟩
 | true=>exact ite_tt (chain_last (thn (hc pins s3 σ H3 _ I3 q3) fun w' s4 ⟨z',H4,I4,r4,q4⟩=>ho' pins s4 σ H4 y z' u w' Q I4 r2 r4 q4))
theorem y7 {op op':CmpOp} {r r':R2} (ho:OpR X (compareOp op) r) (ho':OpR X (compareOp op') r') (ha:PE X a ta) (hb:PE X b tb) (hc:PE X c tc)
  (hm:lastMarks [op,op'] [b,c]=false:=by with_unfolding_all rfl):PT X (.Compare a [op,op'] [b,c] pos) (jL (oO r r' ta tb tc)):=by
 intro pins s σ H Q I h
 refine isTrue_chain (thn (ha pins s σ H _ I h) fun v s1 ⟨x,H1,I1,r1,q1⟩=>test_link (thn (hb pins s1 σ H1 _ I1 q1) fun u s2 ⟨y,H2,I2,r2,q2⟩ =>
  thn (ho pins s2 σ H2 x y v u _ I2 r1 r2 q2) fun d s3 ⟨z,H3,I3,r3,k,e,q3⟩=>?_)) hm
 subst e;cases r3;refine MU ?_;cases k with
 | false =>
  obtain ⟨k',e',q'⟩:=q3;cases e';exact ite_ff ⟨H3,I3,q'⟩
 | true =>
  refine ite_tt (test_last (thn (hc pins s3 σ H3 _ I3 q3) fun w' s4 ⟨z',H4,I4,r4,q4⟩=>thn (ho' pins s4 σ H4 y z' u w' _ I4 r2 r4 q4) fun d' s5 ⟨z2,H5,I5,r5,k2,e2,q5⟩=>?_));subst e2;cases r5;exact MU ⟨H5,I5,q5⟩
def GN (K:Fg) (x:V) (H:Hp) (k:Bool):Prop :=
 match x with
 | .non=>k=false
 | .bl b=>k=b
 | .int i=>k=(i != 0)
 | .str y=>y.length<=sizeLine/\k=((y.length:Int) != 0)
 | .byt y=>y.size<=sizeLine/\k=((y.size:Int) != 0)
 | .ref p=>(∃ xs,SqL K H p xs/\k=!xs.isEmpty)\/(∃ xs,SqT K H p xs/\k=!xs.isEmpty)\/∃ kvs,H p=some (.dK kvs)/\k=!kvs.isEmpty
 | _=>False
theorem uv {κ:Type} {kvs:List (κ×V)} {vs:List (κ×Value)} (r:KV kvs vs):(!vs.isEmpty)=!kvs.isEmpty:=by
 cases r <;> rfl
theorem l8 {xs:List V} {its:List Value} (r:Vals xs its):(!its.toArray.isEmpty)=!xs.isEmpty:=by
 cases r <;> simp
theorem mE:(sizeLine:Nat) < 2 ^ 63:=by rw [Nh];decide
theorem Ez:K3 X (fun x H Q=>∃ k,GN X.K x H k/\Q k H):=by
 intro pins s σ H x v Q I rx h;obtain ⟨k,e,q⟩:=h;have hl:=mE;have hs:sizeLine=16777216:=Nh;cases x with
 | non =>
  cases rx;have e':k=false:=e;subst e';exact truthy_none ⟨H,I,q⟩
 | bl b =>
  cases rx;have e':k=b:=e;subst e';exact MU ⟨H,I,q⟩
 | int i =>
  obtain ⟨t,rfl⟩:=rx;have e':k=(i != 0):=e;subst e';exact PySem.P.truthy_int ⟨H,I,q⟩
 | str y =>
  obtain ⟨t,rfl⟩:=rx;obtain ⟨hy,e'⟩:y.length<=sizeLine/\k=((y.length:Int) != 0):=e;subst e';exact PySem.P.truthy_str (by omega) ⟨H,I.tok _,q⟩
 | byt y =>
  obtain ⟨t,rfl⟩:=rx;obtain ⟨hy,e'⟩:y.size<=sizeLine/\k=((y.size:Int) != 0):=e;subst e';exact PySem.W.truthy_bytes (by omega) ⟨H,I.tok _,q⟩
 | ref p =>
  cases rx;have e':(∃ xs,SqL X.K H p xs/\k=!xs.isEmpty)\/(∃ xs,SqT X.K H p xs/\k=!xs.isEmpty)\/∃ kvs,H p=some (.dK kvs)/\k=!kvs.isEmpty:=e;rcases e' with ⟨xs,hx,e'⟩ | ⟨xs,hx,e'⟩ | ⟨kvs,hx,e'⟩
  ·subst e';obtain ⟨its,r,pl,hz⟩:=I.list hx;have hlen:=r.length;exact wpAny_truthy_list pl.isList (by simp only [Mh];omega) ⟨H,I.tok _,by rw [l8 r];exact q⟩
  ·subst e';obtain ⟨its,r,pl,hz⟩:=I.tuple hx;have hlen:=r.length;exact truthy_tuple pl (by simp only [Mh];omega) ⟨H,I.tok _,by rw [l8 r];exact q⟩
  ·subst e';obtain ⟨hz,hS,vs,r,m⟩:kvs.length<=sizeLine/\(p==sysModules)=false/\∃ vs,KV kvs vs/\s.heap.DictOf (rX X.prog X.w) p vs:=I.hok p _ hx;have hlen:kvs.length=vs.length:=Paired.length r;exact wpAny_truthy_dict hS m (by omega) ⟨H,I.tok _,by rw [uv r];exact q⟩
 | _=>exact (show False from e).elim
theorem yq (ha:PE X a ta) (he:∀ whole,isTrue a X.env whole=(do let v<-whole;standAt a.pos;holding [v] (truthy v))) :
  PT X a (fun σ H Q=>ta σ H fun x H'=>∃ k,GN X.K x H' k/\Q k H'):=by
 intro pins s σ H Q I h;exact isTrue_plain (thn (ha pins s σ H _ I h) fun v s1 ⟨x,H1,I1,r1,q1⟩=>Ez pins s1 σ H1 x v Q I1 r1 q1) (he _)
theorem ue:OpR X (binaryOp .Add) (fun x y H Q=>∃ i j,x=.str i/\y=.str j/\i.length+j.length<=sizeLine/\Q (.str (i++j)) H):=by
 intro pins s σ H x y v u Q I rx ry h;obtain ⟨i,j,rfl,rfl,hz,q⟩:=h;obtain ⟨t,rfl⟩:=rx;obtain ⟨t',rfl⟩:=ry;exact add_str (fun t' tk=>⟨.str (i++j),H,I.tok _,⟨_,rfl⟩,q⟩) hz
theorem vals1 {x:V} {us:List Value} (r:Vals [x] us):∃ u,us=[u]/\RelV x u:=by
 cases r with
 | cons r1 r2=>cases r2;exact ⟨_,rfl,r1⟩
theorem vals2 {x y:V} {us:List Value} (r:Vals [x,y] us):∃ u w',us=[u,w']/\RelV x u/\RelV y w':=by
 cases r with
 | cons r1 r2 =>
  cases r2 with
  | cons r3 r4=>cases r4;exact ⟨_,_,rfl,r1,r3⟩
theorem yx:aW X (.builtin "abs") (fun xs H Q=>∃ i,xs=[.int i]/\Q (.int (if i < 0 then -i else i)) H):=by
 intro pins s σ H xs us Q I r h;obtain ⟨i,rfl,q⟩:=h;obtain ⟨u,rfl,t,rfl⟩:=vals1 r;exact call_abs_int fun u tk=>⟨.int (if i < 0 then -i else i),H,I.tok _,⟨_,rfl⟩,q⟩
theorem wZ (hc:X.calm=true):aW X (.builtin "min") (fun xs H Q=>∃ i j,xs=[.int i,.int j]/\Q (.int (if j < i then j else i)) H):=by
 intro pins s σ H xs us Q I r h;obtain ⟨i,j,rfl,q⟩:=h;obtain ⟨u,w',rfl,⟨t,rfl⟩,⟨t',rfl⟩⟩:=vals2 r;refine min_two_ints (I.ok.hd hc) fun h' tk k=>⟨_,H,I.kept k,?_,q⟩;by_cases hj:j < i
 ·rw [Me hj,Me hj];exact ⟨_,rfl⟩
 ·rw [Mn hj,Mn hj];exact ⟨_,rfl⟩
theorem v5:aW X (.type "int") (fun xs H Q=>(∃ i,xs=[.int i]/\Q (.int i) H)\/∃ k,xs=[.bl k]/\Q (.int (if k then 1 else 0)) H):=by
 intro pins s σ H xs us Q I r h;rcases h with ⟨i,rfl,q⟩ | ⟨k,rfl,q⟩
 ·obtain ⟨u,rfl,t,rfl⟩:=vals1 r;exact call_int_int ⟨.int i,H,I,⟨_,rfl⟩,q⟩
 ·obtain ⟨u,rfl,r1⟩:=vals1 r;cases r1;exact call_int_bool ⟨.int (if k then 1 else 0),H,I.tok _,⟨_,rfl⟩,q⟩
def KL (K:Fg) (x:V) (H:Hp) (n:Nat):Prop :=
 match x with
 | .str y=>y.length<=sizeLine/\n=y.length
 | .byt y=>y.size<=sizeLine/\n=y.size
 | .ref p=>(∃ xs,SqL K H p xs/\n=xs.length)\/∃ xs,SqT K H p xs/\n=xs.length
 | _=>False
theorem yz:aW X (.builtin "len") (fun xs H Q=>∃ x n,xs=[x]/\KL X.K x H n/\Q (.int n) H):=by
 intro pins s σ H xs us Q I r h;obtain ⟨x,n,rfl,e,q⟩:=h;obtain ⟨u,rfl,rx⟩:=vals1 r;have hl:=mE;have hs:sizeLine=16777216:=Nh;cases x with
 | str y =>
  obtain ⟨t,rfl⟩:=rx;obtain ⟨hy,e'⟩:y.length<=sizeLine/\n=y.length:=e;subst e';exact len_str (by omega) ⟨.int _,H,I.tok _,⟨_,rfl⟩,q⟩
 | byt y =>
  obtain ⟨t,rfl⟩:=rx;obtain ⟨hy,e'⟩:y.size<=sizeLine/\n=y.size:=e;subst e';exact PySem.W.len_bytes (by omega) ⟨.int _,H,I.tok _,⟨_,rfl⟩,q⟩
 | ref p =>
  cases rx;have e':(∃ xs,SqL X.K H p xs/\n=xs.length)\/∃ xs,SqT X.K H p xs/\n=xs.length:=e;rcases e' with ⟨xs,hx,e'⟩ | ⟨xs,hx,e'⟩
  ·subst e';obtain ⟨its,r',pl,hz⟩:=I.list hx;have hlen:=r'.length;exact Calls.call_len_list pl.isList (by simp only [Mh];omega) ⟨.int xs.length,H,I.tok _,⟨_,by simp only [Mh];rw [hlen]⟩,q⟩
  ·subst e';obtain ⟨its,r',pl,hz⟩:=I.tuple hx;have hlen:=r'.length;exact len_tuple pl (by simp only [Mh];omega) ⟨.int xs.length,H,I.tok _,⟨_,by simp only [Mh];rw [hlen]⟩,q⟩
 | _=>exact (show False from e).elim
end
end L2
namespace L2
open PySem PySem.Spec PyProof.Rows
structure A0 (h:Heap) (x dx C:Addr) (mA:Str->Option Value):Prop where
 obj:h.get? x=some (PySem.W.instObj C dx)
 ns:h.Ns1 dx mA
 ne:dx≠x
theorem wM {h:Heap} {dx:Addr} {mA:Str->Option Value} (n:h.Ns1 dx mA):∃ od,h.get? dx=some od/\∀ name,PySem.W.lookIn name od=some (mA name):=by
 obtain ⟨o,es,ep,ho,hd,hk,_,hm⟩:=n;refine ⟨o,ho,fun name=>?_⟩;have e:=hm name;unfold nsFind findBy at e;rw [<- Array.find?_toList] at e;unfold PySem.W.lookIn;rw [hd];dsimp only;split
 ·rename_i y q;rw [q] at e;exact congrArg some e
 ·rename_i q;rw [q] at e;have a:es.toList.any (·.refKey)=false:=by
   rw [List.any_eq_false];intro y hy;obtain ⟨z,t,hkey⟩:=hk y (Array.mem_toList_iff.mp hy);simp [DictEntry.refKey,hkey]
  have a':¬es.toList.any (·.refKey)=true:=by rw [a];exact M3
  rw [Mn a'];exact congrArg some e
theorem A0.look {h:Heap} {x dx C:Addr} {mA:Str->Option Value} (I:A0 h x dx C mA):∃ od,PySem.W.InstAt h x (PySem.W.instObj C dx) C (some od)/\∀ name,PySem.W.lookIn name od=some (mA name) :=
 let ⟨od,ho,hl⟩:=wM I.ns
 ⟨od,⟨I.obj,rfl,rfl,ho⟩,hl⟩
section
variable {prog:Program} {w:World} {A:Around} {E:Value->Shared->Prop} {s:Shared} {K:Fg} {x dx C f:Addr} {mA:Str->Option Value} {name:Str} {v:Value}
theorem get_map {expr:Bool} {Q:Value->Shared->Prop} (X:K.In s.heap) (I:A0 s.heap x dx C mA) (hg:PySem.W.plainGet K C name=true) (hh:PySem.W.hasDictIn K C=true)
  (ha:PySem.W.findIn K (.ref C) name=some none) (hv:mA name=some v) (hv':PySem.W.handedIn v=true) (h:Q v { s with toks:=s.toks+1 }) :
  wpAny (model prog w) A (getAttr (.ref x) name expr) Q E s:=by
 obtain ⟨od,J,hl⟩:=I.look;exact PySem.W.get_value X J (PySem.W.plainGet_of hg).1 (PySem.W.findObj_own hh ha rfl (by rw [hl,hv])) hv' h
theorem y9 {pl:Sem Bool} {Q:Value×List Value->Shared->Prop} (X:K.In s.heap) (I:A0 s.heap x dx C mA) (hg:PySem.W.plainGet K C name=true)
  (hf:PySem.W.findIn K (.ref C) name=some (some (.ref f))) (ht:PySem.W.isFn K (.ref f)=true) (hv:mA name=none) (h:Q (.ref f,[.ref x]) s) :
  wpAny (model prog w) A (getMethod (.ref x) name pl) Q E s:=by
 obtain ⟨od,J,hl⟩:=I.look;exact PySem.W.method_fn X J (PySem.W.plainGet_of hg).1 (PySem.W.plainGet_of hg).2 hf (Ny.mp ht) (by show (PySem.W.lookIn name od).map (·.isSome)=some false;rw [hl,hv];rfl) h
theorem Ba {ns:List Str} {Q:Unit->Shared->Prop} (X:K.In s.heap) (I:A0 s.heap x dx C mA)
  (hs:PySem.W.findIn K (.ref C) "__setattr__" = some (some (.builtin "object.__setattr__"))) (hp:PySem.W.plainOver K C=true) (ht:PySem.W.takerIn K C name=some none) (hh:PySem.W.hasDictIn K C=true)
  (hw:PySem.Within mA ns) (hsz:ns.length<=sizeLine)
  (h:∀ h',A0 h' x dx C (fun y=>if y=name then some v else mA y)->Heap.SameBut dx s.heap h'->Q () { s with heap:=h',toks:=s.toks+2 }) :
  wpAny (model prog w) A (setAttr (.ref x) name v) Q E s:=by
 obtain ⟨od,J,hl⟩:=I.look;refine PySem.W.set_plain X J hs (PySem.W.osa_open (s:={ s with toks:=s.toks+1 }) (r:=none) X J hp ht fun b=>?_);obtain ⟨cd,hc,hd'⟩:=PySem.W.any_some hh;have hx:s.heap.get? x=some ⟨.ref C,some dx,.plain,#[]⟩:=I.obj;refine Mp (MA (Mp (Mp (wpAny_loadPart hx (Mp (PySem.W.Looks.here (s:={ s with toks:=s.toks+1 }) (PySem.W.looks_clsIn X hc) ?_))))));rw [hd'];refine MA (a:=some dx) (Mp (MA (Mp ?_)));refine wpAny_nsSet1 (s:={ s with toks:=s.toks+1 }) I.ns fun h' hn2 hs2=>?_;obtain ⟨oD,esD,epD,hoD,hdD,hcD⟩:=hn2.count (PySem.Within.cons name v hw);refine Mp (wpAny_lookBehind hoD (by rw [hdD];exact pastItsLine_dict (Mr hcD (by rw [L3];omega))) ?_);exact MA (h _ ⟨(hs2.2 _ (Ne.symm I.ne)).trans I.obj,hn2,I.ne⟩ hs2)
theorem yB {R:Result->Shared->Prop} {vs:List Value} {kw:List (Str×Value)} (X:K.In s.heap) (hm:PySem.W.makesIn K C=true)
    (hi:PySem.W.findIn K (.ref C) "__init__" = some (some (.ref f))) (hf:PySem.W.typeIn K (.ref f)=some (.type "function"))
    (h:codeAny (model prog w) (A.under (.builtin "type.__call__" ⟨.ref C :: vs,kw⟩)) (.call (.ref f) ⟨.ref (s.heap.objs.size+1) :: vs,kw⟩) (PySem.W.InitBack (s.heap.objs.size+1) R)
      { s with heap:=(s.heap.push PySem.W.emptyDict).push (PySem.W.instObj C s.heap.objs.size) }) :
    codeAny (model prog w) A (.call (.ref C) ⟨vs,kw⟩) R s:=by
  obtain ⟨hh,g,d,t,os⟩:=s;exact PySem.W.make_core (PySem.W.makes_of X hm) (PySem.W.looks_findIn X hi) (fun self=>PySem.W.bind_fn X self hf) (.inl rfl) h
end
noncomputable def oj (f:Str) (v:V):List (Str×V)->List (Str×V)
 | []=>[(f,v)]
 | (g,x) :: r=>if g=f then (g,v) :: r else (g,x) :: oj f v r
theorem kW (f g:Str) (v:V):∀ fs:List (Str×V),(oj f v fs).lookup g=if g=f then some v else fs.lookup g
 | []=>by
  show List.lookup g [(f,v)]=_;by_cases h:g=f
  ·have hb:(g==f)=true:=Ny.mpr h;simp only [List.lookup,hb,Me h]
  ·have hb:(g==f)=false:=Nk.mpr h;simp only [List.lookup,hb,Mn h]
 | (k,x) :: r=>by
  have ih:=kW f g v r;rw [show oj f v ((k,x) :: r)=(if k=f then (k,v) :: r else (k,x) :: oj f v r) from rfl];by_cases hk:k=f
  ·rw [Me hk];by_cases h:g=k
   ·have hb:(g==k)=true:=Ny.mpr h;simp only [List.lookup,hb,Me (h.trans hk)]
   ·have hb:(g==k)=false:=Nk.mpr h;simp only [List.lookup,hb,Mn (fun e:g=f=>h (e.trans hk.symm))]
  ·rw [Mn hk];by_cases h:g=k
   ·have hb:(g==k)=true:=Ny.mpr h;simp only [List.lookup,hb,Mn (fun e:g=f=>hk (h.symm.trans e))]
   ·have hb:(g==k)=false:=Nk.mpr h;simp only [List.lookup,hb];exact ih
theorem kT (f:Str) (v:V):∀ fs:List (Str×V),f∈(oj f v fs).map (·.1)/\∀ g,g∈fs.map (·.1)->g∈(oj f v fs).map (·.1)
 | []=>⟨by simp [oj],fun g h=>by simp at h⟩
 | (k,x) :: r=>by
  obtain ⟨i1,i2⟩:=kT f v r;rw [show oj f v ((k,x) :: r)=(if k=f then (k,v) :: r else (k,x) :: oj f v r) from rfl];by_cases hk:k=f
  ·rw [Me hk];subst hk;exact ⟨by simp,fun g h=>by simpa using h⟩
  ·rw [Mn hk];refine ⟨?_,fun g h=>?_⟩
   ·rw [List.map_cons];exact L8 _ i1
   ·rw [List.map_cons] at h ⊢;rcases Mc.mp h with e | e
    ·exact Mc.mpr (.inl e)
    ·exact L8 _ (i2 g e)
theorem lj (f:Str) (v:V):∀ fs:List (Str×V),(oj f v fs).length<=fs.length+1
 | []=>by simp [oj]
 | (k,x) :: r=>by
  have ih:=lj f v r;rw [show oj f v ((k,x) :: r)=(if k=f then (k,v) :: r else (k,x) :: oj f v r) from rfl];by_cases hk:k=f
  ·rw [Me hk,L3,L3];omega
  ·rw [Mn hk,L3,L3];omega
theorem yp.some_of {v:V} {o:Option Value} (r:yp (some v) o):∃ u,o=some u/\RelV v u:=by
 cases o with
 | none=>exact (show False from r).elim
 | some u=>exact ⟨u,rfl,r⟩
theorem yp.none_of {o:Option Value} (r:yp none o):o=none:=by
 cases o with
 | none=>rfl
 | some u=>exact (show False from r).elim
theorem we {v:V} {u:Value} (r:RelV v u):PySem.W.handedIn u=true:=by
 cases v with
 | non=>cases (show u=Value.none from r);rfl
 | bl b=>cases (show u=Value.bool b from r);rfl
 | int i=>obtain ⟨t,e⟩:=(show ∃ t,u=Value.int i t from r);cases e;rfl
 | str x=>obtain ⟨t,e⟩:=(show ∃ t,u=Value.str x t from r);cases e;rfl
 | byt b=>obtain ⟨t,e⟩:=(show ∃ t,u=Value.bytes b t from r);cases e;rfl
 | flt b=>obtain ⟨t,e⟩:=(show ∃ t,u=Value.float b t from r);cases e;rfl
 | ref a=>cases (show u=Value.ref a from r);rfl
 | ty n=>cases (show u=Value.type n from r);rfl
section
variable {P:Program} {w:World} {H H':Hp} {h h':Heap} {a C dx:Addr} {fs fs':List (Str×V)}
theorem rl (hok:HOk P w H h) (e:H a=some (.ins C dx fs)):∃ mA,A0 h a dx C mA/\(∀ f,yp (fs.lookup f) (mA f))/\PySem.Within mA (fs.map (·.1))/\fs.length<=1000/\H dx=some (.own a):=by
 obtain ⟨d,z,ne,ob,mA,n,r,q⟩:=(show fh P w H h a (.ins C dx fs) from hok a _ e);exact ⟨mA,⟨ob,n,ne⟩,r,q,z,d⟩
end
structure Cls (K:Fg) (C:Addr):Prop where
 pg:PySem.W.plainGet K C Str.empty=true
 hd:PySem.W.hasDictIn K C=true
 po:PySem.W.plainOver K C=true
 sa:PySem.W.findIn K (.ref C) "__setattr__" = some (some (.builtin "object.__setattr__"))
theorem Cls.get {K:Fg} {C:Addr} (c:Cls K C) (f:Str):PySem.W.plainGet K C f=true:=c.pg
def fu (K:Fg) (C:Addr) (f:Str):Prop:=PySem.W.findIn K (.ref C) f=some none
theorem fu.HN {K:Fg} {C:Addr} {f:Str} (n:fu K C f):PySem.W.takerIn K C f=some none:=by
 unfold PySem.W.takerIn;rw [show PySem.W.findIn K (.ref C) f=some none from n];rfl
structure Meth (K:Fg) (C:Addr) (m:Str) (f:Addr):Prop where
 at_:PySem.W.findIn K (.ref C) m=some (some (.ref f))
 fn:PySem.W.isFn K (.ref f)=true
 kp:PySem.W.keepIn K (.ref f)=true
section
variable {X:Cx} {pins:List (Addr×Obj)} {σ:St} {H:Hp} {s:Shared} {a C dx:Addr} {fs:List (Str×V)} {f:Str} {v:V} {A:Around} {E:Value->Shared->Prop}
theorem ua {b:Bool} {Q:Value->Shared->Prop} (I:Inv X pins σ H s) (e:H a=some (.ins C dx fs)) (c:Cls X.K C) (n:fu X.K C f) (l:fs.lookup f=some v)
  (h:∀ u s',Inv X pins σ H s'->RelV v u->Q u s'):wpAny (model X.prog X.w) A (getAttr (.ref a) f b) Q E s:=by
 obtain ⟨mA,O,r,_,_,_⟩:=rl I.hok e;obtain ⟨u,hu,ru⟩:=yp.some_of (v:=v) (o:=mA f) (by rw [<- l];exact r f);exact get_map I.kIn O (c.get f) c.hd n hu (we ru) (h u _ (I.tok _) ru)
theorem iR {m:Str} {g:Addr} {pl:Sem Bool} {Q:Value×List Value->Shared->Prop} (I:Inv X pins σ H s) (e:H a=some (.ins C dx fs)) (c:Cls X.K C) (k:Meth X.K C m g) (l:fs.lookup m=none)
  (h:Q (.ref g,[.ref a]) s):wpAny (model X.prog X.w) A (getMethod (.ref a) m pl) Q E s:=by
 obtain ⟨mA,O,r,_,_,_⟩:=rl I.hok e;have hn:mA m=none:=yp.none_of (by rw [<- l];exact r m);exact y9 I.kIn O (c.get m) k.at_ k.fn hn h
theorem uA {y:V} {u:Value} {Q:Unit->Shared->Prop} (I:Inv X pins σ H s) (e:H a=some (.ins C dx fs)) (c:Cls X.K C) (n:fu X.K C f) (hl:fs.length < 1000) (ry:RelV y u)
  (h:∀ s',Inv X pins σ (upd H a (.ins C dx (oj f y fs))) s'->Q () s'):wpAny (model X.prog X.w) A (setAttr (.ref a) f u) Q E s:=by
 obtain ⟨mA,O,r,wi,_,ho⟩:=rl I.hok e;have hz:(fs.map (·.1)).length<=sizeLine:=by rw [LZ,Nh];omega
 refine Ba I.kIn O c.sa c.po n.HN c.hd wi hz fun h' O' sb=>h _ ?_;have hd:∃ o,h'.get? dx=some o:=let ⟨o,_,_,e',_⟩:=O'.ns;⟨o,e'⟩
 refine I.write (x:=a) (e:=dx) (by rw [e];exact True.intro) (.inr ho) (fun b q hb z=>(sb.2 b hb).trans z) hd ?_;refine ⟨by rw [ao O.ne];exact ho,?_,O.ne,O'.obj,_,O'.ns,fun g=>?_,fun g hg=>?_⟩
 ·have:=lj f y fs;omega
 ·show yp ((oj f y fs).lookup g) (if g=f then some u else mA g);rw [kW];by_cases q:g=f
  ·rw [Me q,Me q];exact ry
  ·rw [Mn q,Mn q];exact r g
 ·by_cases q:g=f
  ·rw [q];exact (kT f y fs).1
  ·refine (kT f y fs).2 g (wi g fun z=>hg ?_);show (if g=f then some u else mA g)=none;rw [Mn q];exact z
theorem Inv.made (I:Inv X pins σ H s):Inv X pins σ (upd (upd H s.heap.objs.size (.own (s.heap.objs.size+1))) (s.heap.objs.size+1) (.ins C s.heap.objs.size []))
    { s with heap:=(s.heap.push PySem.W.emptyDict).push (PySem.W.instObj C s.heap.objs.size) }:=by
  have e1:(s.heap.push PySem.W.emptyDict).get? s.heap.objs.size=some PySem.W.emptyDict:=Mu s.heap rfl;have e2:((s.heap.push PySem.W.emptyDict).push (PySem.W.instObj C s.heap.objs.size)).get? (s.heap.objs.size+1)=some (PySem.W.instObj C s.heap.objs.size):=by
    have:=Mu (s.heap.push PySem.W.emptyDict) (o:=PySem.W.instObj C s.heap.objs.size) rfl
    rwa [M6] at this
  have e3:(s.heap.push PySem.W.emptyDict).Ns s.heap.objs.size (fun _=>none):=⟨PySem.W.emptyDict,#[],_,e1,rfl,(fun e he=>absurd he (by simp)),fun _=>rfl⟩;have I1:=I.laid (a:=s.heap.objs.size) (o:=.own (s.heap.objs.size+1)) (h':=s.heap.push PySem.W.emptyDict) (t':=s.toks) (fun b u q=>L4 _ q) (Mg _) ⟨_,e1⟩;refine I1.laid (a:=s.heap.objs.size+1) (o:=.ins C s.heap.objs.size []) (t':=s.toks) (fun b u q=>L4 _ q) (Nat.le_of_eq (M6 _ _)) ?_;have ne:s.heap.objs.size≠s.heap.objs.size+1:=MD (M8 _);refine ⟨by rw [ao ne,aE],MV _,ne,e2,fun _=>none,(Heap.Ns1.of_empty e3).at fun o q=>L4 _ q,fun _=>True.intro,fun y hy=>absurd rfl hy⟩
theorem A2 {prog:Program} {w:World} {env:Env} {e:Expr} {f:Str} {pos:Pos} {s:Shared} {Q:Value->Shared->Prop} (hb:attributeBase e f env (eval e env)=eval e env)
  (h:wpAny (model prog w) A (eval e env) (fun o s₁=>wpAny (model prog w) A (getAttr o f true) Q E s₁) E s):wpAny (model prog w) A (eval (.Attribute e f pos) env) Q E s :=
 Attribute_any_ h (by rw [arm_eval_Attribute,hb])
end
section
variable {X:Cx} {o e value:Expr} {f:Str} {pos pos' tpos:Pos} {ta tv:TE}
theorem BM {pl:Sem Bool} {m:Str} {apos:Pos} {args:List Expr} {pins:List (Addr×Obj)} {s:Shared} {σ:St} {H:Hp} {Q:Value->Shared->Prop} {te:TE} (he:PE X e te) (I:Inv X pins σ H s)
  (h:te σ H fun x H1=>∃ a C dx fs g,x=.ref a/\H1 a=some (.ins C dx fs)/\Cls X.K C/\Meth X.K C m g/\fs.lookup m=none /\
   ∀ s1,Inv X pins σ H1 s1->wpAny (model X.prog X.w) X.A (callWith pos (.ref g) [.ref a] (backTo pos (starEach args X.env)) (backToKw pos (keywordEach [] X.env))) Q X.xe s1)
  (ht:eval (.Call (.Attribute e m apos) args [] pos) X.env=(do
   let ov<-eval e X.env
   standAt apos.atName
   let (f,first)<-holding [ov] (getMethod ov m pl)
   callWith pos f first (backTo pos (starEach args X.env)) (backToKw pos (keywordEach [] X.env)))) :
  wpAny (model X.prog X.w) X.A (eval (.Call (.Attribute e m apos) args [] pos) X.env) Q X.xe s:=by
 refine PySem.W.methodCall_KW (pl:=pl) (thn (he pins s σ H _ I h) fun u s1 ⟨x,H1,I1,rx,a,C,dx,fs,g,ex,ea,c,k,l,q⟩=>?_) ht;subst ex;obtain rfl:u=Value.ref a:=rx;exact iR I1 ea c k l (q s1 I1)
end
end L2
namespace L2
open PySem PySem.Spec PyProof.Rows
structure d7 (k:Nat) (A:Around):Prop where
 hd:A.handled=none
 dp:A.depth+3*k+5 < recursionLimit
 un:A.units+16*k+200 < cLine
 gd:A.guards=some []
theorem d7.mono {j k:Nat} {A:Around} (r:d7 k A) (h:j<=k):d7 j A:=⟨r.hd,by have:=r.dp;omega,by have:=r.un;omega,r.gd⟩
theorem d7.deeper {k:Nat} {A:Around} (r:d7 (k+1) A) (env:Env):d7 k (A.deeper env) :=
 ⟨r.hd,by have:=r.dp;show A.depth+1+3*k+5 < _;omega,by have:=r.un;show A.units+3+16*k+200 < _;omega,r.gd⟩
theorem uE {A:Around} {C:Addr} {us:List Value} {kw:List (Str×Value)}:(A.under (.builtin "type.__call__" ⟨.ref C :: us,kw⟩)).depth=A.depth+1:=by
 first | rfl | simp [Around.under,Code.weight,Code.isCreation,Code.isGuard,Code.isCaller,Code.frames,Code.isFrame,guardIds]
theorem ui {A:Around} {C:Addr} {us:List Value} {kw:List (Str×Value)}:(A.under (.builtin "type.__call__" ⟨.ref C :: us,kw⟩)).units=A.units+1:=by
 first | rfl | simp [Around.under,Code.cUnits,Code.frames,Code.isFrame]
theorem rZ {A:Around} {C:Addr} {us:List Value} {kw:List (Str×Value)} (h:A.guards=some []):(A.under (.builtin "type.__call__" ⟨.ref C :: us,kw⟩)).guards=some []:=by
 first | simp [Around.under,Code.guards,Code.isGuard,guardIds,pushGuards,h]
theorem d7.make {k:Nat} {A:Around} (r:d7 (k+1) A) (C:Addr) (us:List Value) (kw:List (Str×Value)):d7 k (A.under (.builtin "type.__call__" ⟨.ref C :: us,kw⟩)) :=
 ⟨r.hd,by have:=r.dp;rw [uE];omega,by have:=r.un;rw [ui];omega,rZ r.gd⟩
theorem d7.depth {k:Nat} {A:Around} (r:d7 k A):A.depth < recursionLimit:=by have:=r.dp;omega
theorem d7.units {k:Nat} {A:Around} (r:d7 k A):A.units+64 < cLine:=by have:=r.un;omega
def cu:TA:=fun _ H Q=>Q [] H
def ay (ta:TE) (tr:TA):TA:=fun σ H Q=>ta σ H fun x H1=>tr σ H1 fun xs H2=>Q (x :: xs) H2
section
variable {X:Cx} {e:Expr} {es:List Expr} {te:TE} {t:TA} {pos:Pos}
theorem Dg:PA X [] cu:=fun _ _ _ _ H Q I h=>Calls.spliced_nil ⟨[],H,I,.nil,h⟩
theorem BQ (ha:PE X e te) (hr:PA X es t) (hs:starEach (e :: es) X.env=(false,eval e X.env) :: starEach es X.env:=by rfl):PA X (e :: es) (ay te t):=by
 intro pos pins s σ H Q I h;rw [hs];show wpAny _ _ (spliced ((false,eval e X.env) :: backTo pos (starEach es X.env))) _ _ s;refine Calls.spliced_cons (thn (ha pins s σ H _ I h) fun u s1 ⟨x,H1,I1,r1,q1⟩=>?_);exact thn (hr pos pins s1 σ H1 _ I1 q1) fun us s2 ⟨xs,H2,I2,r2,q2⟩=>⟨x :: xs,H2,I2,.cons r1 r2,q2⟩
def CW (t:TA):TE:=fun σ H Q=>t σ H fun xs H1=>xs.length<=sizeLine/\∀ p,H1 p=none->Q (.ref p) (upd H1 p (.tup xs))
def lL (t:TA):TE:=fun σ H Q=>t σ H fun xs H1=>xs.length<=sizeLine/\∀ p,H1 p=none->Q (.ref p) (upd H1 p (.lst xs))
theorem F6 {x1} (h:PA X es t):PE X (.Tuple es x1 pos) (CW t):=by
 intro pins s σ H Q I hq;refine wpAny_Tuple_spliced (thn (h pos pins s σ H _ I hq) fun us s1 ⟨xs,H1,I1,r,z,q⟩=>⟨by rw [<- r.length];exact z,?_⟩);have hf:H1 s1.heap.objs.size=none:=I1.hok.fresh (Mg _);refine ⟨.ref s1.heap.objs.size,upd H1 s1.heap.objs.size (.tup xs),I1.laid (t':=s1.toks) (fun b u e=>L4 _ e) (Mg _) ?_,rfl,q _ hf⟩;exact ⟨z,us,r,⟨_,Mu _ rfl,rfl,_,rfl⟩⟩
theorem F8 (h:PA X es t):PE X (.List es pos) (lL t):=by
 intro pins s σ H Q I hq;refine wpAny_List_spliced (thn (h pos pins s σ H _ I hq) fun us s1 ⟨xs,H1,I1,r,z,q⟩=>⟨by rw [<- r.length];exact z,?_⟩);have hf:H1 s1.heap.objs.size=none:=I1.hok.fresh (Mg _);refine ⟨.ref s1.heap.objs.size,upd H1 s1.heap.objs.size (.lst xs),I1.laid (t':=s1.toks) (fun b u e=>L4 _ e) (Mg _) ?_,rfl,q _ hf⟩;exact ⟨z,us,0,r,Mu _ rfl⟩
end
abbrev Sp:=List V->Hp->VK->XK->Prop
abbrev CXT:=List Env->Hp->Shared->XK->Value->Shared->Prop
structure BO (P:Program) (w:World) (K:Fg) (mg:Str->Option Value) (base:Heap) (A:Around) (outer:List Env) (s:Shared) (H:Hp):Prop where
 frames:A.frames=some outer
 mod:Mod K mg base
 bs:∀ b o,base.get? b=some o->s.heap.get? b=some o/\H b=none
 bsz:base.objs.size<=s.heap.objs.size
 vm:s.heap.FunFrames base outer
 frf:∀ b∈frs outer,H b=none
 hok:HOk P w H s.heap
 bare:AllBare s.gens
def CE (outer:List Env) (P:Program) (w:World) (H:Hp) (s:Shared) (Q:VK) (u:Value) (s':Shared):Prop :=
 ∃ v H',s'.os=s.os/\AllBare s'.gens/\Un (frs outer) [] H H' s.heap s'.heap/\HOk P w H' s'.heap/\RelV v u/\Q v H'
def CR (CX:CXT) (outer:List Env) (P:Program) (w:World) (H:Hp) (s:Shared) (Q:VK) (E:XK) (r:Result) (s':Shared):Prop :=
 match r with
 | .ok (.ret u)=>CE outer P w H s Q u s'
 | .ok _=>False
 | .error e=>CX outer H s E e s'
structure aO (P:Program) (w:World) (K:Fg) (mg:Str->Option Value) (base:Heap) (CX:CXT) (k:Nat) (f:Addr) (fd:FuncData) (ps:List Str) (sp:Sp):Prop where
 len:∀ vs H Q E,sp vs H Q E->vs.length=ps.length
 run:∀ (A:Around) (outer:List Env) (s:Shared) (H:Hp) (args:Args) (us:List Value) (vs:List V) (Q:VK) (E:XK),d7 k A->BO P w K mg base A outer s H->BindsTo s fd args (ps.zip us)->Vals vs us->sp vs H Q E ->
  codeAny (model P w) A (.call (.ref f) args) (CR CX outer P w H s Q E) s
theorem aO.mono {P:Program} {w:World} {K:Fg} {mg:Str->Option Value} {base:Heap} {CX:CXT} {j k:Nat} {f:Addr} {fd:FuncData} {ps:List Str} {sp:Sp} (F:aO P w K mg base CX j f fd ps sp) (h:j<=k) :
  aO P w K mg base CX k f fd ps sp:=⟨F.len,fun A outer s H args us vs Q E hr=>F.run A outer s H args us vs Q E (hr.mono h)⟩
theorem BO.make {P:Program} {w:World} {K:Fg} {mg:Str->Option Value} {base:Heap} {A:Around} {outer:List Env} {s:Shared} {H:Hp} (e:BO P w K mg base A outer s H) (C:Addr) (us:List Value) (kw:List (Str×Value)) :
  BO P w K mg base (A.under (.builtin "type.__call__" ⟨.ref C :: us,kw⟩)) outer s H:=⟨by first | exact e.frames | (simpa [Around.under,Code.envs,Code.isFrame,pushEnvs] using e.frames),e.mod,e.bs,e.bsz,e.vm,e.frf,e.hok,e.bare⟩
section
variable {X:Cx} {pins:List (Addr×Obj)} {σ:St} {H:Hp} {s s':Shared}
theorem Inv.Gv (I:Inv X pins σ H s):BO X.prog X.w X.K X.mg X.base X.A X.stack s H :=
 ⟨I.ok.frames,I.ok.mod,I.bs,Mr I.ok.bsz I.sz,I.stack,I.rK,I.hok,I.bare⟩
theorem Inv.after {Q:VK} {u:Value} (I:Inv X pins σ H s) (h:CE X.stack X.prog X.w H s Q u s'):EP X pins σ Q u s':=by
 obtain ⟨v,H',os,bare,un,hok,r,q⟩:=h;obtain ⟨hh,g,d,t,os'⟩:=s';obtain rfl:os'=s.os:=os;exact ⟨v,H',I.call (h':=hh) (g':=g) (d':=d) (t':=t) (ch:=[]) un hok bare (fun b z=>absurd z (by simp)),r,q⟩
end
def gx (sp:Sp) (dvs:List V) (E:XK) (t:TA):TE:=fun σ H Q=>t σ H fun vs H1=>sp (vs++dvs) H1 Q E
def Fw (C:Addr) (m:Str) (sp:Sp) (dvs:List V) (E:XK) (ta:TE) (t:TA):TE:=fun σ H Q=>ta σ H fun x H1=>∃ a dx fs,x=.ref a/\H1 a=some (.ins C dx fs)/\fs.lookup m=none /\
 t σ H1 fun vs H2=>sp (x :: (vs++dvs)) H2 Q E
def Hz (C:Addr) (sp:Sp) (dvs:List V) (E:XK) (t:TA):TE:=fun σ H Q=>t σ H fun vs H1=>∀ x dx,H1 x=none->H1 dx=none->dx≠x ->
 sp (.ref x :: (vs++dvs)) (upd (upd H1 dx (.own x)) x (.ins C dx [])) (fun v H2=>v=.non/\Q (.ref x) H2) E
def Binds (K:Fg) (fd:FuncData) (ps:List Str) (ds:List Value):Prop :=
 ∀ (s:Shared) (us:List Value),K.In s.heap->(us++ds).length=ps.length->BindsTo s fd ⟨us,[]⟩ (ps.zip (us++ds))
theorem Binds.all {K:Fg} {fd:FuncData} {ps:List Str} (h:∀ us:List Value,us.length=ps.length->bindArgs fd ⟨us,[]⟩=pure (ps.zip us)):Binds K fd ps []:=fun s us _ hl=>by
 rw [MS] at hl ⊢;exact .of_eq (h us hl)
def Passes (CX:CXT) (X:Cx) (E:XK):Prop:=∀ (pins:List (Addr×Obj)) (σ:St) (H:Hp) (s:Shared) (e:Value) (s':Shared),Inv X pins σ H s->CX X.stack H s E e s'->X.xe e s'
section
variable {X:Cx} {CX:CXT} {k:Nat} {f C:Addr} {fd:FuncData} {ps:List Str} {sp:Sp} {dvs:List V} {ds:List Value} {E:XK} {x m:Str} {p pos apos:Pos} {e o:Expr} {es:List Expr} {ta:TE} {t:TA}
theorem xp {pins:List (Addr×Obj)} {σ:St} {H:Hp} {s:Shared} {Q:VK} {us:List Value} {vs:List V} (F:aO X.prog X.w X.K X.mg X.base CX k f fd ps sp) (hr:d7 k X.A) (hb:Binds X.K fd ps ds) (hd:Vals dvs ds) (hx:Passes CX X E)
  (I:Inv X pins σ H s) (r:Vals vs us) (h:sp (vs++dvs) H Q E):wpAny (model X.prog X.w) X.A (call (.ref f) us) (EP X pins σ Q) X.xe s:=by
 have r2:Vals (vs++dvs) (us++ds):=r.append hd;have hl:(us++ds).length=ps.length:=by rw [<- r2.length];exact F.len _ _ _ _ h
 refine wpAny_call (codeAny_mono (F.run X.A X.stack s H ⟨us,[]⟩ (us++ds) (vs++dvs) Q E hr I.Gv (hb s us I.kIn hl) r2 h) fun r s' hq=>?_);cases r with
 | error e=>exact hx pins σ H s e s' I hq
 | ok fl =>
  cases fl with
  | ret u=>exact I.after hq
  | next=>exact False.elim hq
  | brk=>exact False.elim hq
  | cont=>exact False.elim hq
theorem B1 (F:aO X.prog X.w X.K X.mg X.base CX k f fd ps sp) (hr:d7 k X.A) (hg:Gl X x) (hm:X.mg x=some (.ref f)) (hk:PySem.W.keepIn X.K (.ref f)=true) (hb:Binds X.K fd ps ds) (hd:Vals dvs ds) (hx:Passes CX X E)
  (ha:PA X (e :: es) t) (hdb:(x==("__debug__" : Str))=false:=by decide) (he:starEach (e :: es) X.env=(false,eval e X.env) :: starEach es X.env:=by rfl) (hpl:(backTo pos (starEach es X.env)).any (·.1)=false:=by rfl) :
  PE X (.Call (.Name x p) (e :: es) [] pos) (gx sp dvs E t):=by
 intro pins s σ H Q I h;refine NF (qI I hg hm ?_ hdb);refine PySem.W.callWith_K (h₀:=X.base) I.ok.mod.kin hk (thn (ha pos pins s σ H _ I h) fun us s1 ⟨vs,H1,I1,r,q⟩=>⟨I1.kIn,?_⟩) he hpl;exact xp F hr hb hd hx I1 r q
theorem BG {pl:Sem Bool} (he:PE X o ta) (c:Cls X.K C) (hm:Meth X.K C m f) (F:aO X.prog X.w X.K X.mg X.base CX k f fd ps sp) (hr:d7 k X.A) (hb:Binds X.K fd ps ds) (hd:Vals dvs ds) (hx:Passes CX X E) (ha:PA X (e :: es) t)
  (hst:starEach (e :: es) X.env=(false,eval e X.env) :: starEach es X.env:=by rfl) (hpl:(backTo pos (starEach es X.env)).any (·.1)=false:=by rfl)
  (ht:eval (.Call (.Attribute o m apos) (e :: es) [] pos) X.env=(do
   let ov<-eval o X.env
   standAt apos.atName
   let (f,first)<-holding [ov] (getMethod ov m pl)
   callWith pos f first (backTo pos (starEach (e :: es) X.env)) (backToKw pos (keywordEach [] X.env))):=by rfl) :
  PE X (.Call (.Attribute o m apos) (e :: es) [] pos) (Fw C m sp dvs E ta t):=by
 intro pins s σ H Q I h;refine PySem.W.methodCall_KW (pl:=pl) (thn (he pins s σ H _ I h) fun u s1 ⟨x,H1,I1,rx,a,dx,fs,ex,ea,l,q⟩=>?_) ht;subst ex;obtain rfl:u=Value.ref a:=rx;refine iR I1 ea c hm l ?_;refine PySem.W.callWith_K (first:=[.ref a]) (h₀:=X.base) I.ok.mod.kin hm.kp (thn (ha pos pins s1 σ H1 _ I1 q) fun us s2 ⟨vs,H2,I2,r,q2⟩=>⟨I2.kIn,?_⟩) hst hpl;exact xp (us:=.ref a :: us) (vs:=.ref a :: vs) F hr hb hd hx I2 (.cons rfl r) q2
theorem zF {pl:Sem Bool} (he:PE X o ta) (c:Cls X.K C) (hm:Meth X.K C m f) (F:aO X.prog X.w X.K X.mg X.base CX k f fd ps sp) (hr:d7 k X.A) (hb:Binds X.K fd ps ds) (hd:Vals dvs ds) (hx:Passes CX X E)
  (ht:eval (.Call (.Attribute o m apos) [] [] pos) X.env=(do
   let ov<-eval o X.env
   standAt apos.atName
   let (f,first)<-holding [ov] (getMethod ov m pl)
   callWith pos f first (backTo pos (starEach [] X.env)) (backToKw pos (keywordEach [] X.env))):=by rfl) :
  PE X (.Call (.Attribute o m apos) [] [] pos) (Fw C m sp dvs E ta cu):=by
 intro pins s σ H Q I h;refine PySem.W.methodCall_KW (pl:=pl) (thn (he pins s σ H _ I h) fun u s1 ⟨x,H1,I1,rx,a,dx,fs,ex,ea,l,q⟩=>?_) ht;subst ex;obtain rfl:u=Value.ref a:=rx;refine iR I1 ea c hm l ?_;exact PySem.W.callWith_K0 (first:=[.ref a]) I1.kIn hm.kp (xp (us:=[.ref a]) (vs:=[.ref a]) F hr hb hd hx I1 (.cons rfl .nil) q)
structure Mk (K:Fg) (C f:Addr):Prop where
 makes:PySem.W.makesIn K C=true
 init:PySem.W.findIn K (.ref C) "__init__" = some (some (.ref f))
 fn:PySem.W.isFn K (.ref f)=true
 kp:PySem.W.keepIn K (.ref C)=true
theorem zh {pins:List (Addr×Obj)} {σ:St} {H:Hp} {s:Shared} {Q:VK} {us:List Value} {vs:List V} (M:Mk X.K C f) (F:aO X.prog X.w X.K X.mg X.base CX k f fd ps sp) (hr:d7 (k+1) X.A) (hb:Binds X.K fd ps ds) (hd:Vals dvs ds)
  (hx:Passes CX X E) (I:Inv X pins σ H s) (r:Vals vs us)
  (h:∀ x dx,H x=none->H dx=none->dx≠x->sp (.ref x :: (vs++dvs)) (upd (upd H dx (.own x)) x (.ins C dx [])) (fun v H2=>v=.non/\Q (.ref x) H2) E) :
  wpAny (model X.prog X.w) X.A (call (.ref C) us) (EP X pins σ Q) X.xe s:=by
 have hq:=h (s.heap.objs.size+1) s.heap.objs.size (I.hok.fresh (Nat.le_succ _)) (I.hok.fresh (Mg _)) (MD (M8 _));have I2:=Inv.made (C:=C) I;have r2:Vals (V.ref (s.heap.objs.size+1) :: (vs++dvs)) (Value.ref (s.heap.objs.size+1) :: (us++ds)):=.cons rfl (r.append hd);have hl:(Value.ref (s.heap.objs.size+1) :: us++ds).length=ps.length:=by
  have e:=r2.length;rw [F.len _ _ _ _ hq] at e;exact e.symm
 refine wpAny_call (yB (f:=f) I.kIn M.makes M.init (Ny.mp M.fn) (codeAny_mono (F.run _ X.stack _ _ ⟨Value.ref (s.heap.objs.size+1) :: us,[]⟩ (Value.ref (s.heap.objs.size+1) :: (us++ds)) _ _ E (hr.make C us [])
  (I2.Gv.make C us []) (hb _ (Value.ref (s.heap.objs.size+1) :: us) I2.kIn hl) r2 hq) fun r s' hq'=>?_))
 cases r with
 | error e=>exact hx pins σ _ _ e s' I2 hq'
 | ok fl =>
  cases fl with
  | ret u =>
   obtain ⟨v,H',I3,rv,ev,q3⟩:=I2.after hq';subst ev;exact ⟨rv,⟨V.ref (s.heap.objs.size+1),H',I3,rfl,q3⟩⟩
  | next=>exact False.elim hq'
  | brk=>exact False.elim hq'
  | cont=>exact False.elim hq'
theorem AU (M:Mk X.K C f) (F:aO X.prog X.w X.K X.mg X.base CX k f fd ps sp) (hr:d7 (k+1) X.A) (hg:Gl X x) (hm:X.mg x=some (.ref C)) (hb:Binds X.K fd ps ds) (hd:Vals dvs ds) (hx:Passes CX X E)
  (ha:PA X (e :: es) t) (hdb:(x==("__debug__" : Str))=false:=by decide) (he:starEach (e :: es) X.env=(false,eval e X.env) :: starEach es X.env:=by rfl) (hpl:(backTo pos (starEach es X.env)).any (·.1)=false:=by rfl) :
  PE X (.Call (.Name x p) (e :: es) [] pos) (Hz C sp dvs E t):=by
 intro pins s σ H Q I h;refine NF (qI I hg hm ?_ hdb);refine PySem.W.callWith_K (h₀:=X.base) I.ok.mod.kin M.kp (thn (ha pos pins s σ H _ I h) fun us s1 ⟨vs,H1,I1,r,q⟩=>⟨I1.kIn,?_⟩) he hpl;exact zh M F hr hb hd hx I1 r q
end
structure af (N P:List Str) (sc:Scope):Prop where
 kind:sc.kind=.function
 co:sc.isCoroutine=false
 gen:sc.isGenerator=false
 nd:N.Nodup
 pre:N.take P.length=P
 par:∀ x∈P,sc.names.lookup x=some .local\/sc.names.lookup x=some .cell
 EY:∀ y∈sc.names,y.2≠.free
theorem pO {kindOf:Str->Option NameKind} {x:Str}:∀ {binds:List (Str×Value)} {m:Str->Option Value},(∀ v,(x,v) ∉ binds)->bindL kindOf binds m x=m x
 | [],_,_=>rfl
 | (n,v) :: r,m,h=>by
  unfold bindL;rw [pO fun w hw=>h w (L8 _ hw)];split
  ·have:x≠n:=by rintro rfl;exact h v Mj
   simp [this]
  ·rfl
theorem oV {kindOf:Str->Option NameKind} {x:Str}:∀ {binds:List (Str×Value)} {m:Str->Option Value},(∀ v,(x,v) ∉ binds)->bindC kindOf binds m x=m x
 | [],_,_=>rfl
 | (n,v) :: r,m,h=>by
  unfold bindC;rw [oV fun w hw=>h w (L8 _ hw)];split
  ·rfl
  ·have:x≠n:=by rintro rfl;exact h v Mj
   simp [this]
theorem pK {kindOf:Str->Option NameKind} {x:Str} {v:Value}:∀ {P:List Str} {vs:List Value} {i:Nat} {m:Str->Option Value},P.Nodup->P[i]?=some x->vs[i]?=some v->kindOf x=some .local ->
  bindL kindOf (P.zip vs) m x=some v
 | [],_,_,_,_,h,_,_=>by simp at h
 | _ :: _,[],_,_,_,_,h,_=>by simp at h
 | p :: P,w :: vs,0,m,nd,h1,h2,hk=>by
  simp at h1 h2;subst h1;subst h2;show bindL kindOf ((p,w) :: P.zip vs) m p=_;unfold bindL;rw [pO fun v hv=>(MW.mp nd).1 (List.of_mem_zip hv).1,Me hk];simp
 | p :: P,w :: vs,i+1,m,nd,h1,h2,hk=>by
  show bindL kindOf ((p,w) :: P.zip vs) m x=_;unfold bindL;exact pK (i:=i) (MW.mp nd).2 (by simpa using h1) (by simpa using h2) hk
theorem pv {kindOf:Str->Option NameKind} {x:Str} {v:Value}:∀ {P:List Str} {vs:List Value} {i:Nat} {m:Str->Option Value},P.Nodup->P[i]?=some x->vs[i]?=some v->kindOf x≠some .local ->
  bindC kindOf (P.zip vs) m x=some v
 | [],_,_,_,_,h,_,_=>by simp at h
 | _ :: _,[],_,_,_,_,h,_=>by simp at h
 | p :: P,w :: vs,0,m,nd,h1,h2,hk=>by
  simp at h1 h2;subst h1;subst h2;show bindC kindOf ((p,w) :: P.zip vs) m p=_;unfold bindC;rw [oV fun v hv=>(MW.mp nd).1 (List.of_mem_zip hv).1,Mn hk];simp
 | p :: P,w :: vs,i+1,m,nd,h1,h2,hk=>by
  show bindC kindOf ((p,w) :: P.zip vs) m x=_;unfold bindC;exact pv (i:=i) (MW.mp nd).2 (by simpa using h1) (by simpa using h2) hk
noncomputable def start (N:List Str) (vs:List V):St:=vs.map some++List.replicate (N.length - vs.length) none
noncomputable def yj (CX:CXT) (P:Program) (w:World) (K:Fg) (mg:Str->Option Value) (base:Heap) (N:List Str) (qual:Str) (scope:Scope) (f:Addr) (cd:Value) (A:Around) (outer:List Env) (s:Shared) (H:Hp) (E:XK):Cx where
 prog:=P
 w:=w
 K:=K
 mg:=mg
 base:=base
 A:=A.deeper (envOfC qual scope s.heap.objs.size f cd)
 N:=N
 s₀:=s
 H₀:=H
 env:=envOfC qual scope s.heap.objs.size f cd
 outer:=outer
 stack:=envOfC qual scope s.heap.objs.size f cd :: outer
 ex:=[]
 calm:=true
 fn:=fun _=>true
 pn:=[]
 xe:=fun e s'=>wpAny (model P w) (A.deeper (envOfC qual scope s.heap.objs.size f cd)) (leaving (envOfC qual scope s.heap.objs.size f cd) e) (fun _ s''=>CX outer H s E e s'') (fun e' s''=>CX outer H s E e' s'') s'
theorem tQ {sc:Scope} {n:Nat} {x:Str} (h:sc.names.lookup x=some .cell):∃ c,(cellsFrom n sc.names []).lookup x=some c:=by
 have q:=PySem.W.cellsFrom_some sc.names n [] (.inl h);exact Option.isSome_iff_exists.mp q
theorem yb {CX:CXT} {P:Program} {w:World} {K:Fg} {mg:Str->Option Value} {base:Heap} {N ps:List Str} {qual:Str} {scope:Scope} {f:Addr} {cd:Value} {A:Around} {outer:List Env} {s s1:Shared} {H:Hp} {E:XK} {us:List Value} {vs:List V}
  (S:af N ps scope) (hd:A.handled=none) (e0:BO P w K mg base A outer s H) (hl:vs.length=ps.length) (r:Vals vs us)
  (x:InCallC s s.heap.objs.size (bindL (envOfC qual scope s.heap.objs.size f cd).kindOf (ps.zip us) fun _=>none) (cellsFrom (s.heap.objs.size+1) scope.names []) (bindC (envOfC qual scope s.heap.objs.size f cd).kindOf (ps.zip us) fun _=>none) s1) :
  Inv (yj CX P w K mg base N qual scope f cd A outer s H E) [] (start N vs) H s1:=by
 have hpl:ps.length<=N.length:=by have:=congrArg List.length S.pre;rw [MN] at this;omega
 obtain ⟨h1,tk,rfl,hk⟩:=x.done;have noA:∀ b:Addr,b ∉ (yj CX P w K mg base N qual scope f cd A outer s H E).ex:=fun b z=>absurd (show b∈([]:List Addr) from z) (by simp)
 refine ⟨⟨e0.mod,S.kind,rfl,rfl,Mg _,fun y z c h1 h2=>?_,fun y hy=>?_,fun y c _ h=>?_,fun _=>hd,Around.frames_deeper e0.frames,.inr ⟨rfl,rfl⟩,fun b z=>absurd z (noA b),e0.bs,e0.bsz,fun b _ _=>noA b,fun b z=>absurd z (noA b),e0.vm,e0.frf⟩,
  rfl,e0.bare,Un.kept hk,⟨_,x.toInCall.ns,fun i y v h1 h2 h3=>?_⟩,fun y c h=>⟨_,x.cell y c h⟩,e0.hok.fresh (Mg _),fun y c h=>?_,fun p hp=>absurd (show p∈([]:List (Addr×Obj)) from hp) (by simp),e0.hok.kept hk,?_⟩
 ·exact name_of_addr x.apart (Nc h1) (Nc h2)
 ·have hy:scope.names.lookup y=some .cell\/scope.names.lookup y=some .free:=hy;rcases hy with hy | hy
  ·exact tQ hy
  ·exact absurd rfl (S.EY _ (Nc hy))
 ·exact NO (x.above y c (Nc h))
 ·have hi:i < vs.length:=by
   unfold start at h2;by_cases hi:i < vs.length
   ·exact hi
   ·rw [Mi (by simpa using hi)] at h2;rw [List.getElem?_replicate] at h2;split at h2 <;> cases h2
  have ha:vs[i]?=some v:=by
   unfold start at h2;rw [MC (by simpa using hi),Mm] at h2;cases e:vs[i]? with
   | none=>rw [e] at h2;cases h2
   | some a=>rw [e] at h2;cases h2;rfl
  obtain ⟨u,hu,rv⟩:=r.get ha;have hp:ps[i]?=some y:=by
   rw [<- S.pre,List.getElem?_take_of_lt (by omega)];exact h1
  have ndP:ps.Nodup:=by rw [<- S.pre];exact S.nd.sublist (List.take_sublist _ _)
  refine ⟨u,rv,?_⟩;rcases S.par y (My hp) with k | k
  ·exact .inl ⟨k,pK ndP hp hu k⟩
  ·obtain ⟨c,e⟩:=tQ (n:=s.heap.objs.size+1) k;refine .inr ⟨.inl k,c,e,?_⟩;have q:=x.cell y c e;rw [pv ndP hp hu (by show scope.names.lookup y≠_;rw [k];decide)] at q;exact q
 ·exact e0.hok.fresh (NO (x.above y c (Nc h)))
 ·unfold start;show _=N.length;rw [LY,LZ,Nv];omega
theorem HM {CX:CXT} {P:Program} {w:World} {K:Fg} {mg:Str->Option Value} {base:Heap} {k:Nat} {f:Addr} {name qual:Str} {params:Arguments} {body:List Stmt} {scope:Scope} {dV kV doc pm cdv ct oc:Value} {an od:Option Addr}
  {osl:Array (Option Value)} {N ps:List Str} {sp:Sp} (lk:K.lookup f=some ⟨oc,od,.func (PySem.W.fnOf name qual params body scope dV kV doc pm an cdv ct),osl⟩) (hcd:PySem.W.codeIn K cdv qual=true) (S:af N ps scope)
  (len:∀ vs H Q E,sp vs H Q E->vs.length=ps.length)
  (hbody:∀ (A:Around) (outer:List Env) (s:Shared) (H:Hp) (vs:List V) (Q:VK) (E:XK),d7 k (A.deeper (envOfC qual scope s.heap.objs.size f cdv))->sp vs H Q E ->
   ∃ t,PSs (yj CX P w K mg base N qual scope f cdv A outer s H E) body t/\t { nx:=fun _ H'=>Q .non H',rt:=Q } (start N vs) H) :
  aO P w K mg base CX (k+1) f (PySem.W.fnOf name qual params body scope dV kV doc pm an cdv ct) ps sp:=by
 refine ⟨len,fun A outer s H args us vs Q E hr e0 hb r hsp=>?_⟩;have hl:=len _ _ _ _ hsp;have KX:K.In s.heap:=e0.mod.kin.keeps fun b o e=>(e0.bs b o e).1;have lim:s.heap.NoLimit:=e0.mod.nolimit.keeps fun b o e=>(e0.bs b o e).1;have hkind:∀ y∈ps.zip us,scope.names.lookup y.1=some .local\/(scope.names.lookup y.1=some .cell/\((cellsFrom (s.heap.objs.size+1) scope.names []).lookup y.1).isSome=true):=fun ⟨n,v⟩ hy=>by
  rcases S.par n (List.of_mem_zip hy).1 with q | q
  ·exact .inl q
  ·exact .inr ⟨q,PySem.W.cellsFrom_some _ _ _ (.inl q)⟩
 refine codeAny_call_function hr.depth (KX _ _ lk) rfl S.co S.gen rfl (PySem.W.codeRec_of KX hcd) (hb _ _ _ _ ?_);refine wpAny_newFunctionEnv_cells S.kind hkind fun env he s1 x=>?_;subst he;refine ⟨lim.keeps x.toInCall.keep,codeAny_func ?_⟩;obtain ⟨t,ht,hq⟩:=hbody A outer s H vs Q E (hr.deeper _) hsp;have I:Inv (yj CX P w K mg base N qual scope f cdv A outer s H E) [] (start N vs) H s1:=yb S hr.hd e0 hl r x;refine ME (ht [] s1 (start N vs) H _ I hq) (fun fl s' hs=>?_) fun e s' hs=>hs;have fin:∀ {σ':St} {H':Hp} {v:V} {u:Value},Inv (yj CX P w K mg base N qual scope f cdv A outer s H E) [] σ' H' s'->RelV v u->Q v H'->CE outer P w H s Q u s' :=
  fun {σ' H' v u} J rv q=>⟨v,H',J.os,J.bare,J.base,J.hok,rv,q⟩
 cases fl with
 | ret u =>
  obtain ⟨v,σ',H',J,rv,q⟩:=hs;exact fin J rv q
 | next =>
  obtain ⟨σ',H',J,q⟩:=hs;exact fin (v:=V.non) (u:=Value.none) J rfl q
 | brk =>
  obtain ⟨_,_,_,q⟩:=hs;exact False.elim q
 | cont =>
  obtain ⟨_,_,_,q⟩:=hs;exact False.elim q
end L2
namespace L2
open PySem PySem.Spec PyProof.Rows
section
variable {X:Cx} {x:Str} {p pos:Pos} {e:Expr} {es:List Expr} {t:TA} {id T:String} {r:List V->Hp->VK->Prop}
def tCB (r:List V->Hp->VK->Prop) (t:TA):TE:=fun σ H Q=>t σ H fun vs H1=>r vs H1 Q
theorem zV (hc:aW X (.builtin id) r) (hg:Gl X x) (hm:X.mg x=none) (hv:bootBuiltins x=some (.builtin id)) (ha:PA X (e :: es) t) (hn:x ≠ "__name__" := by decide) (hdb:(x==("__debug__" : Str))=false:=by decide)
  (he:starEach (e :: es) X.env=(false,eval e X.env) :: starEach es X.env:=by rfl) (hpl:(backTo pos (starEach es X.env)).any (·.1)=false:=by rfl):PE X (.Call (.Name x p) (e :: es) [] pos) (tCB r t):=by
 intro pins s σ H Q I h;refine NF (pT I hg hm hv ?_ hn hdb);exact PyProof.Rows.callWith_builtin1 (thn (ha pos pins s σ H _ I h) fun us s1 ⟨vs,H1,I1,r1,q1⟩=>hc pins s1 σ H1 vs us Q I1 r1 q1) he hpl
theorem vT (hc:aW X (.type T) r) (hg:Gl X x) (hm:X.mg x=none) (hv:bootBuiltins x=some (.type T)) (ha:PA X (e :: es) t) (hn:x ≠ "__name__" := by decide) (hdb:(x==("__debug__" : Str))=false:=by decide)
  (he:starEach (e :: es) X.env=(false,eval e X.env) :: starEach es X.env:=by rfl) (hpl:(backTo pos (starEach es X.env)).any (·.1)=false:=by rfl):PE X (.Call (.Name x p) (e :: es) [] pos) (tCB r t):=by
 intro pins s σ H Q I h;refine NF (pT I hg hm hv ?_ hn hdb);exact PyProof.Rows.callWith_type1 (thn (ha pos pins s σ H _ I h) fun us s1 ⟨vs,H1,I1,r1,q1⟩=>hc pins s1 σ H1 vs us Q I1 r1 q1) he hpl
end
end L2
namespace HT
open PySem PyProof.Rows
section
variable {prog:Program} {w:World} {A:Around} {E:Value->Shared->Prop} {s:Shared}
theorem Bk {t b:Addr} {vs ws:List Value} {Q:Value->Shared->Prop} (ht:IsTup s.heap t vs.toArray) (hb:IsTup s.heap b ws.toArray) (hv:vs≠[])
  (h1:ws=[]->Q (.ref t) s) (h2:ws≠[]->Q (.ref s.heap.objs.size) { s with heap:=s.heap.push { cls:=.type "tuple", data:=.seq (vs++ws).toArray } })
  (hsz:vs.length+ws.length<=sizeLine):wpAny (model prog w) A (binaryOp .Add (.ref t) (.ref b)) Q E s:=by
 obtain ⟨⟨cls,dd,data,sl⟩,ho,hc,n,hd⟩:=id ht;obtain ⟨⟨cls2,dd2,data2,sl2⟩,ho2,hc2,n2,hd2⟩:=id hb;simp only at hc hd hc2 hd2;subst hc hd hc2 hd2;have e:vs.toArray++ws.toArray=(vs++ws).toArray:=by simp
 by_cases hw:ws=[]
 ·exact concat_meets ⟨_,ho,rfl⟩ ⟨_,ho2,rfl⟩ noFill_tuple_add seq_tuple_add PySem.F.slot_tuple_add PySem.F.entry_tuple_add (PySem.F.args_tuple_add_2 _ _)
   (tuple_addW1 t b vs.toArray ws.toArray n n2 dd dd2 sl sl2 (by simpa using hv) (by simp [hw])) ⟨ho,ho2,h1 hw⟩
 ·refine concat_meets ⟨_,ho,rfl⟩ ⟨_,ho2,rfl⟩ noFill_tuple_add seq_tuple_add PySem.F.slot_tuple_add PySem.F.entry_tuple_add (PySem.F.args_tuple_add_2 _ _)
   (tuple_addW2 t b vs.toArray ws.toArray n n2 dd dd2 sl sl2 (by simpa using hv) (by simpa using hw) (by rw [Mh,Mh];exact hsz)) ⟨ho,ho2,?_⟩
  rw [e];exact h2 hw
noncomputable def sIx (n d:Nat):Option Int->Nat
 | none=>d
 | some v=>if v < 0 then (v+(n:Int)).toNat else min v.toNat n
theorem tJ (n d:Nat) (hd:d<=n) (o:Option Int):sIx n d o<=n:=by
 cases o with
 | none=>exact hd
 | some v =>
  show (if v < 0 then (v+(n:Int)).toNat else min v.toNat n)<=n;by_cases hv:v < 0
  ·rw [Me hv];omega
  ·rw [Mn hv];exact Nat.min_le_right _ _
theorem vo (v:Int) (n d:Nat):(if v < 0 then max (v+(n:Int)) 0 else min v (n:Int))=((sIx n d (some v):Nat):Int):=by
 show (if v < 0 then max (v+(n:Int)) 0 else min v (n:Int))=(((if v < 0 then (v+(n:Int)).toNat else min v.toNat n):Nat):Int);by_cases hv:v < 0
 ·simp only [Me hv];omega
 ·simp only [Mn hv];omega
theorem uD (lo hi:Option Int) (n:Nat):Builtin.Slice.sliceAdjust lo hi 1 (n:Int)=(((sIx n 0 lo:Nat):Int),((sIx n n hi:Nat):Int)):=by
 have h1:¬((1:Int) < 0):=by omega
 unfold Builtin.Slice.sliceAdjust;simp only [h1,if_false];refine Prod.ext ?_ ?_
 ·cases lo with
  | none=>rfl
  | some v=>exact vo v n 0
 ·cases hi with
  | none=>rfl
  | some v=>exact vo v n n
theorem uH (i j:Nat):Builtin.Slice.slicePlaces (i:Int) (j:Int) 1=j - i:=by
 unfold Builtin.Slice.slicePlaces;have h1:(1:Int) > 0:=by omega
 simp only [h1,Nz,Int.ediv_one];split <;> omega
theorem l9 {v:Value} {o:Option Int} {Q:Option Int->Shared->Prop} (p:IsPart v o) (h:Q o s):wpAny (model prog w) A (Builtin.Slice.slicePartIndex v) Q E s:=by
 cases p with
 | none=>exact slicePart_none h
 | int i t=>exact slicePart_int h
theorem jI {sl:Addr} {vl vu:Value} {lo hi:Option Int} {n:Nat} {Q:Int×Int×Nat->Shared->Prop} (hs:s.heap.IsSliceOf sl vl vu .none) (pl:IsPart vl lo) (pu:IsPart vu hi)
  (h:Q (((sIx n 0 lo:Nat):Int),1,sIx n n hi - sIx n 0 lo) s):wpAny (model prog w) A (Builtin.Slice.sliceApplied (.ref sl) (pure (n:Int))) Q E s:=by
 obtain ⟨os,hos,hcs,hds⟩:=id hs;unfold Builtin.Slice.sliceApplied Builtin.Slice.sliceFields;refine Mp (Mp (wpAny_field hos hds (x:=vl) rfl (Mp (wpAny_field hos hds (x:=vu) rfl (Mp (wpAny_field hos hds (x:=.none) rfl (MA ?_)))))));refine Mp (slicePart_none ?_);show wpAny _ _ (if ((1:Int)==0)=true then _ else _) _ _ s;rw [Mn (by decide)];refine Mp (l9 pl (Mp (l9 pu (Mp (MA ?_)))));show wpAny _ _ (match Builtin.Slice.sliceAdjust lo hi 1 (n:Int) with | (lo,hi)=>pure (lo,(1:Int),Builtin.Slice.slicePlaces lo hi 1)) _ _ s;rw [uD lo hi n];show wpAny _ _ (pure (((sIx n 0 lo:Nat):Int),(1:Int),Builtin.Slice.slicePlaces ((sIx n 0 lo:Nat):Int) ((sIx n n hi:Nat):Int) 1)) _ _ s;rw [uH];exact MA h
theorem yr (xs:Array Value) (i k:Nat):((List.range k).filterMap fun (m:Nat)=>xs[((i:Int)+(m:Int)*1).toNat]?).toArray=((xs.toList.drop i).take k).toArray:=by
 have e:(fun (m:Nat)=>xs[((i:Int)+(m:Int)*1).toNat]?)=fun m=>xs[i+m]?:=by
  funext m;have:((i:Int)+(m:Int)*1).toNat=i+m:=by omega
  rw [this]
 rw [e];have:=pick_run xs i k;rw [List.filterMap_map] at this;have e2:((fun x=>xs[x]?)∘fun x=>i+x)=fun m=>xs[i+m]?:=rfl;rw [e2] at this;rw [this]
theorem iN {t sl:Addr} {items:Array Value} {vl vu:Value} {lo hi:Option Int} {Q:Value->Shared->Prop} (ht:IsTup s.heap t items) (hs:s.heap.IsSliceOf sl vl vu .none) (pl:IsPart vl lo) (pu:IsPart vu hi)
  (hw:¬(sIx items.size 0 lo=0/\sIx items.size items.size hi=items.size))
  (h:Q (.ref s.heap.objs.size) { s with heap:=s.heap.push { cls:=.type "tuple", data:=.seq ((items.toList.drop (sIx items.size 0 lo)).take (sIx items.size items.size hi - sIx items.size 0 lo)).toArray } })
  (hsz:items.size<=sizeLine):wpAny (model prog w) A (getItem (.ref t) (.ref sl)) Q E s:=by
 have htake:sizeOk (.seq ((items.toList.drop (sIx items.size 0 lo)).take (sIx items.size items.size hi - sIx items.size 0 lo)).toArray):=by
  show ((items.toList.drop (sIx items.size 0 lo)).take (sIx items.size items.size hi - sIx items.size 0 lo)).toArray.size<=sizeLine;rw [Mh,MN,MZ,Array.length_toList];omega
 have hj:sIx items.size items.size hi<=items.size:=tJ _ _ (Mg _) hi;obtain ⟨os,hos,hcs,hds⟩:=id hs;have hTs:s.TypeIs (.ref sl) "slice" := ⟨os,hos,hcs⟩;unfold getItem;try with_reducible refine wpAny_holding ?_
 first | refine Mp (MA ?_) | skip
 refine Mp (wpAny_sequenceKey ht.typeIs (by decide) ?_)
 refine Mp (Np (name:=Str.ofString "__getitem__") ht.typeIs PyProof.Rows.slot_tuple_getitem
  (wpAny_call_entry PyProof.Rows.slot_tuple_getitem ht.typeIs entry_tuple_getitem ?_ (args_tuple_getitem _ _)))
 show wpAny _ _ (Builtin.Tuple.tupleItemsOf (.ref t)>>=_) _ _ s;refine Mp (tupleItemsOf_ ht ?_);refine Mp (wpAny_typeOf hTs ?_);rw [Me (by decide)];refine Mp (jI hs pl pu ?_);have hno:¬((((sIx items.size 0 lo:Nat):Int)==0&&(1:Int)==1&&(sIx items.size items.size hi - sIx items.size 0 lo)==items.size)=true):=by
  intro q;rw [Ms,Ms] at q;have q1:((sIx items.size 0 lo:Nat):Int)=0:=eq_of_beq q.1.1;have q2:sIx items.size items.size hi - sIx items.size 0 lo=items.size:=eq_of_beq q.2;exact hw ⟨by omega,by omega⟩
 show wpAny _ _ (if (((sIx items.size 0 lo:Nat):Int)==0&&(1:Int)==1&&(sIx items.size items.size hi - sIx items.size 0 lo)==items.size)=true then _ else _) _ _ s;rw [Mn hno,yr];first
  | exact Mp (m:=Builtin.Tuple.tupleExact _) (Nr (MA ⟨_,rfl,MA h⟩) htake)
  | exact Mp (m:=Builtin.Tuple.tupleExact _) (Nr (Mp (MA (MA ⟨_,rfl,MA h⟩))) htake)
  | exact Mp (Mp (m:=Builtin.Tuple.tupleExact _) (Nr (MA (MA ⟨_,rfl,MA h⟩)) htake))
  | exact Mp (Mp (m:=Builtin.Tuple.tupleExact _) (Nr (MA ⟨_,rfl,MA h⟩) htake))
end
end HT
namespace L2
open PySem PySem.Spec PyProof.Rows
abbrev TO:=St->Hp->(Option Int->Hp->Prop)->Prop
def PO (X:Cx) (e:Option Expr) (t:TO):Prop :=
 ∀ (pins:List (Addr×Obj)) (s:Shared) (σ:St) (H:Hp) (Q:Option Int->Hp->Prop),Inv X pins σ H s->t σ H Q ->
  wpAny (model X.prog X.w) X.A (evalPart e X.env) (fun u s'=>∃ o H',Inv X pins σ H' s'/\IsPart u o/\Q o H') X.xe s
def q0:TO:=fun _ H Q=>Q none H
def CF (t:TE):TO:=fun σ H Q=>t σ H fun x H1=>∃ i,x=.int i/\Q (some i) H1
section
variable {X:Cx} {e:Expr} {te:TE} {lo hi:Option Expr} {tl th:TO} {pos p2:Pos}
theorem A9:PO X none q0:=by
 intro pins s σ H Q I h;rw [evalPart_none];exact MA ⟨none,H,I,.none,h⟩
theorem Bz (h:PE X e te):PO X (some e) (CF te):=by
 intro pins s σ H Q I hw;rw [evalPart_some];refine thn (h pins s σ H _ I hw) fun u s1 ⟨x,H1,I1,r1,q1⟩=>?_;obtain ⟨i,rfl,q⟩:=q1;obtain ⟨t,rfl⟩:=r1;exact ⟨some i,H1,I1,.int i t,q⟩
def SlR (X:Cx) (r:V->Option Int->Option Int->Hp->VK->Prop):Prop :=
 ∀ (pins:List (Addr×Obj)) (s:Shared) (σ:St) (H:Hp) (x:V) (v vl vu:Value) (lo hi:Option Int) (sl:Addr) (Q:VK),Inv X pins σ H s->RelV x v->s.heap.IsSliceOf sl vl vu .none->IsPart vl lo->IsPart vu hi->r x lo hi H Q ->
  ∃ T id,typeLookup (.type T) "__getitem__" = pure (some (.builtin id))/\s.TypeIs v T/\wpAny (model X.prog X.w) X.A (getItem v (.ref sl)) (EP X pins σ Q) X.xe s
theorem SlR.or {r r':V->Option Int->Option Int->Hp->VK->Prop} (h:SlR X r) (h':SlR X r'):SlR X (fun x lo hi H Q=>r x lo hi H Q\/r' x lo hi H Q):=by
 intro pins s σ H x v vl vu lo hi sl Q I rx hs pl pu q;rcases q with q | q
 ·exact h pins s σ H x v vl vu lo hi sl Q I rx hs pl pu q
 ·exact h' pins s σ H x v vl vu lo hi sl Q I rx hs pl pu q
def tSl (r:V->Option Int->Option Int->Hp->VK->Prop) (te:TE) (tl th:TO):TE:=fun σ H Q=>te σ H fun x H1=>tl σ H1 fun l H2=>th σ H2 fun u H3=>r x l u H3 Q
theorem y8 {r:V->Option Int->Option Int->Hp->VK->Prop} (hr:SlR X r) (he:PE X e te) (hl:PO X lo tl) (hu:PO X hi th):PE X (.Subscript e (.Slice lo hi none p2) pos) (tSl r te tl th):=by
 intro pins s σ H Q I h;refine Subscript_ (thn (he pins s σ H _ I h) fun v s1 ⟨x,H1,I1,r1,q1⟩=>?_);refine wpAny_Slice (thn (hl pins s1 σ H1 _ I1 q1) fun vl s2 ⟨l,H2,I2,pl,q2⟩=>thn (hu pins s2 σ H2 _ I2 q2) fun vu s3 ⟨u,H3,I3,pu,q3⟩=>?_);rw [evalPart_none];refine MA ?_;have I4:Inv X pins σ H3 { s3 with heap:=s3.heap.push { cls:=.type "slice", data:=.fields #[vl,vu,.none] } }:=I3.kept (t':=s3.toks) fun b ob q=>L4 _ q;obtain ⟨T,id,hT,ht,hg⟩:=hr pins { s3 with heap:=s3.heap.push { cls:=.type "slice", data:=.fields #[vl,vu,.none] } } σ H3 x v vl vu l u s3.heap.objs.size Q I4 r1 (Heap.IsSliceOf.new ..) pl pu q3;show wpAny (model X.prog X.w) X.A (subscriptTail e (.Slice lo hi none p2) v (.ref s3.heap.objs.size)) (EP X pins σ Q) X.xe { s3 with heap:=s3.heap.push { cls:=.type "slice", data:=.fields #[vl,vu,.none] } };exact tail_any (ops:=[.ref s3.heap.objs.size,v]) ht hT hg (by with_unfolding_all rfl)
noncomputable def yl (xs:List V) (lo hi:Option Int):List V:=(xs.drop (HT.sIx xs.length 0 lo)).take (HT.sIx xs.length xs.length hi - HT.sIx xs.length 0 lo)
theorem kQ (xs:List V) (lo hi:Option Int):(yl xs lo hi).length<=xs.length:=by
 unfold yl;rw [MN,MZ];omega
def HG (K:Fg):V->Option Int->Option Int->Hp->VK->Prop:=fun x lo hi H Q=>∃ a xs,x=.ref a/\SqT K H a xs /\
 ¬(HT.sIx xs.length 0 lo=0/\HT.sIx xs.length xs.length hi=xs.length)/\∀ p,H p=none->Q (.ref p) (upd H p (.tup (yl xs lo hi)))
theorem g7:SlR X (HG X.K):=by
 intro pins s σ H x v vl vu lo hi sl Q I rx hs pl pu h;obtain ⟨a,xs,rfl,hx,hw,q⟩:=h;cases rx;obtain ⟨its,r,ht,hz⟩:=I.tuple hx;have hlen:its.toArray.size=xs.length:=by rw [Mh];exact r.length.symm
 refine ⟨"tuple", _,PyProof.Rows.slot_tuple_getitem.lookup,ht.typeIs,?_⟩;refine HT.iN ht hs pl pu (by rw [hlen];exact hw) ?_ (by rw [hlen];exact hz);rw [hlen];refine ⟨.ref s.heap.objs.size,_,I.laid (t':=s.toks) (o:=.tup (yl xs lo hi)) (fun b ob q=>L4 _ q) (Mg _) ?_,rfl,q _ (I.hok.fresh (Mg _))⟩;exact ⟨Mr (kQ xs lo hi) hz,_,(r.drop (HT.sIx xs.length 0 lo)).take (HT.sIx xs.length xs.length hi - HT.sIx xs.length 0 lo),IsTup.new _ _⟩
def Dq (K:Fg):R2:=fun x y H Q=>∃ a b xs ys,x=.ref a/\y=.ref b/\SqT K H a xs/\SqT K H b ys/\xs≠[]/\xs.length+ys.length<=sizeLine /\
 (ys=[]->Q (.ref a) H)/\(ys≠[]->∀ p,H p=none->Q (.ref p) (upd H p (.tup (xs++ys))))
theorem Vals.rz {xs:List V} {us:List Value} (r:Vals xs us):us=[]↔xs=[]:=by
 cases r with
 | nil=>simp
 | cons _ _=>simp
theorem AK:OpR X (binaryOp .Add) (Dq X.K):=by
 intro pins s σ H x y v u Q I rx ry h;obtain ⟨a,b,xs,ys,rfl,rfl,ha,hb,hx,hz,q1,q2⟩:=h;cases rx;cases ry;obtain ⟨its,r1,p1,_⟩:=I.tuple ha;obtain ⟨its2,r2,p2,_⟩:=I.tuple hb;refine HT.Bk p1 p2 (fun z=>hx (r1.rz.mp z)) (fun z=>⟨.ref a,H,I,rfl,q1 (r2.rz.mp z)⟩) (fun z=>?_) (by rw [<- r1.length,<-r2.length];exact hz);refine ⟨.ref s.heap.objs.size,_,I.laid (t':=s.toks) (o:=.tup (xs++ys)) (fun b ob q=>L4 _ q) (Mg _) ?_,rfl,q2 (fun w=>z (r2.rz.mpr w)) _ (I.hok.fresh (Mg _))⟩;exact ⟨by rw [LY];exact hz,_,r1.append r2,IsTup.new _ _⟩
end
end L2
namespace L2
open PySem PySem.Spec PyProof.Rows
noncomputable def ixN (n:Nat) (i:Int):Option Nat:=if 0<=i then (if i < n then some i.toNat else none) else if -(n:Int)<=i then some (i+n).toNat else none
noncomputable def atI {α:Type} (xs:List α) (i:Int):Option α:=(ixN xs.length i).bind fun j=>xs[j]?
theorem xx {n:Nat} {i:Int} {j:Nat} (h:ixN n i=some j):seqIndex? i n=some j/\j < n/\-(n:Int)<=i/\i < n:=by
 unfold ixN at h;by_cases h0:0<=i
 ·rw [Me h0] at h;by_cases h1:i < n
  ·rw [Me h1] at h;have e:i.toNat=j:=MF h;exact ⟨by rw [seqIndex_of h0 h1,e],by omega,by omega,h1⟩
  ·rw [Mn h1] at h;cases h
 ·rw [Mn h0] at h;by_cases h1:-(n:Int)<=i
  ·rw [Me h1] at h;have e:(i+n).toNat=j:=MF h;exact ⟨by rw [seqIndex_neg (by omega) h1,e],by omega,h1,by omega⟩
  ·rw [Mn h1] at h;cases h
theorem qX {α:Type} {xs:List α} {i:Int} {v:α} (h:atI xs i=some v):∃ j,seqIndex? i xs.length=some j/\xs[j]?=some v/\j < xs.length/\-(xs.length:Int)<=i/\i < xs.length:=by
 unfold atI at h;cases e:ixN xs.length i with
 | none=>rw [e] at h;cases h
 | some j =>
  rw [e] at h;obtain ⟨h1,h2,h3,h4⟩:=xx e;exact ⟨j,h1,h,h2,h3,h4⟩
theorem fo {α:Type} {xs:List α} {j:Nat} {v:α} (h:xs[j]?=some v):atI xs (j:Int)=some v:=by
 have hj:j < xs.length:=(L5.mp h).1;have e:ixN xs.length (j:Int)=some j:=by
  unfold ixN;rw [Me (by omega),Me (by omega)];simp
 unfold atI;rw [e];exact h
def rV (b:Expr):Prop:=∀ o i,subscripted b false o i=operate [o,i] (getItem o i)
def IxR (X:Cx) (r:R2):Prop :=
 ∀ (value slice:Expr) (pins:List (Addr×Obj)) (s:Shared) (σ:St) (H:Hp) (x y:V) (v u:Value) (Q:VK),Inv X pins σ H s->RelV x v->RelV y u->r x y H Q ->
  subscripted slice false v u=operate [v,u] (getItem v u)->wpAny (model X.prog X.w) X.A (subscriptTail value slice v u) (EP X pins σ Q) X.xe s
def MtR (X:Cx) (id:String) (r:V->List V->Hp->VK->Prop):Prop :=
 ∀ (pins:List (Addr×Obj)) (s:Shared) (σ:St) (H:Hp) (x:V) (xs:List V) (v:Value) (us:List Value) (Q:VK),Inv X pins σ H s->RelV x v->Vals xs us->r x xs H Q ->
  wpAny (model X.prog X.w) X.A (call (.builtin id) (v :: us)) (EP X pins σ Q) X.xe s
section
variable {X:Cx} {a b:Expr} {ta tb:TE} {pos:Pos}
theorem IxR.or {r r':R2} (h:IxR X r) (h':IxR X r'):IxR X (fun x y H Q=>r x y H Q\/r' x y H Q):=by
 intro value slice pins s σ H x y v u Q I rx ry q hs;rcases q with q | q
 ·exact h value slice pins s σ H x y v u Q I rx ry q hs
 ·exact h' value slice pins s σ H x y v u Q I rx ry q hs
theorem IZ {r:R2} (hr:IxR X r) (ha:PE X a ta) (hb:PE X b tb) (hs:rV b):PE X (.Subscript a b pos) (tOp r ta tb):=by
 intro pins s σ H Q I h;exact Subscript_ (Ih ha hb I h fun v u s2 x y H2 I2 rx ry q=>hr a b pins s2 σ H2 x y v u Q I2 rx ry q (hs _ _))
def Ka (K:Fg):R2:=fun x y H Q=>∃ p xs i v,x=.ref p/\y=.int i/\SqL K H p xs/\atI xs i=some v/\Q v H
def Kd (K:Fg):R2:=fun x y H Q=>∃ p xs i v,x=.ref p/\y=.int i/\SqT K H p xs/\atI xs i=some v/\Q v H
def Kl:R2:=fun x y H Q=>∃ z i c,x=.str z/\y=.int i/\z.length<=sizeLine/\atI z.cps.toList i=some c/\Q (.str ⟨#[c]⟩) H
theorem BE:IxR X (Ka X.K):=by
 intro value slice pins s σ H x y v u Q I rx ry h hs;obtain ⟨p,xs,i,z,rfl,rfl,hq,he,q⟩:=h;cases rx;obtain ⟨t,rfl⟩:=ry;obtain ⟨its,r,pl,hz⟩:=I.list hq;obtain ⟨j,h1,h2,h3,h4,h5⟩:=qX he;obtain ⟨w,ew,rw'⟩:=r.get h2;have hl:=r.length;have hn:=mE;have fin:EP X pins σ Q w s:=⟨z,H,I,rw',q⟩;by_cases h0:0<=i
 ·have hj:i.toNat=j:=by
   rw [seqIndex_of h0 h5] at h1;exact MF h1
  exact item_listR pl.isList h0 (by omega) (by rw [hj];simpa using ew) fin hs
 ·have hj:(i+(its.toArray.size:Int)).toNat=j:=by
   rw [seqIndex_neg (by omega) h4] at h1;rw [Mh,<-hl];exact MF h1
  exact subscriptTail_builtinR (x:=w) pl.isList.typeIs slot_list_getitem.lookup
   (wpAny_getItem_list_neg (Q:=fun r s'=>r=w/\EP X pins σ Q r s') pl.isList (by omega) (by rw [Mh] <;> omega) (by omega) (by rw [hj];simpa using ew) ⟨rfl,fin⟩) hs
theorem Em:IxR X (Kd X.K):=by
 intro value slice pins s σ H x y v u Q I rx ry h hs;obtain ⟨p,xs,i,z,rfl,rfl,hq,he,q⟩:=h;cases rx;obtain ⟨t,rfl⟩:=ry;obtain ⟨its,r,pl,hz⟩:=I.tuple hq;obtain ⟨j,h1,h2,h3,h4,h5⟩:=qX he;obtain ⟨w,ew,rw'⟩:=r.get h2;have hl:=r.length;have hn:=mE;have fin:EP X pins σ Q w s:=⟨z,H,I,rw',q⟩;exact subscriptTail_builtinR (x:=w) pl.typeIs slot_tuple_getitem.lookup
  (getItem_tuple (j:=j) (Q:=fun r s'=>r=w/\EP X pins σ Q r s') pl (by omega) (by omega) (by rw [Mh,<-hl];exact h1) (by simpa using ew) ⟨rfl,fin⟩) hs
theorem FA:IxR X Kl:=by
 intro value slice pins s σ H x y v u Q I rx ry h hs;obtain ⟨z,i,c,rfl,rfl,hz,he,q⟩:=h;obtain ⟨t,rfl⟩:=rx;obtain ⟨t',rfl⟩:=ry;obtain ⟨j,h1,h2,h3,h4,h5⟩:=qX he;have hl:z.cps.toList.length=z.length:=by simp [Str.length]
 rw [hl] at h1 h4 h5;have hn:=mE
 exact tail_any (typeIs_str s z t) slot_str_getitem.lookup (getItem_str (c:=c) (by
  have e1:decide (i < -(2 ^ 63:Int))=false:=Mb (by omega);have e2:decide (i>=2 ^ 63)=false:=Mb (by omega)
  rw [e1,e2,Bool.or_false]) (by rw [h1];simpa using h2) ⟨.str ⟨#[c]⟩,H,I.tok _,⟨_,rfl⟩,q⟩) hs
def rIx (K:Fg):R2:=fun x y H Q=>Ka K x y H Q\/Kd K x y H Q\/Kl x y H Q
theorem Eb:IxR X (rIx X.K):=BE.or (Em.or FA)
theorem uX (its:List Value) (n j:Nat) (u:Value):Obj.mapSeq (·.setIfInBounds j u) { cls:=.type "list", data:=.seq its.toArray n }={ cls:=.type "list", data:=.seq (its.set j u).toArray n }:=by
 simp [Obj.mapSeq]
theorem Inv.lst {pins:List (Addr×Obj)} {σ:St} {H:Hp} {s:Shared} {p:Addr} {xs:List V} (I:Inv X pins σ H s) (h:H p=some (.lst xs)) :
  ∃ (its:List Value) (n:Nat),Vals xs its/\s.heap.get? p=some { cls:=.type "list", data:=.seq its.toArray n }/\xs.length<=sizeLine:=by
 obtain ⟨z,its,n,r,e⟩:=I.hok p _ h;exact ⟨its,n,r,e,z⟩
theorem Inv.EH {pins:List (Addr×Obj)} {σ:St} {H:Hp} {s:Shared} {p:Addr} {xs ys:List V} {its its':List Value} {n n':Nat} {f:Obj->Obj} (I:Inv X pins σ H s) (h:H p=some (.lst xs))
  (ho:s.heap.get? p=some { cls:=.type "list", data:=.seq its.toArray n }) (hf:f { cls:=.type "list", data:=.seq its.toArray n }={ cls:=.type "list", data:=.seq its'.toArray n' }) (r:Vals ys its') (hz:ys.length<=sizeLine) (t:Nat) :
  Inv X pins σ (upd H p (.lst ys)) { s with heap:=s.heap.update p f,toks:=t }:=by
 have e:(s.heap.update p f).get? p=some { cls:=.type "list", data:=.seq its'.toArray n' }:=by
  rw [MY f ho (by rw [hf] <;> rfl),hf]
 refine I.write (x:=p) (e:=p) (by rw [h];trivial) (.inl rfl) (fun b u hb q=>(Heap.get?_update_other _ _ (Ne.symm hb)).trans q) ⟨_,e⟩ ?_;exact ⟨hz,its',n',r,e⟩
def Ee:V->V->V->Hp->(Hp->Prop)->Prop:=fun o i v H Q=>∃ p xs k j,o=.ref p/\i=.int k/\H p=some (.lst xs)/\ixN xs.length k=some j/\Q (upd H p (.lst (xs.set j v)))
theorem set_list:Je X Ee:=by
 intro pins s σ H o i v ov iv u Q I ro ri rv h;obtain ⟨p,xs,k,j,rfl,rfl,hp,hj,q⟩:=h;cases ro;obtain ⟨t,rfl⟩:=ri;obtain ⟨its,n,r,ho,hz⟩:=I.lst hp;obtain ⟨h1,h2,h3,h4⟩:=xx hj;have hl:=r.length;have hn:=mE;have I':Inv X pins σ (upd H p (.lst (xs.set j v))) { s with heap:=s.heap.update p (Obj.mapSeq (·.setIfInBounds j u)) } :=
  I.EH hp ho (uX its n j u) (r.set rv j) (by rw [Mq];exact hz) s.toks
 by_cases h0:0<=k
 ·have hk:k.toNat=j:=by
   rw [seqIndex_of h0 h4] at h1;exact MF h1
  exact PySem.W.ki_setAt ho h0 (by omega) (by rw [Mh,<-hl];exact h4) (by rw [hk];exact ⟨_,I',q⟩)
 ·have hk:(k+(its.toArray.size:Int)).toNat=j:=by
   rw [seqIndex_neg (by omega) h3] at h1;rw [Mh,<-hl];exact MF h1
  exact PySem.W.ki_setBack ho (by omega) (by rw [Mh,<-hl];exact h3) (by omega) (by rw [hk];exact ⟨_,I',q⟩)
theorem pQ (lo hi:Option Int) (n:Nat):(sliceBounds lo hi none n).1=((HT.sIx n 0 lo:Nat):Int)/\(sliceBounds lo hi none n).2.1=((HT.sIx n n hi:Nat):Int)/\(sliceBounds lo hi none n).2.2=1:=by
 refine ⟨?_,?_,rfl⟩
 ·cases lo with
  | none=>simp [sliceBounds,HT.sIx]
  | some i =>
   simp only [sliceBounds,HT.sIx,Option.getD_none,show (1:Int) > 0 by decide,Nz];by_cases h:i < 0
   ·simp only [h,Nz] <;> omega
   ·simp only [h,if_false] <;> omega
 ·cases hi with
  | none=>simp [sliceBounds,HT.sIx]
  | some i =>
   simp only [sliceBounds,HT.sIx,Option.getD_none,show (1:Int) > 0 by decide,Nz];by_cases h:i < 0
   ·simp only [h,Nz] <;> omega
   ·simp only [h,if_false] <;> omega
theorem n6 (its:List Value) (lo hi:Option Int):slicePick its.toArray lo hi none=((its.drop (HT.sIx its.length 0 lo)).take (HT.sIx its.length its.length hi - HT.sIx its.length 0 lo)).toArray:=by
 obtain ⟨h1,h2,h3⟩:=pQ lo hi its.toArray.size;unfold slicePick;rw [h1,h2,h3];simp only [sliceRange_one,pick_run,Mh] <;> rfl
def HE (K:Fg):V->Option Int->Option Int->Hp->VK->Prop:=fun x lo hi H Q=>∃ a xs,x=.ref a/\SqL K H a xs/\∀ p,H p=none->Q (.ref p) (upd H p (.lst (yl xs lo hi)))
theorem d4:SlR X (HE X.K):=by
 intro pins s σ H x v vl vu lo hi sl Q I rx hs pl pu h;obtain ⟨a,xs,rfl,hx,q⟩:=h;cases rx;obtain ⟨its,r,ht,hz⟩:=I.list hx;have hlen:=r.length;refine ⟨"list", _,slot_list_getitem.lookup,ht.isList.typeIs,?_⟩;refine wpAny_getItem_list_slice ht.isList hs pl pu .none (by simp) ?_ (by rw [Mh] <;> omega);rw [n6,<-hlen];refine ⟨.ref s.heap.objs.size,_,I.laid (t':=s.toks) (o:=.lst (yl xs lo hi)) (fun b ob q=>L4 _ q) (Mg _) ?_,rfl,q _ (I.hok.fresh (Mg _))⟩;exact ⟨Mr (kQ xs lo hi) hz,_,0,(r.drop (HT.sIx xs.length 0 lo)).take (HT.sIx xs.length xs.length hi - HT.sIx xs.length 0 lo),Mu _ rfl⟩
theorem pY:OpR X (compareOp .NotIn) (fun x y H Q=>∃ i j,x=.str i/\y=.str j/\Q (.bl (!(!(Builtin.Str.occurrences j i 0 j.length 1).isEmpty))) H):=by
 intro pins s σ H x y v u Q I rx ry h;obtain ⟨i,j,rfl,rfl,q⟩:=h;obtain ⟨t,rfl⟩:=rx;obtain ⟨t',rfl⟩:=ry;exact notIn_str ⟨.bl _,H,I,rfl,q⟩
theorem pS:aW X (.type "list") (fun xs H Q=>∃ p ys,xs=[.ref p]/\(SqL X.K H p ys\/SqT X.K H p ys)/\∀ l,H l=none->Q (.ref l) (upd H l (.lst ys))):=by
 intro pins s σ H xs us Q I r h;obtain ⟨p,ys,rfl,hq,q⟩:=h;obtain ⟨u,rfl,rx⟩:=vals1 r;cases rx;have fin:∀ (its:List Value),Vals ys its->ys.length<=sizeLine->∀ (h':Heap) (c':Nat),(∀ b o',s.heap.get? b=some o'->h'.get? b=some o') ->
   h'.get? s.heap.objs.size=some { cls:=.type "list", dict:=none,data:=.seq its.toArray c',slots:=#[] }->EP X pins σ Q (.ref s.heap.objs.size) { s with heap:=h' }:=fun its r' hz h' c' kp e =>
  ⟨.ref s.heap.objs.size,_,I.laid (t':=s.toks) kp (Mg _) (show fh X.prog X.w _ h' _ (.lst ys) from ⟨hz,its,c',r',e⟩),rfl,q _ (I.hok.fresh (Mg _))⟩
 rcases hq with hq | hq
 ·obtain ⟨its,r',pl,hz⟩:=I.list hq;have hlen:=r'.length;obtain ⟨o,ho,hc,n,hd⟩:=pl.isList;exact call_list_seq p (.inl rfl) ho hc hd (fun h' c' kp e=>fin its r' hz h' c' kp e) (by simp only [Mh] <;> omega)
 ·obtain ⟨its,r',pl,hz⟩:=I.tuple hq;have hlen:=r'.length;obtain ⟨o,ho,hc,n,hd⟩:=pl;exact call_list_seq p (.inr rfl) ho hc hd (fun h' c' kp e=>fin its r' hz h' c' kp e) (by simp only [Mh] <;> omega)
theorem n8:aW X (.type "tuple") (fun xs H Q=>∃ p ys,xs=[.ref p]/\((SqL X.K H p ys/\∀ l,H l=none->Q (.ref l) (upd H l (.tup ys)))\/(SqT X.K H p ys/\Q (.ref p) H))):=by
 intro pins s σ H xs us Q I r h;obtain ⟨p,ys,rfl,h⟩:=h;obtain ⟨u,rfl,rx⟩:=vals1 r;cases rx;rcases h with ⟨hq,q⟩ | ⟨hq,q⟩
 ·obtain ⟨its,r',pl,hz⟩:=I.list hq;have hlen:=r'.length;refine call_tuple_list pl.isList (fun h' kp=>?_) (by simp only [Mh] <;> omega);have I1:Inv X pins σ H { s with heap:=h' }:=I.kept (t':=s.toks) kp;have I2:Inv X pins σ (upd H h'.objs.size (.tup ys)) { s with heap:=h'.push { cls:=.type "tuple", data:=.seq its.toArray } } :=
   I1.laid (t':=s.toks) (fun b o e=>L4 _ e) (Mg _) (show fh X.prog X.w _ _ _ (.tup ys) from ⟨hz,its,r',IsTup.new _ _⟩)
  exact ⟨.ref h'.objs.size,_,I2,rfl,q _ (I1.hok.fresh (Mg _))⟩
 ·obtain ⟨its,r',pl,hz⟩:=I.tuple hq;exact call_tuple_same pl ⟨.ref p,H,I,rfl,q⟩
def tyV (K:Fg) (T:String) (x:V) (H:Hp):Prop:=match x with
 | .str _=>T = "str"
 | .int _=>T = "int"
 | .ref p=>(T = "list" /\ ∃ xs,SqL K H p xs)\/(T = "tuple" /\ ∃ o,K.lookup p=some o/\o.cls=.type "tuple" /\ o.dict=none) \/
   (T = "dict" /\ ((∃ kvs,H p=some (.dK kvs))\/(∃ kvs,H p=some (.dT kvs))\/∃ ep xs,H p=some (.dD ep xs)))\/(T = "set" /\ ∃ S n,H p=some (.set S n))
 | _=>False
theorem FL {pins:List (Addr×Obj)} {σ:St} {H:Hp} {s:Shared} {T:String} {x:V} {v:Value} (I:Inv X pins σ H s) (r:RelV x v) (ty:tyV X.K T x H) :
  s.TypeIs v T/\∀ a,v=.ref a->∃ ob,s.heap.get? a=some ob/\ob.dict=none:=by
 cases x with
 | str z =>
  obtain ⟨t,rfl⟩:=r;cases (show T = "str" from ty);exact ⟨typeIs_str s z t,fun _ e=>nomatch e⟩
 | int i =>
  obtain ⟨t,rfl⟩:=r;cases (show T = "int" from ty);exact ⟨typeIs_int s i t,fun _ e=>nomatch e⟩
 | ref p =>
  cases r;rcases ty with ⟨rfl,xs,hq⟩ | ⟨rfl,o,hk,hc,hd⟩ | ⟨rfl,hk⟩ | ⟨rfl,S,n,hk⟩
  ·obtain ⟨its,_,pl,_⟩:=I.list hq;refine ⟨pl.isList.typeIs,fun a e=>?_⟩;cases e;obtain ⟨o,n,e,c,hd,_⟩:=pl;exact ⟨o,e,hd⟩
  ·refine ⟨⟨o,I.kIn p o hk,hc⟩,fun a e=>?_⟩;cases e;exact ⟨o,I.kIn _ o hk,hd⟩
  ·have z:∃ o,s.heap.get? p=some o/\o.ExactDict:=by
    rcases hk with ⟨kvs,hk⟩ | ⟨kvs,hk⟩ | ⟨ep,xs,hk⟩
    ·obtain ⟨_,_,_,_,o,_,_,e,ex,_⟩:=I.hok p _ hk;exact ⟨o,e,ex⟩
    ·obtain ⟨_,_,_,_,o,_,_,e,ex,_⟩:=I.hok p _ hk;exact ⟨o,e,ex⟩
    ·obtain ⟨_,_,_,o,_,e,ex,_⟩:=I.hok p _ hk;exact ⟨o,e,ex⟩
   obtain ⟨o,e,ex⟩:=z;refine ⟨⟨o,e,ex.1⟩,fun a e2=>?_⟩;cases e2;exact ⟨o,e,ex.2.1⟩
  ·obtain ⟨o,_,_,_,e,ex,_⟩:=I.hok p _ hk;refine ⟨⟨o,e,ex.1⟩,fun a e2=>?_⟩;cases e2;exact ⟨o,e,ex.2.1⟩
 | _=>exact False.elim ty
def tBM (K:Fg) (T:String) (r:V->List V->Hp->VK->Prop) (to:TE) (t:TA):TE:=fun σ H Q=>to σ H fun x H1=>tyV K T x H1/\t σ H1 fun xs H2=>r x xs H2 Q
variable {o e:Expr} {es:List Expr} {to:TE} {t:TA} {name:Str} {apos cpos:Pos} {T id:String} {r:V->List V->Hp->VK->Prop}
theorem Jy (pa:PlainAttrs T) (slot:Slot T name id) (hty:typeOf (.builtin id)=pure (.type "method_descriptor")) (hm:MtR X id r) (ho:PE X o to) (ha:PA X (e :: es) t)
  (hbase:attributeBase o name X.env (eval o X.env)=eval o X.env:=by rfl)
  (hfew:((backTo cpos (starEach (e :: es) X.env)).all (fun x=>!x.1)&&(backToKw cpos (keywordEach [] X.env)).all (fun x=>x.1.isSome)
   && decide ((e :: es).length+([]:List Keyword).length+(if ([]:List Keyword).isEmpty then 0 else 1) < 30))=true:=by rfl)
  (hline:(apos.endLine==cpos.line)=true:=by rfl) (hs:starEach (e :: es) X.env=(false,eval e X.env) :: starEach es X.env:=by rfl) (hplain:(backTo cpos (starEach es X.env)).any (·.1)=false:=by rfl) :
  PE X (.Call (.Attribute o name apos) (e :: es) [] cpos) (tBM X.K T r to t):=by
 intro pins s σ H Q I h;refine wpAny_Call_method_late hbase hfew hline rfl (thn (ho pins s σ H _ I h) fun v s1 ⟨x,H1,I1,r1,ty,q1⟩=>?_);obtain ⟨h1,h2⟩:=FL I1 r1 ty;refine ⟨T,id,pa,slot,hty,h1,h2,?_⟩;have hA:=ha cpos pins s1 σ H1 _ I1 q1;rw [hs] at hA ⊢;refine Calls.callWith_builtin (by show (false||(backTo cpos (starEach es X.env)).any (·.1))=false;rw [hplain] <;> rfl) (Calls.evalArgs_plain ?_);exact thn hA fun us s2 ⟨vs,H2,I2,r2,q2⟩=>hm pins s2 σ H2 x vs v us Q I2 r1 r2 q2
end
end L2
namespace L2
open PySem PySem.Spec PyProof.Rows
def MtM (X:Cx) (id:String) (r:V->List V->Hp->VK->Prop):Prop :=
 ∀ (pins:List (Addr×Obj)) (s:Shared) (σ:St) (H:Hp) (x:V) (xs:List V) (v:Value) (us:List Value) (Q:VK),Inv X pins σ H s->RelV x v->Vals xs us->r x xs H Q ->
  wpAny (model X.prog X.w) X.A (call (.builtin id) (v :: us)) (EP X pins σ Q) X.xe s
theorem Vals.one:∀ {x:V} {us:List Value},Vals [x] us->∃ u,us=[u]/\RelV x u
 | _,_,.cons r .nil=>⟨_,rfl,r⟩
theorem Vals.dropLast {xs:List V} {us:List Value} (h:Vals xs us):Vals xs.dropLast us.dropLast:=by
 induction h with
 | nil=>exact .nil
 | cons r t ih =>
  cases t with
  | nil=>exact .nil
  | cons q t'=>exact .cons r ih
section
variable {X:Cx} {pins:List (Addr×Obj)} {σ:St} {H:Hp} {s:Shared} {l b:Addr} {xs ys zs:List V}
theorem Inv.Jl {its its':List Value} {n:Nat} {f:Array Value->Array Value} {t':Nat} (I:Inv X pins σ H s) (hH:H l=some (.lst xs))
  (e:s.heap.get? l=some { cls:=.type "list", data:=.seq its.toArray n }) (hf:f its.toArray=its'.toArray) (hv:Vals ys its') (hz:ys.length<=sizeLine) :
  Inv X pins σ (upd H l (.lst ys)) { s with heap:=s.heap.update l (Obj.mapSeq f),toks:=t' }:=by
 have q:=PySem.IsL.update e f;rw [hf] at q;refine I.write (x:=l) (e:=l) (by rw [hH];exact trivial) (.inl rfl) (fun b' u hb hu=>(Heap.get?_update_other s.heap (Obj.mapSeq f) (Ne.symm hb)).trans hu) ⟨_,q⟩ ?_;exact ⟨hz,its',_,hv,q⟩
theorem Inv.LU {its:List Value} {t':Nat} (I:Inv X pins σ H s) (hv:Vals ys its) (hz:ys.length<=sizeLine) :
  Inv X pins σ (upd H s.heap.objs.size (.lst ys)) { s with heap:=s.heap.push { cls:=.type "list", data:=.seq its.toArray },toks:=t' } :=
 I.laid (fun _ _ q=>L4 _ q) (Mg _) ⟨hz,its,0,hv,Mu _ rfl⟩
theorem Inv.fresh (I:Inv X pins σ H s):H s.heap.objs.size=none:=I.hok.fresh (Mg _)
theorem Inv.HP (I:Inv X pins σ H s) (hH:H l=some (.lst xs)):xs.length<=sizeLine/\∃ (its:List Value) (n:Nat),Vals xs its/\xs.length=its.length/\s.heap.get? l=some { cls:=.type "list", data:=.seq its.toArray n }:=by
 obtain ⟨z,its,n,r,e⟩:=I.hok l _ hH;exact ⟨z,its,n,r,r.length,e⟩
theorem zx {n:Nat} (h:n<=sizeLine):Builtin.List.listTooLong n=false:=by
 unfold Builtin.List.listTooLong;exact Mb (by omega)
end
section
variable {X:Cx}
def vY:V->List V->Hp->VK->Prop:=fun x vs H Q=>∃ l xs y,x=.ref l/\vs=[y]/\H l=some (.lst xs)/\xs.length < sizeLine/\Q .non (upd H l (.lst (xs++[y])))
theorem bK:MtM X "list.append" vY:=by
 intro pins s σ H x vs v us Q I rx rv h;obtain ⟨l,xs,y,rfl,rfl,hH,hz,q⟩:=h;cases rx;obtain ⟨u,rfl,ru⟩:=rv.one;obtain ⟨z,its,n,r,hl,e⟩:=I.HP hH;refine NG F.slot_list_append ⟨_,e,rfl⟩ F.entry_list_append (F.args_list_append_2 _ _) (PySem.list_append l its.toArray n u (by rw [Mh];omega)) ⟨e,?_⟩;refine ⟨.non,_,I.Jl (its':=its++[u]) hH e (by simp) (r.append (.cons ru .nil)) ?_,rfl,q⟩;rw [LY,Mz];omega
end
end L2
namespace L2
open PySem PySem.Spec PyProof.Rows
def z7:List (TE×TE)->St->Hp->(List (V×V)->Hp->Prop)->Prop
 | [],_,H,Q=>Q [] H
 | (tk,tv) :: r,σ,H,Q=>tk σ H fun x H1=>tv σ H1 fun y H2=>z7 r σ H2 fun ps H3=>Q ((x,y) :: ps) H3
structure M1 (X:Cx) (o:Expr) (m:Str) (apos:Pos) (e:Expr) (cpos:Pos):Prop where
 base:attributeBase o m X.env (eval o X.env)=eval o X.env
 few:((backTo cpos (starEach [e] X.env)).all (fun x=>!x.1)&&(backToKw cpos (keywordEach [] X.env)).all (fun x=>x.1.isSome)
  && decide (([e]:List Expr).length+([]:List Keyword).length+(if ([]:List Keyword).isEmpty then 0 else 1) < 30))=true
 line:(apos.endLine==cpos.line)=true
 trees:backTo cpos (starEach [e] X.env)=[(false,eval e X.env)]
end L2
namespace Att
open PySem PySem.W PySem.Calls PyProof.Rows
theorem k9 {P:Params} {h:Heap}:∀ (ns:List Int) (vs:List Value),WellAll P h vs (ns.map WData.int)->IntsAre vs ns:=by
 intro ns;induction ns with
 | nil =>
  intro vs w;rw [List.map_nil] at w;cases w;exact .nil
 | cons n ns ih =>
  intro vs w;rw [List.map_cons] at w;cases w with
  | cons a b =>
   cases a;exact .cons _ _ (ih _ b)
theorem wz {l:OpenLaw} {n:Nat} (hn:l.most=some n) {P:Params} {h:Heap} {args:List WData} {vals:List Value}
  (hpre:l.row.toRowW.claim.pre args=true) (hwl:WellAll P h vals args) :
  ∃ a vs ns,vals=[Value.ref a]/\args=[WData.list (ns.map WData.int)]/\h.get? a=some { cls:=.type "list", data:=.seq vs.toArray }/\IntsAre vs ns/\ns.length<=n:=by
 have hsh:WShape.hasAll [] args [.list .int]=true:=(pre_splitW hpre).1;have hc:l.pre.holds [] { args:=args }=true:=(pre_splitW hpre).2;obtain ⟨d,r,rfl,h1,h2⟩:=hasAllW_cons hsh;obtain rfl:=hasAllW_nil h2;obtain ⟨xs,rfl,h3⟩:=hasW_list h1;obtain ⟨ns,rfl⟩:=items_int h3;have hlen:ns.length<=n:=by
  unfold OpenLaw.pre at hc;have h4:(WTm.not (.lt (.lit (.int (n:Int))) (.len (.arg 0)))).holds [] { args:=[.list (ns.map .int)] }=true:=by
   have h4:=(holds_andW hc).1;rw [hn] at h4;exact h4
  have h5:=condW_of h4 (w_not (w_lt w_lit (w_len_list (w_arg rfl))));rw [LZ] at h5;refine Nat.le_of_not_lt fun q=>?_;have q':(n:Int) < ((ns.length:Nat):Int):=by omega
  first
   | (rw [L7 q'] at h5;exact absurd h5 (by decide))
   | (simp at h5;omega)
 cases hwl with
 | cons w1 w2 =>
  cases w2;cases w1 with
  | list ho hall=>exact ⟨_,_,ns,rfl,rfl,ho,k9 ns _ hall,hlen⟩
theorem wD (l:OpenLaw) (args:List WData):l.row.toRowW.claim.post args (.bool true) args=true :=
 postW_of (r:=l.row.toRowW) (X:=(true==true))
  (show WShape.has [] (.bool true) .bool=true by first | rfl | decide | simp [WShape.has,WShape.arms,WShape.armsAll])
  (show (WTm.eq .res (.lit (.bool true))).value [] { args:=args,res:=some (.bool true),after:=args }=some (.bool (true==true)) from w_eq_bool (w_res rfl) w_lit) rfl
theorem qJ {l:OpenLaw} {n:Nat} {q:Program} {loose:List Str} {XP:(Str->Option Value)->Heap->Prop} {YP:World->Heap->Prop} {d:DefRec}
  (hn:l.most=some n) (hdf:d.params.defaults=[])
  (call:∀ (w:World) (s₀ s₁:Shared) (mg mb:Str->Option Value) (fa:Addr) (o:Obj) (pm cd doc:Value) (a:Addr) (vs:List Value) (ns:List Int),
   Ground q loose [] XP w s₀ mg mb s₁.heap->YP w s₁.heap ->
   s₁.heap.get? fa=some o->o.data=.func (docDef d.name d.params d.body d.scope pm cd doc)->s₁.heap.CodeRec cd d.name->mg d.name=some (.ref fa) ->
   s₁.heap.get? a=some { cls:=.type "list", data:=.seq vs.toArray }->IntsAre vs ns->ns.length<=n->s₁.gens=#[] ->
   codeAny (model l.prog w) callerA (.call (.ref fa) ⟨[.ref a],[]⟩) (fun r s'=>r=.ok (.ret (.bool true))/\OldK s₁.heap s'.heap/\s'.os=s₁.os/\AllBare s'.gens) s₁) :
  WalkO q loose XP YP l.row.toRowW d [] (fun f vs=>PySem.call f vs):=by
 intro w s₀ s₁ mg mb G Y fa o pm cd doc dV kV ho hd hcd hD hmg hg args vals as hpre hlay hrd hwl hlo;obtain rfl:dV=.none:=Dflts.none hD hdf;obtain rfl:kV=.none:=Dflts.noKw hD;obtain ⟨a,vs,ns,rfl,rfl,hobj,hints,hlen⟩:=wz hn hpre hwl;refine enter_call (codeAny_mono (call w s₀ s₁ mg mb fa o pm cd doc a vs ns G Y ho (fd_plain hd) hcd hmg hobj hints hlen hg) fun r s' hq=>?_);obtain ⟨rfl,h2,h3,h4⟩:=hq;exact ⟨.inl ⟨.bool true,.bool true,[],rfl,fun _=>rfl,.bool true,wD l _,fun _=>⟨List.Pairwise.nil,fun _ hm=>(nomatch hm)⟩⟩,h2,h3,h4⟩
end Att
namespace L2
open PySem PySem.Spec PyProof.Rows
theorem p5:∀ {vs:List Value} {ns:List Int},IntsAre vs ns->Vals (ns.map V.int) vs
 | _,_,.nil=>.nil
 | _,_,.cons n t h=>.cons ⟨t,rfl⟩ (p5 h)
def GL (H:Hp):Prop:=∀ b,H b=none\/∃ o xs,H b=some (.frz o (.lst xs))
theorem yu {P:Program} {w:World} {K:Fg} {mg mb:Str->Option Value} {CX:CXT} {k:Nat} {fa a:Addr} {fd:FuncData} {x:Str} {sp:Sp} {s₁:Shared} {vs:List Value} {ns:List Int}
  (KX:K.In s₁.heap) (hns:s₁.heap.Ns mainGlobals mg) (hb:s₁.heap.Ns builtinsNs mb) (hbb:∀ x:Str,x ≠ "__name__" -> mb x=bootBuiltins x) (hlim:s₁.heap.NoLimit) (hg:s₁.gens=#[])
  (ha:s₁.heap.get? a=some { cls:=.type "list", data:=.seq vs.toArray }) (hi:IntsAre vs ns) (hl:ns.length<=sizeLine) (hr:d7 k callerA)
  (F:∀ base:Heap,K.In base->base.Ns mainGlobals mg->aO P w K mg base CX k fa fd [x] sp) (hbind:∀ (s:Shared) (u:Value),BindsTo s fd ⟨[u],[]⟩ [(x,u)])
  (hsp:∀ H:Hp,GL H->SqL K H a (ns.map V.int)->sp [.ref a] H (fun v _=>v=.bl true) fun _ _ _=>False)
  (hCX:∀ H e s',CX [] H s₁ (fun _ _ _=>False) e s'->False) :
  codeAny (model P w) callerA (.call (.ref fa) ⟨[.ref a],[]⟩) (fun r s'=>r=.ok (.ret (.bool true))/\OldK s₁.heap s'.heap/\s'.os=s₁.os/\AllBare s'.gens) s₁:=by
 have rv:=p5 hi;have lenV:=hi.length;have core:∀ H:Hp,GL H->SqL K H a (ns.map V.int)->HOk P w H s₁.heap->(∀ b,H b≠none->b=a)->(H a≠none->K.lookup a=none) ->
   codeAny (model P w) callerA (.call (.ref fa) ⟨[.ref a],[]⟩) (fun r s'=>r=.ok (.ret (.bool true))/\OldK s₁.heap s'.heap/\s'.os=s₁.os/\AllBare s'.gens) s₁:=by
  intro H hO hS hok hA hK;have base_of:∀ {b:Addr} {o:Obj},s₁.heap.get? b=some o->H b=none->(yS s₁.heap H).get? b=some o:=fun e n=>yE e n;have noA:∀ {b:Addr} {o:Obj} {es:Array DictEntry} {ep:Nat},s₁.heap.get? b=some o->o.data=.dict es ep->H b=none:=fun {b o es ep} e d=>by
   cases q:H b with
   | none=>rfl
   | some u =>
    have e':b=a:=hA b (by rw [q];simp);subst e';rw [ha] at e;cases e;have d':Data.seq vs.toArray _=Data.dict es ep:=d;cases d'
  have nsK:∀ {b:Addr} {m:Str->Option Value},s₁.heap.Ns b m->(yS s₁.heap H).Ns b m:=fun {b m} ⟨o,es,ep,e,d,r⟩=>⟨o,es,ep,base_of e (noA e d),d,r⟩
  have hKb:K.In (yS s₁.heap H):=fun b o e=>base_of (KX b o e) (by
   cases q:H b with
   | none=>rfl
   | some u =>
    have e':b=a:=hA b (by rw [q];simp);subst e'
    rw [hK (by rw [q];simp)] at e;cases e)
  have hM:Mod K mg (yS s₁.heap H):=⟨hKb,nsK hns,⟨mb,nsK hb,hbb⟩,let ⟨mc,h1,h2⟩:=hlim;⟨mc,nsK h1,h2⟩⟩;have e0:BO P w K mg (yS s₁.heap H) callerA [] s₁ H:=⟨rfl,hM,fun b o e=>Bt e,Nat.le_of_eq (xw _ _),trivial,fun b hb=>absurd (show b∈([]:List Addr) from hb) (by simp),hok,.of_eq hg⟩;refine codeAny_mono ((F _ hKb (nsK hns)).run callerA [] s₁ H ⟨[.ref a],[]⟩ [.ref a] [.ref a] _ _ hr e0 (hbind s₁ (.ref a)) (.cons rfl .nil) (hsp H hO hS)) fun r s' h=>?_;cases r with
  | error e=>exact (hCX H e s' h).elim
  | ok fl =>
   cases fl with
   | next=>exact False.elim h
   | brk=>exact False.elim h
   | cont=>exact False.elim h
   | ret u =>
    obtain ⟨v,H',os,bare,un,hok',r',q⟩:=h;have q':v=.bl true:=q;subst q';obtain rfl:u=Value.bool true:=r';refine ⟨rfl,OldK.of_keep fun b o e=>?_,os,bare⟩;cases q:H b with
    | none=>exact un.keep b o e q (by intro z;exact absurd (show b∈([]:List Addr) from z) (by simp)) (by simp)
    | some u =>
     rcases hO b with z | ⟨ob,xs,z⟩
     ·rw [q] at z;cases z
     ·have z2:=un.uY b ob _ z;obtain ⟨e1,_⟩:=hok b _ z;obtain ⟨e2,_⟩:=hok' b _ z2;rw [e] at e1;cases e1;exact e2
 cases hk:K.lookup a with
 | some o =>
  have e:=KX a o hk;rw [ha] at e;cases e;refine core (fun _=>none) (fun _=>.inl rfl) (.inr ⟨_,vs.toArray,_,hk,rfl,rfl,rfl,by rw [Mh,lenV];exact hl,by simpa using rv⟩) (fun b u z=>by have z':(none:Option HO)=some u:=z;cases z') (fun b z=>absurd rfl z) fun z=>absurd rfl z
 | none =>
  refine core (fun b=>if b=a then some (.frz { cls:=.type "list", data:=.seq vs.toArray } (.lst (ns.map V.int))) else none) (fun b=>?_) (.inl (.inr ⟨{ cls:=.type "list", data:=.seq vs.toArray },Me rfl⟩)) (fun b u z=>?_) (fun b z=>?_) fun _=>hk
  ·by_cases hb:b=a
   ·exact .inr ⟨_,_,Me hb⟩
   ·exact .inl (Mn hb)
  ·by_cases hb:b=a
   ·have z':=(Me hb).symm.trans z;cases z';subst hb;exact ⟨ha,by rw [LZ];exact hl,vs,_,rv,ha⟩
   ·have z':=(Mn hb).symm.trans z;cases z'
  ·by_cases hb:b=a
   ·exact hb
   ·exact absurd (Mn hb) z
end L2
namespace L2
open PySem PySem.Spec PyProof.Rows
abbrev KOf {K:Fg} {h:Heap} (_:K.In h):Fg:=K
theorem A5 {l:PySem.W.OpenLaw} {n k:Nat} {q:Program} {loose:List Str} {XP:(Str->Option Value)->Heap->Prop} {YP:World->Heap->Prop} {d:DefRec} {K:Params->Fg} {CX:World->CXT} {sp:World->Sp} {x:Str}
  (hn:l.most=some n) (hn2:n<=sizeLine) (hdf:d.params.defaults=[]) (hr:d7 k callerA)
  (hY:∀ (w:World) (h:Heap),YP w h->(K w.params).In h)
  (F:∀ (w:World) (mg:Str->Option Value) (fa:Addr) (h:Heap),(K w.params).In h->h.Ns mainGlobals mg->mg d.name=some (.ref fa) ->
   ∃ fd:FuncData,(∀ (s:Shared) (u:Value),BindsTo s fd ⟨[u],[]⟩ [(x,u)]) /\
    ∀ base:Heap,(K w.params).In base->base.Ns mainGlobals mg->aO l.prog w (K w.params) mg base (CX w) k fa fd [x] (sp w))
  (hsp:∀ (w:World) (H:Hp) (a:Addr) (ns:List Int),ns.length<=n->GL H->SqL (K w.params) H a (ns.map V.int)->sp w [.ref a] H (fun v _=>v=.bl true) fun _ _ _=>False)
  (hCX:∀ (w:World) (H:Hp) (s:Shared) (e:Value) (s':Shared),CX w [] H s (fun _ _ _=>False) e s'->False) :
  PySem.W.WalkO q loose XP YP l.row.toRowW d [] (fun f vs=>PySem.call f vs):=by
 refine Att.qJ hn hdf fun w s₀ s₁ mg mb fa o pm cd doc a vs ns G Y ho hd hcd hmg hobj hints hlen hg=>?_;have KX:=hY w _ Y;obtain ⟨fd,hb,hF⟩:=F w mg fa _ KX G.T.g hmg;exact yu KX G.T.g G.T.b G.T.builtins G.T.nolimit hg hobj hints (Mr hlen hn2) hr hF hb (fun H hO hS=>hsp w H a ns hlen hO hS) fun H e s'=>hCX w H s₁ e s'
theorem zv {l:PySem.W.OpenLaw} {n k:Nat} {q:Program} {loose:List Str} {XP:(Str->Option Value)->Heap->Prop} {YP:World->Heap->Prop} {d:DefRec} {K:Params->Fg} {CX:CXT} {sp:Fg->Sp} {x:Str}
  (hn:l.most=some n) (hn2:n<=sizeLine) (hdf:d.params.defaults=[]) (hr:d7 k callerA)
  (hY:∀ (w:World) (h:Heap),YP w h->(K w.params).In h)
  (F:∀ (w:World) (mg:Str->Option Value) (fa:Addr) (h:Heap),(K w.params).In h->h.Ns mainGlobals mg->mg d.name=some (.ref fa) ->
   ∃ fd:FuncData,(∀ (s:Shared) (u:Value),BindsTo s fd ⟨[u],[]⟩ [(x,u)]) /\
    ∀ base:Heap,(K w.params).In base->base.Ns mainGlobals mg->aO l.prog w (K w.params) mg base CX k fa fd [x] (sp (K w.params)))
  (hsp:∀ (K:Fg) (H:Hp) (a:Addr) (ns:List Int),ns.length<=n->GL H->SqL K H a (ns.map V.int)->sp K [.ref a] H (fun v _=>v=.bl true) fun _ _ _=>False)
  (hCX:∀ (H:Hp) (s:Shared) (e:Value) (s':Shared),CX [] H s (fun _ _ _=>False) e s'->False) :
  PySem.W.WalkO q loose XP YP l.row.toRowW d [] (fun f vs=>PySem.call f vs) :=
 A5 (K:=K) (CX:=fun _=>CX) (sp:=fun w=>sp (K w.params)) hn hn2 hdf hr hY F (fun w H a ns h1 h2 h3=>hsp (K w.params) H a ns h1 h2 h3) fun _ H s e s'=>hCX H s e s'
end L2
namespace L2
open PySem PySem.Spec PyProof.Rows
noncomputable def bT (s:Stmt):Arguments:=match s with
 | .FunctionDef _ a _ _ _ _ _ _ _ _=>a
 | _=>{ posonlyargs:=[],args:=[],vararg:=none,kwonlyargs:=[],kw_defaults:=[],kwarg:=none,defaults:=[] }
noncomputable def aZ (s:Stmt):List Stmt:=match s with
 | .FunctionDef _ _ b _ _ _ _ _ _ _=>b
 | _=>[]
noncomputable def aa (s:Stmt):Scope:=match s with
 | .FunctionDef _ _ _ _ _ _ sc _ _ _=>sc
 | _=>{ kind:=.function,names:=[],isGenerator:=false,isCoroutine:=false }
abbrev CX0:CXT:=fun _ _ _ _ _ _=>False
abbrev E0:XK:=fun _ _ _=>False
theorem uJ {X:Cx}:Passes CX0 X E0:=fun _ _ _ _ _ _ _ h=>h.elim
structure Fun (K:Fg) (x qual:Str) (st:Stmt) (f:Addr) (fd:FuncData):Prop where
 ex:∃ (oc:Value) (od:Option Addr) (kV doc pm:Value) (an:Option Addr) (cdv ct:Value) (osl:Array (Option Value)),
  fd=PySem.W.fnOf x qual (bT st) (aZ st) (aa st) .none kV doc pm an cdv ct/\K.lookup f=some ⟨oc,od,.func fd,osl⟩/\PySem.W.codeIn K cdv qual=true
 kp:PySem.W.keepIn K (.ref f)=true
section
variable {P:Program} {w:World} {K:Fg} {mg:Str->Option Value} {base:Heap}
theorem Fun.ok {x qual:Str} {st:Stmt} {f:Addr} {fd:FuncData} {N ps:List Str} {k:Nat} {sp:Sp} (F:Fun K x qual st f fd) (S:af N ps (aa st)) (len:∀ vs H Q E,sp vs H Q E->vs.length=ps.length)
  (hbody:∀ (cdv:Value) (A:Around) (outer:List Env) (s:Shared) (H:Hp) (vs:List V) (Q:VK) (E:XK),d7 k (A.deeper (envOfC qual (aa st) s.heap.objs.size f cdv))->sp vs H Q E ->
   ∃ t,PSs (yj CX0 P w K mg base N qual (aa st) f cdv A outer s H E).nox (aZ st) t/\t { nx:=fun _ H'=>Q .non H',rt:=Q } (start N vs) H):aO P w K mg base CX0 (k+1) f fd ps sp:=by
 obtain ⟨oc,od,kV,doc,pm,an,cdv,ct,osl,rfl,lk,hcd⟩:=F.ex;refine HM lk hcd S len fun A outer s H vs Q E hr hsp=>?_;obtain ⟨t,h,q⟩:=hbody cdv A outer s H vs Q E hr hsp;exact ⟨t,h.nox,q⟩
theorem Fun.binds {x qual:Str} {st:Stmt} {f:Addr} {fd:FuncData} {ps:List Str} (F:Fun K x qual st f fd)
  (h:∀ (kV doc pm:Value) (an:Option Addr) (cdv ct:Value) (us:List Value),us.length=ps.length->bindArgs (PySem.W.fnOf x qual (bT st) (aZ st) (aa st) .none kV doc pm an cdv ct) ⟨us,[]⟩=pure (ps.zip us)):Binds K fd ps []:=by
 obtain ⟨oc,od,kV,doc,pm,an,cdv,ct,osl,rfl,lk,hcd⟩:=F.ex;exact .all (h kV doc pm an cdv ct)
theorem gP {x qual:Str} {st:Stmt} {f:Addr} {oc:Value} {od an:Option Addr} {osl:Array (Option Value)} {kV doc pm cdv ct:Value} (l:K.lookup f=some ⟨oc,od,.func (PySem.W.fnOf x qual (bT st) (aZ st) (aa st) .none kV doc pm an cdv ct),osl⟩)
  (c:PySem.W.codeIn K cdv qual=true) (k:PySem.W.keepIn K (.ref f)=true):Fun K x qual st f (PySem.W.fnOf x qual (bT st) (aZ st) (aa st) .none kV doc pm an cdv ct):=⟨⟨oc,od,kV,doc,pm,an,cdv,ct,osl,rfl,l,c⟩,k⟩
end
def bq (H H':Hp):Prop:=∀ b o,H b=some o->H' b=some o
noncomputable def ot (env:Env):List (Str×NameKind)->List (Str×Addr)->List (Str×Addr)
 | [],cs=>cs
 | (n,k) :: r,cs=>ot env r (if k==.free then (n,(env.cells.lookup n).getD 0) :: cs else cs)
theorem eO {env:Env}:∀ (ns:List (Str×NameKind)) (cs:List (Str×Addr)),(∀ y∈ns,y.2=.free->∃ c,env.cells.lookup y.1=some c) ->
  (forIn ns cs (fun (x:Str×NameKind) (r:List (Str×Addr))=>if (x.2==NameKind.free)=true then (cellOf env x.1>>=fun a=>pure (ForInStep.yield ((x.1,a) :: r)):Sem _) else pure (ForInStep.yield r)):Sem (List (Str×Addr)))=pure (ot env ns cs)
 | [],_,_=>rfl
 | (n,k) :: r,cs,h=>by
  rw [List.forIn_cons];by_cases hk:k=.free
  ·subst hk;obtain ⟨c,e⟩:=h (n,.free) Mj rfl;have e':env.cells.lookup n=some c:=e;have q:=eO (env:=env) r ((n,c) :: cs) fun y hy=>h y (L8 _ hy);have z:ot env ((n,NameKind.free) :: r) cs=ot env r ((n,c) :: cs):=by
    show ot env r (if (NameKind.free==NameKind.free)=true then (n,(env.cells.lookup n).getD 0) :: cs else cs)=_;rw [Me (by decide),e'];rfl
   have k:cellOf env n=pure c:=by
    unfold cellOf;rw [e']
   rw [z,<-q];dsimp only;rw [Me (by decide),k];rfl
  ·have hb:(k==NameKind.free)=false:=by simpa using hk
   have q:=eO (env:=env) r cs fun y hy=>h y (L8 _ hy);have z:ot env ((n,k) :: r) cs=ot env r cs:=by
    show ot env r (if (k==NameKind.free)=true then (n,(env.cells.lookup n).getD 0) :: cs else cs)=_;rw [hb,Mn M3]
   rw [z,<-q];dsimp only;rw [hb,Mn M3];rfl
theorem iK {scope:Scope} {env:Env} (h:∀ y∈scope.names,y.2=.free->∃ c,env.cells.lookup y.1=some c):closureFor scope env=pure (ot env scope.names []):=by
 have q:=eO (env:=env) scope.names [] h;unfold closureFor;show (forIn scope.names [] _>>=_:Sem _)=_;refine Eq.trans (congrArg (fun m:Sem (List (Str×Addr))=>m>>=fun r=>pure r) (Eq.trans ?_ q)) rfl;rfl
theorem mU {env:Env}:∀ (ns:List (Str×NameKind)) (cs:List (Str×Addr)),(∀ y∈ns,y.2=.free->∃ c,env.cells.lookup y.1=some c)->(∀ y c,cs.lookup y=some c->env.cells.lookup y=some c) ->
  ∀ y c,(ot env ns cs).lookup y=some c->env.cells.lookup y=some c
 | [],_,_,g,y,c,e=>g y c e
 | (n,k) :: r,cs,h,g,y,c,e=>by
  refine mU r _ (fun z hz=>h z (L8 _ hz)) (fun z d e'=>?_) y c e;by_cases hk:(k==NameKind.free)=true
  ·rw [Me hk] at e';rw [Nd] at e';obtain ⟨c',ec⟩:=h (n,k) Mj (by simpa using hk);have ec':env.cells.lookup n=some c':=ec;cases hz:z==n with
   | true =>
    rw [hz] at e';have hzn:z=n:=by simpa using hz
    subst hzn;rw [ec'] at e' ⊢;exact e'
   | false=>rw [hz] at e';exact g z d e'
  ·rw [Mn hk] at e';exact g z d e'
theorem p9 {env:Env} {y:Str}:∀ (ns:List (Str×NameKind)) (cs:List (Str×Addr)),(∃ c,cs.lookup y=some c)->∃ c,(ot env ns cs).lookup y=some c
 | [],_,h=>h
 | (n,k) :: r,cs,h=>by
  refine p9 r _ ?_;by_cases hk:(k==NameKind.free)=true
  ·rw [Me hk,Nd];cases y==n
   ·exact h
   ·exact ⟨_,rfl⟩
  ·rw [Mn hk];exact h
theorem d3 {env:Env} {y:Str}:∀ (ns:List (Str×NameKind)) (cs:List (Str×Addr)),(y,NameKind.free)∈ns->∃ c,(ot env ns cs).lookup y=some c
 | [],_,h=>by simp at h
 | (n,k) :: r,cs,h=>by
  rcases Mc.mp h with e | h
  ·cases e;show ∃ c,(ot env r (if (NameKind.free==NameKind.free)=true then (y,(env.cells.lookup y).getD 0) :: cs else cs)).lookup y=some c;refine p9 r _ ⟨(env.cells.lookup y).getD 0,?_⟩;rw [Me (by decide),Nd,beq_self_eq_true]
  ·exact d3 r _ h
theorem bC {env:Env} {y:Str} {k:NameKind}:∀ (ns:List (Str×NameKind)),
  (ns.map fun (n,k)=>if (k==NameKind.free&&env.scope.kind==.function&&env.kindOf n==some .cell) then (n,NameKind.cell) else (n,k)).lookup y=some k->(y,k)∈ns\/(k=.cell/\(y,NameKind.free)∈ns)
 | [],h=>by simp at h
 | (n,k') :: r,h=>by
  have ih:=fun q=>bC (env:=env) (y:=y) (k:=k) r q;rw [List.map_cons] at h;have h2:=h;have again:=fun q=>(ih q).elim (fun q=>Or.inl (L8 (n,k') q)) fun q=>(Or.inr ⟨q.1,L8 (n,k') q.2⟩:(y,k)∈(n,k') :: r\/(k=.cell/\(y,NameKind.free)∈(n,k') :: r));dsimp only at h2;clear h;by_cases hc:(k'==NameKind.free&&env.scope.kind==.function&&env.kindOf n==some .cell)=true
  ·rw [Me hc,Nd] at h2;cases hy:y==n with
   | true =>
    rw [hy] at h2;have e1:y=n:=by simpa using hy
    have hk:k'=.free:=by
     have:=hc;simp at this;exact this.1.1
    have e2:k=.cell:=(MF h2).symm;exact .inr ⟨e2,by rw [e1,hk];exact Mj⟩
   | false=>rw [hy] at h2;exact again h2
  ·rw [Mn hc,Nd] at h2;cases hy:y==n with
   | true =>
    rw [hy] at h2;have e1:y=n:=by simpa using hy
    have e2:k'=k:=MF h2;exact .inl (by rw [e1,e2];exact Mj)
   | false=>rw [hy] at h2;exact again h2
noncomputable def cxB (X:Cx) (N':List Str) (scope:Scope) (C:Addr) (s3:Shared) (H3:Hp) (ex:List Addr):Cx :=
  { prog:=X.prog,w:=X.w,K:=X.K,mg:=X.mg,base:=X.base,A:=X.A,N:=N',s₀:=s3,H₀:=H3,env:=compEnvC scope (ot X.env scope.names []) C X.env,outer:=X.stack,stack:=X.stack,ex:=ex,
    fn:=fun _=>false,calm:=true,pn:=[],xe:=fun _ _=>False }
def eG (X:Cx) (scope:Scope):List Str->List Nat->Prop
 | [],[]=>True
 | y :: ys,j :: js=>X.N[j]?=some y/\(X.env.scope.names.lookup y=some .cell/\scope.names.lookup y=some .free)/\eG X scope ys js
 | _,_=>False
theorem eG.get {X:Cx} {scope:Scope}:∀ {ys:List Str} {js:List Nat} {k:Nat} {y:Str},eG X scope ys js->ys[k]?=some y->∃ j,js[k]?=some j/\X.N[j]?=some y/\X.env.scope.names.lookup y=some .cell/\scope.names.lookup y=some .free
 | [],_,_,_,_,e=>by simp at e
 | _ :: _,[],_,_,h,_=>False.elim h
 | y :: ys,j :: js,0,z,h,e=>by simp at e;subst e;exact ⟨j,rfl,h.1,h.2.1⟩
 | y :: ys,j :: js,k+1,z,h,e=>by
  obtain ⟨j',e1,e2⟩:=eG.get (k:=k) h.2.2 (by simpa using e);exact ⟨j',by simpa using e1,e2⟩
theorem eG.len {X:Cx} {scope:Scope}:∀ {ys:List Str} {js:List Nat},eG X scope ys js->ys.length=js.length
 | [],[],_=>rfl
 | _ :: _,_ :: _,h=>by simp [eG.len h.2.2]
 | [],_ :: _,h=>False.elim h
 | _ :: _,[],h=>False.elim h
noncomputable def bP (js:List Nat) (σ:St):St:=js.map fun j=>(σ[j]?).getD none
structure i6 (X:Cx) (scope:Scope) (x:Str):Prop where
 kind:scope.kind=.function
 cells:∀ y∈scope.names,y.2≠.cell
 locs:∀ y∈scope.names,y.2=.local->scope.names.lookup y.1=some .local
 var:scope.names.lookup x=some .local
 free:∀ y∈scope.names,y.2=.free->X.env.scope.names.lookup y.1=some .cell
def PTs (X:Cx) (ifs:List Expr) (t:TT):Prop :=
 ∀ (pins:List (Addr×Obj)) (s:Shared) (σ:St) (H:Hp) (Q:Bool->Hp->Prop),Inv X pins σ H s->t σ H Q ->
  wpAny (model X.prog X.w) X.A (forIn ifs true fun c r=>if r=true then do let ok<-isTrue c X.env (eval c X.env);pure (ForInStep.yield ok) else pure (ForInStep.yield r)) (TP X pins σ Q) X.xe s
def EF:TT:=fun _ H Q=>Q true H
theorem Cu {X:Cx}:PTs X [] EF:=fun _ _ _ H _ I h=>wpAny_tests_nil ⟨H,I,h⟩
theorem xN {X:Cx} {pins:List (Addr×Obj)} {σ:St} {H:Hp} {s3:Shared} {h1:Heap} {tk:Nat} {scope:Scope} {x:Str} {ys:List Str} {js:List Nat} {ex:List Addr} (I:Inv X pins σ H s3) (hc:X.calm=true) (B:i6 X scope x) (cap:eG X scope ys js)
  (hns:h1.Ns s3.heap.objs.size (fun _=>none)) (hk:∀ b o,s3.heap.get? b=some o->h1.get? b=some o)
  (hex:∀ b∈ex,b ∉ frs X.stack/\b < s3.heap.objs.size/\(∀ y c,X.env.cells.lookup y=some c->c≠b)/\X.base.get? b=none) :
  Inv (cxB X (x :: ys) scope s3.heap.objs.size s3 H ex) [] (none :: bP js σ) H { s3 with heap:=h1,toks:=tk }:=by
 have hfree:∀ y∈scope.names,y.2=.free->∃ c,X.env.cells.lookup y.1=some c:=fun y hy hf=>I.ok.has y.1 (.inl (B.free y hy hf));have sub:=mU (env:=X.env) scope.names [] hfree (fun _ _ e=>by simp at e)
 refine ⟨⟨I.ok.mod,B.kind,I.ok.glob,I.ok.blt,Mg _,fun y z c h1 h2=>I.ok.inj y z c (sub _ _ h1) (sub _ _ h2),fun y hy=>?_,fun y c hf _=>?_,fun _=>I.ok.hd hc,I.ok.frames,.inl rfl,fun b hb=>?_,fun b o e=>I.bs b o e,Mr I.ok.bsz I.sz,fun b o e hb=>?_,fun b hb=>(hex b hb).1,I.stack,I.rK⟩,
  rfl,I.bare,Un.kept hk,⟨_,hns,fun i y v e1 e2 e3=>?_⟩,fun y c e=>?_,I.hok.fresh (Mg _),fun y c e=>I.jH y c (sub _ _ e),fun p hp=>absurd (show p∈([]:List (Addr×Obj)) from hp) (by simp),I.hok.kept hk,?_⟩
 ·have hy:(relabel scope X.env).names.lookup y=some .cell\/(relabel scope X.env).names.lookup y=some .free:=hy;rcases hy with hy | hy
  ·rcases bC _ hy with q | ⟨_,q⟩
   ·exact absurd rfl (B.cells _ q)
   ·exact d3 _ _ q
  ·rcases bC _ hy with q | ⟨q,_⟩
   ·exact d3 _ _ q
   ·cases q
 ·exact absurd (show false=true from hf) (by simp)
 ·exact ⟨MD (hex b hb).2.1,fun y c e=>(hex b hb).2.2.1 y c (sub _ _ e)⟩
 ·have e':X.base.get? b=some o:=e;have:=(hex b hb).2.2.2;rw [e'] at this;cases this
 ·cases i with
  | zero=>simp at e2
  | succ i =>
   have e1':ys[i]?=some y:=by simpa [cxB] using e1
   have e2':(bP js σ)[i]?=some (some v):=by simpa using e2
   obtain ⟨j,ej,en,ec,ef⟩:=cap.get e1';have e4:σ[j]?=some (some v):=by
    unfold bP at e2';rw [Mm,ej] at e2';simp only [NQ,Option.some.injEq] at e2';cases q:σ[j]? with
    | none=>rw [q] at e2';cases e2'
    | some w=>rw [q] at e2';simp at e2';rw [e2']
   obtain ⟨m,hn,hl⟩:=I.loc;obtain ⟨u,r,l⟩:=hl j y v en e4 (.inr (.inl ec));refine ⟨u,r,.inr ?_⟩;rcases l with ⟨kl,_⟩ | ⟨kc,c,ecl,cell⟩
   ·have kl:X.env.scope.names.lookup y=some .local:=kl;rw [ec] at kl;cases kl
   ·have e3:(relabel scope X.env).names.lookup y=some .local\/(relabel scope X.env).names.lookup y=some .cell\/(relabel scope X.env).names.lookup y=some .free:=e3;refine ⟨?_,?_⟩
    ·rcases e3 with q | q | q
     ·rcases bC _ q with q | ⟨q,_⟩
      ·have:=B.locs _ q rfl;rw [ef] at this;cases this
      ·cases q
     ·exact .inl q
     ·exact .inr q
    ·have mem:(y,NameKind.free)∈scope.names:=Nc ef;obtain ⟨c',ec'⟩:=d3 (env:=X.env) scope.names [] mem;have:=sub _ _ ec';rw [ecl] at this;cases this;obtain ⟨o,ho,hd⟩:=cell;exact ⟨c,ec',o,hk _ _ ho,hd⟩
 ·obtain ⟨v,o,ho,hd⟩:=I.cell y c (sub _ _ e);exact ⟨v,o,hk _ _ ho,hd⟩
 ·show (none :: bP js σ).length=(x :: ys).length;rw [L3,L3,cap.len];unfold bP;rw [LZ]
def pL (js:List Nat) (wi:TI) (tt:TT) (te:TE):TE:=fun σ H Q=>wi σ H fun J H1=>∃ W:Nat->Nat->List V->Hp->Prop,(∃ m,W 0 m [] H1)/\∀ i m acc H,W i m acc H ->
 (J.stop i H/\acc.length<=sizeLine/\∀ p,H p=none->Q (.ref p) (upd H p (.lst acc)))\/(J.go i H/\acc.length < sizeLine/\∀ x H',J.yld i H x H' ->
  tt (some x :: bP js σ) H' fun b H2=>if b=true then te (some x :: bP js σ) H2 fun y H3=>∃ m',m' < m/\W (i+1) m' (acc++[y]) H3 else ∃ m',m' < m/\W (i+1) m' acc H2)
theorem zR {M:Model} {A:Around} {α β:Type} {E E':Value->Shared->Prop} {a:α} {t:Sem α} {u:Sem β} {Q:α->Shared->Prop} {R:β->Shared->Prop} {s s':Shared} (e:t=pure a) (h:wpAny M A t Q E s) (k:Q a s->wpAny M A u R E' s'):wpAny M A u R E' s':=by
 subst e;exact fun Γ p hΓ=>k (h Γ p hΓ) Γ p hΓ
theorem tS {X:Cx} {pins:List (Addr×Obj)} {σ:St} {H:Hp} {s2:Shared} {elt iter:Expr} {x:Str} {px pos:Pos} {ifs:List Expr} {scope:Scope} {tt:TT} {te:TE} {ys:List Str} {js:List Nat} {it:Addr} {fp:List Addr} {tn:Nat->Heap->Prop} {J:It}
    {Q:VK} {E:Value->Shared->Prop} {RR:Value->Addr->Result->Shared->Prop} (hc:X.calm=true) (B:i6 X scope x) (nd:(x :: ys).Nodup) (cap:eG X scope ys js)
    (ht:∀ C s3 H3 ex,PTs (cxB X (x :: ys) scope C s3 H3 ex) ifs tt) (he:∀ C s3 H3 ex,PE (cxB X (x :: ys) scope C s3 H3 ex) elt te)
    (I:Inv X pins σ H s2) (T:Turn X.prog X.w X.K (.Name x px) J fp it tn) (h0:tn 0 s2.heap) (hf:∀ b∈fp,wm X pins H b)
    (W:Nat->Nat->List V->Hp->Prop) (w0:∃ m,W 0 m [] H)
    (turn:∀ i m acc H,W i m acc H->(J.stop i H/\acc.length<=sizeLine/\∀ p,H p=none->Q (.ref p) (upd H p (.lst acc)))\/(J.go i H/\acc.length < sizeLine/\∀ x H',J.yld i H x H' ->
      tt (some x :: bP js σ) H' fun b H2=>if b=true then te (some x :: bP js σ) H2 fun y H3=>∃ m',m' < m/\W (i+1) m' (acc++[y]) H3 else ∃ m',m' < m/\W (i+1) m' acc H2))
    (hRR:∀ (D C:Addr) (H':Hp) (s':Shared) (m':Str->Option Value),s'.heap.Ns C m'->s2.heap.objs.size<=C->C≠D->H' C=none->Inv X pins σ H' s'->Q (.ref D) H'->RR (.ref D) C (.ok .next) s') :
    wpAny (model X.prog X.w) X.A (newList []) (fun acc s₃=>wpAny (model X.prog X.w) X.A (newFunctionEnv scope X.env.globals (ot X.env scope.names []) [] X.env.qual none .none (some X.env)) (fun cenv s₄ =>
      codeAny (model X.prog X.w) X.A (.compStart (.ListComp elt [⟨.Name x px,iter,ifs,0⟩] scope pos) 0 (.ref it) acc { cenv with scope:=relabel scope X.env }) (RR acc cenv.locals) s₄) E s₃) E s2:=by
  refine Nr (wpAny_newFunctionEnv B.cells (by intro y hy;simp at hy) (fun h1 hns hsb=>?_) B.kind);dsimp only at hns hsb ⊢;have hD:H s2.heap.objs.size=none:=I.hok.fresh (Mg _);generalize hH2:s2.heap.push { cls:=.type "list", dict:=none,data:=.seq ([]:List Value).toArray }=P2 at hns hsb ⊢;have hgetD:P2.get? s2.heap.objs.size=some { cls:=.type "list", dict:=none,data:=.seq ([]:List Value).toArray }:=by rw [<- hH2];exact Mu _ rfl
  have hold:∀ b o,s2.heap.get? b=some o->P2.get? b=some o:=fun b o e=>by rw [<- hH2];exact L4 _ e
  have hsz:P2.objs.size=s2.heap.objs.size+1:=by rw [<- hH2,M6]
  have I3:Inv X pins σ H { s2 with heap:=P2,toks:=s2.toks }:=I.kept hold;generalize hDe:s2.heap.objs.size=D at *;have keep1:∀ b o,P2.get? b=some o->h1.get? b=some o:=fun b o e=>hsb.extBut b o (MD (Mf e)) (L4 _ e);have hfp:∀ b∈fp,b < D:=fun b hb=>by
    obtain ⟨o,e,_⟩:=T.obj _ _ h0 b hb;rw [<- hDe];exact Mf e
  have hstk:∀ b,b≠X.env.locals->b ∉ X.fs->b ∉ frs X.stack:=fun b h1 h2 z=>(Mc.mp (I.t5 b z)).elim h1 h2;have hDl:D≠X.env.locals:=fun z=>absurd I.lt (by rw [hDe,z];exact Mx _);have hDfs:D ∉ X.fs:=I.Gp (by rw [hDe];exact Mg _);have hDc:∀ y c,X.env.cells.lookup y=some c->c≠D:=fun y c e z=>by
    obtain ⟨v,q⟩:=I.cell y c e;have:=q.lt;rw [z,hDe] at this;exact absurd this (Mx _)
  have hex:∀ b∈D :: fp,b ∉ frs X.stack/\b < ({ s2 with heap:=P2,toks:=s2.toks }:Shared).heap.objs.size/\(∀ y c,X.env.cells.lookup y=some c->c≠b)/\X.base.get? b=none:=fun b hb=>by
    rcases Mc.mp hb with rfl | hb
    · refine ⟨hstk _ hDl hDfs,by show _ < P2.objs.size;rw [hsz];exact M8 _,hDc,?_⟩;cases q:X.base.get? b with
      | none=>rfl
      | some o =>
        have:=Mf (I.bk b o q);rw [hDe] at this;exact absurd this (Mx _)
    · obtain ⟨f0,f1,f2,f3,f4,f5⟩:=hf b hb;refine ⟨hstk _ f1 f2,by show _ < P2.objs.size;rw [hsz];exact Nat.lt_succ_of_lt (hfp b hb),f4,?_⟩;cases q:X.base.get? b with
      | none=>rfl
      | some o =>
        rcases f3 with z | z
        · exact absurd z (I.ok.CV b o q)
        · exact absurd (Md (Mf q) (Mr I.ok.bsz z)) (Mx _)
  have IB:=xN (tk:=s2.toks) (ex:=D :: fp) I3 hc B cap (h1:=h1) hns keep1 hex;have hCD:P2.objs.size≠D:=by rw [hsz];exact Nat.succ_ne_self _
  have start:codeAny (model X.prog X.w) X.A (.compLoop (.ListComp elt [⟨.Name x px,iter,ifs,0⟩] scope pos) 0 (.ref it) (.ref D) (compEnvC scope (ot X.env scope.names []) P2.objs.size X.env)) (RR (.ref D) P2.objs.size) { s2 with heap:=h1,toks:=s2.toks }:=by
    obtain ⟨m0,w0⟩:=w0;refine codeAny_compLoop_tests (fun n s=>∃ i v0 H' acc its k,Inv (cxB X (x :: ys) scope P2.objs.size { s2 with heap:=P2,toks:=s2.toks } H (D :: fp)) [] (v0 :: bP js σ) H' s/\tn i s.heap/\(∀ b∈D :: fp,H' b=none)/\s.heap.get? D=some { cls:=.type "list", data:=.seq its k }/\Vals acc its.toList/\acc.length<=sizeLine/\W i n acc H') ?_ m0 ?_
    · rintro n s ⟨i,v0,H3,acc,its,k,I4,t4,fr4,g4,va,hl4,w4⟩;have hDm:D∈D :: fp:=Mj;have exf:=I4.ok.exf;have fsub:∀ b∈D :: fp,b ∉ (cxB X (x :: ys) scope P2.objs.size { s2 with heap:=P2,toks:=s2.toks } H (D :: fp)).fs:=fun b hb=>(hex b hb).1;have stat:∀ {H':Hp} {ob:Obj},(∀ b∈fp,H' b=none)->∀ b∈fp,wm (cxB X (x :: ys) scope P2.objs.size { s2 with heap:=P2,toks:=s2.toks } H (D :: fp)) [(D,ob)] H' b:=fun {H' ob} hn b hb =>
        ⟨hn b hb,(exf b (L8 _ hb)).1,fsub b (L8 _ hb),.inl (L8 _ hb),(exf b (L8 _ hb)).2,fun p hp z=>by
          have hp':p∈[(D,ob)]:=hp;have e:=L9.mp hp';rw [e] at z
          exact absurd (hfp b hb) (by rw [<- show D=b from z];exact Mx _)⟩
      have frp:∀ b∈fp,H3 b=none:=fun b hb=>fr4 b (L8 _ hb);have I5:Inv (cxB X (x :: ys) scope P2.objs.size { s2 with heap:=P2,toks:=s2.toks } H (D :: fp)) [(D,{ cls:=.type "list", data:=.seq its k })] (v0 :: bP js σ) H3 s:=I4.fC fun p hp=>by
        rw [L9.mp hp];exact ⟨g4,fr4 D hDm,(exf D hDm).1,fsub D hDm,fun v z=>nomatch z⟩
      rcases turn i n acc H3 w4 with ⟨stop,hacc,q⟩ | ⟨go,hacc,step⟩
      · refine ME (T.done (cxB X (x :: ys) scope P2.objs.size { s2 with heap:=P2,toks:=s2.toks } H (D :: fp)) rfl rfl rfl rfl i _ s _ H3 (fun _ _=>False) I5 (stat frp) t4 stop) (fun r s1 ⟨hr,I6⟩=>?_) (fun _ _ z=>z.elim);subst hr;obtain ⟨m',hn',_⟩:=id I6.loc;have pD:=(I6.pin (D,{ cls:=.type "list", data:=.seq its k }) (Ml _ (L9.mpr rfl))).1;have nD:H3 D=none:=fr4 D hDm;have u:=I6.base;have uu:Un (frs X.stack) (D :: fp) H (upd H3 D (.lst acc)) P2 s1.heap :=
          ⟨u.keep,u.slot,fun b o q n hx=>by rw [ao fun z=>hx (by rw [z];exact hDm)];exact u.free b o q n hx,u.there,
           fun b xs q=>by rw [ao (aD (u.vf b xs q) nD)];exact u.vf b xs q,fun b o v q=>by rw [ao (aD (u.uY b o v q) nD)];exact u.uY b o v q,
           fun b ps q=>by
            obtain ⟨more,z⟩:=u.yo b ps q
            exact ⟨more,by rw [ao (aD z nD)];exact z⟩⟩
        have hok:HOk X.prog X.w (upd H3 D (.lst acc)) s1.heap:=fun b o e=>by
          by_cases hb:b=D
          · subst hb;rw [aE] at e;cases e;exact ⟨hacc,its.toList,k,va,by rw [Array.toArray_toList];exact pD⟩
          · rw [ao hb] at e;exact (I6.hok b o e).mB (fun c v _ q=>q) (fun c q=>by rw [ao (aD q nD)];exact q) fun c xs q=>by rw [ao (aD q nD)];exact q
        have fin:=I3.call (g':=s1.gens) (t':=s1.toks) (d':=s1.drawn) uu hok I6.bare (fun b hb=>by
          rcases Mc.mp hb with z | hb
          · rw [z];refine ⟨.inr (by rw [<- hDe];exact I.sz),hDl,hDc,fun p hp z=>?_⟩;have:=Mf (I.pin p hp).1;rw [z,hDe] at this;exact Mx _ this
          · exact ⟨(hf b hb).2.2.2.1,(hf b hb).2.1,(hf b hb).2.2.2.2.1,(hf b hb).2.2.2.2.2⟩)
        have es:({ heap:=s1.heap,gens:=s1.gens,drawn:=s1.drawn,toks:=s1.toks,os:=s2.os }:Shared)=s1:=by
          have:=I6.os;obtain ⟨a1,a2,a3,a4,a5⟩:=s1;have e5:a5=s2.os:=this;rw [e5]
        have fin':Inv X pins σ (upd H3 D (.lst acc)) s1:=es▸fin;exact hRR D P2.objs.size (upd H3 D (.lst acc)) s1 m' hn' (by rw [hsz];exact Nat.le_succ _) hCD (by rw [ao hCD];exact I6.free) fin' (q D nD)
      · refine ME (T.item (cxB X (x :: ys) scope P2.objs.size { s2 with heap:=P2,toks:=s2.toks } H (D :: fp)) rfl rfl rfl rfl i _ s _ H3 (fun _ _=>False) I5 (stat frp) t4 go) (fun r s1 ⟨u,hr,h4⟩=>?_) (fun _ _ z=>z.elim);subst hr;refine zR (a:=()) rfl h4 fun ⟨x',H5,I6,r6,y6,t6,fr6⟩=>?_;have I7:=I6.pinned (stat fr6) (T.obj _ _ t6);have kx:(relabel scope X.env).names.lookup x=some .local:=lookup_relabel_local B.var;have pg:PG (cxB X (x :: ys) scope P2.objs.size { s2 with heap:=P2,toks:=s2.toks } H (D :: fp)) (.Name x px) (cy 0):=kq nd rfl (.inl kx) (.inr kx);refine ME (pg _ s1 _ H5 x' u (fun σ' H'=>σ'=some x' :: bP js σ/\H'=H5) I7 r6 ⟨rfl,rfl⟩) (fun _ s2' ⟨σ6,H6,I8,e1,e2⟩=>?_) (fun _ _ z=>z.elim);subst e1 e2;refine ME (ht _ _ _ _ _ s2' _ _ _ I8 (step x' H6 y6)) (fun b s3' ⟨H7,I9,q9⟩=>?_) (fun _ _ z=>z.elim);have pinsKeep:∀ {σ':St} {H':Hp} {s':Shared},Inv (cxB X (x :: ys) scope P2.objs.size { s2 with heap:=P2,toks:=s2.toks } H (D :: fp)) ([(D,{ cls:=.type "list", data:=.seq its k })]++mz fp s1.heap) σ' H' s' ->
            s'.heap.get? D=some { cls:=.type "list", data:=.seq its k }/\(∀ b∈D :: fp,H' b=none)/\∀ b∈fp,∀ o,s1.heap.get? b=some o->s'.heap.get? b=some o:=fun {σ' H' s'} J=>by
          have pd:=J.pin (D,{ cls:=.type "list", data:=.seq its k }) (Ml _ (NB _ (L9.mpr rfl)));refine ⟨pd.1,fun b hb=>?_,fun b hb o e=>(J.pin (b,o) (Ml _ (Ml _ (cB hb e)))).1⟩;rcases Mc.mp hb with rfl | hb
          · exact pd.2.1
          · obtain ⟨o,e,_⟩:=T.obj _ _ t6 b hb;exact (J.pin (b,o) (Ml _ (Ml _ (cB hb e)))).2.1
        cases b with
        | false =>
          rw [Mn M3] at q9;obtain ⟨m',hm,w9⟩:=q9;obtain ⟨p1,p2,p3⟩:=pinsKeep I9;rw [Mn M3];exact ⟨m',hm,i+1,some x',H7,acc,its,k,I9.fC (fun p hp=>absurd hp (by simp)),T.keep _ _ _ t6 p3,p2,p1,va,hl4,w9⟩
        | true =>
          rw [Me rfl] at q9;rw [Me rfl];refine ME (he _ _ _ _ _ s3' _ _ _ I9 q9) (fun y s4' ⟨yv,H8,I10,ry,m',hm,w10⟩=>?_) (fun _ _ z=>z.elim);obtain ⟨p1,p2,p3⟩:=pinsKeep I10;have hsize:its.size=acc.length:=by rw [va.length];simp
          have I11:=I10.fC (pins':=[]) (fun p hp=>absurd hp (by simp));refine wpAny_list_append_plain ⟨k,p1⟩ (fun h' hpl hsame=>?_) (by rw [hsize];exact NO hacc);obtain ⟨k',e'⟩:=hpl;have neD:∀ {b:Addr} {o:HO},H8 b=some o->b≠D:=fun e z=>by rw [z,p2 D hDm] at e;cases e
          refine ⟨m',hm,i+1,some x',H8,acc++[yv],its.push y,k',?_,?_,p2,e',?_,?_,w10⟩
          · refine I11.step (g':=s4'.gens) (t':=s4'.toks) (d':=s4'.drawn) (ch:=[D]) (fun b hb=>?_) (fun b o _ _ hc' e _=>?_) (fun b o _ _ hc' e _=>⟨o.slots,?_⟩) (fun b o hc' e n=>n) (fun b o hc' e=>⟨o,?_⟩) (fun _ _ z=>z) (fun _ _ _ z=>z) (fun b ps z=>⟨#[],by rw [z];simp⟩) (fun m hn=>hn.sameBut hsame (Ne.symm (exf D hDm).1)) (fun b o e=>?_) I11.bare
            · rw [L9.mp hb];exact ⟨.inl hDm,(exf D hDm).1,(exf D hDm).2,fun p hp=>absurd (show p∈([]:List (Addr×Obj)) from hp) (by simp)⟩
            · exact (hsame.2 b fun z=>hc' (L9.mpr z)).trans e
            · exact (hsame.2 b fun z=>hc' (L9.mpr z)).trans e
            · exact (hsame.2 b fun z=>hc' (L9.mpr z)).trans e
            · refine (I11.hok b o e).mB (fun c v hc' q=>(hsame.2 c ?_).trans q) (fun _ q=>q) fun _ _ q=>q;rcases hc' with z | z
              · rw [z];exact neD e
              · exact neD z
          · refine T.keep _ _ _ t6 fun b hb o e=>(hsame.2 b ?_).trans (p3 b hb o e);exact MD (hfp b hb)
          · rw [Array.toList_push];exact va.append (.cons ry .nil)
          · rw [LY,Mz];exact hacc
    · refine ⟨0,none,H,[],#[],_,IB,T.keep _ _ _ h0 (fun b hb o e=>keep1 b o (hold b o e)),fun b hb=>?_,keep1 _ _ hgetD,.nil,MV _,w0⟩;rcases Mc.mp hb with rfl | hb
      · exact hD
      · exact (hf b hb).1
  exact codeAny_compStart_list start (T.self _ 0 _ _ _ (T.keep _ _ _ h0 (fun b hb o e=>keep1 b o (hold b o e))) start)
theorem Cg {X:Cx} {elt iter:Expr} {x:Str} {px pos:Pos} {ifs:List Expr} {scope:Scope} {wi:TI} {tt:TT} {te:TE} {ys:List Str} {js:List Nat} (hc:X.calm=true) (hi:PI X (.Name x px) iter wi) (B:i6 X scope x) (nd:(x :: ys).Nodup) (cap:eG X scope ys js)
  (ht:∀ C s3 H3 ex,PTs (cxB X (x :: ys) scope C s3 H3 ex) ifs tt) (he:∀ C s3 H3 ex,PE (cxB X (x :: ys) scope C s3 H3 ex) elt te) (hs:∀ x,foldedSetIterable iter X.env x=pure x:=by intro _;rfl) :
  PE X (.ListComp elt [⟨.Name x px,iter,ifs,0⟩] scope pos) (pL js wi tt te):=by
 intro pins s σ H Q I h;have hcl:=iK (scope:=scope) (env:=X.env) fun y hy hf=>I.ok.has y.1 (.inl (B.free y hy hf));rw [eval_ListComp];refine wpAny_comprehension_free (use:=none) rfl hs hcl B.kind B.locs (ME (hi pins s σ H _ I h) (fun xv s1 h1=>ME h1 (fun itv s2 h2=>?_) fun _ _ e=>e) fun _ _ e=>e);obtain ⟨it,fp,tn,J,H2,e,I2,T,st2,f2,W,w0,turn⟩:=h2;subst e;refine tS (RR:=fun acc C=>compPost (model X.prog X.w) X.A X.xe none (EP X pins σ Q) acc C) hc B nd cap ht he I2 T st2 f2 W w0 turn ?_;intro D C H' s' m' hn hC hCD hCn I' q;refine ⟨m',hn,fun h' hs'=>⟨.ref D,H',?_,rfl,q⟩⟩;have hL:X.env.locals≠C:=MD (Md I2.lt hC);have neC:∀ {b:Addr} {o:HO},H' b=some o->b≠C:=fun e z=>by rw [z,hCn] at e;cases e
 refine I'.step (g':=s'.gens) (t':=s'.toks) (d':=s'.drawn) (ch:=[C]) (fun b hb=>?_) (fun b o _ _ hc' e _=>?_) (fun b o _ _ hc' e _=>⟨o.slots,?_⟩) (fun b o hc' e n=>n) (fun b o hc' e=>⟨o,?_⟩) (fun _ _ z=>z) (fun _ _ _ z=>z) (fun b ps z=>⟨#[],by rw [z];simp⟩) (fun m hn=>hn.sameBut hs' hL) (fun b o e=>?_) I'.bare
 ·rw [L9.mp hb];refine ⟨.inr (Mr I2.sz hC),Ne.symm hL,fun y c e z=>?_,fun p hp z=>?_⟩
  ·obtain ⟨v,q⟩:=I2.cell y c e;have:=q.lt;rw [z] at this;exact absurd (Md this hC) (Mx _)
  ·have:=Mf (I2.pin p hp).1;rw [z] at this;exact absurd (Md this hC) (Mx _)
 ·exact (hs'.2 b fun z=>hc' (L9.mpr z)).trans e
 ·exact (hs'.2 b fun z=>hc' (L9.mpr z)).trans e
 ·exact (hs'.2 b fun z=>hc' (L9.mpr z)).trans e
 ·refine (I'.hok b o e).mB (fun c v hc' q=>(hs'.2 c ?_).trans q) (fun _ q=>q) fun _ _ q=>q;rcases hc' with z | z
  ·rw [z];exact neC e
  ·exact neC z
theorem CN {X:Cx} {elt iter:Expr} {x y:Str} {px py pos spos:Pos} {ifs:List Expr} {scope:Scope} {wi:TI} {tt:TT} {te:TE} {ys:List Str} {js:List Nat} {i:Nat} (hN:X.N.Nodup) (hi':X.N[i]?=some y) (hy:X.env.scope.names.lookup y=some .local)
  (hsw:swapsWith (.ListComp elt [⟨.Name x px,iter,ifs,0⟩] scope pos) (some (.Name y py)) spos.line X.env=pure true) (hc:X.calm=true) (hi:PI X (.Name x px) iter wi) (B:i6 X scope x) (nd:(x :: ys).Nodup) (cap:eG X scope ys js)
  (ht:∀ C s3 H3 ex,PTs (cxB X (x :: ys) scope C s3 H3 ex) ifs tt) (he:∀ C s3 H3 ex,PE (cxB X (x :: ys) scope C s3 H3 ex) elt te) (hs:∀ x,foldedSetIterable iter X.env x=pure x:=by intro _;rfl) :
  PS X (.Assign [.Name y py] (.ListComp elt [⟨.Name x px,iter,ifs,0⟩] scope pos) spos) (om (pL js wi tt te) (cy i)):=by
 intro pins s σ H Dn I h;have hcl:=iK (scope:=scope) (env:=X.env) fun y hy hf=>I.ok.has y.1 (.inl (B.free y hy hf));rw [exec_Assign_Name_used _ _ _ _ hsw];refine Mp (wpAny_standAt (Mp ?_));show wpAny _ X.A (do let _<-comprehension (.ListComp elt [⟨.Name x px,iter,ifs,0⟩] scope pos) scope X.env _ (newList []) false (eval iter X.env) (some (assign (.Name y py) X.env))) _ _ s
 refine Mp (ME (wpAny_comprehension_free (use:=some (assign (.Name y py) X.env)) (Q:=fun _ s'=>SP X pins Dn .next s') rfl hs hcl B.kind B.locs
  (ME (hi pins s σ H _ I h) (fun xv s1 h1=>ME h1 (fun itv s2 h2=>?_) fun _ _ e=>e) fun _ _ e=>e)) (fun _ s' hq=>MA (MA hq)) fun _ _ e=>e)
 obtain ⟨it,fp,tn,J,H2,e,I2,T,st2,f2,W,w0,turn⟩:=h2;subst e;refine tS (Q:=fun x H1=>cy i x σ H1 Dn.nx) (RR:=fun acc C=>compPost (model X.prog X.w) X.A X.xe (some (assign (.Name y py) X.env)) (fun _ s'=>SP X pins Dn .next s') acc C) hc B nd cap ht he I2 T st2 f2 W w0 turn ?_;intro D C H' s' m' hn hC hCD hCn I' q;have hL:X.env.locals≠C:=MD (Md I2.lt hC);have hCfs:C ∉ X.fs:=I2.Gp hC;obtain ⟨oC,esC,epC,hoC,hdC,restC⟩:=id hn;have I'':Inv X (pins++[(C,oC)]) σ H' s':=I'.fC fun p hp=>by
  rcases Nn.mp hp with z | z
  ·exact I'.pin p (Ml _ z)
  ·rw [L9.mp z];exact ⟨hoC,hCn,Ne.symm hL,hCfs,fun v z=>by rw [hdC] at z;cases z⟩
 show wpAny _ X.A (assign (.Name y py) X.env (.ref D)) _ _ _;refine ME (kq (pos:=py) hN hi' (.inl hy) (.inr hy) _ s' σ H' (.ref D) (.ref D) Dn.nx I'' rfl q) (fun _ s3 ⟨σ3,H3,I3,q3⟩=>?_) fun _ _ e=>e;have pC:=I3.pin (C,oC) (Ml _ (Ml _ (L9.mpr rfl)));have hn3:s3.heap.Ns C m':=⟨oC,esC,epC,pC.1,hdC,restC⟩;have hCn3:H3 C=none:=pC.2.1;refine ⟨m',hn3,fun h' hs'=>⟨σ3,H3,?_,q3⟩⟩;have I4:=I3.jT;have neC:∀ {b:Addr} {o:HO},H3 b=some o->b≠C:=fun e z=>by rw [z,hCn3] at e;cases e
 refine I4.step (g':=s3.gens) (t':=s3.toks) (d':=s3.drawn) (ch:=[C]) (fun b hb=>?_) (fun b o _ _ hc' e _=>?_) (fun b o _ _ hc' e _=>⟨o.slots,?_⟩) (fun b o hc' e n=>n) (fun b o hc' e=>⟨o,?_⟩) (fun _ _ z=>z) (fun _ _ _ z=>z) (fun b ps z=>⟨#[],by rw [z];simp⟩) (fun m hn=>hn.sameBut hs' hL) (fun b o e=>?_) I4.bare
 ·rw [L9.mp hb];refine ⟨.inr (Mr I2.sz hC),Ne.symm hL,fun y c e z=>?_,fun p hp z=>?_⟩
  ·obtain ⟨v,q⟩:=I2.cell y c e;have:=q.lt;rw [z] at this;exact absurd (Md this hC) (Mx _)
  ·have:=Mf (I2.pin p hp).1;rw [z] at this;exact absurd (Md this hC) (Mx _)
 ·exact (hs'.2 b fun z=>hc' (L9.mpr z)).trans e
 ·exact (hs'.2 b fun z=>hc' (L9.mpr z)).trans e
 ·exact (hs'.2 b fun z=>hc' (L9.mpr z)).trans e
 ·refine (I4.hok b o e).mB (fun c v hc' q=>(hs'.2 c ?_).trans q) (fun _ q=>q) fun _ _ q=>q;rcases hc' with z | z
  ·rw [z];exact neC e
  ·exact neC z
def Its (x:Str):It:=⟨fun i _=>i < x.length,fun i H v H'=>H'=H/\∃ c,x.cps[i]?=some c/\v=.str ⟨#[c]⟩,fun i _=>x.length<=i⟩
theorem yA {P:Program} {w:World} {K:Fg} {y:Str} {py:Pos} {x:Str} {it:Addr} {St:Nat->Heap->Prop} (W:∀ A':Around,A'.handled=none->Walks P w A' it [it] [it] x.cps.size (SignAt x) St)
  (ob:∀ i h,St i h->∃ o,h.get? it=some o/\∀ v,o.data≠.cell v) (hs:∀ (A:Around) i (s:Shared) (Q:Value->Shared->Prop) (E:Value->Shared->Prop),St i s.heap->Q (.ref it) s->wpAny (model P w) A (pyIter (.ref it)) Q E s) :
  Turn P w K (.Name y py) (Its x) [it] it (fun i h=>i<=x.cps.size/\St i h) where
 mem:=by simp
 obj:=fun i h st b hb=>by
  have e:b=it:=by simpa using hb
  subst e;exact ob i h st.2
 keep:=fun i h h' st k=>⟨st.1,(W { depth:=0,frames:=none,guards:=none,units:=0,handled:=none } rfl).frame i h h' st.2 fun b hb o e=>k b hb o e⟩
 item:=by
  intro X hP hw hK hc i pins s σ H E I hf st hg;subst hP hw hK;obtain ⟨f0,f1,f2,f3,f4,f5⟩:=hf it (by simp);refine (W X.A (I.ok.hd hc)).item i s _ _ hg st.2 fun v h' tk hv st' kk=>?_;obtain ⟨c,t,hcps,rfl⟩:=hv;have I1:Inv X pins σ H { s with heap:=h',toks:=tk }:=I.turned (fun b o hb e=>kk b o (by simpa using hb) e) f0 f1 f3 f4 f5;exact ⟨_,rfl,MA (show _ from ⟨.str ⟨#[c]⟩,H,I1,⟨t,rfl⟩,⟨rfl,c,hcps,rfl⟩,⟨hg,st'⟩,fun b hb=>(hf b hb).1⟩)⟩
 done:=by
  intro X hP hw hK hc i pins s σ H E I hf st hg;subst hP hw hK;obtain ⟨f0,f1,f2,f3,f4,f5⟩:=hf it (by simp);have e:i=x.cps.size:=Nat.le_antisymm st.1 hg;subst e;exact (W X.A (I.ok.hd hc)).done s _ _ st.2 fun h' tk kk=>⟨rfl,I.turned (fun b o hb e=>kk b o (by simpa using hb) e) f0 f1 f3 f4 f5⟩
 self:=fun A i s Q E st h=>hs A i s Q E st.2 h
def GB (tl:TE):TI:=fun σ H R=>tl σ H fun x H1=>∃ z,x=.str z/\R (Its z) H1
theorem C5 {X:Cx} {y:Str} {py:Pos} {l:Expr} {tl:TE} (hl:PE X l tl):PI X (.Name y py) l (GB tl):=by
 intro pins s σ H R I h;refine thn (hl pins s σ H _ I h) fun v s1 ⟨x,H1,I1,r1,q1⟩=>?_;obtain ⟨z,e,q⟩:=q1;subst e;obtain ⟨t,rfl⟩:=r1;have hn:H1 s1.heap.objs.size=none:=I1.hok.fresh (Mg _);have key:∀ (T:String) (sz:T = "str_ascii_iterator" \/ T = "str_iterator"),PIE X pins σ (.Name y py) R (.ref s1.heap.objs.size) { s1 with heap:=s1.heap.push { cls:=.type T,data:=.fields #[.str z t,.int 0 0] } }:=fun T sz=>by
  have I2:Inv X pins σ H1 { s1 with heap:=s1.heap.push { cls:=.type T,data:=.fields #[.str z t,.int 0 0] },toks:=s1.toks }:=I1.kept fun b o e=>L4 _ e;have st0:(s1.heap.push { cls:=.type T,data:=.fields #[.str z t,.int 0 0] }).IsStrIter s1.heap.objs.size T z t 0:=⟨_,Mu _ rfl,rfl,rfl⟩;refine ⟨s1.heap.objs.size,[s1.heap.objs.size],fun i h=>i<=z.cps.size/\h.IsStrIter s1.heap.objs.size T z t i,Its z,H1,rfl,I2,?_,⟨MV _,st0⟩,fun b hb=>?_,q⟩
  ·refine yA (fun A' hA=>?_) (fun i h st=>?_) fun A i s Q E st hq=>?_
   ·rcases sz with rfl | rfl
    ·exact Walks.strAscii hA _ z t
    ·exact Walks.strWide hA _ z t
   ·obtain ⟨o,e,c,d⟩:=st;exact ⟨o,e,fun v z=>by rw [d] at z;cases z⟩
   ·rcases sz with rfl | rfl
    ·exact wpAny_pyIter_striter_ascii st hq
    ·exact wpAny_pyIter_striter_wide st hq
  ·rw [L9.mp hb];exact I1.DM (Mg _) hn
 cases ha:z.cps.all (· < 128)
 ·exact wpAny_pyIter_wide ha (key _ (.inr rfl))
 ·exact wpAny_pyIter_ascii ha (key _ (.inl rfl))
section
variable {X:Cx}
theorem xB:OpR X (compareOp .LtE) (fun x y H Q=>∃ i j,x=.str i/\y=.str j/\Q (.bl (!(decide (j.cps.toList < i.cps.toList)))) H):=by
 intro pins s σ H x y v u Q I rx ry h;obtain ⟨i,j,rfl,rfl,q⟩:=h;obtain ⟨t,rfl⟩:=rx;obtain ⟨t',rfl⟩:=ry;exact P.le_str ⟨.bl _,H,I,rfl,q⟩
theorem OpR.or' {f:Value->Value->Sem Value} {r r':R2} (h:OpR X f r) (h':OpR X f r'):OpR X f (fun x y H Q=>r x y H Q\/r' x y H Q):=by
 intro pins s σ H x y v u Q I rx ry q;rcases q with q | q
 ·exact h pins s σ H x y v u Q I rx ry q
 ·exact h' pins s σ H x y v u Q I rx ry q
theorem zg:OpR X (binaryOp .FloorDiv) (rI (fun _ j=>0 < j/\j.natAbs.log2 < 9000) fun i j=>.int (i / j)):=opI fun i j _ _ _ _ _ hc q=>by
 have h1:(0:Int) < j:=hc.1;exact floordiv_int (by omega) (by rw [Int.fdiv_eq_ediv_of_nonneg i (by omega)];exact q) (.inl (PyProof.noPylong_of_log2 hc.2))
theorem wt (hc:X.calm=true):aW X (.builtin "all") (fun xs H Q=>∃ (a:Addr) (bs:List Bool),xs=[.ref a]/\SqL X.K H a (bs.map V.bl)/\Q (.bl (bs.all id)) H):=by
 intro pins s σ H xs us Q I r h;obtain ⟨a,bs,rfl,hq,q⟩:=h;obtain ⟨u,rfl,r1⟩:=vals1 r;cases (show u=Value.ref a from r1);obtain ⟨its,rv,p,hz⟩:=I.list hq;have ha:a < s.heap.objs.size:=by
  obtain ⟨o,e,_⟩:=p.isList;exact Mf e
 refine call_all_walk (wpAny_pyIter_list p.isList ?_);refine ⟨s.heap.objs.size,_,_,_,_,_,fun i=>(bs[i]?).getD true,rfl,Walks.list (show X.A.in1.handled=none from I.ok.hd hc) s.heap.objs.size a (MD ha) its.toArray,⟨⟨_,Mu _ rfl,rfl,rfl⟩,p.isList.push _⟩,?_,?_⟩
 ·intro i v s' Q' E' hv hQ;have hv':its[i]?=some v:=by simpa using hv
  have hi:i < its.length:=(L5.mp hv').1;have hb:i < bs.length:=by have:=rv.length;rw [LZ] at this;omega
  obtain ⟨u,hu,ru⟩:=rv.get (i:=i) (x:=.bl bs[i]) (by rw [Mm,L6 hb];rfl);rw [hv'] at hu;cases hu;cases (show v=Value.bool bs[i] from ru);dsimp only at hQ;rw [L6 hb] at hQ;exact MU hQ
 ·intro h' tk kk;have e:(List.range its.toArray.size).all (fun i=>(bs[i]?).getD true)=bs.all id:=by
   have hl:its.toArray.size=bs.length:=by rw [Mh,<-rv.length,LZ]
   rw [hl,Bool.eq_iff_iff,M0,M0];constructor
   ·intro h b hb;obtain ⟨i,hi,e⟩:=List.mem_iff_getElem.mp hb;have:=h i (List.mem_range.mpr hi);rw [L6 hi,e] at this;exact this
   ·intro h i hi;rw [L6 (List.mem_range.mp hi)];exact h _ (List.getElem_mem _)
  rw [e];have I1:Inv X pins σ H { s with heap:=s.heap.push { cls:=.type "list_iterator", data:=.fields #[.ref a,rawInt 0] },toks:=s.toks }:=I.kept fun b o e=>L4 _ e;have hn:H s.heap.objs.size=none:=I.hok.fresh (Mg _)
  have I2:Inv X pins σ H { s with heap:=h',toks:=tk }:=I.kept fun b o e=>kk b o (by
   intro z;have:=L9.mp z;rw [this] at e
   exact absurd (Mf e) (Mx _)) (L4 _ e)
  exact ⟨.bl _,H,I2,rfl,q⟩
noncomputable def jG (x:Str) (lo hi:Option Int):Str:=⟨((x.cps.toList.drop (HT.sIx x.length 0 lo)).take (HT.sIx x.length x.length hi - HT.sIx x.length 0 lo)).toArray⟩
theorem GV (lo hi:Option Int) (n:Nat):Builtin.Str.strSliceIndices lo hi 1 n=(List.range (HT.sIx n n hi - HT.sIx n 0 lo)).map (HT.sIx n 0 lo+·):=by
 rw [<- sliceRange_one];unfold Builtin.Str.strSliceIndices;dsimp only;have h1:(1:Int) > 0:=by decide
 have e0:(match lo with | none=>(if (1:Int) > 0 then 0 else (n:Int) - 1) | some i=>if (1:Int) > 0 then max 0 (min (if i < 0 then i+(n:Int) else i) (n:Int)) else max (-1) (min (if i < 0 then i+(n:Int) else i) ((n:Int) - 1)))=((HT.sIx n 0 lo:Nat):Int):=by
  cases lo with
  | none=>simp [HT.sIx]
  | some i =>
   simp only [HT.sIx,h1,Nz];by_cases h:i < 0
   ·simp only [h,Nz] <;> omega
   ·simp only [h,if_false] <;> omega
 have e1:(match hi with | none=>(if (1:Int) > 0 then (n:Int) else -1) | some i=>if (1:Int) > 0 then max 0 (min (if i < 0 then i+(n:Int) else i) (n:Int)) else max (-1) (min (if i < 0 then i+(n:Int) else i) ((n:Int) - 1)))=((HT.sIx n n hi:Nat):Int):=by
  cases hi with
  | none=>simp [HT.sIx]
  | some i =>
   simp only [HT.sIx,h1,Nz];by_cases h:i < 0
   ·simp only [h,Nz] <;> omega
   ·simp only [h,if_false] <;> omega
 rw [<- e0,<-e1];cases lo <;> cases hi <;> rfl
theorem tJ (n:Nat) (v:Option Int):HT.sIx n n v<=n/\HT.sIx n 0 v<=n:=by
 cases v with
 | none=>simp [HT.sIx]
 | some i =>
  simp only [HT.sIx];split <;> omega
def HY:V->Option Int->Option Int->Hp->VK->Prop:=fun x lo hi H Q=>∃ z,x=.str z/\z.length<=sizeLine/\Q (.str (jG z lo hi)) H
theorem dG (x:Str) (lo hi:Option Int):(jG x lo hi).length<=x.length:=by
 have e:x.cps.toList.length=x.length:=by simp [Str.length]
 show (((x.cps.toList.drop _).take _).toArray).size<=x.length;rw [Mh,MN,MZ,e];omega
theorem ip:SlR X HY:=by
 intro pins s σ H x v vl vu lo hi sl Q I rx hs pl pu h;obtain ⟨z,rfl,hz,q⟩:=h;obtain ⟨t,rfl⟩:=rx;refine ⟨"str", _,F.slot_str_getitem.lookup,typeIs_str _ _ _,?_⟩;obtain ⟨l,el,el'⟩:∃ l:Option (Int×Tok),l.map (·.1)=lo/\vl=partValue l:=by
  cases pl with
  | none=>exact ⟨none,rfl,rfl⟩
  | int i t=>exact ⟨some (i,t),rfl,rfl⟩
 obtain ⟨u,eu,eu'⟩:∃ l:Option (Int×Tok),l.map (·.1)=hi/\vu=partValue l:=by
  cases pu with
  | none=>exact ⟨none,rfl,rfl⟩
  | int i t=>exact ⟨some (i,t),rfl,rfl⟩
 subst el' eu';obtain ⟨o,h1,h2,h3⟩:=hs;refine wpAny_getItem_str_slice (l:=l) (u:=u) (st:=none) ⟨o,h1,h2,h3⟩ rfl ?_;have pk:slicePicked z l u none=(List.range (HT.sIx z.length z.length hi - HT.sIx z.length 0 lo)).map (HT.sIx z.length 0 lo+·):=by
  rw [<- GV,<-el,<-eu];rfl
 have ez:z.cps.toList.length=z.length:=by simp [Str.length]
 have cut:(⟨((slicePicked z l u none).filterMap (z.cps[·]?)).toArray⟩:Str)=jG z lo hi:=by
  rw [pk,pick_run];rfl
 unfold sliceMade;split
 ·rename_i hc;have hl:(slicePicked z l u none).length=z.length:=by
   have:=(Bool.and_eq_true_iff.mp hc).2;simpa using this
  rw [pk,LZ,Ng] at hl;have b1:=tJ z.length hi;have b2:=tJ z.length lo;have h0:HT.sIx z.length 0 lo=0\/z.length=0:=by omega
  have e:jG z lo hi=z:=by
   unfold jG;rcases h0 with h0 | h0
   ·rw [h0,List.drop_zero,Nu (by omega)]
   ·have hn:z.cps.toList=[]:=List.eq_nil_of_length_eq_zero (by omega);rw [hn];have:z.cps=#[]:=by
     have:=congrArg List.toArray hn;simpa using this
    obtain ⟨c⟩:=z;simp only at this;subst this;simp
  rw [e] at q;exact ⟨.str z,H,I,⟨t,rfl⟩,q⟩
 ·rw [cut];exact ⟨Mr (dG _ _ _) hz,⟨.str _,H,I.tok _,⟨_,rfl⟩,q⟩⟩
end
mutual
def Dn (p:Addr) (H:Hp):PyData->V->Prop
 | .none,v=>v=.non
 | .bool b,v=>v=.bl b
 | .int i,v=>v=.int i
 | .str x,v=>v=.str x
 | .list ds,v=>∃ a xs,v=.ref a/\a≠p/\H a=some (.lst xs)/\DnL p H ds xs
 | .tuple ds,v=>∃ a xs,v=.ref a/\a≠p/\H a=some (.tup xs)/\DnL p H ds xs
 | .dict kvs,v=>kvs=[]/\∃ a,v=.ref a/\a≠p/\H a=some (.dK [])
def DnL (p:Addr) (H:Hp):List PyData->List V->Prop
 | [],vs=>vs=[]
 | d :: ds,vs=>∃ v r,vs=v :: r/\Dn p H d v/\DnL p H ds r
end
open PySem PySem.Spec PyProof.Rows
def rOr (r r':R2):R2:=fun x y H Q=>r x y H Q\/r' x y H Q
def DW (r r':V->Option Int->Option Int->Hp->VK->Prop):V->Option Int->Option Int->Hp->VK->Prop:=fun x l u H Q=>r x l u H Q\/r' x l u H Q
def DF:R2:=fun x y H Q=>∃ i j,x=.str i/\y=.str j/\i.length+j.length<=sizeLine/\Q (.str (i++j)) H
def J8:R2:=fun x y H Q=>∃ i j,x=.str i/\y=.str j/\Q (.bl (decide (i.cps.toList < j.cps.toList))) H
def KJ:R2:=fun x y H Q=>∃ i j,x=.str i/\y=.str j/\Q (.bl (!(decide (j.cps.toList < i.cps.toList)))) H
def Lv:R2:=fun x y H Q=>∃ i j,x=.str i/\y=.str j/\Q (.bl (!(Builtin.Str.occurrences j i 0 j.length 1).isEmpty)) H
def BA:R2:=fun x y H Q=>∃ i j,x=.str i/\y=.str j/\Q (.bl (!(!(Builtin.Str.occurrences j i 0 j.length 1).isEmpty))) H
def Ks (K:Fg):List V->Hp->VK->Prop:=fun xs H Q=>∃ (a:Addr) (bs:List Bool),xs=[.ref a]/\SqL K H a (bs.map V.bl)/\Q (.bl (bs.all id)) H
def DZ (K:Fg):List V->Hp->VK->Prop:=fun xs H Q=>∃ x n,xs=[x]/\KL K x H n/\Q (.int n) H
def Iv:List V->Hp->VK->Prop:=fun xs H Q=>∃ i,xs=[.int i]/\Q (.int (if i < 0 then -i else i)) H
def B3:List V->Hp->VK->Prop:=fun xs H Q=>(∃ i,xs=[.int i]/\Q (.int i) H)\/∃ k,xs=[.bl k]/\Q (.int (if k then 1 else 0)) H
section
variable {X:Cx}
theorem orR {f:Value->Value->Sem Value} {r r':R2} (h:OpR X f r) (h':OpR X f r'):OpR X f (rOr r r'):=OpR.or' h h'
theorem orS {r r':V->Option Int->Option Int->Hp->VK->Prop} (h:SlR X r) (h':SlR X r'):SlR X (DW r r'):=SlR.or h h'
theorem AL:OpR X (binaryOp .Add) DF:=ue
theorem DV:OpR X (compareOp .Lt) J8:=vy
theorem FU:OpR X (compareOp .LtE) KJ:=xB
theorem DN:OpR X (compareOp .In) Lv:=yd
theorem yg:OpR X (compareOp .NotIn) BA:=pY
theorem wQ (hc:X.calm=true):aW X (.builtin "all") (Ks X.K):=wt hc
theorem xo:aW X (.builtin "len") (DZ X.K):=yz
theorem vK:aW X (.builtin "abs") Iv:=yx
theorem v3:aW X (.type "int") B3:=v5
end
end L2
namespace L2
open PySem
noncomputable def sh (sc scope:Scope) (x:Str):Bool :=
 (scope.kind==.function)&&scope.names.all (fun y=>y.2 != .cell)&&scope.names.all (fun y=>y.2 != .local||scope.names.lookup y.1==some .local)&&(scope.names.lookup x==some .local)&&scope.names.all (fun y=>y.2 != .free||sc.names.lookup y.1==some .cell)
theorem bsc {X:Cx} {sc scope:Scope} {x:Str} (e:X.env.scope=sc) (h:sh sc scope x=true):i6 X scope x:=by
 unfold sh at h;simp only [Ms,M0,Nf,bne_iff_ne,Ny,ne_eq] at h;obtain ⟨⟨⟨⟨h1,h2⟩,h3⟩,h4⟩,h5⟩:=h;exact ⟨h1,fun y hy=>h2 y hy,fun y hy e=>(h3 y hy).resolve_left fun z=>z e,h4,fun y hy e'=>by rw [e];exact (h5 y hy).resolve_left fun z=>z e'⟩
end L2
namespace L2
open PySem
theorem a9 {e:Expr} {es:List Expr} {env:Env} (h:PySem.W.isStarred e=false):starEach (e :: es) env=(false,eval e env) :: starEach es env:=by
 cases e <;> first | rfl | exact absurd h (by simp [PySem.W.isStarred])
theorem cO {pos:Pos} {env:Env}:∀ {es:List Expr},es.all (fun e=>!PySem.W.isStarred e)=true->(backTo pos (starEach es env)).any (·.1)=false
 | [],_=>rfl
 | e :: es,h=>by
  rw [List.all_cons,Ms] at h;rw [a9 (by simpa using h.1)];have ih:=cO (pos:=pos) (env:=env) h.2;unfold backTo at ih ⊢;rw [List.map_cons,List.any_cons,ih];rfl
structure JE (X:Cx) (e:Expr) (t:TE):Prop where
 h:PE X e t
structure JT (X:Cx) (e:Expr) (t:TT):Prop where
 h:PT X e t
structure JW (X:Cx) (e:Expr) (t:TT):Prop where
 h:PW X e t
structure JA (X:Cx) (es:List Expr) (t:TA):Prop where
 h:PA X es t
structure JS (X:Cx) (s:Stmt) (t:TS):Prop where
 h:PS X s t
structure JSs (X:Cx) (s:List Stmt) (t:TS):Prop where
 h:PSs X s t
structure JG (X:Cx) (e:Expr) (t:TG):Prop where
 h:PG X e t
structure JI (X:Cx) (tg e:Expr) (t:TI):Prop where
 h:PI X tg e t
structure JO (X:Cx) (e:Option Expr) (t:TO):Prop where
 h:PO X e t
structure JC (X:Cx) (N:List Str) (scope:Scope) (e:Expr) (t:TE):Prop where
 h:∀ C s3 H3 ex,PE (cxB X N scope C s3 H3 ex) e t
structure JTs (X:Cx) (N:List Str) (scope:Scope) (e:List Expr) (t:TT):Prop where
 h:∀ C s3 H3 ex,PTs (cxB X N scope C s3 H3 ex) e t
section
variable {X:Cx} {e a b c:Expr} {es rest:List Expr} {te ta tb tc:TE} {tA tB':TT} {t:TA} {x:Str} {p pos:Pos} {id T:String} {r:List V->Hp->VK->Prop} {CX:CXT} {k:Nat} {f:Addr} {fd:FuncData} {ps:List Str} {sp:Sp} {ds:List Value} {dvs:List V} {E:XK}
theorem Kf (i:Nat) (hN:X.N[i]?=some x) (hv:Vis X.env.scope x) (hd:(x==("__debug__" : Str))=false) (hcd:(x==("__classdict__" : Str))=false):JE X (.Name x pos) (bE i):=⟨Fm hN hv hd hcd⟩
theorem ah {i j}:JE X (.Constant (.int i) j pos) (tC (.int i)):=⟨Ew⟩
theorem eBl {b j}:JE X (.Constant (.bool b) j pos) (tC (.bl b)):=⟨Iq⟩
theorem rB {j}:JE X (.Constant .none j pos) (tC .non):=⟨DH⟩
theorem aw {x j}:JE X (.Constant (.str x) j pos) (tC (.str x)):=⟨C8⟩
theorem ae:JA X [] cu:=⟨Dg⟩
theorem eA (ha:JE X e te) (hr:JA X es t) (h:PySem.W.isStarred e=false):JA X (e :: es) (ay te t):=⟨BQ ha.h hr.h (a9 h)⟩
theorem BK (F:aO X.prog X.w X.K X.mg X.base CX k f fd ps sp) (hr:d7 k X.A) (hg:Gl X x) (hm:X.mg x=some (.ref f)) (hk:PySem.W.keepIn X.K (.ref f)=true) (hb:Binds X.K fd ps ds) (hd:Vals dvs ds) (hx:Passes CX X E)
  (ha:JA X (e :: es) t) (h1:PySem.W.isStarred e=false) (h2:es.all (fun e=>!PySem.W.isStarred e)=true) (hdb:(x==("__debug__" : Str))=false):JE X (.Call (.Name x p) (e :: es) [] pos) (gx sp dvs E t) :=
 ⟨B1 F hr hg hm hk hb hd hx ha.h hdb (a9 h1) (cO h2)⟩
theorem eB (hc:aW X (.builtin id) r) (hg:Gl X x) (hm:X.mg x=none) (hv:bootBuiltins x=some (.builtin id)) (ha:JA X (e :: es) t) (h1:PySem.W.isStarred e=false) (h2:es.all (fun e=>!PySem.W.isStarred e)=true)
  (hn:x ≠ "__name__") (hdb:(x==("__debug__" : Str))=false):JE X (.Call (.Name x p) (e :: es) [] pos) (tCB r t):=⟨zV hc hg hm hv ha.h hn hdb (a9 h1) (cO h2)⟩
theorem eTy (hc:aW X (.type T) r) (hg:Gl X x) (hm:X.mg x=none) (hv:bootBuiltins x=some (.type T)) (ha:JA X (e :: es) t) (h1:PySem.W.isStarred e=false) (h2:es.all (fun e=>!PySem.W.isStarred e)=true)
  (hn:x ≠ "__name__") (hdb:(x==("__debug__" : Str))=false):JE X (.Call (.Name x p) (e :: es) [] pos) (tCB r t):=⟨vT hc hg hm hv ha.h hn hdb (a9 h1) (cO h2)⟩
theorem eR1 {tg a:Expr} {ta:TA} (hg:Gl X "range") (hm:X.mg "range" = none) (ha:JA X [a] ta) (h:PySem.W.isStarred a=false):JI X tg (.Call (.Name "range" p) [a] [] pos) (Bm ta):=⟨xV hg hm ha.h (a9 h)⟩
theorem eIL {tg:Expr} (h:JE X e te):JI X tg e (yH X.K te):=⟨CA h.h⟩
theorem eIT {tg:Expr} (h:JE X e te):JI X tg e (CT X.K te):=⟨EK h.h⟩
theorem eIS {y:Str} {py:Pos} (h:JE X e te):JI X (.Name y py) e (GB te):=⟨C5 h.h⟩
theorem cA {v:V} {u:Value} (hg:Gl X x) (hm:X.mg x=some u) (r:RelV v u) (hd:(x==("__debug__" : Str))=false):JE X (.Name x pos) (tC v):=⟨BF hg hm r hd⟩
theorem LM {v:V} {u:Value} (hg:Gl X x) (hm:X.mg x=none) (hv:bootBuiltins x=some u) (r:RelV v u) (hn:x ≠ "__name__") (hd:(x==("__debug__" : Str))=false):JE X (.Name x pos) (tC v):=⟨Cn hg hm hv r hn hd⟩
theorem eOp {op:Operator} {r:R2} (ho:OpR X (binaryOp op) r) (ha:JE X a ta) (hb:JE X b tb):JE X (.BinOp a op b pos) (tOp r ta tb):=⟨JN ho ha.h hb.h⟩
theorem eUn {op:UnaryOp} {r:V->Hp->VK->Prop} (ho:UnR X (unaryOp op) r) (ha:JE X a ta):JE X (.UnaryOp op a pos) (tUn r ta):=⟨GS ho ha.h⟩
theorem J4 (ha:JE X a ta):JE X (.UnaryOp .Not a pos) (BX ta):=⟨FP ha.h⟩
theorem tf {op} (h:JE X a te):JE X (.BoolOp op [a] pos) te:=⟨Er h.h⟩
theorem tV (ha:JE X a ta) (hb:JE X (.BoolOp .And (b :: rest) pos) tb):JE X (.BoolOp .And (a :: b :: rest) pos) (AY ta tb):=⟨DE ha.h hb.h⟩
theorem eOr (ha:JE X a ta) (hb:JE X (.BoolOp .Or (b :: rest) pos) tb):JE X (.BoolOp .Or (a :: b :: rest) pos) (IW ta tb):=⟨Ja ha.h hb.h⟩
theorem eIf (hc:JT X c tA) (ha:JE X a ta) (hb:JE X b tb):JE X (.IfExp c a b pos) (tIf tA ta tb):=⟨zN hc.h ha.h hb.h⟩
theorem lD {op:CmpOp} {r:R2} (ho:OpR X (compareOp op) r) (ha:JE X a ta) (hb:JE X b tb) (hm:behindInMarks op b=false):JE X (.Compare a [op] [b] pos) (tOp r ta tb):=⟨Bp ho ha.h hb.h hm⟩
theorem cq {op:CmpOp} {r:R2} (ho:OpR X (compareOp op) r) (ha:JE X a ta) (hb:JE X b tb) (hm:behindInMarks op b=false):JT X (.Compare a [op] [b] pos) (jL (tOp r ta tb)):=⟨AR ho ha.h hb.h hm⟩
theorem x9 {op op':CmpOp} {r r':R2} (ho:OpR X (compareOp op) r) (ho':OpR X (compareOp op') r') (ha:JE X a ta) (hb:JE X b tb) (hc:JE X c tc) (hm:lastMarks [op,op'] [b,c]=false):JE X (.Compare a [op,op'] [b,c] pos) (oO r r' ta tb tc):=⟨zP ho ho' ha.h hb.h hc.h hm⟩
theorem r8 {op op':CmpOp} {r r':R2} (ho:OpR X (compareOp op) r) (ho':OpR X (compareOp op') r') (ha:JE X a ta) (hb:JE X b tb) (hc:JE X c tc) (hm:lastMarks [op,op'] [b,c]=false):JT X (.Compare a [op,op'] [b,c] pos) (jL (oO r r' ta tb tc)):=⟨y7 ho ho' ha.h hb.h hc.h hm⟩
theorem KI (h:JE X e te) (he:∀ whole,isTrue e X.env whole=(do let v<-whole;standAt e.pos;holding [v] (truthy v))):JT X e (tB te):=⟨Ey h.h he⟩
theorem iL (ha:JT X a tA):JT X (.UnaryOp .Not a pos) (Gx tA):=⟨E4 ha.h⟩
theorem iX (ha:JT X a tA):JW X (.BoolOp .And [a] pos) tA:=⟨pw_and1 ha.h⟩
theorem kU (ha:JT X a tA):JW X (.BoolOp .Or [a] pos) tA:=⟨pw_or1 ha.h⟩
theorem nU (ha:JT X a tA) (hb:JW X (.BoolOp .And (b :: rest) pos) tB'):JW X (.BoolOp .And (a :: b :: rest) pos) (Ic tA tB'):=⟨pw_and ha.h hb.h⟩
theorem vi (ha:JT X a tA) (hb:JW X (.BoolOp .Or (b :: rest) pos) tB'):JW X (.BoolOp .Or (a :: b :: rest) pos) (tOr tA tB'):=⟨pw_or ha.h hb.h⟩
theorem eW (h:JW X e tA):JT X e tA:=⟨PW.pt h.h⟩
theorem eE {x1} (h:JA X es t):JE X (.Tuple es x1 pos) (CW t):=⟨F6 h.h⟩
theorem cT (h:JA X es t):JE X (.List es pos) (lL t):=⟨F8 h.h⟩
theorem eIx {r:R2} (hr:IxR X r) (ha:JE X a ta) (hb:JE X b tb) (hs:rV b):JE X (.Subscript a b pos) (tOp r ta tb):=⟨IZ hr ha.h hb.h hs⟩
theorem Cz:JO X none q0:=⟨A9⟩
theorem eP (h:JE X e te):JO X (some e) (CF te):=⟨Bz h.h⟩
theorem eSl {p2:Pos} {lo hi:Option Expr} {tl th:TO} {r:V->Option Int->Option Int->Hp->VK->Prop} (hr:SlR X r) (he:JE X e te) (hl:JO X lo tl) (hu:JO X hi th):JE X (.Subscript e (.Slice lo hi none p2) pos) (tSl r te tl th):=⟨y8 hr he.h hl.h hu.h⟩
theorem BI {i:Nat} {pos':Pos} (he:JE X e te) (hN:X.N.Nodup) (hi:X.N[i]?=some x) (hx:Loc X.env.scope x) (hs:swapsWith e (some (.Name x pos')) pos.line X.env=pure false) (hf:X.fn x=true\/X.env.scope.names.lookup x=some .local) :
  JS X (.Assign [.Name x pos'] e pos) (om te (cy i)):=⟨FI hN hi hx he.h hs hf⟩
theorem BJ {tg:Expr} {g:TG} (he:JE X e te) (hg:JG X tg g) (hs:swapsWithSole [tg] e pos.line X.env=pure false) (hw:swappedStores [tg] e X.env=pure none) (h1:(assignEach [tg] X.env).map (·.2)=[assign tg X.env]):JS X (.Assign [tg] e pos) (om te g):=⟨Ga he.h hg.h hs hw h1⟩
theorem Ls {iter tg:Expr} {body:List Stmt} {wi:TI} {g:TG} {tb:TS} (hi:JI X tg iter wi) (hg:JG X tg g) (hb:JSs X body tb) (hp:PassesOwn (model X.prog X.w) X.A X.env X.xe) (hc:X.calm=true) (hs:∀ x,foldedSetIterable iter X.env x=pure x):JS X (.For tg iter body [] pos) (D3 wi g tb):=⟨Ep hp hc hi.h hg.h hb.h hs⟩
theorem sN {c:Expr} {body:List Stmt} {tc:TT} {tb:TS} (hc:JT X c tc) (hb:JSs X body tb) (hp:PassesOwn (model X.prog X.w) X.A X.env X.xe):JS X (.While c body [] pos) (xI tc tb):=⟨yJ hp hc.h hb.h⟩
theorem br {a b:List Stmt} {tc:TT} {t u:TS} (hc:JT X c tc) (ha:JSs X a t) (hb:JSs X b u):JS X (.If c a b pos) (wq tc t u):=⟨Ij hc.h ha.h hb.h⟩
theorem aI (he:JE X e te):JS X (.Return (some e) pos) (vg te):=⟨Dj he.h⟩
theorem eGN {i:Nat} (hN:X.N.Nodup) (hi:X.N[i]?=some x) (hx:Loc X.env.scope x) (hf:X.fn x=true\/X.env.scope.names.lookup x=some .local):JG X (.Name x pos) (cy i):=⟨kq hN hi hx hf⟩
theorem bS (he:JE X e te) (hs:swapsWith e none pos.line X.env=pure false):JS X (.Expr e pos) (ud te):=⟨Cc he.h hs⟩
theorem C0 {o i:Expr} {to ti:TE} {t:Gr} (ho:JE X o to) (hi:JE X i ti) (hs:Je X t) (ha:∀ v,assign (.Subscript o i pos) X.env v=(do
   let ov<-holding [v] (eval o X.env)
   let iv<-holding [v,ov] (eval i X.env)
   standAt pos
   holding [v,ov,iv] (setItem ov iv v)
   release [v,ov,iv] [])):JG X (.Subscript o i pos) (KN to ti t):=⟨DG ho.h hi.h hs ha⟩
theorem bz:JSs X [] lg:=⟨BC⟩
theorem ax {s:Stmt} {t:TS} (h:JS X s t):JSs X [s] t:=⟨CG h.h⟩
theorem ai {s:Stmt} {rest:List Stmt} {t u:TS} (h:JS X s t) (hr:JSs X rest u):JSs X (s :: rest) (mh t u):=⟨zI h.h hr.h⟩
theorem B8 {elt iter:Expr} {px:Pos} {ifs:List Expr} {scope:Scope} {wi:TI} {tt:TT} {js:List Nat} (ys:List Str) (hi:JI X (.Name x px) iter wi) (ht:JTs X (x :: ys) scope ifs tt) (he:JC X (x :: ys) scope elt te)
  (hc:X.calm=true) (B:i6 X scope x) (nd:(x :: ys).Nodup) (cap:eG X scope ys js) (hs:∀ x,foldedSetIterable iter X.env x=pure x):JE X (.ListComp elt [⟨.Name x px,iter,ifs,0⟩] scope pos) (pL js wi tt te):=⟨Cg hc hi.h B nd cap ht.h he.h hs⟩
theorem Ik {elt iter:Expr} {y:Str} {px py spos:Pos} {ifs:List Expr} {scope:Scope} {wi:TI} {tt:TT} {js:List Nat} {i:Nat} (ys:List Str) (hi:JI X (.Name x px) iter wi) (ht:JTs X (x :: ys) scope ifs tt) (he:JC X (x :: ys) scope elt te)
  (hN:X.N.Nodup) (hi':X.N[i]?=some y) (hy:X.env.scope.names.lookup y=some .local) (hsw:swapsWith (.ListComp elt [⟨.Name x px,iter,ifs,0⟩] scope pos) (some (.Name y py)) spos.line X.env=pure true)
  (hc:X.calm=true) (B:i6 X scope x) (nd:(x :: ys).Nodup) (cap:eG X scope ys js) (hs:∀ x,foldedSetIterable iter X.env x=pure x):JS X (.Assign [.Name y py] (.ListComp elt [⟨.Name x px,iter,ifs,0⟩] scope pos) spos) (om (pL js wi tt te) (cy i)):=⟨CN hN hi' hy hsw hc hi.h B nd cap ht.h he.h hs⟩
theorem eC {N:List Str} {scope:Scope} (h:∀ C s3 H3 ex,JE (cxB X N scope C s3 H3 ex) e te):JC X N scope e te:=⟨fun C s3 H3 ex=>(h C s3 H3 ex).h⟩
theorem eT0 {N:List Str} {scope:Scope}:JTs X N scope [] EF:=⟨fun _ _ _ _=>Cu⟩
theorem eBM {apos cpos:Pos} {o:Expr} {name:Str} {to:TE} {r:V->List V->Hp->VK->Prop} (ho:JE X o to) (ha:JA X (e :: es) t) (hm:MtR X id r) (pa:PlainAttrs T) (slot:Slot T name id) (hty:typeOf (.builtin id)=pure (.type "method_descriptor"))
  (hbase:attributeBase o name X.env (eval o X.env)=eval o X.env)
  (hfew:((backTo cpos (starEach (e :: es) X.env)).all (fun x=>!x.1)&&(backToKw cpos (keywordEach [] X.env)).all (fun x=>x.1.isSome)
   && decide ((e :: es).length+([]:List Keyword).length+(if ([]:List Keyword).isEmpty then 0 else 1) < 30))=true)
  (hline:(apos.endLine==cpos.line)=true) (h1:PySem.W.isStarred e=false) (h2:es.all (fun e=>!PySem.W.isStarred e)=true):JE X (.Call (.Attribute o name apos) (e :: es) [] cpos) (tBM X.K T r to t):=⟨Jy pa slot hty hm ho.h ha.h hbase hfew hline (a9 h1) (cO h2)⟩
end
open PySem.Spec PyProof.Rows
noncomputable def tyN:PyData->String
 | .none => "NoneType" | .bool _ => "bool" | .int _ => "int" | .str _ => "str" | .list _ => "list" | .tuple _ => "tuple" | .dict _ => "dict"
noncomputable def isS:PyData->Bool | .str _=>true | _=>false
noncomputable def isI:PyData->Bool | .int _=>true | .bool _=>true | _=>false
noncomputable def isB:PyData->Bool | .bool _=>true | _=>false
noncomputable def isT:PyData->Bool | .tuple _=>true | _=>false
noncomputable def isL:PyData->Bool | .list _=>true | _=>false
section
variable {K:Fg}
theorem H9 (d:PyData):PySem.W.kitOne K (.type (tyN d)) (.type "str")=some (isS d):=by cases d <;> with_unfolding_all rfl
theorem Hl (d:PyData):PySem.W.kitOne K (.type (tyN d)) (.type "int")=some (isI d):=by cases d <;> with_unfolding_all rfl
theorem HR (d:PyData):PySem.W.kitOne K (.type (tyN d)) (.type "bool")=some (isB d):=by cases d <;> with_unfolding_all rfl
theorem Iw (d:PyData):PySem.W.kitOne K (.type (tyN d)) (.type "tuple")=some (isT d):=by cases d <;> with_unfolding_all rfl
theorem Il (d:PyData):PySem.W.kitOne K (.type (tyN d)) (.type "list")=some (isL d):=by cases d <;> with_unfolding_all rfl
variable {p:Addr} {H:Hp} {d:PyData} {v:V} {Q:VK}
end
theorem dN {b:Bool} {A B:Prop} (e:b=true) (h:A):if b=true then A else B:=by rw [Me e];exact h
theorem fF {b:Bool} {A B:Prop} (e:b=false) (h:B):if b=true then A else B:=by rw [Mn (by rw [e];exact M3)];exact h
theorem gc {b:Bool} {A B:Prop} (h1:b=true->A) (h2:b=false->B):if b=true then A else B:=by
 cases b with
 | true=>rw [Me rfl];exact h1 rfl
 | false=>rw [Mn M3];exact h2 rfl
section
variable {r r':R2} {x y:V} {H:Hp} {Q:VK}
theorem FW {K:Fg} {z:Str} (l:z.length<=sizeLine) (h:Q (.int z.length) H):DZ K [.str z] H Q:=⟨_,_,rfl,⟨l,rfl⟩,h⟩
theorem Es {K:Fg} {p:Addr} {xs:List V} (s:SqL K H p xs) (h:Q (.int xs.length) H):DZ K [.ref p] H Q:=⟨_,_,rfl,.inl ⟨xs,s,rfl⟩,h⟩
theorem FJ {K:Fg} {p:Addr} {xs:List V} (s:SqT K H p xs) (h:Q (.int xs.length) H):DZ K [.ref p] H Q:=⟨_,_,rfl,.inr ⟨xs,s,rfl⟩,h⟩
theorem JM {i:Int} (h:Q (.int (if i < 0 then -i else i)) H):Iv [.int i] H Q:=⟨i,rfl,h⟩
end
theorem Fun.okJ {P:Program} {w:World} {K:Fg} {mg:Str->Option Value} {base:Heap} {x qual:Str} {st:Stmt} {f:Addr} {fd:FuncData} {N ps:List Str} {k:Nat} {sp:Sp} (F:Fun K x qual st f fd) (S:af N ps (aa st)) (len:∀ vs H Q E,sp vs H Q E->vs.length=ps.length)
  (hbody:∀ (cdv:Value) (A:Around) (outer:List Env) (s:Shared) (H:Hp) (vs:List V) (Q:VK) (E:XK),d7 k (A.deeper (envOfC qual (aa st) s.heap.objs.size f cdv))->sp vs H Q E ->
   ∃ t,JSs (yj CX0 P w K mg base N qual (aa st) f cdv A outer s H E).nox (aZ st) t/\t { nx:=fun _ H'=>Q .non H',rt:=Q } (start N vs) H):aO P w K mg base CX0 (k+1) f fd ps sp :=
 F.ok S len fun cdv A outer s H vs Q E hr h=>let ⟨t,j,q⟩:=hbody cdv A outer s H vs Q E hr h;⟨t,j.h,q⟩
theorem fN:∀ {ss:List Str} {us:List Value},Vals (ss.map V.str) us->StrsAre us ss
 | [],_,r=>by cases r;exact .nil
 | s :: ss,_,r=>by
  cases r with
  | cons r1 r2 =>
   obtain ⟨t,rfl⟩:=r1;exact .cons _ _ (fN r2)
theorem x4:∀ {ss:List Str} {us:List Value},StrsAre us ss->Vals (ss.map V.str) us
 | [],_,r=>by cases r;exact .nil
 | s :: ss,_,r=>by
  cases r with
  | cons _ _ r2=>exact .cons ⟨_,rfl⟩ (x4 r2)
section
variable {X:Cx}
def AH (K:Fg):List V->Hp->VK->Prop:=fun xs H Q=>∃ (a:Addr) (ss:List Str),xs=[.ref a]/\SqL K H a (ss.map V.str)/\ss.length < 64/\∀ p ss',H p=none->ss'.Perm ss->sortedS ss'=true->Q (.ref p) (upd H p (.lst (ss'.map V.str)))
theorem pf:aW X (.builtin "sorted") (AH X.K):=by
 intro pins s σ H xs us Q I r h;obtain ⟨a,ss,rfl,hq,h64,q⟩:=h;obtain ⟨u,rfl,r1⟩:=vals1 r;cases (show u=Value.ref a from r1);obtain ⟨its,rv,p,hz⟩:=I.list hq;have hS:=fN rv;have hl:its.length=ss.length:=by rw [<- rv.length,LZ]
 refine sorted_strs p.isList hS (by omega) fun out ss' h1 h2 h3=>?_;obtain ⟨e,he⟩:=sortedAll_at s.heap its out;have hn:H (s.heap.objs.size+1)=none:=I.hok.fresh (Nat.le_succ _);have hl':ss'.length<=sizeLine:=by rw [h2.length_eq];exact Mr (NO h64) (by decide)
 refine ⟨.ref (s.heap.objs.size+1),_,I.laid (t':=s.toks) (o:=.lst (ss'.map V.str)) (fun b o hb=>sortedAll_old hb) (Nat.le_succ _) ?_,rfl,q _ ss' hn h2 h3⟩;exact ⟨by rw [LZ];exact hl',out.toList,e,x4 h1,by rw [Array.toArray_toList];exact he⟩
def yh:V->List V->Hp->VK->Prop:=fun x vs H Q=>∃ z y:Str,x=.str z/\vs=[.str y]/\Q (.bl (decide (y.length<=z.length)&&Builtin.Str.subAt z y 0)) H
theorem oQ:MtM X "str.startswith" yh:=by
 intro pins s σ H x vs v us Q I rx rv h;obtain ⟨z,y,rfl,rfl,q⟩:=h;obtain ⟨t,rfl⟩:=rx;obtain ⟨u,rfl,ru⟩:=rv.one;obtain ⟨t',rfl⟩:=ru;refine NG F.slot_str_startswith (typeIs_str _ _ _) F.entry_str_startswith (F.args_str_startswith_2 _ _) (gives_str_startswith z y t t').meets ?_;exact ⟨.bl _,H,I,by simp only [Nat.zero_add];rfl,q⟩
def Fe (K:Fg):List V->Hp->VK->Prop:=fun xs H Q=>∃ p ys,xs=[.ref p]/\(SqL K H p ys\/SqT K H p ys)/\∀ l,H l=none->Q (.ref l) (upd H l (.lst ys))
def Aw (K:Fg):List V->Hp->VK->Prop:=fun xs H Q=>∃ p ys,xs=[.ref p]/\((SqL K H p ys/\∀ l,H l=none->Q (.ref l) (upd H l (.tup ys)))\/(SqT K H p ys/\Q (.ref p) H))
def DK:List V->Hp->VK->Prop:=fun xs H Q=>∃ i j,xs=[.int i,.int j]/\Q (.int (if j < i then j else i)) H
def Kv:R2:=fun x y H Q=>y=.non/\Q (.bl (decide (x=.non))) H
def DX:R2:=fun x y H Q=>y=.non/\Q (.bl (!decide (x=.non))) H
theorem ur:aW X (.type "list") (Fe X.K):=pS
theorem rQ:aW X (.type "tuple") (Aw X.K):=n8
theorem t7 (hc:X.calm=true):aW X (.builtin "min") DK:=wZ hc
theorem Bi:OpR X (compareOp .Is) Kv:=Dr
theorem yI:OpR X (compareOp .IsNot) DX:=AW
end
structure ki (X:Cx) (scope:Scope) (xs:List Str):Prop where
 kind:scope.kind=.function
 cells:∀ y∈scope.names,y.2≠.cell
 locs:∀ y∈scope.names,y.2=.local->scope.names.lookup y.1=some .local
 free:∀ y∈scope.names,y.2=.free->X.env.scope.names.lookup y.1=some .cell
noncomputable def iz (xs:List Str):St:=xs.map fun _=>none
theorem uW {X:Cx} {pins:List (Addr×Obj)} {σ:St} {H:Hp} {s3:Shared} {h1:Heap} {tk:Nat} {scope:Scope} {xs ys:List Str} {js:List Nat} {ex:List Addr} (I:Inv X pins σ H s3) (hc:X.calm=true) (B:ki X scope xs) (cap:eG X scope ys js)
  (hns:h1.Ns s3.heap.objs.size (fun _=>none)) (hk:∀ b o,s3.heap.get? b=some o->h1.get? b=some o)
  (hex:∀ b∈ex,b ∉ frs X.stack/\b < s3.heap.objs.size/\(∀ y c,X.env.cells.lookup y=some c->c≠b)/\X.base.get? b=none) :
  Inv (cxB X (xs++ys) scope s3.heap.objs.size s3 H ex) [] (iz xs++bP js σ) H { s3 with heap:=h1,toks:=tk }:=by
 have hfree:∀ y∈scope.names,y.2=.free->∃ c,X.env.cells.lookup y.1=some c:=fun y hy hf=>I.ok.has y.1 (.inl (B.free y hy hf));have sub:=mU (env:=X.env) scope.names [] hfree (fun _ _ e=>by simp at e)
 refine ⟨⟨I.ok.mod,B.kind,I.ok.glob,I.ok.blt,Mg _,fun y z c h1 h2=>I.ok.inj y z c (sub _ _ h1) (sub _ _ h2),fun y hy=>?_,fun y c hf _=>?_,fun _=>I.ok.hd hc,I.ok.frames,.inl rfl,fun b hb=>?_,fun b o e=>I.bs b o e,Mr I.ok.bsz I.sz,fun b o e hb=>?_,fun b hb=>(hex b hb).1,I.stack,I.rK⟩,
  rfl,I.bare,Un.kept hk,⟨_,hns,fun i y v e1 e2 e3=>?_⟩,fun y c e=>?_,I.hok.fresh (Mg _),fun y c e=>I.jH y c (sub _ _ e),fun p hp=>absurd (show p∈([]:List (Addr×Obj)) from hp) (by simp),I.hok.kept hk,?_⟩
 ·have hy:(relabel scope X.env).names.lookup y=some .cell\/(relabel scope X.env).names.lookup y=some .free:=hy;rcases hy with hy | hy
  ·rcases bC _ hy with q | ⟨_,q⟩
   ·exact absurd rfl (B.cells _ q)
   ·exact d3 _ _ q
  ·rcases bC _ hy with q | ⟨q,_⟩
   ·exact d3 _ _ q
   ·cases q
 ·exact absurd (show false=true from hf) (by simp)
 ·exact ⟨MD (hex b hb).2.1,fun y c e=>(hex b hb).2.2.1 y c (sub _ _ e)⟩
 ·have e':X.base.get? b=some o:=e;have:=(hex b hb).2.2.2;rw [e'] at this;cases this
 ·have hnl:(iz xs).length=xs.length:=by unfold iz;rw [LZ]
  by_cases hi:i < xs.length
  ·rw [MC (by rw [hnl];exact hi)] at e2;unfold iz at e2;rw [Mm,L6 hi] at e2;cases e2
  ·have hi':xs.length<=i:=Nat.le_of_not_lt hi;have e1':ys[i - xs.length]?=some y:=by
    have e1:(xs++ys)[i]?=some y:=e1
    rwa [Mi hi'] at e1
   have e2':(bP js σ)[i - xs.length]?=some (some v):=by
    rwa [Mi (by rw [hnl];exact hi'),hnl] at e2
   obtain ⟨j,ej,en,ec,ef⟩:=cap.get e1';have e4:σ[j]?=some (some v):=by
    unfold bP at e2';rw [Mm,ej] at e2';simp only [NQ,Option.some.injEq] at e2';cases q:σ[j]? with
    | none=>rw [q] at e2';cases e2'
    | some w=>rw [q] at e2';simp at e2';rw [e2']
   obtain ⟨m,hn,hl⟩:=I.loc;obtain ⟨u,r,l⟩:=hl j y v en e4 (.inr (.inl ec));refine ⟨u,r,.inr ?_⟩;rcases l with ⟨kl,_⟩ | ⟨kc,c,ecl,cell⟩
   ·have kl:X.env.scope.names.lookup y=some .local:=kl;rw [ec] at kl;cases kl
   ·have e3:(relabel scope X.env).names.lookup y=some .local\/(relabel scope X.env).names.lookup y=some .cell\/(relabel scope X.env).names.lookup y=some .free:=e3;refine ⟨?_,?_⟩
    ·rcases e3 with q | q | q
     ·rcases bC _ q with q | ⟨q,_⟩
      ·have:=B.locs _ q rfl;rw [ef] at this;cases this
      ·cases q
     ·exact .inl q
     ·exact .inr q
    ·have mem:(y,NameKind.free)∈scope.names:=Nc ef;obtain ⟨c',ec'⟩:=d3 (env:=X.env) scope.names [] mem;have:=sub _ _ ec';rw [ecl] at this;cases this;obtain ⟨o,ho,hd⟩:=cell;exact ⟨c,ec',o,hk _ _ ho,hd⟩
 ·obtain ⟨v,o,ho,hd⟩:=I.cell y c (sub _ _ e);exact ⟨v,o,hk _ _ ho,hd⟩
 ·show (iz xs++bP js σ).length=(xs++ys).length;rw [LY,LY,cap.len];unfold bP iz;rw [LZ,LZ]
def xH (n:List Str) (js:List Nat) (wi:TI) (g:TG) (te:TE):TE:=fun σ H Q=>wi σ H fun J H1=>∃ W:Nat->Nat->St->List V->Hp->Prop,(∃ m,W 0 m (iz n++bP js σ) [] H1)/\∀ i m σB acc H,W i m σB acc H ->
 (J.stop i H/\acc.length<=sizeLine/\∀ p,H p=none->Q (.ref p) (upd H p (.lst acc)))\/(J.go i H/\acc.length < sizeLine/\∀ x H',J.yld i H x H' ->
  g x σB H' fun σ2 H2=>te σ2 H2 fun y H3=>∃ m',m' < m/\W (i+1) m' σ2 (acc++[y]) H3)
theorem vV {X:Cx} {pins:List (Addr×Obj)} {σ:St} {H:Hp} {s2:Shared} {elt iter:Expr} {es:List Expr} {ek} {tp pos:Pos} {scope:Scope} {g:TG} {te:TE} {xs ys:List Str} {js:List Nat} {it:Addr} {fp:List Addr} {tn:Nat->Heap->Prop} {J:It}
    {Q:VK} {E:Value->Shared->Prop} {RR:Value->Addr->Result->Shared->Prop} (hc:X.calm=true) (B:ki X scope xs) (cap:eG X scope ys js)
    (hg:∀ C s3 H3 ex,PG (cxB X (xs++ys) scope C s3 H3 ex) (.Tuple es ek tp) g) (he:∀ C s3 H3 ex,PE (cxB X (xs++ys) scope C s3 H3 ex) elt te)
    (I:Inv X pins σ H s2) (T:Turn X.prog X.w X.K (.Tuple es ek tp) J fp it tn) (h0:tn 0 s2.heap) (hf:∀ b∈fp,wm X pins H b)
    (W:Nat->Nat->St->List V->Hp->Prop) (w0:∃ m,W 0 m (iz xs++bP js σ) [] H)
    (turn:∀ i m σB acc H,W i m σB acc H->(J.stop i H/\acc.length<=sizeLine/\∀ p,H p=none->Q (.ref p) (upd H p (.lst acc)))\/(J.go i H/\acc.length < sizeLine/\∀ x H',J.yld i H x H' ->
      g x σB H' fun σ2 H2=>te σ2 H2 fun y H3=>∃ m',m' < m/\W (i+1) m' σ2 (acc++[y]) H3))
    (hRR:∀ (D C:Addr) (H':Hp) (s':Shared) (m':Str->Option Value),s'.heap.Ns C m'->s2.heap.objs.size<=C->C≠D->H' C=none->Inv X pins σ H' s'->Q (.ref D) H'->RR (.ref D) C (.ok .next) s') :
    wpAny (model X.prog X.w) X.A (newList []) (fun acc s₃=>wpAny (model X.prog X.w) X.A (newFunctionEnv scope X.env.globals (ot X.env scope.names []) [] X.env.qual none .none (some X.env)) (fun cenv s₄ =>
      codeAny (model X.prog X.w) X.A (.compStart (.ListComp elt [⟨.Tuple es ek tp,iter,[],0⟩] scope pos) 0 (.ref it) acc { cenv with scope:=relabel scope X.env }) (RR acc cenv.locals) s₄) E s₃) E s2:=by
  refine Nr (wpAny_newFunctionEnv B.cells (by intro y hy;simp at hy) (fun h1 hns hsb=>?_) B.kind);dsimp only at hns hsb ⊢;have hD:H s2.heap.objs.size=none:=I.hok.fresh (Mg _);generalize hH2:s2.heap.push { cls:=.type "list", dict:=none,data:=.seq ([]:List Value).toArray }=P2 at hns hsb ⊢;have hgetD:P2.get? s2.heap.objs.size=some { cls:=.type "list", dict:=none,data:=.seq ([]:List Value).toArray }:=by rw [<- hH2];exact Mu _ rfl
  have hold:∀ b o,s2.heap.get? b=some o->P2.get? b=some o:=fun b o e=>by rw [<- hH2];exact L4 _ e
  have hsz:P2.objs.size=s2.heap.objs.size+1:=by rw [<- hH2,M6]
  have I3:Inv X pins σ H { s2 with heap:=P2,toks:=s2.toks }:=I.kept hold;generalize hDe:s2.heap.objs.size=D at *;have keep1:∀ b o,P2.get? b=some o->h1.get? b=some o:=fun b o e=>hsb.extBut b o (MD (Mf e)) (L4 _ e);have hfp:∀ b∈fp,b < D:=fun b hb=>by
    obtain ⟨o,e,_⟩:=T.obj _ _ h0 b hb;rw [<- hDe];exact Mf e
  have hstk:∀ b,b≠X.env.locals->b ∉ X.fs->b ∉ frs X.stack:=fun b h1 h2 z=>(Mc.mp (I.t5 b z)).elim h1 h2;have hDl:D≠X.env.locals:=fun z=>absurd I.lt (by rw [hDe,z];exact Mx _);have hDfs:D ∉ X.fs:=I.Gp (by rw [hDe];exact Mg _);have hDc:∀ y c,X.env.cells.lookup y=some c->c≠D:=fun y c e z=>by
    obtain ⟨v,q⟩:=I.cell y c e;have:=q.lt;rw [z,hDe] at this;exact absurd this (Mx _)
  have hex:∀ b∈D :: fp,b ∉ frs X.stack/\b < ({ s2 with heap:=P2,toks:=s2.toks }:Shared).heap.objs.size/\(∀ y c,X.env.cells.lookup y=some c->c≠b)/\X.base.get? b=none:=fun b hb=>by
    rcases Mc.mp hb with rfl | hb
    · refine ⟨hstk _ hDl hDfs,by show _ < P2.objs.size;rw [hsz];exact M8 _,hDc,?_⟩;cases q:X.base.get? b with
      | none=>rfl
      | some o =>
        have:=Mf (I.bk b o q);rw [hDe] at this;exact absurd this (Mx _)
    · obtain ⟨f0,f1,f2,f3,f4,f5⟩:=hf b hb;refine ⟨hstk _ f1 f2,by show _ < P2.objs.size;rw [hsz];exact Nat.lt_succ_of_lt (hfp b hb),f4,?_⟩;cases q:X.base.get? b with
      | none=>rfl
      | some o =>
        rcases f3 with z | z
        · exact absurd z (I.ok.CV b o q)
        · exact absurd (Md (Mf q) (Mr I.ok.bsz z)) (Mx _)
  have IB:=uW (tk:=s2.toks) (ex:=D :: fp) I3 hc B cap (h1:=h1) hns keep1 hex;have hCD:P2.objs.size≠D:=by rw [hsz];exact Nat.succ_ne_self _
  have start:codeAny (model X.prog X.w) X.A (.compLoop (.ListComp elt [⟨.Tuple es ek tp,iter,[],0⟩] scope pos) 0 (.ref it) (.ref D) (compEnvC scope (ot X.env scope.names []) P2.objs.size X.env)) (RR (.ref D) P2.objs.size) { s2 with heap:=h1,toks:=s2.toks }:=by
    obtain ⟨m0,w0⟩:=w0;refine LCp.codeAny_compLoop_pair (fun n s=>∃ i σB H' acc its k,Inv (cxB X (xs++ys) scope P2.objs.size { s2 with heap:=P2,toks:=s2.toks } H (D :: fp)) [] σB H' s/\tn i s.heap/\(∀ b∈D :: fp,H' b=none)/\s.heap.get? D=some { cls:=.type "list", data:=.seq its k }/\Vals acc its.toList/\acc.length<=sizeLine/\W i n σB acc H') ?_ m0 ?_
    · rintro n s ⟨i,σB,H3,acc,its,k,I4,t4,fr4,g4,va,hl4,w4⟩;have hDm:D∈D :: fp:=Mj;have exf:=I4.ok.exf;have fsub:∀ b∈D :: fp,b ∉ (cxB X (xs++ys) scope P2.objs.size { s2 with heap:=P2,toks:=s2.toks } H (D :: fp)).fs:=fun b hb=>(hex b hb).1;have stat:∀ {H':Hp} {ob:Obj},(∀ b∈fp,H' b=none)->∀ b∈fp,wm (cxB X (xs++ys) scope P2.objs.size { s2 with heap:=P2,toks:=s2.toks } H (D :: fp)) [(D,ob)] H' b:=fun {H' ob} hn b hb =>
        ⟨hn b hb,(exf b (L8 _ hb)).1,fsub b (L8 _ hb),.inl (L8 _ hb),(exf b (L8 _ hb)).2,fun p hp z=>by
          have hp':p∈[(D,ob)]:=hp;have e:=L9.mp hp';rw [e] at z
          exact absurd (hfp b hb) (by rw [<- show D=b from z];exact Mx _)⟩
      have frp:∀ b∈fp,H3 b=none:=fun b hb=>fr4 b (L8 _ hb);have I5:Inv (cxB X (xs++ys) scope P2.objs.size { s2 with heap:=P2,toks:=s2.toks } H (D :: fp)) [(D,{ cls:=.type "list", data:=.seq its k })] σB H3 s:=I4.fC fun p hp=>by
        rw [L9.mp hp];exact ⟨g4,fr4 D hDm,(exf D hDm).1,fsub D hDm,fun v z=>nomatch z⟩
      rcases turn i n σB acc H3 w4 with ⟨stop,hacc,q⟩ | ⟨go,hacc,step⟩
      · refine ME (T.done (cxB X (xs++ys) scope P2.objs.size { s2 with heap:=P2,toks:=s2.toks } H (D :: fp)) rfl rfl rfl rfl i _ s _ H3 (fun _ _=>False) I5 (stat frp) t4 stop) (fun r s1 ⟨hr,I6⟩=>?_) (fun _ _ z=>z.elim);subst hr;obtain ⟨m',hn',_⟩:=id I6.loc;have pD:=(I6.pin (D,{ cls:=.type "list", data:=.seq its k }) (Ml _ (L9.mpr rfl))).1;have nD:H3 D=none:=fr4 D hDm;have u:=I6.base;have uu:Un (frs X.stack) (D :: fp) H (upd H3 D (.lst acc)) P2 s1.heap :=
          ⟨u.keep,u.slot,fun b o q n hx=>by rw [ao fun z=>hx (by rw [z];exact hDm)];exact u.free b o q n hx,u.there,
           fun b xs q=>by rw [ao (aD (u.vf b xs q) nD)];exact u.vf b xs q,fun b o v q=>by rw [ao (aD (u.uY b o v q) nD)];exact u.uY b o v q,
           fun b ps q=>by
            obtain ⟨more,z⟩:=u.yo b ps q
            exact ⟨more,by rw [ao (aD z nD)];exact z⟩⟩
        have hok:HOk X.prog X.w (upd H3 D (.lst acc)) s1.heap:=fun b o e=>by
          by_cases hb:b=D
          · subst hb;rw [aE] at e;cases e;exact ⟨hacc,its.toList,k,va,by rw [Array.toArray_toList];exact pD⟩
          · rw [ao hb] at e;exact (I6.hok b o e).mB (fun c v _ q=>q) (fun c q=>by rw [ao (aD q nD)];exact q) fun c xs q=>by rw [ao (aD q nD)];exact q
        have fin:=I3.call (g':=s1.gens) (t':=s1.toks) (d':=s1.drawn) uu hok I6.bare (fun b hb=>by
          rcases Mc.mp hb with z | hb
          · rw [z];refine ⟨.inr (by rw [<- hDe];exact I.sz),hDl,hDc,fun p hp z=>?_⟩;have:=Mf (I.pin p hp).1;rw [z,hDe] at this;exact Mx _ this
          · exact ⟨(hf b hb).2.2.2.1,(hf b hb).2.1,(hf b hb).2.2.2.2.1,(hf b hb).2.2.2.2.2⟩)
        have es':({ heap:=s1.heap,gens:=s1.gens,drawn:=s1.drawn,toks:=s1.toks,os:=s2.os }:Shared)=s1:=by
          have:=I6.os;obtain ⟨a1,a2,a3,a4,a5⟩:=s1;have e5:a5=s2.os:=this;rw [e5]
        have fin':Inv X pins σ (upd H3 D (.lst acc)) s1:=es'▸fin;exact hRR D P2.objs.size (upd H3 D (.lst acc)) s1 m' hn' (by rw [hsz];exact Nat.le_succ _) hCD (by rw [ao hCD];exact I6.free) fin' (q D nD)
      · refine ME (T.item (cxB X (xs++ys) scope P2.objs.size { s2 with heap:=P2,toks:=s2.toks } H (D :: fp)) rfl rfl rfl rfl i _ s _ H3 (fun _ _=>False) I5 (stat frp) t4 go) (fun r s1 ⟨u,hr,h4⟩=>?_) (fun _ _ z=>z.elim);subst hr;refine ME h4 (fun _ s1' ⟨x',H5,I6,r6,y6,t6,fr6⟩=>?_) (fun _ _ z=>z.elim);have I7:=I6.pinned (stat fr6) (T.obj _ _ t6);refine ME (hg _ _ _ _ _ s1' _ H5 x' u _ I7 r6 (step x' H5 y6)) (fun _ s2' ⟨σ6,H6,I8,q8⟩=>?_) (fun _ _ z=>z.elim);have pinsKeep:∀ {σ':St} {H':Hp} {s':Shared},Inv (cxB X (xs++ys) scope P2.objs.size { s2 with heap:=P2,toks:=s2.toks } H (D :: fp)) ([(D,{ cls:=.type "list", data:=.seq its k })]++mz fp s1'.heap) σ' H' s' ->
            s'.heap.get? D=some { cls:=.type "list", data:=.seq its k }/\(∀ b∈D :: fp,H' b=none)/\∀ b∈fp,∀ o,s1'.heap.get? b=some o->s'.heap.get? b=some o:=fun {σ' H' s'} J=>by
          have pd:=J.pin (D,{ cls:=.type "list", data:=.seq its k }) (Ml _ (NB _ (L9.mpr rfl)));refine ⟨pd.1,fun b hb=>?_,fun b hb o e=>(J.pin (b,o) (Ml _ (Ml _ (cB hb e)))).1⟩;rcases Mc.mp hb with rfl | hb
          · exact pd.2.1
          · obtain ⟨o,e,_⟩:=T.obj _ _ t6 b hb;exact (J.pin (b,o) (Ml _ (Ml _ (cB hb e)))).2.1
        refine ME (he _ _ _ _ _ s2' _ _ _ I8 q8) (fun y s4' ⟨yv,H8,I10,ry,m',hm,w10⟩=>?_) (fun _ _ z=>z.elim);obtain ⟨p1,p2,p3⟩:=pinsKeep I10;have hsize:its.size=acc.length:=by rw [va.length];simp
        have I11:=I10.fC (pins':=[]) (fun p hp=>absurd hp (by simp));refine wpAny_list_append_plain ⟨k,p1⟩ (fun h' hpl hsame=>?_) (by rw [hsize];exact NO hacc);obtain ⟨k',e'⟩:=hpl;have neD:∀ {b:Addr} {o:HO},H8 b=some o->b≠D:=fun e z=>by rw [z,p2 D hDm] at e;cases e
        refine ⟨m',hm,i+1,σ6,H8,acc++[yv],its.push y,k',?_,?_,p2,e',?_,?_,w10⟩
        · refine I11.step (g':=s4'.gens) (t':=s4'.toks) (d':=s4'.drawn) (ch:=[D]) (fun b hb=>?_) (fun b o _ _ hc' e _=>?_) (fun b o _ _ hc' e _=>⟨o.slots,?_⟩) (fun b o hc' e n=>n) (fun b o hc' e=>⟨o,?_⟩) (fun _ _ z=>z) (fun _ _ _ z=>z) (fun b ps z=>⟨#[],by rw [z];simp⟩) (fun m hn=>hn.sameBut hsame (Ne.symm (exf D hDm).1)) (fun b o e=>?_) I11.bare
          · rw [L9.mp hb];exact ⟨.inl hDm,(exf D hDm).1,(exf D hDm).2,fun p hp=>absurd (show p∈([]:List (Addr×Obj)) from hp) (by simp)⟩
          · exact (hsame.2 b fun z=>hc' (L9.mpr z)).trans e
          · exact (hsame.2 b fun z=>hc' (L9.mpr z)).trans e
          · exact (hsame.2 b fun z=>hc' (L9.mpr z)).trans e
          · refine (I11.hok b o e).mB (fun c v hc' q=>(hsame.2 c ?_).trans q) (fun _ q=>q) fun _ _ q=>q;rcases hc' with z | z
            · rw [z];exact neD e
            · exact neD z
        · refine T.keep _ _ _ t6 fun b hb o e=>(hsame.2 b ?_).trans (p3 b hb o e);exact MD (hfp b hb)
        · rw [Array.toList_push];exact va.append (.cons ry .nil)
        · rw [LY,Mz];exact hacc
    · refine ⟨0,iz xs++bP js σ,H,[],#[],_,IB,T.keep _ _ _ h0 (fun b hb o e=>keep1 b o (hold b o e)),fun b hb=>?_,keep1 _ _ hgetD,.nil,MV _,w0⟩;rcases Mc.mp hb with rfl | hb
      · exact hD
      · exact (hf b hb).1
  exact codeAny_compStart_list start (T.self _ 0 _ _ _ (T.keep _ _ _ h0 (fun b hb o e=>keep1 b o (hold b o e))) start)
theorem zC {X:Cx} {elt iter:Expr} {es:List Expr} {ek} {tp pos:Pos} {scope:Scope} {wi:TI} {g:TG} {te:TE} {xs ys:List Str} {js:List Nat} (hc:X.calm=true) (hi:PI X (.Tuple es ek tp) iter wi) (B:ki X scope xs) (cap:eG X scope ys js)
  (hg:∀ C s3 H3 ex,PG (cxB X (xs++ys) scope C s3 H3 ex) (.Tuple es ek tp) g) (he:∀ C s3 H3 ex,PE (cxB X (xs++ys) scope C s3 H3 ex) elt te) (hs:∀ x,foldedSetIterable iter X.env x=pure x) :
  PE X (.ListComp elt [⟨.Tuple es ek tp,iter,[],0⟩] scope pos) (xH xs js wi g te):=by
 intro pins s σ H Q I h;have hcl:=iK (scope:=scope) (env:=X.env) fun y hy hf=>I.ok.has y.1 (.inl (B.free y hy hf));rw [eval_ListComp];refine wpAny_comprehension_free (use:=none) rfl hs hcl B.kind B.locs (ME (hi pins s σ H _ I h) (fun xv s1 h1=>ME h1 (fun itv s2 h2=>?_) fun _ _ e=>e) fun _ _ e=>e);obtain ⟨it,fp,tn,J,H2,e,I2,T,st2,f2,W,w0,turn⟩:=h2;subst e;refine vV (RR:=fun acc C=>compPost (model X.prog X.w) X.A X.xe none (EP X pins σ Q) acc C) hc B cap hg he I2 T st2 f2 W w0 turn ?_;intro D C H' s' m' hn hC hCD hCn I' q;refine ⟨m',hn,fun h' hs'=>⟨.ref D,H',?_,rfl,q⟩⟩;have hL:X.env.locals≠C:=MD (Md I2.lt hC);have neC:∀ {b:Addr} {o:HO},H' b=some o->b≠C:=fun e z=>by rw [z,hCn] at e;cases e
 refine I'.step (g':=s'.gens) (t':=s'.toks) (d':=s'.drawn) (ch:=[C]) (fun b hb=>?_) (fun b o _ _ hc' e _=>?_) (fun b o _ _ hc' e _=>⟨o.slots,?_⟩) (fun b o hc' e n=>n) (fun b o hc' e=>⟨o,?_⟩) (fun _ _ z=>z) (fun _ _ _ z=>z) (fun b ps z=>⟨#[],by rw [z];simp⟩) (fun m hn=>hn.sameBut hs' hL) (fun b o e=>?_) I'.bare
 ·rw [L9.mp hb];refine ⟨.inr (Mr I2.sz hC),Ne.symm hL,fun y c e z=>?_,fun p hp z=>?_⟩
  ·obtain ⟨v,q⟩:=I2.cell y c e;have:=q.lt;rw [z] at this;exact absurd (Md this hC) (Mx _)
  ·have:=Mf (I2.pin p hp).1;rw [z] at this;exact absurd (Md this hC) (Mx _)
 ·exact (hs'.2 b fun z=>hc' (L9.mpr z)).trans e
 ·exact (hs'.2 b fun z=>hc' (L9.mpr z)).trans e
 ·exact (hs'.2 b fun z=>hc' (L9.mpr z)).trans e
 ·refine (I'.hok b o e).mB (fun c v hc' q=>(hs'.2 c ?_).trans q) (fun _ q=>q) fun _ _ q=>q;rcases hc' with z | z
  ·rw [z];exact neC e
  ·exact neC z
structure JGs (X:Cx) (N:List Str) (scope:Scope) (es:List Expr) (t:TGs):Prop where
 h:∀ C s3 H3 ex,PGs (cxB X N scope C s3 H3 ex) es t
theorem Li {X:Cx} {N:List Str} {scope:Scope}:JGs X N scope [] GH:=⟨fun _ _ _ _=>vE⟩
theorem J7 {X:Cx} {N:List Str} {scope:Scope} {es:List Expr} {u:TGs} {i:Nat} {x:Str} {px:Pos} (nd:N.Nodup) (hi:N[i]?=some x) (hv:scope.names.lookup x=some .local) (h:JGs X N scope es u):JGs X N scope (.Name x px :: es) (zM (cy i) u) :=
 ⟨fun C s3 H3 ex=>tY (kq nd hi (.inl (lookup_relabel_local hv)) (.inr (lookup_relabel_local hv))) (h.h C s3 H3 ex) rfl⟩
theorem EA {X:Cx} {elt iter:Expr} {es:List Expr} {ek} {tp pos:Pos} {scope:Scope} {wi:TI} {u:TGs} {te:TE} {js:List Nat} {n:Nat} (xs ys:List Str) (hi:JI X (.Tuple es ek tp) iter wi) (hg:JGs X (xs++ys) scope es u) (he:JC X (xs++ys) scope elt te) (hc:X.calm=true) (B:ki X scope xs) (cap:eG X scope ys js)
  (hn:∀ env,(assignEach es env).length=n) (hst:∀ env,(assignEach es env).findIdx? (·.1)=none) (hs:∀ x,foldedSetIterable iter X.env x=pure x) :
  JE X (.ListComp elt [⟨.Tuple es ek tp,iter,[],0⟩] scope pos) (xH xs js wi (GJ X.K n u) te) :=
 ⟨zC hc hi.h B cap (fun C s3 H3 ex=>Ae rfl (hg.h C s3 H3 ex) (hn _) (hst _)) he.h hs⟩
noncomputable def pE (sc scope:Scope):Bool :=
 (scope.kind==.function)&&scope.names.all (fun y=>y.2 != .cell)&&scope.names.all (fun y=>y.2 != .local||scope.names.lookup y.1==some .local)&&scope.names.all (fun y=>y.2 != .free||sc.names.lookup y.1==some .cell)
theorem KZ {X:Cx} {sc scope:Scope} {xs:List Str} (e:X.env.scope=sc) (h:pE sc scope=true):ki X scope xs:=by
 unfold pE at h;simp only [Ms,M0,Nf,bne_iff_ne,Ny,ne_eq] at h;obtain ⟨⟨⟨h1,h2⟩,h3⟩,h5⟩:=h;exact ⟨h1,fun y hy=>h2 y hy,fun y hy e=>(h3 y hy).resolve_left fun z=>z e,fun y hy e'=>by rw [e];exact (h5 y hy).resolve_left fun z=>z e'⟩
def Ky (K:Fg) (te:TE):TT:=fun σ H Q=>te σ H fun x H'=>∃ k,GN K x H' k/\Q k H'
theorem J6 {X:Cx} {e:Expr} {te:TE} (h:JE X e te) (he:∀ whole,isTrue e X.env whole=(do let v<-whole;standAt e.pos;holding [v] (truthy v))):JT X e (Ky X.K te):=⟨yq h.h he⟩
structure JGl (X:Cx) (es:List Expr) (t:TGs):Prop where
 h:PGs X es t
section
variable {X:Cx} {es:List Expr} {t:TGs} {pos:Pos} {x:Str} {i:Nat}
theorem LK:JGl X [] GH:=⟨vE⟩
theorem Kg (hN:X.N.Nodup) (hi:X.N[i]?=some x) (hx:Loc X.env.scope x) (hf:X.fn x=true\/X.env.scope.names.lookup x=some .local) (h:JGl X es t):JGl X (.Name x pos :: es) (zM (cy i) t):=⟨tY (kq hN hi hx hf) h.h rfl⟩
theorem eGT {n:Nat} {k} (hc:X.calm=true) (h:JGl X es t) (hn:(assignEach es X.env).length=n) (hst:(assignEach es X.env).findIdx? (·.1)=none):JG X (.Tuple es k pos) (GJ X.K n t):=⟨Ae hc h.h hn hst⟩
end
section
variable {X:Cx}
def DA:List V->Hp->VK->Prop:=fun xs H Q=>(∃ i:Int,xs=[.int i]/\i.natAbs.log2 < 1920/\Q (.str (toString i)) H)\/(xs=[.non]/\Q (.str "None") H)\/∃ x,xs=[.str x]/\Q (.str x) H
theorem wa:aW X (.type "str") DA:=by
 intro pins s σ H xs us Q I r h;rcases h with ⟨i,rfl,hz,q⟩ | ⟨rfl,q⟩ | ⟨x,rfl,q⟩
 ·obtain ⟨u,rfl,t,rfl⟩:=vals1 r;exact PySem.P.str_of_int hz ⟨.str _,H,I.tok _,⟨_,rfl⟩,q⟩
 ·obtain ⟨u,rfl,r1⟩:=vals1 r;cases r1;exact PySem.P.str_of_none ⟨.str _,H,I.tok _,⟨_,rfl⟩,q⟩
 ·obtain ⟨u,rfl,t,rfl⟩:=vals1 r;exact PySem.P.str_of_str ⟨.str _,H,I,⟨_,rfl⟩,q⟩
def tFv (te:TE):TE:=fun σ H Q=>te σ H fun x H1=>∃ y,x=.str y/\y.length<=sizeLine/\Q (.str y) H1
def tFs:List TE->Str->TE
 | [],out=>fun _ H Q=>out.length<=sizeLine/\Q (.str out) H
 | t :: ts,out=>fun σ H Q=>t σ H fun x H1=>∃ y,x=.str y/\(out++y).length<=sizeLine/\tFs ts (out++y) σ H1 Q
def PFs (X:Cx) (vs:List Expr) (ts:List TE):Prop :=
 ∀ (pins:List (Addr×Obj)) (s:Shared) (σ:St) (H:Hp) (Q:VK) (out:Str),Inv X pins σ H s->tFs ts out σ H Q->wpAny (model X.prog X.w) X.A (joinParts out (evalEach vs X.env)) (EP X pins σ Q) X.xe s
theorem A3:PFs X [] []:=by
 intro pins s σ H Q out I h;exact joinParts_nil ⟨.str out,H,I.tok _,⟨_,rfl⟩,h.2⟩ h.1
theorem zH {v:Expr} {vs:List Expr} {t:TE} {ts:List TE} (hv:PE X v t) (hr:PFs X vs ts):PFs X (v :: vs) (t :: ts):=by
 intro pins s σ H Q out I h;show wpAny _ _ (joinParts out (eval v X.env :: evalEach vs X.env)) _ _ s;refine joinParts_cons (thn (hv pins s σ H _ I h) fun u s1 ⟨x,H1,I1,r1,y,ex,hz,q⟩=>?_);subst ex;obtain ⟨t',rfl⟩:=r1;exact ⟨hz,hr pins s1 σ H1 Q _ I1 q⟩
theorem Hf {e:Expr} {te:TE} {pos:Pos} (he:PE X e te):PE X (.FormattedValue e (-1) none pos) (tFv te):=by
 intro pins s σ H Q I h;refine FormattedValue_plain (thn (he pins s σ H _ I h) fun u s1 ⟨x,H1,I1,r1,y,ex,hz,q⟩=>?_);subst ex;obtain ⟨t',rfl⟩:=r1;exact formatField_str (fun t2 tk=>⟨.str y,H1,I1.tok _,⟨_,rfl⟩,q⟩) hz
theorem Hd {v1 v2:Expr} {rest:List Expr} {pos:Pos} {ts:List TE} (h:PFs X (v1 :: v2 :: rest) ts):PE X (.JoinedStr (v1 :: v2 :: rest) pos) (tFs ts Str.empty):=by
 intro pins s σ H Q I hw;exact JoinedStr_many (h pins s σ H Q Str.empty I hw)
end
structure JF (X:Cx) (vs:List Expr) (ts:List TE):Prop where
 h:PFs X vs ts
section
variable {X:Cx}
theorem eF0:JF X [] []:=⟨A3⟩
theorem eFc {v:Expr} {vs:List Expr} {t:TE} {ts:List TE} (hv:JE X v t) (hr:JF X vs ts):JF X (v :: vs) (t :: ts):=⟨zH hv.h hr.h⟩
theorem eFv {e:Expr} {te:TE} {pos:Pos} (he:JE X e te):JE X (.FormattedValue e (-1) none pos) (tFv te):=⟨Hf he.h⟩
theorem eFs {v1 v2:Expr} {rest:List Expr} {pos:Pos} {ts:List TE} (h:JF X (v1 :: v2 :: rest) ts):JE X (.JoinedStr (v1 :: v2 :: rest) pos) (tFs ts Str.empty):=⟨Hd h.h⟩
end
def z6 (K:Fg):V->List V->Hp->VK->Prop:=fun x vs H Q=>∃ (z:Str) (a:Addr) (ss:List Str),x=.str z/\vs=[.ref a]/\(SqL K H a (ss.map V.str)\/SqT K H a (ss.map V.str))/\(ss.map (·.length)).sum+ss.length*z.length<=16777216/\Q (.str (Txt.join z ss)) H
theorem nI {X:Cx}:MtM X "str.join" (z6 X.K):=by
 intro pins s σ H x vs v us Q I rx rv h;obtain ⟨z,a,ss,rfl,rfl,hq,hok,q⟩:=h;obtain ⟨t,rfl⟩:=rx;obtain ⟨u,rfl,ru⟩:=rv.one;cases (show u=Value.ref a from ru);rcases hq with hq | hq
 ·obtain ⟨its,r,p,hz⟩:=I.list hq;exact join_list p.isList (by simpa using fN r) hok fun t' k=>⟨.str _,H,I.tok k,⟨t',rfl⟩,q⟩
 ·obtain ⟨its,r,p,hz⟩:=I.tuple hq;exact join_tuple p (by simpa using fN r) hok fun t' k=>⟨.str _,H,I.tok k,⟨t',rfl⟩,q⟩
section
variable {X:Cx}
def FO (K:Fg):R2:=fun x y H Q=>∃ l b xs zs,x=.ref l/\y=.ref b/\SqL K H l xs/\SqL K H b zs/\xs.length+zs.length<=sizeLine/\∀ p,H p=none->Q (.ref p) (upd H p (.lst (xs++zs)))
theorem Bv:OpR X (binaryOp .Add) (FO X.K):=by
 intro pins s σ H x y v u Q I rx ry h;obtain ⟨l,b,xs,zs,rfl,rfl,hH,hB,hz,q⟩:=h;cases rx;cases ry;obtain ⟨its,r,p,_⟩:=I.list hH;obtain ⟨its2,r2,p2,_⟩:=I.list hB;obtain ⟨⟨cls,dd,data,sl⟩,n,ho,hc,hd0,hd⟩:=p;obtain ⟨⟨cls2,dd2,data2,sl2⟩,n2,ho2,hc2,hd02,hd2⟩:=p2;simp only at hc hd hc2 hd2;subst hc hd hc2 hd2;have e:its.toArray++its2.toArray=(its++its2).toArray:=by simp
 refine concat_meets ⟨_,ho,rfl⟩ ⟨_,ho2,rfl⟩ noFill_list_add seq_list_add PySem.F.slot_list_add PySem.F.entry_list_add (PySem.F.args_list_add_2 _ _) (list_addW l b its.toArray its2.toArray n n2 dd dd2 sl sl2 (by rw [Mh,Mh,<-r.length,<-r2.length];exact hz)) ⟨ho,ho2,?_⟩;rw [e];exact ⟨.ref _,_,I.LU (t':=s.toks) (r.append r2) (by rw [LY];omega),rfl,q _ I.fresh⟩
theorem oH (l:Addr) (items:Array Value) (n:Nat) (b:Addr) (items2:Array Value) (n2:Nat) (dd2:Option Addr) (sl2:Array (Option Value)) (hc0:¬(!items.isEmpty&&Builtin.List.listTooLong (items.size+items2.size))=true) (hc1:items.size<=sizeLine) (hs2:items.size+items2.size<=sizeLine+1) :
  Meets (Builtin.«list.extend» ⟨[.ref l,.ref b],[]⟩) (fun _ R s=>s.heap.get? l=some { cls:=.type "list", dict:=none,data:=.seq items n,slots:=#[] }/\s.heap.get? b=some { cls:=.type "list", dict:=dd2,data:=.seq items2 n2,slots:=sl2 }/\R (.ok (.ret Value.none)) { s with heap:=s.heap.update l (Obj.mapSeq fun x=>x++items2),toks:=s.toks }) :=
 .of_wp fun prog w A R s h=>by
  obtain ⟨hp,g,d,tk,os⟩:=s;obtain ⟨hl,hb,h⟩:=h;have f1:=AutoSeq1.idx_int;have f2:=AutoSeq1.sub_tuple_tuple;have f3:=AutoSeq1.sub_list_list;have f4:=AutoSeq1.sub_tuple_list;have f5:=AutoSeq1.sub_list_tuple;have hz':(items++items2).size<=sizeLine+1:=by rw [Array.size_append];exact hs2
  wp_walk using (wpAny_updateSeq hl rfl (hz:=hc1) (_hz':=hz')),wpAny_loadPart' hl,wpAny_loadPart' hb;exact ⟨_,rfl,h⟩
def tU (K:Fg):V->List V->Hp->VK->Prop:=fun x vs H Q=>∃ l b xs zs,x=.ref l/\vs=[.ref b]/\H l=some (.lst xs)/\SqL K H b zs/\xs.length+zs.length<=sizeLine/\Q .non (upd H l (.lst (xs++zs)))
theorem uZ:MtM X "list.extend" (tU X.K):=by
 intro pins s σ H x vs v us Q I rx rv h;obtain ⟨l,b,xs,zs,rfl,rfl,hH,hB,hz,q⟩:=h;cases rx;obtain ⟨u,rfl,ru⟩:=rv.one;cases ru;obtain ⟨z,its,n,r,hl,e⟩:=I.HP hH;obtain ⟨its2,r2,p2,z2⟩:=I.list hB;have hl2:=r2.length;obtain ⟨⟨cls2,dd2,data2,sl2⟩,n2,e2,hc2,hd02,hd2⟩:=p2;simp only at hc2 hd2;subst hc2 hd2;have hsz:its.toArray.size+its2.toArray.size<=sizeLine:=by rw [Mh,Mh];omega
 have hlong:¬(!its.toArray.isEmpty&&Builtin.List.listTooLong (its.toArray.size+its2.toArray.size))=true:=by
  rw [zx hsz,Bool.and_false];exact M3
 refine NG F.slot_list_extend ⟨_,e,rfl⟩ F.entry_list_extend (F.args_list_extend_2 _ _) (oH l its.toArray n b its2.toArray n2 dd2 sl2 hlong (by rw [Mh];omega) (by omega)) ⟨e,e2,?_⟩;refine ⟨.non,_,I.Jl (its':=its++its2) hH e (by simp) (r.append r2) ?_,rfl,q⟩;rw [LY];omega
end
mutual
noncomputable def hkB:PyData->Bool
 | .int _=>true
 | .str _=>true
 | .tuple ds=>Kq ds
 | _=>false
noncomputable def Kq:List PyData->Bool
 | []=>true
 | d :: ds=>hkB d&&Kq ds
end
noncomputable def hk6 (d:PyData):Bool:=hkB d&&decide (d.depth<=6)
open PySem PySem.Spec PyProof.Rows
noncomputable def kD:Key->PyData | .inl i=>.int i | .inr x=>.str x
noncomputable def He (xs:List (PyData×V×V)) (k:PyData):Option V:=(xs.find? fun x=>PyData.eqv x.1 k).map (·.2.2)
open PySem PySem.Spec PyProof.Rows
section
variable {prog:Program} {w:World} {A:Around} {E:Value->Shared->Prop} {s:Shared}
theorem lJ {it t:Addr} {i n:Nat} {items:Array Value} {x:Value} {od pd:Option Addr} {os ps:Array (Option Value)} (h3:items[i]?=some x):Meets (Builtin.«tuple_iterator.__next__» ⟨[.ref it],[]⟩) fun _ R s=>s.heap.get? it=some ⟨.type "tuple_iterator", od,.fields #[.ref t,.int i 0],os⟩/\s.heap.get? t=some ⟨.type "tuple", pd,.seq items n,ps⟩/\∀ h':Heap,h'.IsTupleIter it t (i+1)->Heap.SameBut it s.heap h'->R (.ok (.ret x)) { s with heap:=h' } :=
 .of_wp fun prog w A R s h=>by
  obtain ⟨hp,g,d,tk,os⟩:=s;obtain ⟨h1,h2,h⟩:=h
  wp_walk
  simp only [NK,h3]
  wp_walk
  exact ⟨_,rfl,h _ ⟨_,MY _ h1 rfl,rfl,rfl⟩ (MO _ _ _)⟩
theorem nA {it t:Addr} {i n:Nat} {items:Array Value} {od pd:Option Addr} {os ps:Array (Option Value)} (h3:items[i]?=none):Meets (Builtin.«tuple_iterator.__next__» ⟨[.ref it],[]⟩) fun A R s=>A.handled=none/\s.heap.get? it=some ⟨.type "tuple_iterator", od,.fields #[.ref t,.int i 0],os⟩/\s.heap.get? t=some ⟨.type "tuple", pd,.seq items n,ps⟩/\∀ (h':Heap) (e:Addr),Heap.ExtBut it s.heap h'->(∃ o,h'.get? e=some o/\o.cls=.type "StopIteration")->R (.error (.ref e)) { s with heap:=h' } :=
 .of_wp fun prog w A R s h=>by
  obtain ⟨hp,g,d,tk,os⟩:=s;obtain ⟨h0,h1,h2,h⟩:=h
  wp_walk
  simp only [NK,h3]
  wp_walk
  exact wpAny_raiseNew_none h0 (h _ _ (((MO _ _ _).extBut.push _).push _) ⟨_,Mu _ rfl,rfl⟩)
theorem eX {it t:Addr} {i:Nat} {items:Array Value} {x:Value} {Q:Value->Shared->Prop} (h1:s.heap.IsTupleIter it t i) (h2:s.heap.IsTuple t items) (h3:items[i]?=some x)
  (hq:∀ h':Heap,h'.IsTupleIter it t (i+1)->Heap.SameBut it s.heap h'->Q x { s with heap:=h' }):wpAny (model prog w) A (Builtin.SmallTypes.nextOf (.ref it)) Q E s:=by
 unfold Builtin.SmallTypes.nextOf;refine Mp (Np h1.typeIs NJ ?_);have ht:=h1.typeIs;obtain ⟨⟨_,od,_,osl⟩,ho,rfl,rfl⟩:=h1;obtain ⟨⟨_,pd,_,psl⟩,hpp,rfl,⟨n,rfl⟩⟩:=h2;refine NG NJ ht F.entry_tuple_iterator_next (F.args_tuple_iterator_next_1 _) (lJ h3) ⟨ho,hpp,fun h' a b=>?_⟩;exact MA (hq h' a b)
theorem lH {it t:Addr} {i:Nat} {items:Array Value} {Q:Value->Shared->Prop} (h0:A.handled=none) (h1:s.heap.IsTupleIter it t i) (h2:s.heap.IsTuple t items) (h3:items[i]?=none)
  (hq:∀ (h':Heap) (e:Addr),Heap.ExtBut it s.heap h'->(∃ o,h'.get? e=some o/\o.cls=.type "StopIteration")->E (.ref e) { s with heap:=h' }):wpAny (model prog w) A (Builtin.SmallTypes.nextOf (.ref it)) Q E s:=by
 unfold Builtin.SmallTypes.nextOf;refine Mp (Np h1.typeIs NJ ?_);have ht:=h1.typeIs;obtain ⟨⟨_,od,_,osl⟩,ho,rfl,rfl⟩:=h1;obtain ⟨⟨_,pd,_,psl⟩,hpp,rfl,⟨n,rfl⟩⟩:=h2;exact NG NJ ht F.entry_tuple_iterator_next (F.args_tuple_iterator_next_1 _) (nA h3) ⟨h0,ho,hpp,hq⟩
theorem lS (l1 l2:Addr) (xs ys:Array Value):Meets (Builtin.«zip.__new__» ⟨[.type "zip", .ref l1,.ref l2],[]⟩) fun _ R s=>s.heap.IsTuple l1 xs/\s.heap.IsTuple l2 ys /\
    R (.ok (.ret (.ref ((((s.heap.push ⟨.type "tuple_iterator", none,.fields #[.ref l1,.int 0 0],#[]⟩).push ⟨.type "tuple_iterator", none,.fields #[.ref l2,.int 0 0],#[]⟩).push ⟨.type "tuple", none,.seq #[.ref s.heap.objs.size,.ref (s.heap.push ⟨.type "tuple_iterator", none,.fields #[.ref l1,.int 0 0],#[]⟩).objs.size] 0,#[]⟩).push ⟨.type "tuple", none,.seq #[.none,.none] 0,#[]⟩).objs.size)))
      { s with heap:=((((s.heap.push ⟨.type "tuple_iterator", none,.fields #[.ref l1,.int 0 0],#[]⟩).push ⟨.type "tuple_iterator", none,.fields #[.ref l2,.int 0 0],#[]⟩).push ⟨.type "tuple", none,.seq #[.ref s.heap.objs.size,.ref (s.heap.push ⟨.type "tuple_iterator", none,.fields #[.ref l1,.int 0 0],#[]⟩).objs.size] 0,#[]⟩).push ⟨.type "tuple", none,.seq #[.none,.none] 0,#[]⟩).push ⟨.type "zip", none,.fields #[.none,.bool false,.bool false,.ref ((s.heap.push ⟨.type "tuple_iterator", none,.fields #[.ref l1,.int 0 0],#[]⟩).push ⟨.type "tuple_iterator", none,.fields #[.ref l2,.int 0 0],#[]⟩).objs.size,.ref (((s.heap.push ⟨.type "tuple_iterator", none,.fields #[.ref l1,.int 0 0],#[]⟩).push ⟨.type "tuple_iterator", none,.fields #[.ref l2,.int 0 0],#[]⟩).push ⟨.type "tuple", none,.seq #[.ref s.heap.objs.size,.ref (s.heap.push ⟨.type "tuple_iterator", none,.fields #[.ref l1,.int 0 0],#[]⟩).objs.size] 0,#[]⟩).objs.size],#[]⟩ } :=
  .of_wp fun prog w A R s h=>by
    obtain ⟨hp,g,d,tk,os⟩:=s;obtain ⟨h1,h2,h⟩:=h;have f1:=PySem.sub_zip
    wp_walk using wpAny_pyIter_tuple h1,wpAny_pyIter_tuple (h2.push _)
    exact ⟨_,rfl,h⟩
theorem lP {z TI TO i1 i2 l1 l2:Addr} {k1 k2:Nat} {xs ys:Array Value} {x y a b:Value} {Q:Value->Shared->Prop} (D:ZipApart z TI TO i1 i2 l1 l2) (hz:IsZip s.heap z TI TO .none) (h1:IsPair s.heap TI (.ref i1) (.ref i2)) (h2:IsPair s.heap TO a b)
  (h3:s.heap.IsTupleIter i1 l1 k1) (h4:s.heap.IsTupleIter i2 l2 k2) (h5:s.heap.IsTuple l1 xs) (h6:s.heap.IsTuple l2 ys) (h7:xs[k1]?=some x) (h8:ys[k2]?=some y)
  (hq:∀ h':Heap,IsZip h' z TI TO (rawInt s.heap.objs.size)->IsPair h' TO x y->h'.IsTupleIter i1 l1 (k1+1)->h'.IsTupleIter i2 l2 (k2+1)->IsPair h' s.heap.objs.size x y->h'.objs.size=s.heap.objs.size+1 ->
   (∀ (c:Addr) (o:Obj),c≠z->c≠TO->c≠i1->c≠i2->s.heap.get? c=some o->h'.get? c=some o)->Q (.ref s.heap.objs.size) { s with heap:=h' }) :
  wpAny (model prog w) A (Builtin.«zip.__next__» ⟨[.ref z],[]⟩) (fun fin s'=>∃ v,fin=.done (.ret v)/\Q v s') E s:=by
 obtain ⟨hp,g,d,tk,os⟩:=s;unfold IsZip at hz;unfold IsPair at h1 h2;have nz1:l1≠z:=D.l1z;have nz2:l2≠z:=D.l2z
 wp_walk using wpAny_onRaise,eX (h3.extBut (MO _ _ _).extBut D.i1z) (h5.extBut (MO _ _ _).extBut D.l1z) h7
 intro ha sa ea;have t1:ha.get? TO=some ⟨.type "tuple", none,.seq #[a,b] 0,#[]⟩:=(ea.2 _ D.TOi1).trans (MG _ (Ne.symm D.TOz) h2);have e4:=(h4.extBut (MO hp z _).extBut D.i2z).extBut ea.extBut (Ne.symm D.i12);have e6:=(h6.extBut (MO hp z _).extBut D.l2z).extBut ea.extBut D.l2i1
 wp_walk using wpAny_onRaise,eX (e4.extBut (MO _ _ _).extBut (Ne.symm D.TOi2)) (e6.extBut (MO _ _ _).extBut D.l2TO) h8
 intro hb sb eb;have t2:hb.get? TO=some ⟨.type "tuple", none,.seq #[x,b] 0,#[]⟩:=(eb.2 _ D.TOi2).trans (MY _ t1 rfl);have z1:hb.get? z=some ⟨.type "zip", none,.fields #[.ellipsis,.bool false,.bool false,.ref TI,.ref TO],#[]⟩:=(eb.2 _ (Ne.symm D.i2z)).trans (MG _ D.TOz ((ea.2 _ (Ne.symm D.i1z)).trans (MY _ hz rfl)))
 wp_walk
 have es:hb.objs.size=hp.objs.size:=eb.1.trans ((NN _ _ _).trans (ea.1.trans (NN _ _ _)));have es2:(hb.update TO (Obj.mapSeq fun x:Array Value=>x.setIfInBounds (0+1) y)).objs.size=hp.objs.size:=(NN _ _ _).trans es;rw [es2];generalize e9:(hb.update TO (Obj.mapSeq fun x:Array Value=>x.setIfInBounds (0+1) y)).push { cls:=Value.type "tuple", data:=Data.seq ((fun x:Array Value=>x.setIfInBounds (0+1) y) #[x,b]).toList.toArray }=hc;have ze:hc.get? z=some ⟨.type "zip", none,.fields #[.ellipsis,.bool false,.bool false,.ref TI,.ref TO],#[]⟩:=by rw [<- e9];exact L4 _ (MG _ D.TOz z1)
 have hs:hc.objs.size=hp.objs.size+1:=by rw [<- e9,M6,es2]
 have hn:hc.get? hp.objs.size=some ⟨.type "tuple", none,.seq #[x,y] 0,#[]⟩:=by rw [<- e9,<-es2];exact Mu _ rfl
 have ht:hc.get? TO=some ⟨.type "tuple", none,.seq #[x,y] 0,#[]⟩:=by rw [<- e9];exact L4 _ (MY _ t2 rfl)
 have hk:∀ (c:Addr) (o:Obj),c≠TO->hb.get? c=some o->hc.get? c=some o:=fun c o n e=>by rw [<- e9];exact L4 _ (MG _ (Ne.symm n) e)
 have hi1:hc.IsTupleIter i1 l1 (k1+1):=((sa.extBut (MO _ _ _).extBut (Ne.symm D.TOi1)).extBut eb.extBut D.i12).at fun o e=>hk _ _ (Ne.symm D.TOi1) e;have hi2:hc.IsTupleIter i2 l2 (k2+1):=sb.at fun o e=>hk _ _ (Ne.symm D.TOi2) e;have up:∀ {f f':Obj->Obj} (c:Addr) (o:Obj),c≠z->hc.get? c=some o->((hc.update z f).update z f').get? c=some o:=fun c o n e=>MG _ (Ne.symm n) (MG _ (Ne.symm n) e)
 wp_walk
 refine ⟨_,rfl,hq _ ?_ ?_ ?_ ?_ ?_ ?_ ?_⟩
 ·exact MY _ (MY _ ze rfl) rfl
 ·exact up _ _ D.TOz ht
 ·exact hi1.at fun o e=>up _ _ D.i1z e
 ·exact hi2.at fun o e=>up _ _ D.i2z e
 ·exact up _ _ (ND (Mf hz)) hn
 ·rw [NN,NN];exact hs
 ·intro c o c1 c2 c3 c4 e;exact up _ _ c1 (hk _ _ c2 ((eb.2 _ c4).trans (MG _ (Ne.symm c2) ((ea.2 _ c3).trans (MG _ (Ne.symm c1) e)))))
theorem mQ {z TI TO i1 i2 l1 l2:Addr} {k1:Nat} {xs:Array Value} {a b:Value} {Q:Fin->Shared->Prop} (h0:A.handled=none) (D:ZipApart z TI TO i1 i2 l1 l2) (hz:IsZip s.heap z TI TO .none) (h1:IsPair s.heap TI (.ref i1) (.ref i2)) (h2:IsPair s.heap TO a b)
  (h3:s.heap.IsTupleIter i1 l1 k1) (h5:s.heap.IsTuple l1 xs) (h7:xs[k1]?=none)
  (hq:∀ (h':Heap) (e:Addr),(∀ (c:Addr) (o:Obj),c≠z->c≠TO->c≠i1->c≠i2->s.heap.get? c=some o->h'.get? c=some o)->(∃ o,h'.get? e=some o/\o.cls=.type "StopIteration")->E (.ref e) { s with heap:=h' }) :
  wpAny (model prog w) A (Builtin.«zip.__next__» ⟨[.ref z],[]⟩) Q E s:=by
 obtain ⟨hp,g,d,tk,os⟩:=s;unfold IsZip at hz;unfold IsPair at h1 h2
 wp_walk using wpAny_onRaise,lH h0 (h3.extBut (MO _ _ _).extBut D.i1z) (h5.extBut (MO _ _ _).extBut D.l1z) h7
 intro ha e ea eo;obtain ⟨⟨_,o2,o3,o4⟩,eo,rfl⟩:=eo;have z1:ha.get? z=some ⟨.type "zip", none,.fields #[.ellipsis,.bool false,.bool false,.ref TI,.ref TO],#[]⟩:=ea _ _ (Ne.symm D.i1z) (MY _ hz rfl)
 wp_walk
 have ne:z≠e:=fun q=>by have w:=(q▸z1).symm.trans eo;simp at w
 exact hq _ _ (fun c o c1 c2 c3 c4 q=>MG _ (Ne.symm c1) (ea _ _ c3 (MG _ (Ne.symm c1) q))) ⟨_,MG _ ne eo,rfl⟩
theorem jR {z TI TO:Addr} {v:Value} (h:IsZip s.heap z TI TO v):s.TypeIs (.ref z) "zip" := ⟨_,h,rfl⟩
theorem jF {z TI TO i1 i2 l1 l2:Addr} {k1 k2:Nat} {xs ys:Array Value} {x y a b:Value} {Q:Option Value->Shared->Prop} (D:ZipApart z TI TO i1 i2 l1 l2) (hz:IsZip s.heap z TI TO .none) (h1:IsPair s.heap TI (.ref i1) (.ref i2)) (h2:IsPair s.heap TO a b)
  (h3:s.heap.IsTupleIter i1 l1 k1) (h4:s.heap.IsTupleIter i2 l2 k2) (h5:s.heap.IsTuple l1 xs) (h6:s.heap.IsTuple l2 ys) (h7:xs[k1]?=some x) (h8:ys[k2]?=some y)
  (hq:∀ h':Heap,IsZip h' z TI TO (rawInt s.heap.objs.size)->IsPair h' TO x y->h'.IsTupleIter i1 l1 (k1+1)->h'.IsTupleIter i2 l2 (k2+1)->IsPair h' s.heap.objs.size x y->h'.objs.size=s.heap.objs.size+1 ->
   (∀ (c:Addr) (o:Obj),c≠z->c≠TO->c≠i1->c≠i2->s.heap.get? c=some o->h'.get? c=some o)->Q (some (.ref s.heap.objs.size)) { s with heap:=h' }):wpAny (model prog w) A (pyNext (.ref z)) Q E s:=by
 unfold pyNext;refine Mp (wpAny_attempt (Np (jR hz) F.slot_zip_next ?_))
 refine NG (S:=fun _ R s'=>s'=s/\∀ h':Heap,IsZip h' z TI TO (rawInt s.heap.objs.size)->IsPair h' TO x y->h'.IsTupleIter i1 l1 (k1+1)->h'.IsTupleIter i2 l2 (k2+1)->IsPair h' s.heap.objs.size x y->h'.objs.size=s.heap.objs.size+1 ->
   (∀ (c:Addr) (o:Obj),c≠z->c≠TO->c≠i1->c≠i2->s.heap.get? c=some o->h'.get? c=some o)->R (.ok (.ret (.ref s.heap.objs.size))) { s with heap:=h' }) F.slot_zip_next (jR hz) F.entry_zip_next (F.args_zip_next_1 _) (.of_wp fun prog w A R s' h=>?_) ⟨rfl,fun h' a1 a2 a3 a4 a5 a6 a7=>MA (hq h' a1 a2 a3 a4 a5 a6 a7)⟩
 obtain ⟨rfl,h⟩:=h;exact lP (Q:=fun v s'=>R (.ok (.ret v)) s') D hz h1 h2 h3 h4 h5 h6 h7 h8 h
theorem jY {z TI TO i1 i2 l1 l2:Addr} {k1:Nat} {xs:Array Value} {a b:Value} {Q:Option Value->Shared->Prop} (h0:A.handled=none) (D:ZipApart z TI TO i1 i2 l1 l2) (hz:IsZip s.heap z TI TO .none) (h1:IsPair s.heap TI (.ref i1) (.ref i2)) (h2:IsPair s.heap TO a b)
  (h3:s.heap.IsTupleIter i1 l1 k1) (h5:s.heap.IsTuple l1 xs) (h7:xs[k1]?=none)
  (hq:∀ h':Heap,(∀ (c:Addr) (o:Obj),c≠z->c≠TO->c≠i1->c≠i2->s.heap.get? c=some o->h'.get? c=some o)->Q none { s with heap:=h' }):wpAny (model prog w) A (pyNext (.ref z)) Q E s:=by
 unfold pyNext;refine Mp (wpAny_attempt (Np (jR hz) F.slot_zip_next ?_));refine NG (S:=fun A R s'=>A.handled=none/\s'=s/\∀ (h':Heap) (e:Addr),(∀ (c:Addr) (o:Obj),c≠z->c≠TO->c≠i1->c≠i2->s.heap.get? c=some o->h'.get? c=some o)->(∃ o,h'.get? e=some o/\o.cls=.type "StopIteration")->R (.error (.ref e)) { s with heap:=h' }) F.slot_zip_next (jR hz) F.entry_zip_next (F.args_zip_next_1 _) (.of_wp fun prog w A R s' h=>?_) ⟨h0,rfl,fun h' e a1 a2=>?_⟩
 ·obtain ⟨h0,rfl,h⟩:=h;exact mQ (E:=fun e s'=>R (.error e) s') h0 D hz h1 h2 h3 h5 h7 h
 ·obtain ⟨o,e1,e2⟩:=a2;refine Mp (wpAny_isInstance (T := "StopIteration") ⟨_,e1,e2⟩ (by rfl) ?_);exact MA (hq h' a1)
theorem qL {l1 l2:Addr} {xs ys:Array Value} {Q:Value->Shared->Prop} (h1:s.heap.IsTuple l1 xs) (h2:s.heap.IsTuple l2 ys)
  (hq:∀ h':Heap,IsZip h' (s.heap.objs.size+4) (s.heap.objs.size+2) (s.heap.objs.size+3) .none->IsPair h' (s.heap.objs.size+2) (.ref s.heap.objs.size) (.ref (s.heap.objs.size+1))->IsPair h' (s.heap.objs.size+3) .none .none->h'.IsTupleIter s.heap.objs.size l1 0->h'.IsTupleIter (s.heap.objs.size+1) l2 0->h'.objs.size=s.heap.objs.size+5 ->
   (∀ (c:Addr) (o:Obj),s.heap.get? c=some o->h'.get? c=some o)->Q (.ref (s.heap.objs.size+4)) { s with heap:=h' }):wpAny (model prog w) A (call (.type "zip") [.ref l1,.ref l2]) Q E s:=by
 have gp:∀ {h:Heap} {o:Obj} {n:Nat},h.objs.size=n->o.isFreed=false->(h.push o).get? n=some o:=by rintro h o _ rfl f;exact Mu _ f
 refine callType_new F.called_zip rfl rfl (by with_unfolding_all rfl) (fun obj=>F.args_object_init_3 _ _ _) F.entry_zip_new (lS l1 l2 xs ys) ⟨h1,h2,⟨⟨_,Mu _ rfl,rfl⟩,?_⟩⟩;simp only [M6];refine hq _ (gp (by simp only [M6]) rfl) (L4 _ (L4 _ (gp (by simp only [M6]) rfl))) (L4 _ (gp (by simp only [M6]) rfl)) ⟨_,L4 _ (L4 _ (L4 _ (L4 _ (gp rfl rfl)))),rfl,rfl⟩ ⟨_,L4 _ (L4 _ (L4 _ (gp (by simp only [M6]) rfl))),rfl,rfl⟩ (by simp only [M6]) fun c o e=>?_;exact L4 _ (L4 _ (L4 _ (L4 _ (L4 _ e))))
end
section
variable {X:Cx} {pins:List (Addr×Obj)} {σ:List (Option V)} {H:Hp} {s:Shared} {h':Heap}
theorem Inv.Ig {ch:List Addr} {p:Addr} {o:HO} (I:Inv X pins σ H s) (hc:∀ b∈ch,wm X pins H b) (hp:s.heap.objs.size<=p) (hs:∀ b u,b ∉ ch->s.heap.get? b=some u->h'.get? b=some u) (new:fh X.prog X.w (upd H p o) h' p o):Inv X pins σ (upd H p o) { s with heap:=h' }:=by
 have nH:H p=none:=I.hok.fresh hp;have nd:∀ b u,H b=some u->b≠p:=fun b u e z=>by rw [z,nH] at e;cases e
 have nc:∀ b u,H b=some u->b ∉ ch:=fun b u e z=>by rw [(hc b z).1] at e;cases e
 have np:∀ b u,s.heap.get? b=some u->b≠p:=fun b u e=>MD (Md (Mf e) hp);refine I.step (t':=s.toks) (g':=s.gens) (d':=s.drawn) (ch:=ch) (fun b hb=>⟨(hc b hb).2.2.2.1,(hc b hb).2.1,(hc b hb).2.2.2.2.1,(hc b hb).2.2.2.2.2⟩) (fun b o _ _ hb e _=>hs b o hb e) (fun b o _ _ hb e _=>⟨o.slots,hs b o hb e⟩) (fun b u hb e n=>by rw [ao (np b u e)];exact n)
  (fun b o hb e=>⟨o,hs b o hb e⟩) (fun b xs e=>by rw [ao (nd b _ e)];exact e) (fun b o u e=>by rw [ao (nd b _ e)];exact e) (fun b ps e=>⟨#[],by rw [ao (nd b _ e),e];simp⟩) (fun m hm=>?_) (fun b u e=>?_) I.bare
 ·obtain ⟨o,es,ep,ho,r⟩:=hm;exact ⟨o,es,ep,hs _ o (fun z=>(hc _ z).2.1 rfl) ho,r⟩
 ·by_cases z:b=p
  ·subst z;rw [aE] at e;cases e;exact new
  ·rw [ao z] at e;refine (I.hok b u e).mB (fun c v hc' q=>?_) (fun c q=>by rw [ao (nd c _ q)];exact q) fun c xs q=>by rw [ao (nd c _ q)];exact q
   rcases hc' with rfl | hc'
   ·exact hs _ _ (nc _ _ e) q
   ·exact hs _ _ (nc c _ hc') q
end
def Itz (K:Fg) (a b:Addr) (xs ys:List V):It :=
 ⟨fun i H=>SqT K H a xs/\SqT K H b ys/\i < xs.length/\i < ys.length,fun i H x H'=>∃ p u v,H p=none/\x=.ref p/\xs[i]?=some u/\ys[i]?=some v/\H'=upd H p (.tup [u,v]),fun i H=>SqT K H a xs/\SqT K H b ys/\xs.length<=i⟩
theorem yy {P:Program} {w:World} {K:Fg} {elts:List Expr} {c:Nat} {pos:Pos} (a b z TI TO i1 i2:Addr) (xs ys:List V) (D:ZipApart z TI TO i1 i2 a b):Turn P w K (.Tuple elts c pos) (Itz K a b xs ys) [z,TI,TO,i1,i2] z
  (fun i h=>IsZip h z TI TO .none/\IsPair h TI (.ref i1) (.ref i2)/\(∃ x y,IsPair h TO x y)/\h.IsTupleIter i1 a i/\h.IsTupleIter i2 b i) where
 mem:=by simp
 obj:=fun i h st c hc=>by
  obtain ⟨hz,hTI,⟨x,y,hTO⟩,⟨o1,e1,c1,d1⟩,⟨o2,e2,c2,d2⟩⟩:=st;simp only [Mc,NM,M7] at hc;rcases hc with rfl | rfl | rfl | rfl | rfl
  ·exact ⟨_,hz,fun v z=>nomatch z⟩
  ·exact ⟨_,hTI,fun v z=>nomatch z⟩
  ·exact ⟨_,hTO,fun v z=>nomatch z⟩
  ·exact ⟨o1,e1,fun v z=>by rw [d1] at z;cases z⟩
  ·exact ⟨o2,e2,fun v z=>by rw [d2] at z;cases z⟩
 keep:=fun i h h' st k=>by
  obtain ⟨hz,hTI,⟨x,y,hTO⟩,h1,h2⟩:=st;exact ⟨k z (by simp) _ hz,k TI (by simp) _ hTI,⟨x,y,k TO (by simp) _ hTO⟩,h1.at fun o e=>k i1 (by simp) o e,h2.at fun o e=>k i2 (by simp) o e⟩
 item:=by
  intro X hP hw hK hc i pins s σ H E I hf st hg;subst hP hw hK;obtain ⟨hz,hTI,⟨x0,y0,hTO⟩,h1,h2⟩:=st;obtain ⟨q1,q2,l1,l2⟩:=hg;obtain ⟨its,r1,p1,_⟩:=I.tuple q1;obtain ⟨its2,r2,p2,_⟩:=I.tuple q2;have hx:=L6 l1;have hy:=L6 l2;obtain ⟨u,hu,ru⟩:=r1.get hx;obtain ⟨v,hv,rv⟩:=r2.get hy;refine jF D hz hTI hTO h1 h2 p1 p2 (x:=u) (y:=v) (by simpa using hu) (by simpa using hv) fun h' a1 a2 a3 a4 a5 a6 a7=>⟨_,rfl,?_⟩;refine wpAny_letOwnedTupleGo_zip a1 fun h2' hz' sb=>?_;have keep:∀ b o,b ∉ [z,TI,TO,i1,i2]->s.heap.get? b=some o->h2'.get? b=some o:=fun b o hb e=>by
   simp only [Mc,NM,M7,not_or] at hb;exact (sb.2 b hb.1).trans (a7 b o hb.1 hb.2.2.1 hb.2.2.2.1 hb.2.2.2.2 e)
  have nz:s.heap.objs.size≠z:=ND (Mf hz);have gp:IsPair h2' s.heap.objs.size u v:=(sb.2 _ nz).trans a5;have In:Inv X pins σ (upd H s.heap.objs.size (.tup [xs[i],ys[i]])) { s with heap:=h2' }:=I.Ig hf (Mg _) keep ⟨by rw [Nh];exact Mv rfl,[u,v],.cons ru (.cons rv .nil),⟨_,gp,rfl,0,rfl⟩⟩;refine ⟨.ref s.heap.objs.size,_,In,rfl,⟨_,_,_,I.hok.fresh (Mg _),rfl,hx,hy,rfl⟩,⟨hz',?_,⟨u,v,(sb.2 _ D.TOz).trans a2⟩,a3.extBut sb.extBut D.i1z,a4.extBut sb.extBut D.i2z⟩,fun b hb=>?_⟩
  ·exact (sb.2 _ D.TIz).trans (a7 _ _ D.TIz D.TITO D.TIi1 D.TIi2 hTI)
  ·have:=hf b hb;rw [ao]
   ·exact this.1
   ·intro z';subst z';simp only [Mc,NM,M7] at hb;rcases hb with hb | hb | hb | hb | hb
    ·exact nz hb
    ·exact absurd hb (ND (Mf hTI))
    ·exact absurd hb (ND (Mf hTO))
    ·obtain ⟨_,e,_⟩:=h1;exact absurd hb (ND (Mf e))
    ·obtain ⟨_,e,_⟩:=h2;exact absurd hb (ND (Mf e))
 done:=by
  intro X hP hw hK hc i pins s σ H E I hf st hg;subst hP hw hK;obtain ⟨hz,hTI,⟨x0,y0,hTO⟩,h1,h2⟩:=st;obtain ⟨q1,q2,l⟩:=hg;obtain ⟨its,r1,p1,_⟩:=I.tuple q1;obtain ⟨its2,r2,p2,_⟩:=I.tuple q2;refine jY (I.ok.hd hc) D hz hTI hTO h1 p1 ?_ fun h' k=>⟨rfl,?_⟩
  ·exact Array.getElem?_eq_none (by rw [Mh,<-r1.length];exact l)
  ·have nd:∀ b u,H b=some u->b ∉ [z,TI,TO,i1,i2]:=fun b u e hb=>by rw [(hf b hb).1] at e;cases e
   have ks:∀ b o,b ∉ [z,TI,TO,i1,i2]->s.heap.get? b=some o->h'.get? b=some o:=fun b o hb e=>by
    simp only [Mc,NM,M7,not_or] at hb;exact k b o hb.1 hb.2.2.1 hb.2.2.2.1 hb.2.2.2.2 e
   refine I.step (t':=s.toks) (g':=s.gens) (d':=s.drawn) (ch:=[z,TI,TO,i1,i2]) (fun b hb=>⟨(hf b hb).2.2.2.1,(hf b hb).2.1,(hf b hb).2.2.2.2.1,(hf b hb).2.2.2.2.2⟩) (fun b o _ _ hb e _=>ks b o hb e) (fun b o _ _ hb e _=>⟨o.slots,ks b o hb e⟩) (fun _ _ _ _ n=>n) (fun b o hb e=>⟨o,ks b o hb e⟩) (fun _ _ e=>e) (fun _ _ _ e=>e) (fun b ps e=>⟨#[],by rw [e];simp⟩) (fun m hm=>?_) (fun b u e=>?_) I.bare
   ·obtain ⟨o,es,ep,ho,r⟩:=hm;exact ⟨o,es,ep,ks _ o (fun z=>(hf _ z).2.1 rfl) ho,r⟩
   ·refine (I.hok b u e).mB (fun c v hc' q=>?_) (fun _ q=>q) fun _ _ q=>q;rcases hc' with rfl | hc'
    ·exact ks _ _ (nd _ _ e) q
    ·exact ks _ _ (nd c _ hc') q
 self:=fun A i s Q E st h=>wpAny_pyIter_zip st.1 h
def Jk (K:Fg) (t:TA):TI:=fun σ H R=>t σ H fun vs H1=>∃ a b xs ys,vs=[.ref a,.ref b]/\SqT K H1 a xs/\SqT K H1 b ys/\R (Itz K a b xs ys) H1
theorem FY {X:Cx} {elts:List Expr} {c:Nat} {pt p pos:Pos} {ea eb:Expr} {t:TA} (hg:Gl X "zip") (hm:X.mg "zip" = none) (hv:bootBuiltins "zip" = some (.type "zip")) (ha:PA X [ea,eb] t)
  (he:starEach [ea,eb] X.env=(false,eval ea X.env) :: starEach [eb] X.env) (hpl:(backTo pos (starEach [eb] X.env)).any (·.1)=false):PI X (.Tuple elts c pt) (.Call (.Name "zip" p) [ea,eb] [] pos) (Jk X.K t):=by
 intro pins s σ H R I h;refine NF (pT I hg hm hv ?_ (by decide) (by decide));refine PyProof.Rows.callWith_type1 (thn (ha pos pins s σ H _ I h) fun us s1 ⟨vs,H1,I1,r1,a,b,xs,ys,ev,q1,q2,q⟩=>?_) he hpl;subst ev;cases r1 with
 | cons ra r1 =>
 cases r1 with
 | cons rb r1 =>
 cases r1;have ra:_=Value.ref a:=ra;have rb:_=Value.ref b:=rb;subst ra rb;obtain ⟨its,v1,p1,_⟩:=I1.tuple q1;obtain ⟨its2,v2,p2,_⟩:=I1.tuple q2;have l1:a < s1.heap.objs.size:=by obtain ⟨_,e,_⟩:=p1;exact Mf e
 have l2:b < s1.heap.objs.size:=by obtain ⟨_,e,_⟩:=p2;exact Mf e
 refine qL p1 p2 fun h' hz hTI hTO hi1 hi2 hsz hk=>?_;refine wpAny_pyIter_zip hz ⟨s1.heap.objs.size+4,[s1.heap.objs.size+4,s1.heap.objs.size+2,s1.heap.objs.size+3,s1.heap.objs.size,s1.heap.objs.size+1],_,_,H1,rfl,I1.kept (t':=s1.toks) hk,yy a b _ _ _ _ _ xs ys (zipApart_new l1 l2),⟨hz,hTI,⟨_,_,hTO⟩,hi1,hi2⟩,fun c hc=>?_,q⟩;have hb:s1.heap.objs.size<=c:=by
  simp only [Mc,NM,M7] at hc;rcases hc with rfl | rfl | rfl | rfl | rfl
  ·exact NL _ _
  ·exact NL _ _
  ·exact NL _ _
  ·exact Mg _
  ·exact NL _ _
 exact I1.DM hb (I1.hok.fresh hb)
open PySem PySem.Spec PyProof.Rows
def Ite (K:Fg) (a:Addr) (xs:List V):It :=
 ⟨fun i H=>SqL K H a xs/\i < xs.length,fun i H x H'=>∃ p u,H p=none/\x=.ref p/\xs[i]?=some u/\H'=upd H p (.tup [.int i,u]),fun i H=>SqL K H a xs/\xs.length<=i⟩
def K7 (K:Fg) (t:TA):TI:=fun σ H R=>t σ H fun vs H1=>∃ a xs,vs=[.ref a]/\SqL K H1 a xs/\R (Ite K a xs) H1
open PySem
def Lm (K:Fg) (a:Addr) (xs:List V):Prop:=∃ (o:Obj) (its:Array Value) (n:Nat),K.lookup a=some o/\o.cls=.type "list" /\ o.dict=none/\o.data=.seq its n/\its.size<=sizeLine/\Vals xs its.toList
def LsF (K:Fg) (F:Addr->Prop) (H:Hp) (a:Addr) (xs:List V):Prop:=(¬F a/\Rd H a (.lst xs))\/Lm K a xs
noncomputable def clsAt:Addr:=200
noncomputable def LG:PyData->Str
 | .str f=>f
 | _=>Str.empty
noncomputable def qV (xs:List (PyData×V×V)):List (Str×V):=xs.map fun x=>(LG x.1,x.2.2)
mutual
def Dm (K:Fg) (F:Addr->Prop) (H:Hp):PyData->V->Prop
 | .none,v=>v=.non
 | .bool b,v=>v=.bl b
 | .int i,v=>v=.int i
 | .str x,v=>v=.str x/\x.length<=sizeLine/\PyData.strOk x=true
 | .list ds,v=>∃ a xs,v=.ref a/\LsF K F H a xs/\xs.length<=sizeLine/\DmL K F H ds xs
 | .tuple ds,v=>∃ a xs,v=.ref a/\SqT K H a xs/\xs.length<=sizeLine/\DmL K F H ds xs
 | .dict kvs,v=>∃ a ep xs,v=.ref a/\¬F a/\H a=some (.ins clsAt ep (qV xs))/\xs.length<=sizeLine/\DmP K F H kvs xs
def DmL (K:Fg) (F:Addr->Prop) (H:Hp):List PyData->List V->Prop
 | [],vs=>vs=[]
 | d :: ds,vs=>∃ v r,vs=v :: r/\Dm K F H d v/\DmL K F H ds r
def DmP (K:Fg) (F:Addr->Prop) (H:Hp):List (PyData×PyData)->List (PyData×V×V)->Prop
 | [],vs=>vs=[]
 | (k,d) :: ds,vs=>∃ j v r,vs=(k,j,v) :: r/\hk6 k=true/\Dm K F H k j/\Dm K F H d v/\DmP K F H ds r
end
noncomputable def Wr:HO->Bool | .lst _=>true | .ins _ _ _=>true | _=>false
def Pr (F:Addr->Prop) (H H':Hp):Prop:=∀ b o,H b=some o->(¬F b\/Wr o=false)->H' b=some o
section
variable {K:PySem.W.Frag} {F F':Addr->Prop} {H H':Hp}
theorem SqT.pr {a:Addr} {xs:List V} (p:Pr F H H') (h:SqT K H a xs):SqT K H' a xs:=by
 rcases h with (h | ⟨o,h⟩) | h
 ·exact .inl (.inl (p _ _ h (.inr rfl)))
 ·exact .inl (.inr ⟨o,p _ _ h (.inr rfl)⟩)
 ·exact .inr h
theorem LsF.pr {a:Addr} {xs:List V} (p:Pr F H H') (hf:∀ b,F' b->F b) (h:LsF K F H a xs):LsF K F' H' a xs:=by
 rcases h with ⟨n,h | ⟨o,h⟩⟩ | h
 ·exact .inl ⟨fun z=>n (hf _ z),.inl (p _ _ h (.inl n))⟩
 ·exact .inl ⟨fun z=>n (hf _ z),.inr ⟨o,p _ _ h (.inl n)⟩⟩
 ·exact .inr h
mutual
theorem Dm.pr (p:Pr F H H') (hf:∀ b,F' b->F b):∀ {d:PyData} {v:V},Dm K F H d v->Dm K F' H' d v
 | .none,v,h=>h
 | .bool b,v,h=>h
 | .int i,v,h=>h
 | .str x,v,h=>h
 | .list ds,v,h=>by
  obtain ⟨a,xs,e,l,z,r⟩:=h;exact ⟨a,xs,e,l.pr p hf,z,DmL.pr p hf r⟩
 | .tuple ds,v,h=>by
  obtain ⟨a,xs,e,l,z,r⟩:=h;exact ⟨a,xs,e,l.pr p,z,DmL.pr p hf r⟩
 | .dict kvs,v,h=>by
  obtain ⟨a,ep,xs,e,n,l,z,r⟩:=h;exact ⟨a,ep,xs,e,fun q=>n (hf _ q),p _ _ l (.inl n),z,DmP.pr p hf r⟩
theorem DmL.pr (p:Pr F H H') (hf:∀ b,F' b->F b):∀ {ds:List PyData} {vs:List V},DmL K F H ds vs->DmL K F' H' ds vs
 | [],vs,h=>h
 | d :: ds,vs,h=>by
  obtain ⟨v,r,e,h1,h2⟩:=h;exact ⟨v,r,e,Dm.pr p hf h1,DmL.pr p hf h2⟩
theorem DmP.pr (p:Pr F H H') (hf:∀ b,F' b->F b):∀ {ds:List (PyData×PyData)} {vs:List (PyData×V×V)},DmP K F H ds vs->DmP K F' H' ds vs
 | [],vs,h=>h
 | (k,d) :: ds,vs,h=>by
  obtain ⟨j,v,r,e,e2,h0,h1,h2⟩:=h;exact ⟨j,v,r,e,e2,Dm.pr p hf h0,Dm.pr p hf h1,DmP.pr p hf h2⟩
end
theorem LsF.fresh {a c:Addr} {xs:List V} (hc:H c=none) (h:LsF K F H a xs):LsF K (fun b=>F b\/b=c) H a xs:=by
 rcases h with ⟨n,h⟩ | h
 ·refine .inl ⟨fun z=>z.elim n fun e=>?_,h⟩;subst e;rcases h with h | ⟨o,h⟩ <;> (rw [hc] at h;cases h)
 ·exact .inr h
mutual
theorem Dm.fresh {c:Addr} (hc:H c=none):∀ {d:PyData} {v:V},Dm K F H d v->Dm K (fun b=>F b\/b=c) H d v
 | .none,v,h=>h
 | .bool b,v,h=>h
 | .int i,v,h=>h
 | .str x,v,h=>h
 | .list ds,v,h=>by
  obtain ⟨a,xs,e,l,z,r⟩:=h;exact ⟨a,xs,e,l.fresh hc,z,DmL.fresh hc r⟩
 | .tuple ds,v,h=>by
  obtain ⟨a,xs,e,l,z,r⟩:=h;exact ⟨a,xs,e,l,z,DmL.fresh hc r⟩
 | .dict kvs,v,h=>by
  obtain ⟨a,ep,xs,e,n,l,z,r⟩:=h;exact ⟨a,ep,xs,e,fun q=>q.elim n fun q=>(by subst q;rw [hc] at l;cases l),l,z,DmP.fresh hc r⟩
theorem DmL.fresh {c:Addr} (hc:H c=none):∀ {ds:List PyData} {vs:List V},DmL K F H ds vs->DmL K (fun b=>F b\/b=c) H ds vs
 | [],vs,h=>h
 | d :: ds,vs,h=>by
  obtain ⟨v,r,e,h1,h2⟩:=h;exact ⟨v,r,e,Dm.fresh hc h1,DmL.fresh hc h2⟩
theorem DmP.fresh {c:Addr} (hc:H c=none):∀ {ds:List (PyData×PyData)} {vs:List (PyData×V×V)},DmP K F H ds vs->DmP K (fun b=>F b\/b=c) H ds vs
 | [],vs,h=>h
 | (k,d) :: ds,vs,h=>by
  obtain ⟨j,v,r,e,e2,h0,h1,h2⟩:=h;exact ⟨j,v,r,e,e2,Dm.fresh hc h0,Dm.fresh hc h1,DmP.fresh hc h2⟩
end
theorem Pr.refl:Pr F H H:=fun _ _ h _=>h
theorem Pr.trans {H1 H2:Hp} (a:Pr F H H1) (b:Pr F' H1 H2) (hf:∀ b,F' b->F b):Pr F H H2:=fun c o h n=>b c o (a c o h n) (n.imp (fun z q=>z (hf _ q)) id)
theorem Pr.of_same (a:bq H H'):Pr F H H':=fun c o h _=>a c o h
theorem Dm.mono (hf:∀ b,F' b->F b) {d:PyData} {v:V} (h:Dm K F H d v):Dm K F' H d v:=h.pr Pr.refl hf
theorem DmL.mono (hf:∀ b,F' b->F b) {d:List PyData} {v:List V} (h:DmL K F H d v):DmL K F' H d v:=h.pr Pr.refl hf
theorem DmL.len:∀ {ds:List PyData} {vs:List V},DmL K F H ds vs->vs.length=ds.length
 | [],vs,h=>by rw [show vs=[] from h];rfl
 | d :: ds,vs,h=>by
  obtain ⟨v,r,e,h1,h2⟩:=h;rw [e,L3,L3,DmL.len h2]
theorem DmL.get:∀ {ds:List PyData} {vs:List V} {i:Nat} {d:PyData},DmL K F H ds vs->ds[i]?=some d->∃ v,vs[i]?=some v/\Dm K F H d v
 | [],vs,_,_,h,e=>by simp at e
 | d :: ds,vs,0,d',h,e=>by
  obtain ⟨v,r,e1,h1,h2⟩:=h;simp at e;subst e;subst e1;exact ⟨v,rfl,h1⟩
 | d :: ds,vs,i+1,d',h,e=>by
  obtain ⟨v,r,e1,h1,h2⟩:=h;subst e1;obtain ⟨w,q1,q2⟩:=DmL.get (i:=i) h2 (by simpa using e);exact ⟨w,by simpa using q1,q2⟩
theorem DmL.get' {ds:List PyData} {vs:List V} {i:Nat} {v:V} (h:DmL K F H ds vs) (e:vs[i]?=some v):∃ d,ds[i]?=some d/\Dm K F H d v:=by
 have hl:=h.len;have hi:i < vs.length:=(L5.mp e).1;have hd:ds[i]?=some (ds[i]'(by omega)):=L6 _;obtain ⟨w,e2,q⟩:=h.get hd;rw [e] at e2;cases e2;exact ⟨_,hd,q⟩
theorem DmL.app:∀ {ds es:List PyData} {vs ws:List V},DmL K F H ds vs->DmL K F H es ws->DmL K F H (ds++es) (vs++ws)
 | [],es,vs,ws,h,q=>by rw [show vs=[] from h];exact q
 | d :: ds,es,vs,ws,h,q=>by
  obtain ⟨v,r,e,h1,h2⟩:=h;subst e;exact ⟨v,r++ws,rfl,h1,DmL.app h2 q⟩
theorem DmL.snoc {ds:List PyData} {vs:List V} {d:PyData} {v:V} (h:DmL K F H ds vs) (q:Dm K F H d v):DmL K F H (ds++[d]) (vs++[v]):=h.app ⟨v,[],rfl,q,rfl⟩
def Top (K:PySem.W.Frag) (F:Addr->Prop) (H:Hp):PyData->Addr->Prop
 | .list ds,a=>∃ xs,H a=some (.lst xs)/\xs.length<=sizeLine/\DmL K F H ds xs
 | .dict kvs,a=>∃ ep xs,H a=some (.ins clsAt ep (qV xs))/\xs.length<=sizeLine/\DmP K F H kvs xs
 | _,_=>False
def CS (K:PySem.W.Frag) (F:Addr->Prop) (H:Hp):PyData->Addr->Prop
 | .list ds,a=>∃ xs,SqL K H a xs/\xs.length<=sizeLine/\DmL K F H ds xs
 | .dict kvs,a=>∃ ep xs,H a=some (.ins clsAt ep (qV xs))/\xs.length<=sizeLine/\DmP K F H kvs xs
 | _,_=>False
def Vw (K:PySem.W.Frag) (F:Addr->Prop) (H:Hp):PyData->V->Prop
 | .list ds,v=>∃ a,v=.ref a/\CS K F H (.list ds) a
 | .dict ds,v=>∃ a,v=.ref a/\CS K F H (.dict ds) a
 | d,v=>Dm K F H d v
theorem Top.r {d:PyData} {a:Addr} (h:Top K F H d a):CS K F H d a:=by
 cases d with
 | list ds=>obtain ⟨xs,e,z,r⟩:=h;exact ⟨xs,.inl (.inl e),z,r⟩
 | dict ds=>exact h
 | _=>exact h
theorem CS.vw {d:PyData} {a:Addr} (h:CS K F H d a):Vw K F H d (.ref a):=by
 cases d with
 | list ds=>exact ⟨a,rfl,h⟩
 | dict ds=>exact ⟨a,rfl,h⟩
 | _=>exact absurd h id
theorem Dm.vw {d:PyData} {v:V} (h:Dm K F H d v):Vw K F H d v:=by
 cases d with
 | list ds =>
  obtain ⟨a,xs,e,l,z,r⟩:=h;refine ⟨a,e,xs,?_,z,r⟩;rcases l with ⟨n,l⟩ | l
  ·exact .inl l
  ·exact .inr l
 | dict ds=>obtain ⟨a,ep,xs,e,n,l,z,r⟩:=h;exact ⟨a,e,ep,xs,l,z,r⟩
 | _=>exact h
theorem Top.dm {d:PyData} {a:Addr} (h:Top K F H d a) (n:¬F a):Dm K F H d (.ref a):=by
 cases d with
 | list ds=>obtain ⟨xs,e,z,r⟩:=h;exact ⟨a,xs,rfl,.inl ⟨n,.inl e⟩,z,r⟩
 | dict ds=>obtain ⟨ep,xs,e,z,r⟩:=h;exact ⟨a,ep,xs,rfl,n,e,z,r⟩
 | _=>exact absurd h id
theorem Top.wr {d:PyData} {a:Addr} (h:Top K F H d a):∃ o,H a=some o/\Wr o=true:=by
 cases d with
 | list ds=>obtain ⟨xs,e,_⟩:=h;exact ⟨_,e,rfl⟩
 | dict ds=>obtain ⟨ep,xs,e,_⟩:=h;exact ⟨_,e,rfl⟩
 | _=>exact absurd h id
theorem Top.pr {d:PyData} {a:Addr} (h:Top K F H d a) (p:Pr F H H') (hf:∀ b,F' b->F b) (ha:∀ o,H a=some o->H' a=some o):Top K F' H' d a:=by
 cases d with
 | list ds=>obtain ⟨xs,e,z,r⟩:=h;exact ⟨xs,ha _ e,z,r.pr p hf⟩
 | dict ds=>obtain ⟨ep,xs,e,z,r⟩:=h;exact ⟨ep,xs,ha _ e,z,r.pr p hf⟩
 | _=>exact absurd h id
theorem Top.fresh {d:PyData} {a c:Addr} (hc:H c=none) (h:Top K F H d a):Top K (fun b=>F b\/b=c) H d a:=by
 cases d with
 | list ds=>obtain ⟨xs,e,z,r⟩:=h;exact ⟨xs,e,z,r.fresh hc⟩
 | dict ds=>obtain ⟨ep,xs,e,z,r⟩:=h;exact ⟨ep,xs,e,z,r.fresh hc⟩
 | _=>exact absurd h id
end
open PySem
def Lq (K:Fg) (tl:TE):TI:=fun σ H R=>yH K tl σ H R\/CT K tl σ H R
inductive Sl where | un | dat (d:PyData) | own (d:PyData) | ino (d:PyData) | ro (d:PyData)
abbrev En:=List Sl
inductive RV where | dat (d:PyData) | bor (i:Nat) | frs (d:PyData)
inductive PR where | dat (d:PyData) | frs (d:PyData)
inductive AV where | dat (d:PyData) | bor (i:Nat)
inductive PM where | dat | bor | ino
noncomputable def PR.rv:PR->RV | .dat d=>.dat d | .frs d=>.frs d
noncomputable def RV.av:RV->AV | .dat d=>.dat d | .frs d=>.dat d | .bor i=>.bor i
structure Fn where
 ms:List PM
 F:List PyData->Option (PR×List PyData)
noncomputable def cont (env:En) (i:Nat):Option PyData:=match env[i]? with | some (.own d)=>some d | some (.ino d)=>some d | some (.ro d)=>some d | _=>none
noncomputable def aQ (env:En) (i:Nat):Option PyData:=match env[i]? with | some (.own d)=>some d | some (.ino d)=>some d | _=>none
noncomputable def gz (env:En) (i:Nat) (d:PyData):En:=match env[i]? with | some (.own _)=>env.set i (.own d) | some (.ino _)=>env.set i (.ino d) | _=>env
noncomputable def AV.view (env:En):AV->Option PyData | .dat d=>some d | .bor i=>cont env i
noncomputable def RV.view (env:En) (r:RV):Option PyData:=r.av.view env
def mu (env:En) (i:Nat):Prop:=∃ d,env[i]?=some (.own d)\/env[i]?=some (.ino d)
def IA (env:En) (σ:St) (b:Addr):Prop:=∃ i,mu env i/\σ[i]?=some (some (.ref b))
def FF (F0:Addr->Prop) (env:En) (σ:St) (b:Addr):Prop:=F0 b\/∃ (i:Nat) (d:PyData),env[i]?=some (.own d)/\σ[i]?=some (some (.ref b))
def iw (K:Fg) (F I:Addr->Prop) (H:Hp):PyData->Addr->Prop
 | .list ds,a=>∃ xs,LsF K I H a xs/\xs.length<=sizeLine/\DmL K F H ds xs
 | .dict kvs,a=>∃ ep xs,¬I a/\H a=some (.ins clsAt ep (qV xs))/\xs.length<=sizeLine/\DmP K F H kvs xs
 | _,_=>False
structure Rel (K:Fg) (F0:Addr->Prop) (H₀:Hp) (I:Addr->Prop) (env:En) (σ:St) (H:Hp):Prop where
 len:env.length=σ.length
 dat:∀ (i:Nat) (d:PyData),env[i]?=some (.dat d)->∃ v,σ[i]?=some (some v)/\Dm K (FF F0 env σ) H d v
 own:∀ (i:Nat) (d:PyData),env[i]?=some (.own d)->∃ a,σ[i]?=some (some (.ref a))/\¬F0 a/\(H₀ a=none\/I a)/\Top K (FF F0 env σ) H d a
 ino:∀ (i:Nat) (d:PyData),env[i]?=some (.ino d)->∃ a,σ[i]?=some (some (.ref a))/\F0 a/\I a/\Top K (FF F0 env σ) H d a
 ro:∀ (i:Nat) (d:PyData),env[i]?=some (.ro d)->∃ a,σ[i]?=some (some (.ref a))/\iw K (FF F0 env σ) (IA env σ) H d a
 sep:∀ i j a,mu env i->mu env j->σ[i]?=some (some (.ref a))->σ[j]?=some (some (.ref a))->i=j
 dom:∀ b,F0 b->H b≠none
 f6:∀ b o,H₀ b=some o->¬I b->H b=some o
section
variable {K:Fg} {F F' I I' F0:Addr->Prop} {H H' H₀:Hp} {env env':En} {σ σ':St}
theorem iw.r {d:PyData} {a:Addr} (h:iw K F I H d a):CS K F H d a:=by
 cases d with
 | list ds =>
  obtain ⟨xs,l,z,r⟩:=h;exact ⟨xs,l.elim (fun q=>.inl q.2) .inr,z,r⟩
 | dict ds=>obtain ⟨ep,xs,n,l,z,r⟩:=h;exact ⟨ep,xs,l,z,r⟩
 | _=>exact absurd h id
theorem iw.pr {d:PyData} {a:Addr} (h:iw K F I H d a) (p:Pr F H H') (hf:∀ b,F' b->F b) (hi:∀ b,I' b->I b) (k:∀ b o,H b=some o->¬I b->H' b=some o):iw K F' I' H' d a:=by
 cases d with
 | list ds =>
  obtain ⟨xs,l,z,r⟩:=h;refine ⟨xs,?_,z,r.pr p hf⟩;rcases l with ⟨n,l | ⟨o,l⟩⟩ | l
  ·exact .inl ⟨fun q=>n (hi _ q),.inl (k _ _ l n)⟩
  ·exact .inl ⟨fun q=>n (hi _ q),.inr ⟨o,k _ _ l n⟩⟩
  ·exact .inr l
 | dict ds=>obtain ⟨ep,xs,n,l,z,r⟩:=h;exact ⟨ep,xs,fun q=>n (hi _ q),k _ _ l n,z,r.pr p hf⟩
 | _=>exact absurd h id
theorem iw.fresh {d:PyData} {a c:Addr} (hc:H c=none) (h:iw K F I H d a):iw K (fun b=>F b\/b=c) I H d a:=by
 cases d with
 | list ds=>obtain ⟨xs,e,z,r⟩:=h;exact ⟨xs,e,z,r.fresh hc⟩
 | dict ds=>obtain ⟨ep,xs,n,e,z,r⟩:=h;exact ⟨ep,xs,n,e,z,r.fresh hc⟩
 | _=>exact absurd h id
theorem Dm.ro {d:PyData} {v:V} (h:Dm K F H d v) (hi:∀ b,I b->F b) (l:(∃ ds,d=.list ds)\/∃ ds,d=.dict ds):∃ a,v=.ref a/\iw K F I H d a:=by
 rcases l with ⟨ds,rfl⟩ | ⟨ds,rfl⟩
 ·obtain ⟨a,xs,e,l,z,r⟩:=h;exact ⟨a,e,xs,l.elim (fun q=>.inl ⟨fun z=>q.1 (hi _ z),q.2⟩) .inr,z,r⟩
 ·obtain ⟨a,ep,xs,e,n,l,z,r⟩:=h;exact ⟨a,e,ep,xs,fun q=>n (hi _ q),l,z,r⟩
theorem Top.ro {d:PyData} {a:Addr} (h:Top K F H d a) (n:¬I a):iw K F I H d a:=by
 cases d with
 | list ds=>obtain ⟨xs,e,z,r⟩:=h;exact ⟨xs,.inl ⟨n,.inl e⟩,z,r⟩
 | dict ds=>obtain ⟨ep,xs,e,z,r⟩:=h;exact ⟨ep,xs,n,e,z,r⟩
 | _=>exact absurd h id
theorem Rel.ia (R:Rel K F0 H₀ I env σ H) {b:Addr} (h:IA env σ b):FF F0 env σ b:=by
 obtain ⟨i,⟨d,e | e⟩,s⟩:=h
 ·exact .inr ⟨i,d,e,s⟩
 ·obtain ⟨a,s',f,_⟩:=R.ino i d e;rw [s] at s';cases s';exact .inl f
theorem Rel.iaT (R:Rel K F0 H₀ I env σ H) {b:Addr} (h:IA env σ b):∃ o,H b=some o/\Wr o=true:=by
 obtain ⟨i,⟨d,e | e⟩,s⟩:=h
 ·obtain ⟨a,s',_,_,t⟩:=R.own i d e;rw [s] at s';cases s';exact t.wr
 ·obtain ⟨a,s',_,_,t⟩:=R.ino i d e;rw [s] at s';cases s';exact t.wr
theorem Rel.iaI (R:Rel K F0 H₀ I env σ H) {b:Addr} (h:IA env σ b):H₀ b=none\/I b:=by
 obtain ⟨i,⟨d,e | e⟩,s⟩:=h
 ·obtain ⟨a,s',_,q,t⟩:=R.own i d e;rw [s] at s';cases s';exact q
 ·obtain ⟨a,s',_,q,t⟩:=R.ino i d e;rw [s] at s';cases s';exact .inr q
theorem Rel.fz (R:Rel K F0 H₀ I env σ H) {b:Addr} (h:FF F0 env σ b):H b≠none:=by
 rcases h with h | ⟨i,d,e,s⟩
 ·exact R.dom b h
 ·obtain ⟨o,q,_⟩:=R.iaT ⟨i,⟨d,.inl e⟩,s⟩;rw [q];exact nofun
theorem Rel.rW (R:Rel K F0 H₀ I env σ H) (k:∀ b o,H b=some o->¬IA env σ b->H' b=some o):Pr (FF F0 env σ) H H':=fun b o h n=>k b o h fun q=>by
 rcases n with n | n
 ·exact n (R.ia q)
 ·obtain ⟨o',h',w⟩:=R.iaT q;rw [h] at h';cases h';rw [n] at w;cases w
theorem Rel.rebase (R:Rel K F0 H₀ I env σ H):Rel K F0 H (IA env σ) env σ H :=
 ⟨R.len,R.dat,fun i d e=>let ⟨a,s,n,_,t⟩:=R.own i d e;⟨a,s,n,.inr ⟨i,⟨d,.inl e⟩,s⟩,t⟩,fun i d e=>let ⟨a,s,n,_,t⟩:=R.ino i d e;⟨a,s,n,⟨i,⟨d,.inr e⟩,s⟩,t⟩,R.ro,R.sep,R.dom,fun _ _ h _=>h⟩
theorem Rel.oi (R:Rel K F0 H₀ I env σ H) {a:Addr} (h:H a=none\/IA env σ a):H₀ a=none\/I a:=by
 rcases h with h | h
 ·cases e:H₀ a with
  | none=>exact .inl rfl
  | some o =>
   by_cases z:I a
   ·exact .inr z
   ·have:=R.f6 a o e z;rw [h] at this;cases this
 ·exact R.iaI h
theorem Rel.bU (R:Rel K F0 H₀ I env σ H) (S:Rel K F0 H (IA env σ) env' σ' H'):Rel K F0 H₀ I env' σ' H':=by
 refine ⟨S.len,S.dat,fun i d e=>?_,fun i d e=>?_,S.ro,S.sep,S.dom,fun b o h n=>?_⟩
 ·obtain ⟨a,s,n,q,t⟩:=S.own i d e;exact ⟨a,s,n,R.oi q,t⟩
 ·obtain ⟨a,s,n,q,t⟩:=S.ino i d e;refine ⟨a,s,n,?_,t⟩;obtain ⟨j,⟨d',e' | e'⟩,s'⟩:=q
  ·obtain ⟨a',s2,n',_⟩:=R.own j d' e';rw [s'] at s2;cases s2;exact absurd n n'
  ·obtain ⟨a',s2,_,n',_⟩:=R.ino j d' e';rw [s'] at s2;cases s2;exact n'
 ·refine S.f6 b o (R.f6 b o h n) fun q=>?_;rcases R.iaI q with z | z
  ·rw [h] at z;cases z
  ·exact n z
def Evo:Sl->Sl->Prop
 | .un,s=>s=.un
 | .dat d,s=>s=.dat d
 | .own _,s=>(∃ d,s=.own d)\/(∃ d,s=.dat d)\/s=.un
 | .ino _,s=>∃ d,s=.ino d
 | .ro d,s=>s=.ro d
def KpE (env env':En):Prop:=env'.length=env.length/\∀ (i:Nat) (s:Sl),env[i]?=some s->∃ s',env'[i]?=some s'/\Evo s s'
theorem Evo.refl:∀ s,Evo s s
 | .un=>rfl
 | .dat _=>rfl
 | .own d=>.inl ⟨d,rfl⟩
 | .ino d=>⟨d,rfl⟩
 | .ro _=>rfl
theorem Evo.trans:∀ {a b c:Sl},Evo a b->Evo b c->Evo a c
 | .un,b,c,h,q=>by rw [show b=.un from h] at q;exact q
 | .dat d,b,c,h,q=>by rw [show b=.dat d from h] at q;exact q
 | .own d,b,c,h,q=>by
  rcases h with ⟨d,rfl⟩ | ⟨d,rfl⟩ | rfl
  ·exact q
  ·exact .inr (.inl ⟨d,q⟩)
  ·exact .inr (.inr q)
 | .ino d,b,c,h,q=>by obtain ⟨d,rfl⟩:=h;exact q
 | .ro d,b,c,h,q=>by rw [show b=.ro d from h] at q;exact q
theorem KpE.refl (env:En):KpE env env:=⟨rfl,fun i s e=>⟨s,e,.refl s⟩⟩
theorem KpE.trans {e1 e2 e3:En} (a:KpE e1 e2) (b:KpE e2 e3):KpE e1 e3:=⟨b.1.trans a.1,fun i s e=>by
 obtain ⟨s1,h1,v1⟩:=a.2 i s e;obtain ⟨s2,h2,v2⟩:=b.2 i s1 h1
 exact ⟨s2,h2,v1.trans v2⟩⟩
theorem KpE.back (k:KpE env env') {i:Nat} {s':Sl} (e:env'[i]?=some s'):∃ s,env[i]?=some s/\Evo s s':=by
 have hi:i < env'.length:=(L5.mp e).1;have:env[i]?=some (env[i]'(by rw [<- k.1];exact hi)):=L6 _;obtain ⟨s2,h2,v⟩:=k.2 i _ this;rw [e] at h2;cases h2;exact ⟨_,this,v⟩
theorem KpE.own (k:KpE env env') {i:Nat} {d:PyData} (e:env'[i]?=some (.own d)):∃ d',env[i]?=some (.own d'):=by
 obtain ⟨s,h,v⟩:=k.back e;cases s with
 | un=>cases v
 | dat _=>cases v
 | own d'=>exact ⟨d',h⟩
 | ino _=>obtain ⟨_,v⟩:=v;cases v
 | ro _=>cases v
theorem KpE.ff (k:KpE env env') {b:Addr} (h:FF F0 env' σ b):FF F0 env σ b:=by
 rcases h with h | ⟨i,d,e,s⟩
 ·exact .inl h
 ·obtain ⟨d',e'⟩:=k.own e;exact .inr ⟨i,d',e',s⟩
theorem KpE.mu (k:KpE env env') {i:Nat} (h:mu env' i):mu env i:=by
 obtain ⟨d,h | h⟩:=h
 ·obtain ⟨d',e⟩:=k.own h;exact ⟨d',.inl e⟩
 ·obtain ⟨s,h,v⟩:=k.back h;cases s with
  | un=>cases v
  | dat _=>cases v
  | own d'=>rcases v with ⟨_,v⟩ | ⟨_,v⟩ | v <;> cases v
  | ino d'=>exact ⟨d',.inr h⟩
  | ro _=>cases v
theorem KpE.ia (k:KpE env env') {b:Addr} (h:IA env' σ b):IA env σ b:=let ⟨i,m,s⟩:=h;⟨i,k.mu m,s⟩
theorem Rel.tM (R:Rel K F0 H₀ I env σ H) (S:Rel K F0 H (IA env σ) env' σ H') (k:KpE env env') {d:PyData} {v:V} (h:Dm K (FF F0 env σ) H d v):Dm K (FF F0 env' σ) H' d v :=
 h.pr (R.rW fun b o e n=>S.f6 b o e n) fun _ z=>k.ff z
theorem Rel.same (R:Rel K F0 H₀ I env σ H) (s:bq H H'):Rel K F0 H₀ I env σ H':=by
 have p:Pr (FF F0 env σ) H H':=Pr.of_same s;refine ⟨R.len,fun i d e=>?_,fun i d e=>?_,fun i d e=>?_,fun i d e=>?_,R.sep,fun b h=>?_,fun b o h n=>s _ _ (R.f6 b o h n)⟩
 ·obtain ⟨v,q,r⟩:=R.dat i d e;exact ⟨v,q,r.pr p fun _ z=>z⟩
 ·obtain ⟨a,q,n,w,t⟩:=R.own i d e;exact ⟨a,q,n,w,t.pr p (fun _ z=>z) (fun o z=>s _ _ z)⟩
 ·obtain ⟨a,q,n,w,t⟩:=R.ino i d e;exact ⟨a,q,n,w,t.pr p (fun _ z=>z) (fun o z=>s _ _ z)⟩
 ·obtain ⟨a,q,t⟩:=R.ro i d e;exact ⟨a,q,t.pr p (fun _ z=>z) (fun _ z=>z) (fun b o z _=>s _ _ z)⟩
 ·cases e:H b with
  | none=>exact absurd e (R.dom b h)
  | some o=>rw [s _ _ e];exact nofun
theorem j5 {c:Addr}:FF (fun b=>F0 b\/b=c) env σ=fun b=>FF F0 env σ b\/b=c:=by
 funext b;apply propext;constructor
 ·rintro ((h | h) | h)
  ·exact .inl (.inl h)
  ·exact .inr h
  ·exact .inl (.inr h)
 ·rintro ((h | h) | h)
  ·exact .inl (.inl h)
  ·exact .inr h
  ·exact .inl (.inr h)
theorem Rel.fresh (R:Rel K F0 H₀ I env σ H) {c:Addr} (hc:H c=none) {H':Hp} (s:bq H H') (hc':H' c≠none):Rel K (fun b=>F0 b\/b=c) H₀ I env σ H':=by
 have p:Pr (fun b=>FF F0 env σ b\/b=c) H H':=Pr.of_same s;have na:∀ i a,mu env i->σ[i]?=some (some (.ref a))->a≠c:=fun i a m q z=>by
  obtain ⟨o,h,_⟩:=R.iaT ⟨i,m,q⟩;rw [z,hc] at h;cases h
 refine ⟨R.len,fun i d e=>?_,fun i d e=>?_,fun i d e=>?_,fun i d e=>?_,R.sep,fun b h=>?_,fun b o h n=>s _ _ (R.f6 b o h n)⟩
 ·obtain ⟨v,q,r⟩:=R.dat i d e;rw [j5];exact ⟨v,q,(r.fresh hc).pr p fun _ z=>z⟩
 ·obtain ⟨a,q,n,w,t⟩:=R.own i d e;rw [j5];exact ⟨a,q,fun z=>z.elim n (na i a ⟨d,.inl e⟩ q),w,(t.fresh hc).pr p (fun _ z=>z) (fun o z=>s _ _ z)⟩
 ·obtain ⟨a,q,n,w,t⟩:=R.ino i d e;rw [j5];exact ⟨a,q,.inl n,w,(t.fresh hc).pr p (fun _ z=>z) (fun o z=>s _ _ z)⟩
 ·obtain ⟨a,q,t⟩:=R.ro i d e;rw [j5];exact ⟨a,q,(t.fresh hc).pr p (fun _ z=>z) (fun _ z=>z) (fun b o z _=>s _ _ z)⟩
 ·rcases h with h | h
  ·cases e:H b with
   | none=>exact absurd e (R.dom b h)
   | some o=>rw [s _ _ e];exact nofun
  ·rw [h];exact hc'
theorem Rel.less {c:Addr} (R:Rel K (fun b=>F0 b\/b=c) H₀ I env σ H) (hi:∀ (i:Nat) (d:PyData),env[i]?=some (.ino d)->σ[i]?≠some (some (.ref c))):Rel K F0 H₀ I env σ H:=by
 have hf:∀ b,FF F0 env σ b->FF (fun b=>F0 b\/b=c) env σ b:=fun b z=>by rw [j5];exact .inl z
 refine ⟨R.len,fun i d e=>?_,fun i d e=>?_,fun i d e=>?_,fun i d e=>?_,R.sep,fun b h=>R.dom b (.inl h),R.f6⟩
 ·obtain ⟨v,q,r⟩:=R.dat i d e;exact ⟨v,q,r.mono hf⟩
 ·obtain ⟨a,q,n,w,t⟩:=R.own i d e;exact ⟨a,q,fun z=>n (.inl z),w,t.pr Pr.refl hf fun _ z=>z⟩
 ·obtain ⟨a,q,n,w,t⟩:=R.ino i d e;refine ⟨a,q,?_,w,t.pr Pr.refl hf fun _ z=>z⟩;rcases n with n | n
  ·exact n
  ·exact absurd (n▸q) (hi i d e)
 ·obtain ⟨a,q,t⟩:=R.ro i d e;exact ⟨a,q,t.pr Pr.refl hf (fun _ z=>z) fun _ _ z _=>z⟩
end
open PySem
def zY (K:Fg) (F:Addr->Prop) (H H':Hp):PR->V->Prop
 | .dat d,v=>Dm K F H' d v
 | .frs d,v=>∃ a,v=.ref a/\H a=none/\Top K (fun b=>F b\/b=a) H' d a
def VwL (K:Fg) (F:Addr->Prop) (H:Hp):List PyData->List V->Prop
 | [],vs=>vs=[]
 | d :: ds,vs=>∃ v r,vs=v :: r/\Vw K F H d v/\VwL K F H ds r
structure Cst where
 d:PyData
 v:V
 ok:∀ (K:Fg) (F:Addr->Prop) (H:Hp),Dm K F H d v
def Cst.i (i:Int):Cst:=⟨.int i,.int i,fun _ _ _=>rfl⟩
def Cst.s (x:Str) (h:x.length<=sizeLine) (h2:PyData.strOk x=true):Cst:=⟨.str x,.str x,fun _ _ _=>⟨rfl,h,h2⟩⟩
def Cst.b (b:Bool):Cst:=⟨.bool b,.bl b,fun _ _ _=>rfl⟩
def Cst.n:Cst:=⟨.none,.non,fun _ _ _=>rfl⟩
structure Prm where
 r:Fg->List V->Hp->VK->Prop
 f:List PyData->Option PR
 ok:∀ (K:Fg) (F:Addr->Prop) (H:Hp) (ds:List PyData) (vs:List V) (pr:PR) (Q:VK),f ds=some pr->VwL K F H ds vs->(∀ b,F b->H b≠none)->(∀ v H',bq H H'->zY K F H H' pr v->Q v H')->r K vs H Q
structure Mtd where
 T:String
 r:Fg->V->List V->Hp->VK->Prop
 ty:PyData->Bool
 f:PyData->List PyData->Option PR
 zj:∀ (K:Fg) (F:Addr->Prop) (H:Hp) (d:PyData) (v:V),ty d=true->Vw K F H d v->tyV K T v H
 ok:∀ (K:Fg) (F:Addr->Prop) (H:Hp) (d:PyData) (v:V) (ds:List PyData) (vs:List V) (pr:PR) (Q:VK),f d ds=some pr->Vw K F H d v->VwL K F H ds vs->(∀ b,F b->H b≠none)->(∀ v H',bq H H'->zY K F H H' pr v->Q v H')->r K v vs H Q
def MvL (K:Fg) (F:Addr->Prop) (H:Hp):List (Bool×PyData)->List V->Prop
 | [],vs=>vs=[]
 | (true,d) :: ds,vs=>∃ v r,vs=v :: r/\Dm K F H d v/\MvL K F H ds r
 | (false,d) :: ds,vs=>∃ v r,vs=v :: r/\Vw K F H d v/\MvL K F H ds r
structure Mtr where
 T:String
 r:Fg->V->List V->Hp->VK->Prop
 ty:PyData->Bool
 f:PyData->List (Bool×PyData)->Option (PyData×PyData)
 tq:Fg->V->Hp->Prop:=fun K x H=>tyV K T x H
 zj:∀ (K:Fg) (F:Addr->Prop) (H:Hp) (d:PyData) (a:Addr),ty d=true->Top K F H d a->tq K (.ref a) H
 ok:∀ (K:Fg) (F:Addr->Prop) (H:Hp) (d:PyData) (a:Addr) (as:List (Bool×PyData)) (vs:List V) (d' x:PyData) (Q:VK),f d as=some (d',x)->F a->Top K F H d a->(∀ b,F b->H b≠none)->MvL K F H as vs ->
  (∀ v H',(∀ b o,b≠a->H b=some o->H' b=some o)->Top K F H' d' a->Dm K F H' x v->Q v H')->r K (.ref a) vs H Q
structure zK where
 r:Fg->V->V->V->Hp->(Hp->Prop)->Prop
 f:PyData->PyData->PyData->Option PyData
 ok:∀ (K:Fg) (F:Addr->Prop) (H:Hp) (d:PyData) (a:Addr) (k x:PyData) (vk vx:V) (d':PyData) (Q:Hp->Prop),f d k x=some d'->F a->Top K F H d a->Vw K F H k vk->Dm K F H x vx ->
  (∀ H',(∀ b o,b≠a->H b=some o->H' b=some o)->Top K F H' d' a->Q H')->r K (.ref a) vk vx H Q
mutual
inductive XE where
 | var (i:Nat) | mov (i:Nat) | tke (i:Nat) | cst (c:Cst) | glb (g:Nat)
 | prm (p:Prm) (as:XA) | met (m:Mtd) (o:XE) (as:XA) | mtr (m:Mtr) (i:Nat) (as:XA) | call (f:Fn) (as:XA)
 | tup (as:XA) | lst (as:XA) | dsp (as:XP) | fst (as:XA)
 | ifx (c:XT) (a b:XE) | mw (a b:XE) | orv (a b:XE) | B0 (a:XE) | chn (p q:Prm) (a b c:XE) | sl2 (p:Int->Int->Prm) (a b c:XE)
 | cmp (js:List Nat) (it:XI) (c:XT) (e:XE) | CP (n:List Str) (js:List Nat) (it:XI) (e:XE)
inductive XA where | nil | cons (e:XE) (r:XA)
inductive XP where | nil | cons (k e:XE) (r:XP)
inductive XT where | tst (e:XE) | tru (e:XE) | and (a b:XT) | or (a b:XT) | not (a:XT) | yes
inductive XI where | lst (e:XE) | tup (e:XE) | str (e:XE) | rng1 (as:XA) | rng2 (as:XA) | dct (e:XE) | zip (as:XA) | sq (e:XE) | itm (e:XE)
end
inductive XS where
 | skip | seq (a b:XS) | bc (i:Nat) (e:XE) | rJ (i:Nat) (e:XE) | C1 (is:List Nat) (e:XE) | drop (e:XE) | ret (e:XE) | GI
 | ifs (c:XT) (a b:XS) | fr (i:Nat) (it:XI) (b:XS) | frT (is:List Nat) (it:XI) (b:XS) | wh (n:Nat) (c:XT) (b:XS) | brk | cnt | nev | sto (m:zK) (i:Nat) (k e:XE)
def gNs:List Nat->TGs
 | []=>GH
 | i :: r=>zM (cy i) (gNs r)
def gTp (K:PySem.W.Frag) (is:List Nat):TG:=GJ K is.length (gNs is)
noncomputable def LX:Nat->List Nat:=List.range
def LQ:List TE->TE:=fun ts=>tFs ts Str.empty
def NoE:XK:=fun _ _ _=>False
def Bc (K:PySem.W.Frag) (G I:Addr->Prop) (H:Hp) (d:PyData) (v:V):Prop:=match d with
 | .tuple ds=>Dm K G H (.tuple ds) v
 | d=>∃ a,v=.ref a/\iw K G I H d a
def bY (K:PySem.W.Frag) (G I:Addr->Prop) (H:Hp):List PM->List PyData->List V->List Addr->Prop
 | [],[],[],is=>is=[]
 | .dat :: ms,d :: ds,v :: vs,is=>Dm K G H d v/\bY K G I H ms ds vs is
 | .bor :: ms,d :: ds,v :: vs,is=>Bc K G I H d v/\bY K G I H ms ds vs is
 | .ino :: ms,d :: ds,v :: vs,is=>∃ a r,v=.ref a/\is=a :: r/\G a/\Top K G H d a/\a ∉ r/\bY K G I H ms ds vs r
 | _,_,_,_=>False
def k8 (K:PySem.W.Frag) (G:Addr->Prop) (H:Hp):List PyData->List Addr->Prop
 | [],[]=>True
 | d :: ds,a :: r=>Top K G H d a/\k8 K G H ds r
 | _,_=>False
def IQ (K:PySem.W.Frag) (G:Addr->Prop) (H H':Hp) (outs:List PyData) (is:List Addr):PR->V->Prop
 | .dat d,v=>Dm K G H' d v/\k8 K G H' outs is
 | .frs d,v=>∃ a,v=.ref a/\H a=none/\Top K (fun b=>G b\/b=a) H' d a/\k8 K (fun b=>G b\/b=a) H' outs is
def bu (f:Fn) (K:PySem.W.Frag):Sp:=fun vs H Q _=>∃ (G:Addr->Prop) (ds:List PyData) (is:List Addr) (pr:PR) (outs:List PyData),f.F ds=some (pr,outs)/\bY K G (·∈is) H f.ms ds vs is/\(∀ b,G b->H b≠none) /\
 ∀ v' H',(∀ b o,H b=some o->b ∉ is->H' b=some o)->IQ K G H H' outs is pr v'->Q v' H'
section
variable (K:PySem.W.Frag) (ga:Nat->V)
mutual
noncomputable def rE:XE->TE
 | .var i=>bE i | .mov i=>bE i | .tke i=>bE i | .cst c=>tC c.v | .glb g=>tC (ga g)
 | .prm p as=>tCB (p.r K) (rA as) | .met m o as=>tBM K m.T (m.r K) (rE o) (rA as) | .mtr m i as=>fun σ H Q=>bE i σ H fun x H1=>m.tq K x H1/\rA as σ H1 fun xs H2=>m.r K x xs H2 Q | .call f as=>gx (bu f K) [] NoE (rA as)
 | .tup as=>CW (rA as) | .lst as=>lL (rA as) | .dsp as=>fun _ _ _=>False | .fst as=>LQ (rF as)
 | .ifx c a b=>tIf (rT c) (rE a) (rE b) | .mw a b=>AY (rE a) (rE b) | .orv a b=>IW (rE a) (rE b) | .B0 a=>BX (rE a)
 | .chn p q a b c=>oO (fun x y=>p.r K [x,y]) (fun x y=>q.r K [x,y]) (rE a) (rE b) (rE c)
 | .sl2 p a b c=>fun σ H Q=>rE a σ H fun x H1=>rE b σ H1 fun y H2=>∃ i,y=.int i/\rE c σ H2 fun z H3=>∃ j,z=.int j/\(p i j).r K [x] H3 Q
 | .cmp js it c e=>pL js (rI_ it) (rT c) (rE e) | .CP n js it e=>xH n js (rI_ it) (gTp K (List.range n.length)) (rE e)
noncomputable def rA:XA->TA
 | .nil=>cu | .cons e r=>ay (rE e) (rA r)
noncomputable def rF:XA->List TE
 | .nil=>[] | .cons e r=>rE e :: rF r
noncomputable def rP:XP->List (TE×TE)
 | .nil=>[] | .cons k e r=>(rE k,rE e) :: rP r
noncomputable def rT:XT->TT
 | .tst e=>tB (rE e) | .tru e=>Ky K (rE e) | .and a b=>Ic (rT a) (rT b) | .or a b=>tOr (rT a) (rT b) | .not a=>Gx (rT a) | .yes=>EF
noncomputable def rI_:XI->TI
 | .lst e=>yH K (rE e) | .tup e=>CT K (rE e) | .str e=>GB (rE e) | .rng1 as=>Bm (rA as) | .rng2 as=>Hk (rA as) | .dct e=>GB (rE e) | .zip as=>Jk K (rA as) | .sq e=>Lq K (rE e) | .itm e=>K7 K (ay (rE e) cu)
end
def rS:XS->TS
 | .skip=>lg | .seq a b=>mh (rS a) (rS b) | .bc i e=>om (rE K ga e) (cy i) | .rJ i e=>om (rE K ga e) (cy i) | .C1 is e=>om (rE K ga e) (gTp K is) | .drop e=>ud (rE K ga e) | .ret e=>vg (rE K ga e) | .GI=>Hj
 | .ifs c a b=>wq (rT K ga c) (rS a) (rS b) | .fr i it b=>D3 (rI_ K ga it) (cy i) (rS b) | .frT is it b=>D3 (rI_ K ga it) (gTp K is) (rS b) | .wh n c b=>xI (rT K ga c) (rS b) | .brk=>Eg | .cnt=>JQ | .nev=>wA
 | .sto m i k e=>fun D σ H=>rE K ga e σ H fun x H1=>bE i σ H1 fun o H2=>rE K ga k σ H2 fun y H3=>m.r K o y x H3 (D.nx σ)
end
noncomputable def JY:PyData->Bool
 | .none=>false | .bool b=>b | .int i=>i != 0 | .str x=>(x.length:Int) != 0 | .list ds=>!ds.isEmpty | .tuple ds=>!ds.isEmpty | .dict ds=>!ds.isEmpty
noncomputable def LW:PyData->Bool | .str _=>true | _=>false
noncomputable def EV:PyData->Bool | .dict _=>true | _=>false
noncomputable def se (lk:Bool):Sl->Sl
 | .own d=>if lk then .ro d else .ino d
 | .ino d=>if lk then .ro d else .ino d
 | s=>s
noncomputable def fQ (env:En) (lock:Option Nat) (js:List Nat):En:=js.map fun j=>se (decide (lock=some j)) (env[j]?.getD .un)
noncomputable def aY:En->List Nat->En->En
 | env,j :: js,.ino d :: es=>aY (gz env j d) js es
 | env,_ :: js,_ :: es=>aY env js es
 | env,_,_=>env
noncomputable def yn (step:PyData->En->Option (Option PyData×En)):List PyData->En->Option (List PyData×En)
 | [],env=>some ([],env)
 | d :: ds,env=>match step d env with
  | some (y,e1)=>match yn step ds e1 with
   | some (ys,e2)=>some (y.toList++ys,e2)
   | none=>none
  | none=>none
noncomputable def Jq (env:En):PM->AV->Option PyData
 | .dat,.dat d=>some d
 | .bor,.dat (.list d)=>some (.list d)
 | .bor,.dat (.dict d)=>some (.dict d)
 | .bor,.dat (.tuple d)=>some (.tuple d)
 | .bor,.bor i=>cont env i
 | .ino,.bor i=>aQ env i
 | _,_=>none
noncomputable def kN (env:En):List PM->List AV->Option (List PyData)
 | [],[]=>some []
 | m :: ms,a :: as=>match Jq env m a,kN env ms as with
  | some d,some ds=>some (d :: ds)
  | _,_=>none
 | _,_=>none
noncomputable def c7:List PM->List AV->List Nat
 | .ino :: ms,.bor i :: as=>i :: c7 ms as
 | _ :: ms,_ :: as=>c7 ms as
 | _,_=>[]
noncomputable def vh:List PM->List AV->List Nat
 | .bor :: ms,.bor i :: as=>i :: vh ms as
 | _ :: ms,_ :: as=>vh ms as
 | _,_=>[]
noncomputable def dW:En->List Nat->List PyData->En
 | env,i :: is,d :: ds=>dW (gz env i d) is ds
 | env,_,_=>env
noncomputable def Bg:List Nat->Bool
 | []=>true
 | x :: xs=>!xs.contains x&&Bg xs
noncomputable def ckA (is bs:List Nat) (n:Nat):Bool:=Bg is&&(bs.all (fun i=>!is.contains i)&&n==is.length)
noncomputable def zo (f:Fn) (avs:List AV) (env:En):Option (RV×En) :=
 match kN env f.ms avs with
 | none=>none
 | some ds=>match f.F ds with
  | none=>none
  | some (pr,outs)=>if ckA (c7 f.ms avs) (vh f.ms avs) outs.length=true then some (pr.rv,dW env (c7 f.ms avs) outs) else none
noncomputable def aK (env:En):List AV->Option (List PyData)
 | []=>some []
 | a :: as=>match a.view env,aK env as with
  | some d,some ds=>some (d :: ds)
  | _,_=>none
noncomputable def AV.Hv:AV->Bool | .dat _=>true | .bor _=>false
noncomputable def b4 (env:En):List AV->Option (List (Bool×PyData))
 | []=>some []
 | a :: as=>match a.view env,b4 env as with
  | some d,some ds=>some ((a.Hv,d) :: ds)
  | _,_=>none
noncomputable def pJ:List AV->Option (List PyData)
 | []=>some []
 | .dat d :: as=>match pJ as with | some ds=>some (d :: ds) | none=>none
 | .bor _ :: _=>none
noncomputable def keyOf:PyData->Option Key | .int i=>some (.inl i) | .str x=>some (.inr x) | _=>none
noncomputable def getD (kvs:List (PyData×PyData)) (k:PyData):Option PyData:=(kvs.find? fun kv=>PyData.eqv kv.1 k).map (·.2)
noncomputable def cm (env:En):Option Nat->En
 | some i=>match env[i]? with | some (.own d)=>env.set i (.ro d) | some (.ino d)=>env.set i (.ro d) | _=>env
 | none=>env
noncomputable def aF (Gv:En) (lock:Option Nat) (env:En):En:=match lock with
 | some i=>match Gv[i]?,env[i]? with
  | some (.own _),some (.ro d)=>env.set i (.own d)
  | some (.ino _),some (.ro d)=>env.set i (.ino d)
  | _,_=>env
 | none=>env
noncomputable def fy (t:En->Option (Bool×En)) (b:En->Option (RV×En)) (d:PyData) (ec:En):Option (Option PyData×En):=match t (.dat d :: ec) with
 | some (true,e2)=>match b e2 with
  | some (rv,e3)=>match rv.av with | .dat y=>some (some y,e3.tail) | .bor _=>none
  | none=>none
 | some (false,e2)=>some (none,e2.tail)
 | none=>none
noncomputable def gI (n:Nat) (b:En->Option (RV×En)) (d:PyData) (ec:En):Option (Option PyData×En):=match d with
 | .tuple xs=>if xs.length=n then match b (xs.map .dat++ec) with
   | some (rv,e3)=>match rv.av with | .dat y=>some (some y,e3.drop n) | .bor _=>none
   | none=>none
  else none
 | _=>none
noncomputable def roL (e:En):AV->Option (List PyData)
 | .dat (.list xs)=>some xs
 | .bor i=>match e[i]? with | some (.ro (.list xs))=>some xs | _=>none
 | _=>none
mutual
noncomputable def dE (gd:List PyData):XE->En->Option (RV×En)
 | .var i,env=>match env[i]? with | some (.dat d)=>some (.dat d,env) | some (.own _)=>some (.bor i,env) | some (.ino _)=>some (.bor i,env) | some (.ro _)=>some (.bor i,env) | _=>none
 | .mov i,env=>match env[i]? with | some (.own d)=>some (.dat d,env.set i (.dat d)) | _=>none
 | .tke i,env=>match env[i]? with | some (.own d)=>some (.frs d,env.set i .un) | _=>none
 | .cst c,env=>some (.dat c.d,env)
 | .glb g,env=>match gd[g]? with | some d=>some (.dat d,env) | none=>none
 | .prm p as,env=>match dA gd as env with
  | some (avs,e1)=>match aK e1 avs with
   | some ds=>match p.f ds with | some pr=>some (pr.rv,e1) | none=>none
   | none=>none
  | none=>none
 | .met m o as,env=>match dE gd o env with
  | some (rv,e1)=>match rv.view e1 with
   | some d0=>if m.ty d0=true then match dA gd as e1 with
     | some (avs,e2)=>match rv.view e2,aK e2 avs with
      | some d,some ds=>match m.f d ds with | some pr=>some (pr.rv,e2) | none=>none
      | _,_=>none
     | none=>none
    else none
   | none=>none
  | none=>none
 | .mtr m i as,env=>match aQ env i with
  | some d0=>if m.ty d0=true then match dA gd as env with
    | some (avs,e1)=>match aQ e1 i,b4 e1 avs with
     | some d,some ds=>match m.f d ds with | some (d',x)=>some (.dat x,gz e1 i d') | none=>none
     | _,_=>none
    | none=>none
   else none
  | none=>none
 | .call f as,env=>match dA gd as env with
  | some (avs,e1)=>zo f avs e1
  | none=>none
 | .tup as,env=>match dA gd as env with
  | some (avs,e1)=>match pJ avs with | some ds=>if ds.length<=sizeLine then some (.dat (.tuple ds),e1) else none | none=>none
  | none=>none
 | .lst as,env=>match dA gd as env with
  | some (avs,e1)=>match pJ avs with | some ds=>if ds.length<=sizeLine then some (.frs (.list ds),e1) else none | none=>none
  | none=>none
 | .dsp as,env=>none
 | .fst as,env=>match dF gd as Str.empty env with
  | some (x,e1)=>some (.dat (.str x),e1)
  | none=>none
 | .ifx c a b,env=>match dT gd c env with
  | some (true,e1)=>dE gd a e1
  | some (false,e1)=>dE gd b e1
  | none=>none
 | .mw a b,env=>match dE gd a env with
  | some (.dat (.bool true),e1)=>dE gd b e1
  | some (.dat (.bool false),e1)=>some (.dat (.bool false),e1)
  | _=>none
 | .orv a b,env=>match dE gd a env with
  | some (.dat (.bool true),e1)=>some (.dat (.bool true),e1)
  | some (.dat (.bool false),e1)=>dE gd b e1
  | _=>none
 | .B0 a,env=>match dE gd a env with
  | some (.dat (.bool x),e1)=>some (.dat (.bool (!x)),e1)
  | _=>none
 | .chn p q a b c,env=>match dE gd a env with
  | some (ra,e1)=>match dE gd b e1 with
   | some (rb,e2)=>match ra.av,rb.av with
    | .dat x,.dat y=>match p.f [x,y] with
     | some (.dat (.bool true))=>match dE gd c e2 with
      | some (rc,e3)=>match rc.av with
       | .dat z=>match q.f [y,z] with | some pr=>some (pr.rv,e3) | none=>none
       | _=>none
      | none=>none
     | some (.dat (.bool false))=>some (.dat (.bool false),e2)
     | _=>none
    | _,_=>none
   | none=>none
  | none=>none
 | .sl2 p a b c,env=>match dE gd a env with
  | some (ra,e1)=>match dE gd b e1 with
   | some (.dat (.int i),e2)=>match dE gd c e2 with
    | some (.dat (.int j),e3)=>match ra.view e3 with
     | some d=>match (p i j).f [d] with | some pr=>some (pr.rv,e3) | none=>none
     | none=>none
    | _=>none
   | _=>none
  | none=>none
 | .cmp js it c e,env=>match dI gd it env with
  | some (ds,lock,e1)=>if js.Nodup then match yn (fy (dT gd c) (dE gd e)) ds (fQ e1 lock js) with
    | some (ys,ec)=>some (.frs (.list ys),aY e1 js ec)
    | none=>none
   else none
  | none=>none
 | .CP n js it e,env=>match dI gd it env with
  | some (ds,lock,e1)=>if js.Nodup then match yn (gI n.length (dE gd e)) ds (fQ e1 lock js) with
    | some (ys,ec)=>some (.frs (.list ys),aY e1 js ec)
    | none=>none
   else none
  | none=>none
noncomputable def dA (gd:List PyData):XA->En->Option (List AV×En)
 | .nil,env=>some ([],env)
 | .cons e r,env=>match dE gd e env with
  | some (rv,e1)=>match dA gd r e1 with
   | some (avs,e2)=>some (rv.av :: avs,e2)
   | none=>none
  | none=>none
noncomputable def dF (gd:List PyData):XA->Str->En->Option (Str×En)
 | .nil,out,env=>if out.length<=sizeLine then some (out,env) else none
 | .cons e r,out,env=>match dE gd e env with
  | some (.dat (.str x),e1)=>if (out++x).length<=sizeLine then dF gd r (out++x) e1 else none
  | _=>none
noncomputable def dP (gd:List PyData):XP->En->Option (List (Key×PyData)×En)
 | .nil,env=>some ([],env)
 | .cons k e r,env=>match dE gd k env with
  | some (rk,e1)=>match dE gd e e1 with
   | some (rv,e2)=>match dP gd r e2 with
    | some (kvs,e3)=>match rk.av,rv.av with
     | .dat dk,.dat d=>match keyOf dk with | some k=>some ((k,d) :: kvs,e3) | none=>none
     | _,_=>none
    | none=>none
   | none=>none
  | none=>none
noncomputable def dT (gd:List PyData):XT->En->Option (Bool×En)
 | .tst e,env=>match dE gd e env with | some (.dat (.bool b),e1)=>some (b,e1) | _=>none
 | .tru e,env=>match dE gd e env with
  | some (rv,e1)=>match rv.view e1 with | some d=>if EV d=true then none else some (JY d,e1) | none=>none
  | none=>none
 | .and a b,env=>match dT gd a env with | some (true,e1)=>dT gd b e1 | some (false,e1)=>some (false,e1) | none=>none
 | .or a b,env=>match dT gd a env with | some (true,e1)=>some (true,e1) | some (false,e1)=>dT gd b e1 | none=>none
 | .not a,env=>match dT gd a env with | some (b,e1)=>some (!b,e1) | none=>none
 | .yes,env=>some (true,env)
noncomputable def dI (gd:List PyData):XI->En->Option (List PyData×Option Nat×En)
 | .lst e,env=>match dE gd e env with
  | some (rv,e1)=>match rv.av with
   | .dat (.list ds)=>some (ds,none,e1)
   | .dat _=>none
   | .bor i=>match cont e1 i with | some (.list ds)=>some (ds,some i,e1) | _=>none
  | none=>none
 | .dct e,env=>none
 | .tup e,env=>match dE gd e env with
  | some (rv,e1)=>match rv.av with | .dat (.tuple ds)=>some (ds,none,e1) | _=>none
  | none=>none
 | .itm e,env=>match dE gd e env with
  | some (rv,e1)=>match rv.av with
   | .dat (.list ds)=>some (ds.zipIdx.map fun p=>.tuple [.int p.2,p.1],none,e1)
   | _=>none
  | none=>none
 | .sq e,env=>match dE gd e env with
  | some (rv,e1)=>match rv.av with
   | .dat (.list ds)=>some (ds,none,e1)
   | .dat (.tuple ds)=>some (ds,none,e1)
   | .dat _=>none
   | .bor i=>match cont e1 i with | some (.list ds)=>some (ds,some i,e1) | _=>none
  | none=>none
 | .str e,env=>match dE gd e env with
  | some (rv,e1)=>match rv.av with | .dat (.str x)=>some (x.cps.toList.map fun c=>.str ⟨#[c]⟩,none,e1) | _=>none
  | none=>none
 | .rng1 as,env=>match dA gd as env with
  | some (avs,e1)=>match avs with | [.dat (.int j)]=>if -(2 ^ 62)<=j/\j<=2 ^ 24 then some ((List.range j.toNat).map fun (k:Nat)=>.int ((0:Int)+(k:Int)),none,e1) else none | _=>none
  | none=>none
 | .zip as,env=>match dA gd as env with
  | some (avs,e1)=>match avs with
   | [.dat (.tuple xs),.dat (.tuple ys)]=>if xs.length=ys.length then some ((xs.zip ys).map fun p=>.tuple [p.1,p.2],none,e1) else none
   | _=>none
  | none=>none
 | .rng2 as,env=>match dA gd as env with
  | some (avs,e1)=>match avs with | [.dat (.int i),.dat (.int j)]=>if -(2 ^ 62)<=i/\i < 2 ^ 62/\-(2 ^ 62)<=j/\j < 2 ^ 62/\j - i<=2 ^ 24 then some ((List.range (j - i).toNat).map fun (k:Nat)=>.int (i+(k:Int)),none,e1) else none | _=>none
  | none=>none
end
noncomputable def lkd (env:En):Option Nat->Bool
 | some i=>match env[i]? with | some (.own _)=>true | some (.ino _)=>true | _=>false
 | none=>false
noncomputable def RV.soft (b:Bool):RV->RV | .frs d=>if b then .dat d else .frs d | r=>r
inductive Out where | nx (env:En) | rt (rv:RV) (env:En) | bk (env:En) | ct (env:En)
noncomputable def Out.map (b:Bool) (f:En->En):Out->Out | .nx e=>.nx (f e) | .rt r e=>.rt (r.soft b) (f e) | .bk e=>.bk (f e) | .ct e=>.ct (f e)
noncomputable def forL (b:PyData->En->Option Out):List PyData->En->Option Out
 | [],env=>some (.nx env)
 | d :: ds,env=>match b d env with
  | some (.nx e)=>forL b ds e
  | some (.ct e)=>forL b ds e
  | some (.bk e)=>some (.nx e)
  | some (.rt r e)=>some (.rt r e)
  | none=>none
noncomputable def whL (t:En->Option (Bool×En)) (b:En->Option Out):Nat->En->Option Out
 | 0,_=>none
 | n+1,env=>match t env with
  | some (true,e1)=>match b e1 with
   | some (.nx e)=>whL t b n e
   | some (.ct e)=>whL t b n e
   | some (.bk e)=>some (.nx e)
   | some (.rt r e)=>some (.rt r e)
   | none=>none
  | some (false,e1)=>some (.nx e1)
  | none=>none
noncomputable def free (env:En) (i:Nat):Bool:=match env[i]? with | some .un=>true | some (.dat _)=>true | some (.own _)=>true | _=>false
noncomputable def gW:En->List Nat->List PyData->Option En
 | env,[],[]=>some env
 | env,i :: is,d :: ds=>if free env i=true then gW (env.set i (.dat d)) is ds else none
 | _,_,_=>none
noncomputable def mM (i:Nat) (b:En->Option Out) (d:PyData) (e:En):Option Out:=if free e i=true then b (e.set i (.dat d)) else none
noncomputable def j9 (is:List Nat) (b:En->Option Out) (d:PyData) (e:En):Option Out:=match d with
 | .tuple xs=>match gW e is xs with | some e2=>b e2 | none=>none
 | _=>none
noncomputable def dS (gd:List PyData):XS->En->Option Out
 | .skip,env=>some (.nx env)
 | .seq a b,env=>match dS gd a env with
  | some (.nx e)=>dS gd b e
  | o=>o
 | .bc i e,env=>match dE gd e env with
  | some (rv,e1)=>match rv.av with | .dat d=>if free e1 i=true then some (.nx (e1.set i (.dat d))) else none | .bor _=>none
  | none=>none
 | .rJ i e,env=>match dE gd e env with
  | some (.frs d,e1)=>if free e1 i=true then some (.nx (e1.set i (.own d))) else none
  | _=>none
 | .C1 is e,env=>match dE gd e env with
  | some (rv,e1)=>match rv.av with
   | .dat (.tuple ds)=>match gW e1 is ds with | some e2=>some (.nx e2) | none=>none
   | _=>none
  | none=>none
 | .drop e,env=>match dE gd e env with | some (_,e1)=>some (.nx e1) | none=>none
 | .ret e,env=>match dE gd e env with | some (rv,e1)=>some (.rt rv e1) | none=>none
 | .GI,env=>some (.rt (.dat .none) env)
 | .ifs c a b,env=>match dT gd c env with
  | some (true,e1)=>dS gd a e1
  | some (false,e1)=>dS gd b e1
  | none=>none
 | .fr i it b,env=>match dI gd it env with
  | some (ds,lock,e1)=>(forL (mM i (dS gd b)) ds (cm e1 lock)).map (Out.map (lkd e1 lock) (aF e1 lock))
  | none=>none
 | .frT is it b,env=>match dI gd it env with
  | some (ds,lock,e1)=>(forL (j9 is (dS gd b)) ds (cm e1 lock)).map (Out.map (lkd e1 lock) (aF e1 lock))
  | none=>none
 | .wh n c b,env=>whL (dT gd c) (dS gd b) n env
 | .brk,env=>some (.bk env)
 | .cnt,env=>some (.ct env)
 | .nev,_=>none
 | .sto m i k e,env=>match dE gd e env with
  | some (rv,e1)=>match rv.av with
   | .dat x=>match aQ e1 i with
    | some _=>match dE gd k e1 with
     | some (rk,e2)=>match rk.view e2,aQ e2 i with
      | some dk,some d=>match m.f d dk x with | some d'=>some (.nx (gz e2 i d')) | none=>none
      | _,_=>none
     | none=>none
    | none=>none
   | .bor _=>none
  | none=>none
noncomputable def CO:PyData->Sl | .tuple ds=>.dat (.tuple ds) | d=>.ro d
noncomputable def au:List PM->List PyData->Nat->En
 | .dat :: ms,d :: ds,n=>.dat d :: au ms ds (n - 1)
 | .bor :: ms,d :: ds,n=>CO d :: au ms ds (n - 1)
 | .ino :: ms,d :: ds,n=>.ino d :: au ms ds (n - 1)
 | _,_,n=>List.replicate n .un
noncomputable def kS:List PM->En->Option (List PyData)
 | .ino :: ms,.ino d :: es=>match kS ms es with | some ds=>some (d :: ds) | none=>none
 | .ino :: _,_=>none
 | _ :: ms,_ :: es=>kS ms es
 | _,_=>some []
noncomputable def RV.pr:RV->Option PR | .dat d=>some (.dat d) | .frs d=>some (.frs d) | .bor _=>none
noncomputable def bX (gd:List PyData) (ms:List PM) (n:Nat) (b:XS):Fn where
 ms:=ms
 F:=fun ds=>if ds.length=ms.length then match dS gd b (au ms ds n) with
   | some (.rt rv env)=>match rv.pr,kS ms env with | some pr,some outs=>some (pr,outs) | _,_=>none
   | some (.nx env)=>match kS ms env with | some outs=>some (.dat .none,outs) | none=>none
   | _=>none
  else none
open PySem
theorem bq.rf (H:Hp):bq H H:=fun _ _ h=>h
theorem bq.nw {H:Hp} {a:Addr} (o:HO) (h:H a=none):bq H (upd H a o):=fun b u q=>by rw [ao (aD q h)];exact q
section
variable {K:Fg} {F F' I I' F0:Addr->Prop} {H H' H₀:Hp} {env env':En} {σ σ':St} {ga:Nat->V} {gd:List PyData}
def jO (K:Fg) (F0:Addr->Prop) (H₀:Hp) (I:Addr->Prop) (env:En) (σ:St) (H:Hp):RV->V->Prop
 | .dat d,v=>Dm K (FF F0 env σ) H d v
 | .bor i,v=>σ[i]?=some (some v)
 | .frs d,v=>∃ a,v=.ref a/\Rel K (fun b=>F0 b\/b=a) H₀ I env σ H/\Top K (fun b=>FF F0 env σ b\/b=a) H d a/\(H₀ a=none\/I a)/\¬FF F0 env σ a/\(∀ (i:Nat) (d':PyData),env[i]?=some (.ino d')->σ[i]?≠some (some (.ref a))) /\
   ∀ (i:Nat) (d':PyData),env[i]?=some (.ro d')->∃ b,σ[i]?=some (some (.ref b))/\iw K (fun b=>FF F0 env σ b\/b=a) (fun b=>IA env σ b\/b=a) H d' b
def A4 (K:Fg) (F0:Addr->Prop) (env:En) (σ:St) (H:Hp):AV->V->Prop
 | .dat d,v=>Dm K (FF F0 env σ) H d v
 | .bor i,v=>σ[i]?=some (some v)
def jJ (K:Fg) (F0:Addr->Prop) (env:En) (σ:St) (H:Hp):List AV->List V->Prop
 | [],vs=>vs=[]
 | a :: as,vs=>∃ v r,vs=v :: r/\A4 K F0 env σ H a v/\jJ K F0 env σ H as r
theorem jO.av {rv:RV} {v:V} (h:jO K F0 H₀ I env σ H rv v):A4 K F0 env σ H rv.av v:=by
 cases rv with
 | dat d=>exact h
 | bor i=>exact h
 | frs d =>
  obtain ⟨a,e,R,t,_,n,_⟩:=h;subst e;exact (t.pr Pr.refl (F':=FF F0 env σ) (fun _ z=>.inl z) (fun _ z=>z)).dm n
theorem A4.keep (R:Rel K F0 H₀ I env σ H) (S:Rel K F0 H (IA env σ) env' σ H') (k:KpE env env') {a:AV} {v:V} (h:A4 K F0 env σ H a v):A4 K F0 env' σ H' a v:=by
 cases a with
 | dat d=>exact R.tM S k h
 | bor i=>exact h
theorem Rel.Ia (R:Rel K F0 H₀ I env σ H) {i:Nat} {d:PyData} {v:V} (h:cont env i=some d) (s:σ[i]?=some (some v)):Vw K (FF F0 env σ) H d v:=by
 unfold cont at h;cases e:env[i]? with
 | none=>rw [e] at h;cases h
 | some sl =>
  rw [e] at h;cases sl with
  | un=>cases h
  | dat _=>cases h
  | own d' =>
   cases h;obtain ⟨a,q,_,_,t⟩:=R.own i d e;rw [s] at q;cases q;exact t.r.vw
  | ino d' =>
   cases h;obtain ⟨a,q,_,_,t⟩:=R.ino i d e;rw [s] at q;cases q;exact t.r.vw
  | ro d' =>
   cases h;obtain ⟨a,q,t⟩:=R.ro i d e;rw [s] at q;cases q;exact t.r.vw
theorem Rel.eD (R:Rel K F0 H₀ I env σ H) {i:Nat} {d:PyData} (h:aQ env i=some d):mu env i/\∃ a,σ[i]?=some (some (.ref a))/\FF F0 env σ a/\Top K (FF F0 env σ) H d a:=by
 unfold aQ at h;cases e:env[i]? with
 | none=>rw [e] at h;cases h
 | some sl =>
  rw [e] at h;cases sl with
  | un=>cases h
  | dat _=>cases h
  | own d' =>
   cases h;obtain ⟨a,q,_,_,t⟩:=R.own i d e;exact ⟨⟨d,.inl e⟩,a,q,.inr ⟨i,d,e,q⟩,t⟩
  | ino d' =>
   cases h;obtain ⟨a,q,f,_,t⟩:=R.ino i d e;exact ⟨⟨d,.inr e⟩,a,q,.inl f,t⟩
  | ro d'=>cases h
theorem A4.vw (R:Rel K F0 H₀ I env σ H) {a:AV} {v:V} {d:PyData} (h:A4 K F0 env σ H a v) (e:a.view env=some d):Vw K (FF F0 env σ) H d v:=by
 cases a with
 | dat d'=>cases e;exact Dm.vw h
 | bor i=>exact R.Ia e h
theorem jJ.vw (R:Rel K F0 H₀ I env σ H):∀ {as:List AV} {vs:List V} {ds:List PyData},jJ K F0 env σ H as vs->aK env as=some ds->VwL K (FF F0 env σ) H ds vs
 | [],_,ds,h,e=>by cases e;exact h
 | a :: as,_,ds,h,e=>by
  obtain ⟨v,r,rfl,h1,h2⟩:=h;unfold aK at e;cases e1:a.view env with
  | none=>rw [e1] at e;cases e
  | some d =>
   cases e2:aK env as with
   | none=>rw [e1,e2] at e;cases e
   | some ds' =>
    rw [e1,e2] at e;cases e;exact ⟨v,r,rfl,h1.vw R e1,jJ.vw R h2 e2⟩
theorem jJ.mv (R:Rel K F0 H₀ I env σ H):∀ {as:List AV} {vs:List V} {ds:List (Bool×PyData)},jJ K F0 env σ H as vs->b4 env as=some ds->MvL K (FF F0 env σ) H ds vs
 | [],_,ds,h,e=>by cases e;exact h
 | a :: as,_,ds,h,e=>by
  obtain ⟨v,r,rfl,h1,h2⟩:=h;unfold b4 at e;cases e1:a.view env with
  | none=>rw [e1] at e;cases e
  | some d =>
   cases e2:b4 env as with
   | none=>rw [e1,e2] at e;cases e
   | some ds' =>
    rw [e1,e2] at e;cases e;have ih:=jJ.mv R h2 e2;cases a with
    | dat d'=>cases e1;exact ⟨v,r,rfl,h1,ih⟩
    | bor i=>exact ⟨v,r,rfl,h1.vw R e1,ih⟩
theorem jJ.HF:∀ {as:List AV} {vs:List V} {ds:List PyData},jJ K F0 env σ H as vs->pJ as=some ds->DmL K (FF F0 env σ) H ds vs
 | [],_,ds,h,e=>by cases e;exact h
 | .dat d :: as,_,ds,h,e=>by
  obtain ⟨v,r,rfl,h1,h2⟩:=h;unfold pJ at e;cases e2:pJ as with
  | none=>rw [e2] at e;cases e
  | some ds' =>
   rw [e2] at e;cases e;exact ⟨v,r,rfl,h1,jJ.HF h2 e2⟩
 | .bor i :: as,_,ds,h,e=>by unfold pJ at e;cases e
theorem iw.zZ {d:PyData} {a c:Addr} (hc:H c=none) (h:iw K F I H d a):iw K F (fun b=>I b\/b=c) H d a:=by
 cases d with
 | list ds=>obtain ⟨xs,e,z,r⟩:=h;exact ⟨xs,e.fresh hc,z,r⟩
 | dict ds =>
  obtain ⟨ep,xs,n,e,z,r⟩:=h;exact ⟨ep,xs,fun q=>q.elim n fun q=>(by subst q;rw [hc] at e;cases e),e,z,r⟩
 | _=>exact absurd h id
theorem Rel.qK (R:Rel K F0 H₀ I env σ H) (s:bq H H') {pr:PR} {v:V} (h:zY K (FF F0 env σ) H H' pr v):jO K F0 H₀ I env σ H' pr.rv v:=by
 cases pr with
 | dat d=>exact h
 | frs d =>
  obtain ⟨a,e,hn,t⟩:=h;refine ⟨a,e,R.fresh hn s ?_,t,R.oi (.inl hn),fun z=>R.fz z hn,fun i d' e' q=>?_,fun i d' e'=>?_⟩
  ·obtain ⟨o,q,_⟩:=t.wr;rw [q];exact nofun
  ·obtain ⟨o,z,_⟩:=R.iaT ⟨i,⟨d',.inr e'⟩,q⟩;rw [hn] at z;cases z
  ·obtain ⟨b,q,t'⟩:=R.ro i d' e';exact ⟨b,q,((t'.fresh hn).zZ hn).pr (Pr.of_same s) (fun _ z=>z) (fun _ z=>z) fun b o z _=>s _ _ z⟩
theorem x6 (env:En) (i:Nat) (d:PyData):KpE env (gz env i d):=by
 unfold gz;cases e:env[i]? with
 | none=>exact KpE.refl _
 | some sl =>
  have hi:i < env.length:=(L5.mp e).1;cases sl with
  | un=>exact KpE.refl _
  | dat _=>exact KpE.refl _
  | ro _=>exact KpE.refl _
  | own d' =>
   refine ⟨Mq,fun j s h=>?_⟩;by_cases z:i=j
   ·subst z;rw [e] at h;cases h;exact ⟨.own d,by rw [Ma hi],.inl ⟨d,rfl⟩⟩
   ·exact ⟨s,by rw [L0 z];exact h,.refl s⟩
  | ino d' =>
   refine ⟨Mq,fun j s h=>?_⟩;by_cases z:i=j
   ·subst z;rw [e] at h;cases h;exact ⟨.ino d,by rw [Ma hi],⟨d,rfl⟩⟩
   ·exact ⟨s,by rw [L0 z];exact h,.refl s⟩
def SmK (env env':En):Prop:=env'.length=env.length/\∀ i:Nat,env'[i]?=env[i]?\/(∃ d d',env[i]?=some (.own d)/\env'[i]?=some (.own d'))\/∃ d d',env[i]?=some (.ino d)/\env'[i]?=some (.ino d')
theorem SmK.refl (env:En):SmK env env:=⟨rfl,fun _=>.inl rfl⟩
theorem SmK.trans {e1 e2 e3:En} (a:SmK e1 e2) (b:SmK e2 e3):SmK e1 e3:=⟨b.1.trans a.1,fun i=>by
 rcases b.2 i with h | ⟨d,d',h,h'⟩ | ⟨d,d',h,h'⟩
 ·rw [h];exact a.2 i
 ·rcases a.2 i with q | ⟨c,c',q,q'⟩ | ⟨c,c',q,q'⟩
  ·exact .inr (.inl ⟨d,d',by rw [<- q];exact h,h'⟩)
  ·exact .inr (.inl ⟨c,d',q,h'⟩)
  ·rw [h] at q';cases q'
 ·rcases a.2 i with q | ⟨c,c',q,q'⟩ | ⟨c,c',q,q'⟩
  ·exact .inr (.inr ⟨d,d',by rw [<- q];exact h,h'⟩)
  ·rw [h] at q';cases q'
  ·exact .inr (.inr ⟨c,d',q,h'⟩)⟩
theorem SmK.kp (k:SmK env env'):KpE env env':=⟨k.1,fun i s e=>by
 rcases k.2 i with h | ⟨d,d',h,h'⟩ | ⟨d,d',h,h'⟩
 ·exact ⟨s,by rw [h];exact e,.refl s⟩
 ·rw [e] at h;cases h;exact ⟨_,h',.inl ⟨d',rfl⟩⟩
 ·rw [e] at h;cases h;exact ⟨_,h',⟨d',rfl⟩⟩⟩
theorem SmK.symm (k:SmK env env'):SmK env' env:=⟨k.1.symm,fun i=>by
 rcases k.2 i with h | ⟨d,d',h,h'⟩ | ⟨d,d',h,h'⟩
 ·exact .inl h.symm
 ·exact .inr (.inl ⟨d',d,h',h⟩)
 ·exact .inr (.inr ⟨d',d,h',h⟩)⟩
theorem SmK.ff (k:SmK env env'):FF F0 env' σ=FF F0 env σ:=by
 funext b;exact propext ⟨fun h=>k.kp.ff h,fun h=>k.symm.kp.ff h⟩
theorem SmK.ia (k:SmK env env'):IA env' σ=IA env σ:=by
 funext b;exact propext ⟨fun h=>k.kp.ia h,fun h=>k.symm.kp.ia h⟩
theorem fH (env:En) (i:Nat) (d:PyData):SmK env (gz env i d):=by
 unfold gz;cases e:env[i]? with
 | none=>exact SmK.refl _
 | some sl =>
  have hi:i < env.length:=(L5.mp e).1;cases sl with
  | un=>exact SmK.refl _
  | dat _=>exact SmK.refl _
  | ro _=>exact SmK.refl _
  | own d' =>
   refine ⟨Mq,fun j=>?_⟩;by_cases z:i=j
   ·subst z;exact .inr (.inl ⟨d',d,e,by rw [Ma hi]⟩)
   ·exact .inl (by rw [L0 z])
  | ino d' =>
   refine ⟨Mq,fun j=>?_⟩;by_cases z:i=j
   ·subst z;exact .inr (.inr ⟨d',d,e,by rw [Ma hi]⟩)
   ·exact .inl (by rw [L0 z])
theorem mV {env:En} {i:Nat} {d:PyData} (h:mu env i):aQ (gz env i d) i=some d:=by
 unfold gz aQ;obtain ⟨d',e | e⟩:=h
 ·have hi:i < env.length:=(L5.mp e).1;rw [e];simp only;rw [Ma hi]
 ·have hi:i < env.length:=(L5.mp e).1;rw [e];simp only;rw [Ma hi]
theorem ng {env:En} {i j:Nat} {d:PyData} (h:j≠i):(gz env i d)[j]?=env[j]?:=by
 unfold gz;split <;> first | rfl | rw [L0 (Ne.symm h)]
theorem tG {env:En} {i:Nat} {d:PyData} (h:aQ env i=some d):env[i]?=some (.own d)\/env[i]?=some (.ino d):=by
 unfold aQ at h;split at h
 ·rename_i e;cases h;exact .inl e
 ·rename_i e;cases h;exact .inr e
 ·cases h
theorem Rel.chg (R:Rel K F0 H₀ I env σ H) (k:SmK env env') (hk:∀ b o,H b=some o->¬IA env σ b->H' b=some o) (ht:∀ i d a,aQ env' i=some d->σ[i]?=some (some (.ref a))->Top K (FF F0 env σ) H' d a):Rel K F0 H₀ I env' σ H':=by
 have p:=R.rW hk;have eF:=k.ff (F0:=F0) (σ:=σ);have eI:=k.ia (σ:=σ);have mc:∀ {i:Nat} {d:PyData},env'[i]?=some (.own d)\/env'[i]?=some (.ino d)->aQ env' i=some d:=fun {i d} h=>by
  unfold aQ;rcases h with h | h <;> rw [h]
 refine ⟨k.1.trans R.len,fun i d e=>?_,fun i d e=>?_,fun i d e=>?_,fun i d e=>?_,fun i j a h1 h2 h3 h4=>R.sep i j a (k.kp.mu h1) (k.kp.mu h2) h3 h4,fun b h=>?_,fun b o h n=>?_⟩
 ·rcases k.2 i with q | ⟨c,c',q,q'⟩ | ⟨c,c',q,q'⟩
  ·rw [e] at q;obtain ⟨v,s,r⟩:=R.dat i d q.symm;rw [eF];exact ⟨v,s,r.pr p fun _ z=>z⟩
  ·rw [e] at q';cases q'
  ·rw [e] at q';cases q'
 ·have hm:=mc (.inl e);obtain ⟨d0,e0⟩:=k.kp.own e;obtain ⟨a,s,n,w,_⟩:=R.own i d0 e0;rw [eF];exact ⟨a,s,n,w,ht i d a hm s⟩
 ·have hm:=mc (.inr e);have:∃ d0,env[i]?=some (.ino d0):=by
   rcases k.2 i with q | ⟨c,c',q,q'⟩ | ⟨c,c',q,q'⟩
   ·exact ⟨d,by rw [<- q];exact e⟩
   ·rw [e] at q';cases q'
   ·exact ⟨c,q⟩
  obtain ⟨d0,e0⟩:=this;obtain ⟨a,s,n,w,_⟩:=R.ino i d0 e0;rw [eF];exact ⟨a,s,n,w,ht i d a hm s⟩
 ·have e0:env[i]?=some (.ro d):=by
   rcases k.2 i with q | ⟨c,c',q,q'⟩ | ⟨c,c',q,q'⟩
   ·rw [<- q];exact e
   ·rw [e] at q';cases q'
   ·rw [e] at q';cases q'
  obtain ⟨a,s,t⟩:=R.ro i d e0;rw [eF,eI];exact ⟨a,s,t.pr p (fun _ z=>z) (fun _ z=>z) hk⟩
 ·by_cases z:IA env σ b
  ·obtain ⟨i,m,s⟩:=z;have m':=k.symm.kp.mu m;obtain ⟨d,m'⟩:=m';obtain ⟨o,q,_⟩:=(ht i d b (mc m') s).wr;rw [q];exact nofun
  ·cases e:H b with
   | none=>exact absurd e (R.dom b h)
   | some o=>rw [hk b o e z];exact nofun
 ·refine hk b o (R.f6 b o h n) fun z=>?_;rcases R.iaI z with q | q
  ·rw [h] at q;cases q
  ·exact n q
end
open PySem
section
variable {K:Fg} {F F' I I' F0:Addr->Prop} {H H' H₀:Hp} {env env':En} {σ σ':St} {ga:Nat->V} {gd:List PyData}
theorem get_set {α:Type} {l:List α} {i j:Nat} {x y:α} (h:(l.set i x)[j]?=some y):(i=j/\x=y)\/(i≠j/\l[j]?=some y):=by
 by_cases z:i=j
 ·subst z;by_cases hi:i < l.length
  ·rw [Ma hi] at h;exact .inl ⟨rfl,MF h⟩
  ·rw [Nw (by rw [Mq];omega)] at h;cases h
 ·rw [L0 z] at h;exact .inr ⟨z,h⟩
theorem Rel.sub (R:Rel K F0 H₀ I env σ H) (i:Nat) (x:Option V):(∀ b,FF F0 (env.set i .un) (σ.set i x) b->FF F0 env σ b)/\(∀ b,IA (env.set i .un) (σ.set i x) b->IA env σ b):=by
 constructor
 ·rintro b (h | ⟨j,d,e,s⟩)
  ·exact .inl h
  ·rcases get_set e with ⟨_,z⟩ | ⟨n,e⟩
   ·cases z
   ·rw [L0 n] at s;exact .inr ⟨j,d,e,s⟩
 ·rintro b ⟨j,⟨d,e⟩,s⟩;have:∃ d,(env[j]?=some (.own d)\/env[j]?=some (.ino d))/\i≠j:=by
   rcases e with e | e
   ·rcases get_set e with ⟨_,z⟩ | ⟨n,e⟩
    ·cases z
    ·exact ⟨d,.inl e,n⟩
   ·rcases get_set e with ⟨_,z⟩ | ⟨n,e⟩
    ·cases z
    ·exact ⟨d,.inr e,n⟩
  obtain ⟨d,e,n⟩:=this;rw [L0 n] at s;exact ⟨j,⟨d,e⟩,s⟩
theorem Rel.forget (R:Rel K F0 H₀ I env σ H) (i:Nat) (x:Option V):Rel K F0 H₀ I (env.set i .un) (σ.set i x) H:=by
 obtain ⟨hf,hi⟩:=R.sub i x;have mm:∀ j,mu (env.set i .un) j->mu env j/\i≠j:=fun j h=>by
  obtain ⟨d,e | e⟩:=h
  ·rcases get_set e with ⟨_,z⟩ | ⟨n,e⟩
   ·cases z
   ·exact ⟨⟨d,.inl e⟩,n⟩
  ·rcases get_set e with ⟨_,z⟩ | ⟨n,e⟩
   ·cases z
   ·exact ⟨⟨d,.inr e⟩,n⟩
 refine ⟨by rw [Mq,Mq];exact R.len,fun j d e=>?_,fun j d e=>?_,fun j d e=>?_,fun j d e=>?_,fun j k a h1 h2 h3 h4=>?_,R.dom,R.f6⟩
 ·rcases get_set e with ⟨_,z⟩ | ⟨n,e⟩
  ·cases z
  obtain ⟨v,s,r⟩:=R.dat j d e;exact ⟨v,by rw [L0 n];exact s,r.mono hf⟩
 ·rcases get_set e with ⟨_,z⟩ | ⟨n,e⟩
  ·cases z
  obtain ⟨a,s,q,w,t⟩:=R.own j d e;exact ⟨a,by rw [L0 n];exact s,q,w,t.pr Pr.refl hf fun _ z=>z⟩
 ·rcases get_set e with ⟨_,z⟩ | ⟨n,e⟩
  ·cases z
  obtain ⟨a,s,q,w,t⟩:=R.ino j d e;exact ⟨a,by rw [L0 n];exact s,q,w,t.pr Pr.refl hf fun _ z=>z⟩
 ·rcases get_set e with ⟨_,z⟩ | ⟨n,e⟩
  ·cases z
  obtain ⟨a,s,t⟩:=R.ro j d e;exact ⟨a,by rw [L0 n];exact s,t.pr Pr.refl hf hi fun _ _ z _=>z⟩
 ·obtain ⟨m1,n1⟩:=mm j h1;obtain ⟨m2,n2⟩:=mm k h2;rw [L0 n1] at h3;rw [L0 n2] at h4;exact R.sep j k a m1 m2 h3 h4
theorem mr {i:Nat} {s:Sl} {x:Option V} (hu:env[i]?=some .un) (hs:∀ d,s≠.own d):FF F0 (env.set i s) (σ.set i x)=FF F0 env σ:=by
 funext b;apply propext;constructor
 ·rintro (h | ⟨j,d,e,q⟩)
  ·exact .inl h
  ·rcases get_set e with ⟨_,z⟩ | ⟨n,e⟩
   ·exact absurd z (hs d)
   ·rw [L0 n] at q;exact .inr ⟨j,d,e,q⟩
 ·rintro (h | ⟨j,d,e,q⟩)
  ·exact .inl h
  ·have n:i≠j:=fun z=>by subst z;rw [hu] at e;cases e
   exact .inr ⟨j,d,by rw [L0 n];exact e,by rw [L0 n];exact q⟩
theorem vZ {i:Nat} {s:Sl} {x:Option V} (hu:env[i]?=some .un) (hs:∀ d,s≠.own d/\s≠.ino d):IA (env.set i s) (σ.set i x)=IA env σ:=by
 funext b;apply propext;constructor
 ·rintro ⟨j,⟨d,e | e⟩,q⟩
  ·rcases get_set e with ⟨_,z⟩ | ⟨n,e⟩
   ·exact absurd z (hs d).1
   ·rw [L0 n] at q;exact ⟨j,⟨d,.inl e⟩,q⟩
  ·rcases get_set e with ⟨_,z⟩ | ⟨n,e⟩
   ·exact absurd z (hs d).2
   ·rw [L0 n] at q;exact ⟨j,⟨d,.inr e⟩,q⟩
 ·rintro ⟨j,⟨d,e⟩,q⟩;have n:i≠j:=fun z=>by subst z;rw [hu] at e;rcases e with e | e <;> cases e
  refine ⟨j,⟨d,?_⟩,by rw [L0 n];exact q⟩;rw [L0 n];exact e
theorem Rel.putD (R:Rel K F0 H₀ I env σ H) {i:Nat} {d:PyData} {v:V} (hu:env[i]?=some .un) (h:Dm K (FF F0 env σ) H d v):Rel K F0 H₀ I (env.set i (.dat d)) (σ.set i (some v)) H:=by
 have hi:i < env.length:=(L5.mp hu).1;have eF:FF F0 (env.set i (.dat d)) (σ.set i (some v))=FF F0 env σ:=mr hu (fun _=>nofun);have eI:IA (env.set i (.dat d)) (σ.set i (some v))=IA env σ:=vZ hu (fun _=>⟨nofun,nofun⟩);have mm:∀ j,mu (env.set i (.dat d)) j->mu env j/\i≠j:=fun j h=>by
  obtain ⟨c,e | e⟩:=h
  ·rcases get_set e with ⟨_,z⟩ | ⟨n,e⟩
   ·cases z
   ·exact ⟨⟨c,.inl e⟩,n⟩
  ·rcases get_set e with ⟨_,z⟩ | ⟨n,e⟩
   ·cases z
   ·exact ⟨⟨c,.inr e⟩,n⟩
 refine ⟨by rw [Mq,Mq];exact R.len,fun j c e=>?_,fun j c e=>?_,fun j c e=>?_,fun j c e=>?_,fun j k a h1 h2 h3 h4=>?_,R.dom,R.f6⟩
 ·rw [eF];rcases get_set e with ⟨z,y⟩ | ⟨n,e⟩
  ·subst z;cases y;exact ⟨v,Ma (by rw [<- R.len];exact hi),h⟩
  obtain ⟨w,s,r⟩:=R.dat j c e;exact ⟨w,by rw [L0 n];exact s,r⟩
 ·rw [eF];rcases get_set e with ⟨_,z⟩ | ⟨n,e⟩
  ·cases z
  obtain ⟨a,s,q,w,t⟩:=R.own j c e;exact ⟨a,by rw [L0 n];exact s,q,w,t⟩
 ·rw [eF];rcases get_set e with ⟨_,z⟩ | ⟨n,e⟩
  ·cases z
  obtain ⟨a,s,q,w,t⟩:=R.ino j c e;exact ⟨a,by rw [L0 n];exact s,q,w,t⟩
 ·rw [eF,eI];rcases get_set e with ⟨_,z⟩ | ⟨n,e⟩
  ·cases z
  obtain ⟨a,s,t⟩:=R.ro j c e;exact ⟨a,by rw [L0 n];exact s,t⟩
 ·obtain ⟨m1,n1⟩:=mm j h1;obtain ⟨m2,n2⟩:=mm k h2;rw [L0 n1] at h3;rw [L0 n2] at h4;exact R.sep j k a m1 m2 h3 h4
theorem Rel.Kc {i:Nat} {d:PyData} {a:Addr} (hu:env[i]?=some .un) (h:jO K F0 H₀ I env σ H (.frs d) (.ref a)):Rel K F0 H₀ I (env.set i (.own d)) (σ.set i (some (.ref a))) H:=by
 obtain ⟨a',ea,R,t,w,nF,hino,hro⟩:=h;cases ea;have hi:i < env.length:=(L5.mp hu).1;have his:i < σ.length:=by rw [<- R.len];exact hi
 have eF:FF F0 (env.set i (.own d)) (σ.set i (some (.ref a)))=fun b=>FF F0 env σ b\/b=a:=by
  funext b;apply propext;constructor
  ·rintro (h | ⟨j,c,e,q⟩)
   ·exact .inl (.inl h)
   ·rcases get_set e with ⟨z,y⟩ | ⟨n,e⟩
    ·subst z;rw [Ma his] at q;cases q;exact .inr rfl
    ·rw [L0 n] at q;exact .inl (.inr ⟨j,c,e,q⟩)
  ·rintro ((h | ⟨j,c,e,q⟩) | rfl)
   ·exact .inl h
   ·have n:i≠j:=fun z=>by subst z;rw [hu] at e;cases e
    exact .inr ⟨j,c,by rw [L0 n];exact e,by rw [L0 n];exact q⟩
   ·exact .inr ⟨i,d,Ma hi,Ma his⟩
 have eF2:FF (fun b=>F0 b\/b=a) env σ=fun b=>FF F0 env σ b\/b=a:=j5;have mm:∀ j,mu (env.set i (.own d)) j->i=j\/(mu env j/\i≠j):=fun j h=>by
  obtain ⟨c,e | e⟩:=h
  ·rcases get_set e with ⟨z,_⟩ | ⟨n,e⟩
   ·exact .inl z
   ·exact .inr ⟨⟨c,.inl e⟩,n⟩
  ·rcases get_set e with ⟨z,_⟩ | ⟨n,e⟩
   ·exact .inl z
   ·exact .inr ⟨⟨c,.inr e⟩,n⟩
 have eI:∀ b,IA (env.set i (.own d)) (σ.set i (some (.ref a))) b->IA env σ b\/b=a:=by
  rintro b ⟨j,m,q⟩;rcases mm j m with z | ⟨m',n⟩
  ·subst z;rw [Ma his] at q;cases q;exact .inr rfl
  ·rw [L0 n] at q;exact .inl ⟨j,m',q⟩
 have na:∀ j,mu env j->σ[j]?≠some (some (.ref a)):=fun j m q=>by
  obtain ⟨c,e | e⟩:=m
  ·exact nF (.inr ⟨j,c,e,q⟩)
  ·exact hino j c e q
 refine ⟨by rw [Mq,Mq];exact R.len,fun j c e=>?_,fun j c e=>?_,fun j c e=>?_,fun j c e=>?_,fun j k b h1 h2 h3 h4=>?_,fun b h=>R.dom b (.inl h),R.f6⟩
 ·rw [eF];rcases get_set e with ⟨_,z⟩ | ⟨n,e⟩
  ·cases z
  obtain ⟨x,s,r⟩:=R.dat j c e;rw [eF2] at r;exact ⟨x,by rw [L0 n];exact s,r⟩
 ·rw [eF];rcases get_set e with ⟨z,y⟩ | ⟨n,e⟩
  ·subst z;cases y;exact ⟨a,Ma his,fun z=>nF (.inl z),w,t⟩
  obtain ⟨b,s,q,w',t'⟩:=R.own j c e;rw [eF2] at t';exact ⟨b,by rw [L0 n];exact s,fun z=>q (.inl z),w',t'⟩
 ·rw [eF];rcases get_set e with ⟨_,z⟩ | ⟨n,e⟩
  ·cases z
  obtain ⟨b,s,q,w',t'⟩:=R.ino j c e;rw [eF2] at t';refine ⟨b,by rw [L0 n];exact s,?_,w',t'⟩;rcases q with q | q
  ·exact q
  ·subst q;exact absurd s (hino j c e)
 ·rw [eF];rcases get_set e with ⟨_,z⟩ | ⟨n,e⟩
  ·cases z
  obtain ⟨b,s,t'⟩:=hro j c e;exact ⟨b,by rw [L0 n];exact s,t'.pr Pr.refl (fun _ z=>z) eI fun _ _ z _=>z⟩
 ·rcases mm j h1 with z1 | ⟨m1,n1⟩
  ·rcases mm k h2 with z2 | ⟨m2,n2⟩
   ·rw [<- z1,<-z2]
   ·rw [<- z1,Ma his] at h3;cases h3;rw [L0 n2] at h4;exact absurd h4 (na k m2)
  ·rw [L0 n1] at h3;rcases mm k h2 with z2 | ⟨m2,n2⟩
   ·rw [<- z2,Ma his] at h4;cases h4;exact absurd h3 (na j m1)
   ·rw [L0 n2] at h4;exact R.sep j k b m1 m2 h3 h4
theorem Rel.take (R:Rel K F0 H₀ I env σ H) {i:Nat} {d:PyData} (e:env[i]?=some (.own d)):∃ a,σ[i]?=some (some (.ref a))/\jO K F0 H₀ I (env.set i .un) σ H (.frs d) (.ref a):=by
 obtain ⟨a,s,nF0,w,t⟩:=R.own i d e;have hi:i < env.length:=(L5.mp e).1;have mm:∀ j,mu (env.set i .un) j->mu env j/\i≠j:=fun j h=>by
  obtain ⟨c,e | e⟩:=h
  ·rcases get_set e with ⟨_,z⟩ | ⟨n,e⟩
   ·cases z
   ·exact ⟨⟨c,.inl e⟩,n⟩
  ·rcases get_set e with ⟨_,z⟩ | ⟨n,e⟩
   ·cases z
   ·exact ⟨⟨c,.inr e⟩,n⟩
 have eF:FF F0 env σ=fun b=>FF F0 (env.set i .un) σ b\/b=a:=by
  funext b;apply propext;constructor
  ·rintro (h | ⟨j,c,e',q⟩)
   ·exact .inl (.inl h)
   ·by_cases n:i=j
    ·subst n;rw [s] at q;cases q;exact .inr rfl
    ·exact .inl (.inr ⟨j,c,by rw [L0 n];exact e',q⟩)
  ·rintro ((h | ⟨j,c,e',q⟩) | rfl)
   ·exact .inl h
   ·rcases get_set e' with ⟨_,z⟩ | ⟨n,e'⟩
    ·cases z
    ·exact .inr ⟨j,c,e',q⟩
   ·exact .inr ⟨i,d,e,s⟩
 have eF2:FF (fun b=>F0 b\/b=a) (env.set i .un) σ=FF F0 env σ:=by rw [j5];exact eF.symm
 have na:∀ j,mu (env.set i .un) j->σ[j]?≠some (some (.ref a)):=fun j m q=>by
  obtain ⟨m',n⟩:=mm j m;exact n (R.sep i j a ⟨d,.inl e⟩ m' s q)
 have nF:¬FF F0 (env.set i .un) σ a:=by
  rintro (h | ⟨j,c,e',q⟩)
  ·exact nF0 h
  ·exact na j ⟨c,.inl e'⟩ q
 have ia:∀ b,IA (env.set i .un) σ b->IA env σ b:=fun b ⟨j,m,q⟩=>⟨j,(mm j m).1,q⟩;have ia2:∀ b,(IA (env.set i .un) σ b\/b=a)->IA env σ b:=fun b h=>h.elim (ia b) fun z=>z▸⟨i,⟨d,.inl e⟩,s⟩;have R':Rel K (fun b=>F0 b\/b=a) H₀ I (env.set i .un) σ H:=by
  refine ⟨by rw [Mq];exact R.len,fun j c e'=>?_,fun j c e'=>?_,fun j c e'=>?_,fun j c e'=>?_,fun j k b h1 h2 h3 h4=>R.sep j k b (mm j h1).1 (mm k h2).1 h3 h4,fun b h=>?_,R.f6⟩
  ·rw [eF2];rcases get_set e' with ⟨_,z⟩ | ⟨n,e'⟩
   ·cases z
   exact R.dat j c e'
  ·rw [eF2];have m:=e';rcases get_set e' with ⟨_,z⟩ | ⟨n,e'⟩
   ·cases z
   obtain ⟨b,s',q,w',t'⟩:=R.own j c e';exact ⟨b,s',fun z=>z.elim q fun z=>na j ⟨c,.inl m⟩ (z▸s'),w',t'⟩
  ·rw [eF2];rcases get_set e' with ⟨_,z⟩ | ⟨n,e'⟩
   ·cases z
   obtain ⟨b,s',q,w',t'⟩:=R.ino j c e';exact ⟨b,s',.inl q,w',t'⟩
  ·rw [eF2];rcases get_set e' with ⟨_,z⟩ | ⟨n,e'⟩
   ·cases z
   obtain ⟨b,s',t'⟩:=R.ro j c e';exact ⟨b,s',t'.pr Pr.refl (fun _ z=>z) ia fun _ _ z _=>z⟩
  ·rcases h with h | h
   ·exact R.dom b h
   ·obtain ⟨o,q,_⟩:=t.wr;rw [h,q];exact nofun
 refine ⟨a,s,a,rfl,R',by rw [eF] at t;exact t,w,nF,fun j c e'=>na j ⟨c,.inr e'⟩,fun j c e'=>?_⟩;rcases get_set e' with ⟨_,z⟩ | ⟨n,e'⟩
 ·cases z
 obtain ⟨b,s',t'⟩:=R.ro j c e';rw [eF] at t';exact ⟨b,s',t'.pr Pr.refl (fun _ z=>z) ia2 fun _ _ z _=>z⟩
theorem jO.rel {d:PyData} {v:V} (h:jO K F0 H₀ I env σ H (.frs d) v):Rel K F0 H₀ I env σ H:=by
 obtain ⟨a,_,R,_,_,_,hi,_⟩:=h;exact R.less hi
theorem set_same {α:Type} {l:List α} {i:Nat} {x:α} (h:l[i]?=some x):l.set i x=l:=by
 have hi:i < l.length:=(L5.mp h).1;apply List.ext_getElem?;intro j;by_cases z:i=j
 ·subst z;rw [Ma hi,h]
 ·rw [L0 z]
theorem Rel.mov (R:Rel K F0 H₀ I env σ H) {i:Nat} {d:PyData} (e:env[i]?=some (.own d)):∃ a,σ[i]?=some (some (.ref a))/\Rel K F0 H₀ I (env.set i (.dat d)) σ H/\Dm K (FF F0 (env.set i (.dat d)) σ) H d (.ref a):=by
 have hi:i < env.length:=(L5.mp e).1;obtain ⟨a,s,h⟩:=R.take e;have R1:=h.rel;have hu:(env.set i .un)[i]?=some .un:=Ma hi;have hd:Dm K (FF F0 (env.set i .un) σ) H d (.ref a):=jO.av h;have R2:=R1.putD hu hd;rw [M4,set_same s] at R2;refine ⟨a,s,R2,?_⟩;have eF:FF F0 (env.set i (.dat d)) σ=FF F0 (env.set i .un) σ:=by
  have:=mr (F0:=F0) (σ:=σ) (s:=.dat d) (x:=some (.ref a)) hu (fun _=>nofun);rw [M4,set_same s] at this;exact this
 rw [eF];exact hd
theorem Au {i:Nat} {s s':Sl} (e:env[i]?=some s) (v:Evo s s'):KpE env (env.set i s'):=by
 have hi:i < env.length:=(L5.mp e).1;refine ⟨Mq,fun j t h=>?_⟩;by_cases z:i=j
 ·subst z;rw [e] at h;cases h;exact ⟨s',Ma hi,v⟩
 ·exact ⟨t,by rw [L0 z];exact h,.refl t⟩
end
open PySem
theorem bo (x y:Str):(x++y).cps=x.cps++y.cps:=rfl
theorem pB {x y:Str} (h:PyData.strOk x=true) (q:PyData.strOk y=true):PyData.strOk (x++y)=true:=by
 unfold PyData.strOk at h q ⊢;rw [bo,Array.all_append,h,q];rfl
def SE (K:Fg) (ga:Nat->V) (gd:List PyData) (e:XE):Prop:=∀ (env:En) (rv:RV) (env':En),dE gd e env=some (rv,env')->∀ (F0:Addr->Prop) (H₀:Hp) (I:Addr->Prop) (σ:St) (H:Hp) (Q:VK),Rel K F0 H₀ I env σ H ->
 (∀ v H',Rel K F0 H₀ I env' σ H'->KpE env env'->jO K F0 H₀ I env' σ H' rv v->Q v H')->rE K ga e σ H Q
def SA (K:Fg) (ga:Nat->V) (gd:List PyData) (e:XA):Prop:=∀ (env:En) (rv:List AV) (env':En),dA gd e env=some (rv,env')->∀ (F0:Addr->Prop) (H₀:Hp) (I:Addr->Prop) (σ:St) (H:Hp) (Q:List V->Hp->Prop),Rel K F0 H₀ I env σ H ->
 (∀ v H',Rel K F0 H₀ I env' σ H'->KpE env env'->jJ K F0 env' σ H' rv v->Q v H')->rA K ga e σ H Q
def SF (K:Fg) (ga:Nat->V) (gd:List PyData) (e:XA):Prop:=∀ (out:Str) (env:En) (x:Str) (env':En),dF gd e out env=some (x,env')->∀ (F0:Addr->Prop) (H₀:Hp) (I:Addr->Prop) (σ:St) (H:Hp) (Q:VK),Rel K F0 H₀ I env σ H ->
 PyData.strOk out=true->(∀ H',Rel K F0 H₀ I env' σ H'->KpE env env'->x.length<=sizeLine->PyData.strOk x=true->Q (.str x) H')->tFs (rF K ga e) out σ H Q
def Kt (K:Fg) (F:Addr->Prop) (H:Hp):List (Key×PyData)->List (Key×V)->Prop
 | [],vs=>vs=[]
 | (k,d) :: ds,vs=>∃ v r,vs=(k,v) :: r/\Dm K F H (kD k) (kV k)/\Dm K F H d v/\Kt K F H ds r
def SPs (K:Fg) (ga:Nat->V) (gd:List PyData) (e:XP):Prop:=∀ (env:En) (kvs:List (Key×PyData)) (env':En),dP gd e env=some (kvs,env')->∀ (F0:Addr->Prop) (H₀:Hp) (I:Addr->Prop) (σ:St) (H:Hp) (Q:List (V×V)->Hp->Prop),Rel K F0 H₀ I env σ H ->
 (∀ vs H',Rel K F0 H₀ I env' σ H'->KpE env env'->Kt K (FF F0 env' σ) H' kvs vs->Q (vs.map fun kv=>(kV kv.1,kv.2)) H')->z7 (rP K ga e) σ H Q
def ST (K:Fg) (ga:Nat->V) (gd:List PyData) (e:XT):Prop:=∀ (env:En) (b:Bool) (env':En),dT gd e env=some (b,env')->∀ (F0:Addr->Prop) (H₀:Hp) (I:Addr->Prop) (σ:St) (H:Hp) (Q:Bool->Hp->Prop),Rel K F0 H₀ I env σ H ->
 (∀ H',Rel K F0 H₀ I env' σ H'->KpE env env'->Q b H')->rT K ga e σ H Q
def ItY (K:Fg) (F:Addr->Prop) (H H' H'':Hp) (d:PyData) (x:V):Prop:=(H''=H'/\Dm K F H d x)\/∃ p u v d1 d2,d=.tuple [d1,d2]/\x=.ref p/\H' p=none/\H''=upd H' p (.tup [u,v])/\Dm K F H d1 u/\Dm K F H d2 v
theorem ItY.dm {K:Fg} {F F2:Addr->Prop} {H H' H'':Hp} {d:PyData} {x:V} (h:ItY K F H H' H'' d x) (T:∀ d v,Dm K F H d v->Dm K F2 H' d v):bq H' H''/\Dm K F2 H'' d x:=by
 rcases h with ⟨rfl,h⟩ | ⟨p,u,v,d1,d2,rfl,rfl,hp,rfl,h1,h2⟩
 ·exact ⟨fun _ _ e=>e,T _ _ h⟩
 ·have sm:bq H' (upd H' p (.tup [u,v])):=fun b o e=>by rw [ao (fun z=>by rw [z,hp] at e;cases e)];exact e
  refine ⟨sm,p,[u,v],rfl,SqT.of aE,Mv rfl,u,_,rfl,?_,v,_,rfl,?_,rfl⟩
  ·exact (T _ _ h1).pr (fun b o e _=>sm b o e) fun _ z=>z
  ·exact (T _ _ h2).pr (fun b o e _=>sm b o e) fun _ z=>z
def yP (K:Fg) (F I:Addr->Prop) (H:Hp) (J:It) (ds:List PyData):Prop:=ds.length<=sizeLine/\∀ H',(∀ b o,H b=some o->¬I b->H' b=some o)->∀ k,(k < ds.length->J.go k H'/\∀ x H'',J.yld k H' x H''->∃ d,ds[k]?=some d/\ItY K F H H' H'' d x)/\(ds.length<=k->J.stop k H')
theorem nV {K:Fg} {F I:Addr->Prop} {H:Hp} {J:It} {ds:List PyData} {vs:List V} (hd:DmL K F H ds vs) (hl:vs.length<=sizeLine) (h:∀ H',(∀ b o,H b=some o->¬I b->H' b=some o)->∀ k,(k < vs.length->J.go k H'/\∀ x H'',J.yld k H' x H''->H''=H'/\vs[k]?=some x)/\(vs.length<=k->J.stop k H')):yP K F I H J ds:=by
 have e:=hd.len;refine ⟨by omega,fun H' k j=>⟨fun hj=>?_,fun hj=>((h H' k j).2 (by omega))⟩⟩;obtain ⟨g,y⟩:=(h H' k j).1 (by omega);refine ⟨g,fun x H'' hx=>?_⟩;obtain ⟨e0,hx2⟩:=y x H'' hx;obtain ⟨d,h1,h2⟩:=hd.get' hx2;exact ⟨d,h1,.inl ⟨e0,h2⟩⟩
def SI (K:Fg) (ga:Nat->V) (gd:List PyData) (e:XI):Prop:=∀ (env:En) (ds:List PyData) (lock:Option Nat) (env':En),dI gd e env=some (ds,lock,env')->∀ (F0:Addr->Prop) (H₀:Hp) (I:Addr->Prop) (σ:St) (H:Hp) (R:It->Hp->Prop),Rel K F0 H₀ I env σ H ->
 (∀ J H',Rel K F0 H₀ I env' σ H'->KpE env env'->(∀ i,lock=some i->∃ d,cont env' i=some d)->yP K (FF F0 env' σ) (fun b=>IA env' σ b/\∀ i,lock=some i->mu env' i->σ[i]?≠some (some (.ref b))) H' J ds->R J H')->rI_ K ga e σ H R
section
variable {K:Fg} {F F' I I' F0:Addr->Prop} {H H' H₀:Hp} {env env':En} {σ σ':St} {ga:Nat->V} {gd:List PyData}
theorem Hc (i:Nat):SE K ga gd (.var i):=by
 intro env rv env' h F0 H₀ I σ H Q R q;simp only [dE] at h;split at h
 ·rename_i d e;cases h;obtain ⟨v,s,r⟩:=R.dat i d e;exact ⟨v,s,q v H R (KpE.refl _) r⟩
 ·rename_i d e;cases h;obtain ⟨a,s,_⟩:=R.own i d e;exact ⟨_,s,q _ H R (KpE.refl _) s⟩
 ·rename_i d e;cases h;obtain ⟨a,s,_⟩:=R.ino i d e;exact ⟨_,s,q _ H R (KpE.refl _) s⟩
 ·rename_i d e;cases h;obtain ⟨a,s,_⟩:=R.ro i d e;exact ⟨_,s,q _ H R (KpE.refl _) s⟩
 ·cases h
theorem JK (i:Nat):SE K ga gd (.mov i):=by
 intro env rv env' h F0 H₀ I σ H Q R q;simp only [dE] at h;split at h
 ·rename_i d e;cases h;obtain ⟨a,s,R',r⟩:=R.mov e;exact ⟨_,s,q _ H R' (Au e (.inr (.inl ⟨d,rfl⟩))) r⟩
 ·cases h
theorem J2 (i:Nat):SE K ga gd (.tke i):=by
 intro env rv env' h F0 H₀ I σ H Q R q;simp only [dE] at h;split at h
 ·rename_i d e;cases h;obtain ⟨a,s,r⟩:=R.take e;exact ⟨_,s,q _ H r.rel (Au e (.inr (.inr rfl))) r⟩
 ·cases h
theorem Jn (c:Cst):SE K ga gd (.cst c):=by
 intro env rv env' h F0 H₀ I σ H Q R q;simp only [dE] at h;cases h;exact q _ H R (KpE.refl _) (c.ok _ _ _)
theorem HI (hg:∀ g d,gd[g]?=some d->∀ F H,Dm K F H d (ga g)) (g:Nat):SE K ga gd (.glb g):=by
 intro env rv env' h F0 H₀ I σ H Q R q;simp only [dE] at h;split at h
 ·rename_i d e;cases h;exact q _ H R (KpE.refl _) (hg g d e _ _)
 ·cases h
theorem Jt {p:Prm} {as:XA} (ih:SA K ga gd as):SE K ga gd (.prm p as):=by
 intro env rv env' h F0 H₀ I σ H Q R q;simp only [dE] at h;split at h
 ·rename_i avs e1 h1;split at h
  ·rename_i ds h2;split at h
   ·rename_i pr h3;cases h;refine ih _ _ _ h1 F0 H₀ I σ H _ R fun vs H1 R1 k1 a1=>?_;refine p.ok K _ H1 ds vs pr Q h3 (a1.vw R1 h2) (fun b z=>R1.fz z) fun v H2 s2 hp=>?_;exact q v H2 (R1.same s2) k1 (R1.qK s2 hp)
   ·cases h
  ·cases h
 ·cases h
theorem JZ {m:Mtd} {o:XE} {as:XA} (io:SE K ga gd o) (ih:SA K ga gd as):SE K ga gd (.met m o as):=by
 intro env rv env' h F0 H₀ I σ H Q R q;simp only [dE] at h;split at h
 ·rename_i rv0 e1 h1;split at h
  ·rename_i d0 h2;split at h
   ·rename_i hty;split at h
    ·rename_i avs e2 h3;split at h
     ·rename_i d ds h4 h5;split at h
      ·rename_i pr h6;cases h;refine io _ _ _ h1 F0 H₀ I σ H _ R fun v H1 R1 k1 a1=>?_;refine ⟨m.zj K _ H1 d0 v hty (a1.av.vw R1 h2),?_⟩;refine ih _ _ _ h3 F0 _ _ σ H1 _ R1.rebase fun vs H2 S2 k2 a2=>?_;have R2:=R1.bU S2;refine m.ok K _ H2 d v ds vs pr Q h6 ((a1.av.keep R1 S2 k2).vw R2 h4) (a2.vw R2 h5) (fun b z=>R2.fz z) fun v H3 s3 hp=>?_;exact q v H3 (R2.same s3) (k1.trans k2) (R2.qK s3 hp)
      ·cases h
     ·cases h
    ·cases h
   ·cases h
  ·cases h
 ·cases h
theorem Rel.KD (R:Rel K F0 H₀ I env σ H) {i:Nat} {d d':PyData} {a:Addr} (hm:aQ env i=some d) (s:σ[i]?=some (some (.ref a))) (hk:∀ b o,b≠a->H b=some o->H' b=some o) (ht:Top K (FF F0 env σ) H' d' a):Rel K F0 H₀ I (gz env i d') σ H':=by
 obtain ⟨m,a',s',_,_⟩:=R.eD hm;rw [s] at s';cases s';have hia:IA env σ a:=⟨i,m,s⟩;refine R.chg (fH env i d') (fun b o e n=>hk b o (fun z=>n (z▸hia)) e) fun j c b hc hs=>?_;by_cases z:j=i
 ·subst z;rw [mV m] at hc;cases hc;rw [s] at hs;cases hs;exact ht
 ·have hc':aQ env j=some c:=by
   unfold aQ at hc ⊢
   rwa [ng z] at hc
  obtain ⟨m2,b',s2,_,t2⟩:=R.eD hc';rw [hs] at s2;cases s2;have nb:b≠a:=fun y=>z (R.sep j i a m2 m (y▸hs) s);refine t2.pr (R.rW fun b' o e n=>hk b' o (fun z=>n (z▸hia)) e) (fun _ z=>z) fun o e=>hk b o nb e
theorem IM {m:Mtr} {i:Nat} {as:XA} (ih:SA K ga gd as):SE K ga gd (.mtr m i as):=by
 intro env rv env' h F0 H₀ I σ H Q R q;simp only [dE] at h;split at h
 ·rename_i d0 h0;split at h
  ·rename_i hty;split at h
   ·rename_i avs e1 h1;split at h
    ·rename_i d ds h2 h3;split at h
     ·rename_i d' pr h4;cases h;obtain ⟨_,a,s,f,t⟩:=R.eD h0;refine ⟨.ref a,s,m.zj K _ H d0 a hty t,?_⟩;refine ih _ _ _ h1 F0 H₀ I σ H _ R fun vs H1 R1 k1 a1=>?_;obtain ⟨m1,a',s',f1,t1⟩:=R1.eD h2;rw [s] at s';cases s';refine m.ok K _ H1 d a ds vs d' pr Q h4 f1 t1 (fun b z=>R1.fz z) (a1.mv R1 h3) fun v H2 hk ht hp=>?_;refine q v H2 (R1.KD h2 s hk ht) (k1.trans (x6 _ _ _)) ?_;show Dm K (FF F0 (gz e1 i d') σ) H2 pr v;rw [(fH e1 i d').ff (F0:=F0) (σ:=σ)];exact hp
     ·cases h
    ·cases h
   ·cases h
  ·cases h
 ·cases h
noncomputable def adr (σ:St) (i:Nat):Addr:=match σ[i]? with | some (some (.ref a))=>a | _=>0
theorem i3 {i:Nat} {a:Addr} (h:σ[i]?=some (some (.ref a))):adr σ i=a:=by unfold adr;rw [h]
theorem l3 {ms:List PM} {as:List AV} {ds:List PyData} {m:PM} {a:AV} (h:kN env (m :: ms) (a :: as)=some ds):∃ d r,ds=d :: r/\Jq env m a=some d/\kN env ms as=some r:=by
 unfold kN at h;split at h
 ·rename_i d r e1 e2;cases h;exact ⟨d,r,rfl,e1,e2⟩
 ·cases h
theorem iw.bor {G I:Addr->Prop} {d:PyData} {a:Addr} (h:iw K G I H d a):Bc K G I H d (.ref a):=by cases d <;> first | exact ⟨a,rfl,h⟩ | exact absurd h id
theorem D2 (R:Rel K F0 H₀ I env σ H) (all:List Nat) (hall:∀ i∈all,mu env i):∀ {ms:List PM} {as:List AV} {ds:List PyData} {vs:List V},kN env ms as=some ds->jJ K F0 env σ H as vs->(c7 ms as).Nodup->(∀ i∈vh ms as,i ∉ all)->(∀ i∈c7 ms as,i∈all) ->
  bY K (FF F0 env σ) (·∈all.map (adr σ)) H ms ds vs ((c7 ms as).map (adr σ)):=by
 have iAll:∀ b,b∈all.map (adr σ)->IA env σ b:=fun b hb=>by
  obtain ⟨i,hi,e⟩:=MK.mp hb;have m:=hall i hi;obtain ⟨d,m'⟩:=m;have:∃ a,σ[i]?=some (some (.ref a)):=by
   rcases m' with z | z
   ·obtain ⟨a,s,_⟩:=R.own i d z;exact ⟨a,s⟩
   ·obtain ⟨a,s,_⟩:=R.ino i d z;exact ⟨a,s⟩
  obtain ⟨a,s⟩:=this;rw [i3 s] at e;subst e;exact ⟨i,hall i hi,s⟩
 intro ms;induction ms with
 | nil =>
  intro as ds vs h q _ _ _;cases as with
  | nil=>cases h;rw [show vs=[] from q];rfl
  | cons a as=>cases h
 | cons m ms ih =>
  intro as ds vs h q nd hb hi;cases as with
  | nil=>cases h
  | cons a as =>
   obtain ⟨d,r,rfl,h1,h2⟩:=l3 h;obtain ⟨v,vr,rfl,q1,q2⟩:=q;cases m with
   | dat =>
    cases a with
    | bor i=>cases h1
    | dat d' =>
     cases h1;exact ⟨q1,ih h2 q2 (by simpa [c7] using nd) (by simpa [vh] using hb) (by simpa [c7] using hi)⟩
   | bor =>
    cases a with
    | dat d' =>
     by_cases ct:∃ ts,d'=.tuple ts
     ·obtain ⟨ts,rfl⟩:=ct;cases h1;exact ⟨q1,ih h2 q2 (by simpa [c7] using nd) (by simpa [vh] using hb) (by simpa [c7] using hi)⟩
     have l:d'=d/\((∃ ds,d=.list ds)\/∃ ds,d=.dict ds):=by
      cases d' <;> first | exact absurd ⟨_,rfl⟩ ct | (cases h1;exact ⟨rfl,.inl ⟨_,rfl⟩⟩) | (cases h1;exact ⟨rfl,.inr ⟨_,rfl⟩⟩) | cases h1
     obtain ⟨rfl,l⟩:=l;obtain ⟨b,e,t⟩:=Dm.ro (I:=(·∈all.map (adr σ))) q1 (fun b z=>R.ia (iAll b z)) l;exact ⟨by rcases l with ⟨_,rfl⟩ | ⟨_,rfl⟩ <;> exact ⟨b,e,t⟩,ih h2 q2 (by simpa [c7] using nd) (by simpa [vh] using hb) (by simpa [c7] using hi)⟩
    | bor i =>
     have h1:cont env i=some d:=h1;have hb':i ∉ all:=hb i (by simp [vh]);refine ⟨?_,ih h2 q2 (by simpa [c7] using nd) (fun j hj=>hb j (by simp [vh,hj])) (by simpa [c7] using hi)⟩;unfold cont at h1;have na:∀ a,mu env i->σ[i]?=some (some (.ref a))->a ∉ all.map (adr σ):=fun a m s z=>by
      obtain ⟨j,hj,e⟩:=MK.mp z;obtain ⟨k,mk,sk⟩:=iAll a z;obtain ⟨dj,mj⟩:=hall j hj;have:∃ c,σ[j]?=some (some (.ref c)):=by
       rcases mj with z | z
       ·obtain ⟨a,s,_⟩:=R.own j dj z;exact ⟨a,s⟩
       ·obtain ⟨a,s,_⟩:=R.ino j dj z;exact ⟨a,s⟩
      obtain ⟨c,sj⟩:=this;rw [i3 sj] at e;subst e;have:=R.sep i j c m ⟨dj,mj⟩ s sj;subst this;exact hb' hj
     split at h1
     ·rename_i d' e;cases h1;obtain ⟨a,s,_,_,t⟩:=R.own i d e;rw [show σ[i]?=some (some v) from q1] at s;cases s;exact iw.bor (t.ro (na a ⟨d,.inl e⟩ q1))
     ·rename_i d' e;cases h1;obtain ⟨a,s,_,_,t⟩:=R.ino i d e;rw [show σ[i]?=some (some v) from q1] at s;cases s;exact iw.bor (t.ro (na a ⟨d,.inr e⟩ q1))
     ·rename_i d' e;cases h1;obtain ⟨a,s,t⟩:=R.ro i d e;rw [show σ[i]?=some (some v) from q1] at s;cases s;exact iw.bor (t.pr Pr.refl (fun _ z=>z) iAll fun _ _ z _=>z)
     ·cases h1
   | ino =>
    cases a with
    | dat d'=>cases h1
    | bor i =>
     have h1:aQ env i=some d:=h1;obtain ⟨m,b,s,f,t⟩:=R.eD h1;rw [show σ[i]?=some (some v) from q1] at s;cases s;have nd':i ∉ c7 ms as/\(c7 ms as).Nodup:=by simpa [c7] using nd
     refine ⟨b,(c7 ms as).map (adr σ),rfl,by simp [c7,i3 q1],f,t,fun z=>?_,ih h2 q2 nd'.2 (by simpa [vh] using hb) (fun j hj=>hi j (by simp [c7,hj]))⟩;obtain ⟨j,hj,e⟩:=MK.mp z;obtain ⟨dj,mj⟩:=hall j (hi j (by simp [c7,hj]));have:∃ c,σ[j]?=some (some (.ref c)):=by
      rcases mj with z | z
      ·obtain ⟨a,s,_⟩:=R.own j dj z;exact ⟨a,s⟩
      ·obtain ⟨a,s,_⟩:=R.ino j dj z;exact ⟨a,s⟩
     obtain ⟨c,sj⟩:=this;rw [i3 sj] at e;subst e;have:=R.sep i j c m ⟨dj,mj⟩ q1 sj;subst this;exact nd'.1 hj
theorem wI:∀ {ms:List PM} {as:List AV} {ds:List PyData},kN env ms as=some ds->∀ i∈c7 ms as,mu env i
 | [],[],_,_,i,h=>by simp [c7] at h
 | [],_ :: _,_,h,_,_=>by cases h
 | _ :: _,[],_,h,_,_=>by cases h
 | m :: ms,a :: as,_,h,i,hi=>by
  obtain ⟨d,r,rfl,h1,h2⟩:=l3 h;have ih:=wI h2 i;cases m with
  | dat=>exact ih (by simpa [c7] using hi)
  | bor=>exact ih (by simpa [c7] using hi)
  | ino =>
   cases a with
   | dat d'=>cases h1
   | bor j =>
    simp only [c7,Mc] at hi;rcases hi with rfl | hi
    ·rcases tG h1 with e | e
     ·exact ⟨d,.inl e⟩
     ·exact ⟨d,.inr e⟩
    ·exact ih hi
theorem oG:∀ (env:En) (is:List Nat) (ds:List PyData),SmK env (dW env is ds)
 | env,[],ds=>by unfold dW;exact SmK.refl _
 | env,i :: is,[]=>by unfold dW;exact SmK.refl _
 | env,i :: is,d :: ds=>by unfold dW;exact (fH env i d).trans (oG _ is ds)
theorem kL:∀ (env:En) (is:List Nat) (ds:List PyData) (j:Nat),j ∉ is->(dW env is ds)[j]?=env[j]?
 | env,[],ds,j,_=>by unfold dW;rfl
 | env,i :: is,[],j,_=>by unfold dW;rfl
 | env,i :: is,d :: ds,j,h=>by
  unfold dW;have n:j≠i:=fun z=>h (by rw [z];exact Mj);rw [kL _ is ds j (fun z=>h (L8 _ z)),ng n]
theorem n5 {G:Addr->Prop}:∀ {env:En} {is:List Nat} {ds:List PyData} {j:Nat} {c:PyData},is.Nodup->(∀ i∈is,mu env i)->k8 K G H ds (is.map (adr σ))->j∈is->aQ (dW env is ds) j=some c->Top K G H c (adr σ j)
 | env,[],ds,j,c,_,_,_,h,_=>by simp at h
 | env,i :: is,[],j,c,_,_,h,_,_=>by simp [k8] at h
 | env,i :: is,d :: ds,j,c,nd,hm,h,hj,hc=>by
  obtain ⟨n1,nd'⟩:=MW.mp nd;have h':Top K G H d (adr σ i)/\k8 K G H ds (is.map (adr σ)):=h;unfold dW at hc;rcases Mc.mp hj with rfl | hj
  ·have e:=kL (gz env j d) is ds j n1;have:aQ (gz env j d) j=some c:=by unfold aQ at hc ⊢;rwa [e] at hc
   rw [mV (hm j Mj)] at this;cases this;exact h'.1
  ·exact n5 (env:=gz env i d) nd' (fun k hk=>(fH env i d).symm.kp.mu (hm k (L8 _ hk))) h'.2 hj hc
theorem jP:∀ {is:List Nat},Bg is=true->is.Nodup
 | [],_=>List.nodup_nil
 | x :: xs,h=>by
  have h':xs.contains x=false/\Bg xs=true:=by simpa [Bg] using h
  exact MW.mpr ⟨fun z=>by simp [z] at h',jP h'.2⟩
theorem CL {is bs:List Nat} {n:Nat} (h:ckA is bs n=true):is.Nodup/\(∀ i∈bs,i ∉ is)/\n=is.length:=by
 unfold ckA at h;simp only [Ms,M0,Ny] at h;exact ⟨jP h.1,fun i hi z=>by have:=h.2.1 i hi;simp [z] at this,h.2.2⟩
theorem s_call {f:Fn} {as:XA} (ih:SA K ga gd as):SE K ga gd (.call f as):=by
 intro env rv env' h F0 H₀ I σ H Q R q;simp only [dE] at h;split at h
 ·rename_i avs e1 h1;unfold zo at h;split at h
  ·cases h
  ·rename_i ds h2;split at h
   ·cases h
   ·rename_i pr outs h3;split at h
    ·rename_i hc;obtain ⟨nd,hb,hl⟩:=CL hc;cases h;refine ih _ _ _ h1 F0 H₀ I σ H _ R fun vs H1 R1 k1 a1=>?_;show bu f K (vs++[]) H1 Q NoE;rw [MS];have hmu:=wI h2;refine ⟨FF F0 e1 σ,ds,(c7 f.ms avs).map (adr σ),pr,outs,h3,D2 R1 (c7 f.ms avs) hmu h2 a1 nd hb (fun _ z=>z),fun b z=>R1.fz z,fun v H2 hk hr=>?_⟩;have k:=oG e1 (c7 f.ms avs) outs;have eF:=k.ff (F0:=F0) (σ:=σ);have eI:=k.ia (σ:=σ);have isIA:∀ b,b∈(c7 f.ms avs).map (adr σ)->IA e1 σ b:=fun b hb=>by
      obtain ⟨i,hi,e⟩:=MK.mp hb;obtain ⟨d,m'⟩:=hmu i hi;have:∃ a,σ[i]?=some (some (.ref a)):=by
       rcases m' with z | z
       ·obtain ⟨a,s,_⟩:=R1.own i d z;exact ⟨a,s⟩
       ·obtain ⟨a,s,_⟩:=R1.ino i d z;exact ⟨a,s⟩
      obtain ⟨a,s⟩:=this;rw [i3 s] at e;subst e;exact ⟨i,hmu i hi,s⟩
     have hk':∀ b o,H1 b=some o->¬IA e1 σ b->H2 b=some o:=fun b o e n=>hk b o e fun z=>n (isIA b z);have mB:∀ j d a,j ∉ c7 f.ms avs->aQ (dW e1 (c7 f.ms avs) outs) j=some d->σ[j]?=some (some (.ref a))->aQ e1 j=some d/\a ∉ (c7 f.ms avs).map (adr σ):=fun j d a hj hm hs=>by
      have hm':aQ e1 j=some d:=by unfold aQ at hm ⊢;rwa [kL _ _ _ _ hj] at hm
      refine ⟨hm',fun z=>?_⟩;obtain ⟨i,hi,e⟩:=MK.mp z;obtain ⟨i',m2,s2⟩:=isIA a z;obtain ⟨di,mi⟩:=hmu i hi;have:∃ a,σ[i]?=some (some (.ref a)):=by
       rcases mi with z | z
       ·obtain ⟨a,s,_⟩:=R1.own i di z;exact ⟨a,s⟩
       ·obtain ⟨a,s,_⟩:=R1.ino i di z;exact ⟨a,s⟩
      obtain ⟨c,sc⟩:=this;rw [i3 sc] at e;subst e;have:=R1.sep j i c (R1.eD hm').1 ⟨di,mi⟩ hs sc;subst this;exact hj hi
     cases pr with
     | dat d =>
      obtain ⟨hd,ht⟩:=hr;refine q v H2 (R1.chg k hk' fun j c a hm hs=>?_) (k1.trans k.kp) (show Dm K _ H2 d v by rw [eF];exact hd);by_cases hj:j∈c7 f.ms avs
      ·have:=n5 nd hmu ht hj hm
       rwa [i3 hs] at this
      ·obtain ⟨hm',ha⟩:=mB j c a hj hm hs;obtain ⟨_,a',s',_,t'⟩:=R1.eD hm';rw [hs] at s';cases s';exact t'.pr (R1.rW hk') (fun _ z=>z) fun o e=>hk a o e ha
     | frs d =>
      obtain ⟨c,ev,hn,td,ht⟩:=hr;obtain ⟨o,ho,_⟩:=td.wr;have sm:bq H1 (upd H1 c o):=bq.nw o hn;have R1c:=R1.fresh (c:=c) hn sm (by rw [aE];exact nofun);have cIA:¬IA e1 σ c:=fun z=>by obtain ⟨o',z,_⟩:=R1.iaT z;rw [hn] at z;cases z
      have hkc:∀ b o',upd H1 c o b=some o'->¬IA e1 σ b->H2 b=some o':=fun b o' e n=>by
       by_cases z:b=c
       ·subst z;rw [aE] at e;cases e;exact ho
       ·rw [ao z] at e;exact hk' b o' e n
      have pF:Pr (fun b=>FF F0 e1 σ b\/b=c) H1 H2:=fun b o' e n=>hk' b o' e fun y=>by
       rcases n with n | n
       ·exact n (.inl (R1.ia y))
       ·obtain ⟨o2,h2,w2⟩:=R1.iaT y;rw [e] at h2;cases h2;rw [n] at w2;cases w2
      have R2c:Rel K (fun b=>F0 b\/b=c) H₀ I (dW e1 (c7 f.ms avs) outs) σ H2:=by
       refine R1c.chg k hkc fun j c' a hm hs=>?_;rw [j5];by_cases hj:j∈c7 f.ms avs
       ·have:=n5 nd hmu ht hj hm
        rwa [i3 hs] at this
       ·obtain ⟨hm',ha⟩:=mB j c' a hj hm hs;obtain ⟨_,a',s',_,t'⟩:=R1.eD hm';rw [hs] at s';cases s';exact (t'.fresh hn).pr pF (fun _ z=>z) fun o e=>hk a o e ha
      have nino:∀ (i:Nat) (d':PyData),(dW e1 (c7 f.ms avs) outs)[i]?=some (.ino d')->σ[i]?≠some (some (.ref c)):=fun i d' e' z=>cIA ⟨i,k.kp.mu ⟨d',.inr e'⟩,z⟩;have rv:jO K F0 H₀ I (dW e1 (c7 f.ms avs) outs) σ H2 (.frs d) v:=by
       refine ⟨c,ev,R2c,by rw [eF];exact td,R1.oi (.inl hn),fun z=>?_,nino,fun i d' e'=>?_⟩
       ·rw [eF] at z;exact R1.fz z hn
       ·have e0:e1[i]?=some (.ro d'):=by
         rcases k.2 i with y | ⟨_,_,_,y⟩ | ⟨_,_,_,y⟩
         ·rw [<- y];exact e'
         ·rw [e'] at y;cases y
         ·rw [e'] at y;cases y
        obtain ⟨b,s,t⟩:=R1.ro i d' e0;rw [eF,eI];exact ⟨b,s,((t.fresh hn).zZ hn).pr pF (fun _ z=>z) (fun _ z=>z) fun b o' e n=>hk' b o' e fun z=>n (.inl z)⟩
      exact q v H2 rv.rel (k1.trans k.kp) rv
    ·cases h
 ·cases h
theorem HK {as:XA} (ih:SA K ga gd as):SE K ga gd (.tup as):=by
 intro env rv env' h F0 H₀ I σ H Q R q;simp only [dE] at h;split at h
 ·rename_i avs e1 h1;split at h
  ·rename_i ds h2;split at h
   ·rename_i hl;cases h;refine ih _ _ _ h1 F0 H₀ I σ H _ R fun vs H1 R1 k1 a1=>?_;have dl:=a1.HF h2;have hl':vs.length<=sizeLine:=by rw [dl.len];exact hl
    refine ⟨hl',fun p hp=>?_⟩;have s:=bq.nw (.tup vs) hp;exact q _ _ (R1.same s) k1 ⟨p,vs,rfl,.inl (.inl aE),hl',dl.pr (Pr.of_same s) fun _ z=>z⟩
   ·cases h
  ·cases h
 ·cases h
theorem JB {as:XA} (ih:SA K ga gd as):SE K ga gd (.lst as):=by
 intro env rv env' h F0 H₀ I σ H Q R q;simp only [dE] at h;split at h
 ·rename_i avs e1 h1;split at h
  ·rename_i ds h2;split at h
   ·rename_i hl;cases h;refine ih _ _ _ h1 F0 H₀ I σ H _ R fun vs H1 R1 k1 a1=>?_;have dl:=a1.HF h2;have hl':vs.length<=sizeLine:=by rw [dl.len];exact hl
    refine ⟨hl',fun p hp=>?_⟩;have s:=bq.nw (.lst vs) hp;exact q _ _ (R1.same s) k1 (R1.qK (pr:=.frs (.list ds)) s ⟨p,rfl,hp,vs,aE,hl',(dl.fresh hp).pr (Pr.of_same s) fun _ z=>z⟩)
   ·cases h
  ·cases h
 ·cases h
theorem HC {as:XA} (ih:SF K ga gd as):SE K ga gd (.fst as):=by
 intro env rv env' h F0 H₀ I σ H Q R q;simp only [dE] at h;split at h
 ·rename_i x e1 h1;cases h;exact ih _ _ _ _ h1 F0 H₀ I σ H _ R (show PyData.strOk ⟨#[]⟩=true by simp [PyData.strOk]) fun H1 R1 k1 hl ho=>q _ H1 R1 k1 ⟨rfl,hl,ho⟩
 ·cases h
theorem Ht:SF K ga gd .nil:=by
 intro out env x env' h F0 H₀ I σ H Q R ok q;simp only [dF] at h;split at h
 ·rename_i hl;cases h;exact ⟨hl,q H R (KpE.refl _) hl ok⟩
 ·cases h
theorem EG {e:XE} {r:XA} (ie:SE K ga gd e) (ir:SF K ga gd r):SF K ga gd (.cons e r):=by
 intro out env x env' h F0 H₀ I σ H Q R ok q;simp only [dF] at h;split at h
 ·rename_i y e1 h1;split at h
  ·rename_i hl;refine ie _ _ _ h1 F0 H₀ I σ H _ R fun v H1 R1 k1 a1=>?_;obtain ⟨rfl,_,oky⟩:=(show v=.str y/\y.length<=sizeLine/\PyData.strOk y=true from a1);refine ⟨y,rfl,hl,?_⟩;exact ir _ _ _ _ h F0 H₀ I σ H1 _ R1 (pB ok oky) fun H2 R2 k2 hx=>q H2 R2 (k1.trans k2) hx
  ·cases h
 ·cases h
theorem Hw:SA K ga gd .nil:=by
 intro env rv env' h F0 H₀ I σ H Q R q;simp only [dA] at h;cases h;exact q [] H R (KpE.refl _) rfl
theorem EO {e:XE} {r:XA} (ie:SE K ga gd e) (ir:SA K ga gd r):SA K ga gd (.cons e r):=by
 intro env rv env' h F0 H₀ I σ H Q R q;simp only [dA] at h;split at h
 ·rename_i rv0 e1 h1;split at h
  ·rename_i avs e2 h2;cases h;refine ie _ _ _ h1 F0 H₀ I σ H _ R fun v H1 R1 k1 a1=>?_;refine ir _ _ _ h2 F0 _ _ σ H1 _ R1.rebase fun vs H2 S2 k2 a2=>?_;exact q (v :: vs) H2 (R1.bU S2) (k1.trans k2) ⟨v,vs,rfl,a1.av.keep R1 S2 k2,a2⟩
  ·cases h
 ·cases h
end
open PySem
section
variable {K:Fg} {F F' I I' F0:Addr->Prop} {H H' H₀:Hp} {env env':En} {σ σ':St} {ga:Nat->V} {gd:List PyData}
theorem JJ {c:XT} {a b:XE} (ic:ST K ga gd c) (ia:SE K ga gd a) (ib:SE K ga gd b):SE K ga gd (.ifx c a b):=by
 intro env rv env' h F0 H₀ I σ H Q R q;simp only [dE] at h;split at h
 ·rename_i e1 h1;refine ic _ _ _ h1 F0 H₀ I σ H _ R fun H1 R1 k1=>?_;rw [Me rfl];exact ia _ _ _ h F0 H₀ I σ H1 _ R1 fun v H2 R2 k2 r=>q v H2 R2 (k1.trans k2) r
 ·rename_i e1 h1;refine ic _ _ _ h1 F0 H₀ I σ H _ R fun H1 R1 k1=>?_;rw [Mn (by decide)];exact ib _ _ _ h F0 H₀ I σ H1 _ R1 fun v H2 R2 k2 r=>q v H2 R2 (k1.trans k2) r
 ·cases h
theorem E8 {a b:XE} (ia:SE K ga gd a) (ib:SE K ga gd b):SE K ga gd (.mw a b):=by
 intro env rv env' h F0 H₀ I σ H Q R q;simp only [dE] at h;split at h
 ·rename_i e1 h1;refine ia _ _ _ h1 F0 H₀ I σ H _ R fun v H1 R1 k1 r1=>⟨true,r1,?_⟩;rw [Me rfl];exact ib _ _ _ h F0 H₀ I σ H1 _ R1 fun v H2 R2 k2 r=>q v H2 R2 (k1.trans k2) r
 ·rename_i e1 h1;cases h;refine ia _ _ _ h1 F0 H₀ I σ H _ R fun v H1 R1 k1 r1=>⟨false,r1,?_⟩;rw [Mn (by decide)];exact q _ H1 R1 k1 rfl
 ·cases h
theorem HW {a b:XE} (ia:SE K ga gd a) (ib:SE K ga gd b):SE K ga gd (.orv a b):=by
 intro env rv env' h F0 H₀ I σ H Q R q;simp only [dE] at h;split at h
 ·rename_i e1 h1;cases h;refine ia _ _ _ h1 F0 H₀ I σ H _ R fun v H1 R1 k1 r1=>⟨true,r1,?_⟩;rw [Me rfl];exact q _ H1 R1 k1 rfl
 ·rename_i e1 h1;refine ia _ _ _ h1 F0 H₀ I σ H _ R fun v H1 R1 k1 r1=>⟨false,r1,?_⟩;rw [Mn (by decide)];exact ib _ _ _ h F0 H₀ I σ H1 _ R1 fun v H2 R2 k2 r=>q v H2 R2 (k1.trans k2) r
 ·cases h
theorem EB {a:XE} (ia:SE K ga gd a):SE K ga gd (.B0 a):=by
 intro env rv env' h F0 H₀ I σ H Q R q;simp only [dE] at h;split at h
 ·rename_i x e1 h1;cases h;exact ia _ _ _ h1 F0 H₀ I σ H _ R fun v H1 R1 k1 r1=>⟨x,r1,q _ H1 R1 k1 rfl⟩
 ·cases h
theorem ID {x y:PyData} {u v:V} (hx:Vw K F H x u) (hy:Vw K F H y v):VwL K F H [x,y] [u,v]:=⟨u,[v],rfl,hx,v,[],rfl,hy,rfl⟩
theorem Ji {p p':Prm} {a b c:XE} (ia:SE K ga gd a) (ib:SE K ga gd b) (ic:SE K ga gd c):SE K ga gd (.chn p p' a b c):=by
 intro env rv env' h F0 H₀ I σ H Q R q;simp only [dE] at h;split at h
 ·rename_i ra e1 h1;split at h
  ·rename_i rb e2 h2;split at h
   ·rename_i x y hx hy;refine ia _ _ _ h1 F0 H₀ I σ H _ R fun v H1 R1 k1 r1=>?_;refine ib _ _ _ h2 F0 _ _ σ H1 _ R1.rebase fun u H2 S2 k2 r2=>?_;have R2:=R1.bU S2;have a1:=r1.av.keep R1 S2 k2;have a2:=r2.av;rw [hx] at a1;rw [hy] at a2;have dx:Dm K (FF F0 e2 σ) H2 x v:=a1;have dy:Dm K (FF F0 e2 σ) H2 y u:=a2;split at h
    ·rename_i hp;split at h
     ·rename_i rc e3 h3;split at h
      ·rename_i z hz;split at h
       ·rename_i pr hq;cases h;refine p.ok K _ H2 _ _ _ _ hp (ID dx.vw dy.vw) (fun b z=>R2.fz z) fun w H3 s3 hw=>⟨true,hw,?_⟩;rw [Me rfl];have R3:=R2.same s3;have dy3:Dm K (FF F0 e2 σ) H3 y u:=dy.pr (Pr.of_same s3) fun _ z=>z;refine ic _ _ _ h3 F0 _ _ σ H3 _ R3.rebase fun t H4 S4 k4 r4=>?_;have R4:=R3.bU S4;have a4:=r4.av;rw [hz] at a4;have dz:Dm K (FF F0 env' σ) H4 z t:=a4;refine p'.ok K _ H4 _ _ _ _ hq (ID (R3.tM S4 k4 dy3).vw dz.vw) (fun b z=>R4.fz z) fun w H5 s5 hw=>?_;exact q w H5 (R4.same s5) ((k1.trans k2).trans k4) (R4.qK s5 hw)
       ·cases h
      ·cases h
     ·cases h
    ·rename_i hp;cases h;refine p.ok K _ H2 _ _ _ _ hp (ID dx.vw dy.vw) (fun b z=>R2.fz z) fun w H3 s3 hw=>⟨false,hw,?_⟩;rw [Mn (by decide)];exact q _ H3 (R2.same s3) (k1.trans k2) rfl
    ·cases h
   ·cases h
  ·cases h
 ·cases h
theorem IY {p:Int->Int->Prm} {a b c:XE} (ia:SE K ga gd a) (ib:SE K ga gd b) (ic:SE K ga gd c):SE K ga gd (.sl2 p a b c):=by
 intro env rv env' h F0 H₀ I σ H Q R q;simp only [dE] at h;split at h
 ·rename_i ra e1 h1;split at h
  ·rename_i i e2 h2;split at h
   ·rename_i j e3 h3;split at h
    ·rename_i d hv;split at h
     ·rename_i pr hp;cases h;refine ia _ _ _ h1 F0 H₀ I σ H _ R fun v H1 R1 k1 r1=>?_;refine ib _ _ _ h2 F0 _ _ σ H1 _ R1.rebase fun u H2 S2 k2 r2=>⟨i,r2,?_⟩;have R2:=R1.bU S2;have a1:=r1.av.keep R1 S2 k2;refine ic _ _ _ h3 F0 _ _ σ H2 _ R2.rebase fun w H3 S3 k3 r3=>⟨j,r3,?_⟩;have R3:=R2.bU S3;have a2:=a1.keep R2 S3 k3;refine (p i j).ok K _ H3 [d] [v] pr Q hp ⟨v,[],rfl,a2.vw R3 hv,rfl⟩ (fun b z=>R3.fz z) fun w H4 s4 hw=>?_;exact q w H4 (R3.same s4) ((k1.trans k2).trans k3) (R3.qK s4 hw)
     ·cases h
    ·cases h
   ·cases h
  ·cases h
 ·cases h
theorem GW {e:XE} (ie:SE K ga gd e):ST K ga gd (.tst e):=by
 intro env b env' h F0 H₀ I σ H Q R q;simp only [dT] at h;split at h
 ·rename_i x e1 h1;cases h;exact ie _ _ _ h1 F0 H₀ I σ H _ R fun v H1 R1 k1 r1=>⟨_,r1,q H1 R1 k1⟩
 ·cases h
theorem mx {ds:List PyData} {vs:List V} (h:DmL K F H ds vs):vs.isEmpty=ds.isEmpty:=by
 cases ds with
 | nil=>rw [show vs=[] from h];rfl
 | cons d ds=>obtain ⟨v,r,rfl,_⟩:=h;rfl
theorem Vw.tru {d:PyData} {v:V} (h:Vw K F H d v) (nd:EV d≠true):GN K v H (JY d):=by
 cases d with
 | none=>rw [show v=.non from h];rfl
 | bool b=>rw [show v=.bl b from h];rfl
 | int i=>rw [show v=.int i from h];rfl
 | str x=>obtain ⟨rfl,hl,_⟩:=(show v=.str x/\x.length<=sizeLine/\PyData.strOk x=true from h);exact ⟨hl,rfl⟩
 | list ds=>obtain ⟨a,rfl,xs,e,_,r⟩:=h;exact .inl ⟨xs,e,by rw [mx r];rfl⟩
 | tuple ds=>obtain ⟨a,xs,rfl,e,_,r⟩:=h;exact .inr (.inl ⟨xs,e,by rw [mx r];rfl⟩)
 | dict ds=>exact absurd rfl nd
theorem Hq {e:XE} (ie:SE K ga gd e):ST K ga gd (.tru e):=by
 intro env b env' h F0 H₀ I σ H Q R q;simp only [dT] at h;split at h
 ·rename_i x e1 h1;split at h
  ·rename_i d h2;split at h
   ·cases h
   ·rename_i nd;cases h;exact ie _ _ _ h1 F0 H₀ I σ H _ R fun v H1 R1 k1 r1=>⟨_,(r1.av.vw R1 h2).tru nd,q H1 R1 k1⟩
  ·cases h
 ·cases h
theorem IK {a b:XT} (ia:ST K ga gd a) (ib:ST K ga gd b):ST K ga gd (.and a b):=by
 intro env x env' h F0 H₀ I σ H Q R q;simp only [dT] at h;split at h
 ·rename_i e1 h1;refine ia _ _ _ h1 F0 H₀ I σ H _ R fun H1 R1 k1=>?_;rw [Me rfl];exact ib _ _ _ h F0 H₀ I σ H1 _ R1 fun H2 R2 k2=>q H2 R2 (k1.trans k2)
 ·rename_i e1 h1;cases h;refine ia _ _ _ h1 F0 H₀ I σ H _ R fun H1 R1 k1=>?_;rw [Mn (by decide)];exact q H1 R1 k1
 ·cases h
theorem K2 {a b:XT} (ia:ST K ga gd a) (ib:ST K ga gd b):ST K ga gd (.or a b):=by
 intro env x env' h F0 H₀ I σ H Q R q;simp only [dT] at h;split at h
 ·rename_i e1 h1;cases h;refine ia _ _ _ h1 F0 H₀ I σ H _ R fun H1 R1 k1=>?_;rw [Me rfl];exact q H1 R1 k1
 ·rename_i e1 h1;refine ia _ _ _ h1 F0 H₀ I σ H _ R fun H1 R1 k1=>?_;rw [Mn (by decide)];exact ib _ _ _ h F0 H₀ I σ H1 _ R1 fun H2 R2 k2=>q H2 R2 (k1.trans k2)
 ·cases h
theorem Jj {a:XT} (ia:ST K ga gd a):ST K ga gd (.not a):=by
 intro env x env' h F0 H₀ I σ H Q R q;simp only [dT] at h;split at h
 ·rename_i b e1 h1;cases h;exact ia _ _ _ h1 F0 H₀ I σ H _ R fun H1 R1 k1=>q H1 R1 k1
 ·cases h
theorem Iy:ST K ga gd .yes:=by
 intro env x env' h F0 H₀ I σ H Q R q;simp only [dT] at h;cases h;exact q H R (KpE.refl _)
theorem Ah {a:Addr} {vs:List V} {ds:List PyData} (hd:DmL K F H ds vs) (hl:vs.length<=sizeLine) (h:∀ H',(∀ b o,H b=some o->¬I b->H' b=some o)->SqL K H' a vs):yP K F I H (Itl K a) ds :=
 nV hd hl fun H' k j=>⟨fun hj=>⟨⟨vs,vs[j],h H' k,L6 hj⟩,fun x H'' y=>⟨y.1,y.2 vs (h H' k)⟩⟩,fun hj=>⟨vs,h H' k,hj⟩⟩
theorem Dp {a:Addr} {vs:List V} {ds:List PyData} (hd:DmL K F H ds vs) (hl:vs.length<=sizeLine) (h:∀ H',(∀ b o,H b=some o->¬I b->H' b=some o)->SqT K H' a vs):yP K F I H (Itt K a) ds :=
 nV hd hl fun H' k j=>⟨fun hj=>⟨⟨vs,vs[j],h H' k,L6 hj⟩,fun x H'' y=>⟨y.1,y.2 vs (h H' k)⟩⟩,fun hj=>⟨vs,h H' k,hj⟩⟩
theorem Co {e:XE} (ie:SE K ga gd e):SI K ga gd (.lst e):=by
 intro env ds lock env' h F0 H₀ I σ H Q R q;simp only [dI] at h;split at h
 ·rename_i rv e1 h1;split at h
  ·rename_i ds' hv;cases h;refine ie _ _ _ h1 F0 H₀ I σ H _ R fun v H1 R1 k1 r1=>?_;have a1:=r1.av;rw [hv] at a1;obtain ⟨a,xs,rfl,l,z,r⟩:=(show Dm K (FF F0 env' σ) H1 (.list ds) v from a1);refine ⟨a,rfl,⟨xs,l.elim (fun q=>.inl q.2) .inr⟩,q _ H1 R1 k1 (fun i z=>by cases z) (Ah r z fun H' k=>?_)⟩;rcases l with ⟨n,l | ⟨o,l⟩⟩ | l
   ·exact .inl (.inl (k _ _ l fun z=>n (R1.ia z.1)))
   ·exact .inl (.inr ⟨o,k _ _ l fun z=>n (R1.ia z.1)⟩)
   ·exact .inr l
  ·cases h
  ·rename_i i hv;split at h
   ·rename_i ds' hc;cases h;refine ie _ _ _ h1 F0 H₀ I σ H _ R fun v H1 R1 k1 r1=>?_;have a1:=r1.av;rw [hv] at a1;have s:σ[i]?=some (some v):=a1;unfold cont at hc;have fin:∀ a xs,v=.ref a->DmL K (FF F0 env' σ) H1 ds xs->xs.length<=sizeLine->(∀ H',(∀ b o,H1 b=some o->¬(IA env' σ b/\∀ j,some i=some j->mu env' j->σ[j]?≠some (some (.ref b)))->H' b=some o)->SqL K H' a xs)->(∃ d,cont env' i=some d) ->
      ∃ a,v=.ref a/\(∃ xs,SqL K H1 a xs)/\Q (Itl K a) H1:=fun a xs ev r z k hcd =>
     ⟨a,ev,⟨xs,k H1 fun _ _ e _=>e⟩,q _ H1 R1 k1 (fun j hj=>by cases hj;exact hcd) (Ah r z k)⟩
    split at hc
    ·rename_i d e;cases hc;obtain ⟨a,s',_,_,xs,t,z,r⟩:=R1.own i _ e;rw [s] at s';cases s';exact fin a xs rfl r z (fun H' k=>.inl (.inl (k _ _ t fun y=>y.2 i rfl ⟨_,.inl e⟩ s))) ⟨_,by unfold cont;rw [e]⟩
    ·rename_i d e;cases hc;obtain ⟨a,s',_,_,xs,t,z,r⟩:=R1.ino i _ e;rw [s] at s';cases s';exact fin a xs rfl r z (fun H' k=>.inl (.inl (k _ _ t fun y=>y.2 i rfl ⟨_,.inr e⟩ s))) ⟨_,by unfold cont;rw [e]⟩
    ·rename_i d e;cases hc;obtain ⟨a,s',xs,l,z,r⟩:=R1.ro i _ e;rw [s] at s';cases s';refine fin a xs rfl r z (fun H' k=>?_) ⟨_,by unfold cont;rw [e]⟩;rcases l with ⟨n,l | ⟨o,l⟩⟩ | l
     ·exact .inl (.inl (k _ _ l fun z=>n z.1))
     ·exact .inl (.inr ⟨o,k _ _ l fun z=>n z.1⟩)
     ·exact .inr l
    ·cases hc
   ·cases h
 ·cases h
theorem GZ {e:XE} (ie:SE K ga gd e):SI K ga gd (.dct e):=by
 intro env ds lock env' h F0 H₀ I σ H Q R q;simp only [dI] at h;cases h
theorem Ft {a:Addr} {xs:List V} {ds:List PyData} (hd:DmL K F H ds xs) (hl:xs.length<=sizeLine) (h1:∀ H',(∀ b o,H b=some o->¬I b->H' b=some o)->SqL K H' a xs):yP K F I H (Ite K a xs) (ds.zipIdx.map fun p=>.tuple [.int p.2,p.1]):=by
 have e1:=hd.len;have el:(ds.zipIdx.map fun p=>PyData.tuple [.int p.2,p.1]).length=xs.length:=by rw [LZ,List.length_zipIdx,e1]
 refine ⟨by rw [el];exact hl,fun H' k j=>⟨fun hj=>?_,fun hj=>?_⟩⟩
 ·rw [el] at hj;refine ⟨⟨h1 H' k,hj⟩,?_⟩;rintro x H'' ⟨p,u,hp,rfl,hu,rfl⟩;obtain ⟨d,d1,d2⟩:=hd.get' hu;refine ⟨.tuple [.int j,d],?_,.inr ⟨p,.int j,u,.int j,d,rfl,rfl,hp,rfl,rfl,d2⟩⟩;rw [Mm,List.getElem?_zipIdx,d1];simp
 ·rw [el] at hj;exact ⟨h1 H' k,hj⟩
theorem IS {e:XE} (ie:SE K ga gd e):SI K ga gd (.itm e):=by
 intro env ds lock env' h F0 H₀ I σ H Q R q;simp only [dI] at h;split at h
 ·rename_i rv e1 h1;split at h
  ·rename_i ds' hv;cases h;refine ie _ _ _ h1 F0 H₀ I σ H _ R fun v H1 R1 k1 r1=>?_;have a1:=r1.av;rw [hv] at a1;obtain ⟨a,xs,rfl,l,z,r⟩:=(show Dm K (FF F0 env' σ) H1 (.list ds') v from a1);refine ⟨a,xs,rfl,l.elim (fun q=>.inl q.2) .inr,q _ H1 R1 k1 (fun i z=>by cases z) (Ft r z fun H' k=>?_)⟩;rcases l with ⟨n,l | ⟨o,l⟩⟩ | l
   ·exact .inl (.inl (k _ _ l fun z=>n (R1.ia z.1)))
   ·exact .inl (.inr ⟨o,k _ _ l fun z=>n (R1.ia z.1)⟩)
   ·exact .inr l
  ·cases h
 ·cases h
theorem Fc {e:XE} (ie:SE K ga gd e):SI K ga gd (.tup e):=by
 intro env ds lock env' h F0 H₀ I σ H Q R q;simp only [dI] at h;split at h
 ·rename_i rv e1 h1;split at h
  ·rename_i ds' hv;cases h;refine ie _ _ _ h1 F0 H₀ I σ H _ R fun v H1 R1 k1 r1=>?_;have a1:=r1.av;rw [hv] at a1;obtain ⟨a,xs,rfl,l,z,r⟩:=(show Dm K (FF F0 env' σ) H1 (.tuple ds) v from a1);refine ⟨a,rfl,⟨xs,l⟩,q _ H1 R1 k1 (fun i z=>by cases z) (Dp r z fun H' k=>?_)⟩;exact l.pr (R1.rW fun b o e n=>k b o e fun z=>n z.1)
  ·cases h
 ·cases h
theorem K1 {e:XE} (ie:SE K ga gd e):SI K ga gd (.sq e):=by
 intro env ds lock env' h F0 H₀ I σ H Q R q;simp only [dI] at h;split at h
 ·rename_i rv e1 h1;split at h
  ·rename_i ds' hv;exact .inl (Co ie env ds lock env' (by simp only [dI,h1,hv];exact h) F0 H₀ I σ H Q R q)
  ·rename_i ds' hv;exact .inr (Fc ie env ds lock env' (by simp only [dI,h1,hv];exact h) F0 H₀ I σ H Q R q)
  ·cases h
  ·rename_i i hv;exact .inl (Co ie env ds lock env' (by simp only [dI,h1,hv];exact h) F0 H₀ I σ H Q R q)
 ·cases h
theorem Be:∀ {cs:List Nat},(∀ c∈cs,c < 0x110000)->DmL K F H (cs.map fun c=>.str ⟨#[c]⟩) (cs.map fun c=>.str ⟨#[c]⟩)
 | [],_=>rfl
 | c :: cs,h=>⟨_,_,rfl,⟨rfl,by show 1<=sizeLine;decide,by have:=h c Mj;simp [PyData.strOk,this]⟩,Be fun x hx=>h x (L8 _ hx)⟩
theorem g9 {x:Str} (h:PyData.strOk x=true):∀ c∈x.cps.toList,c < 0x110000:=fun c hc=>by
 unfold PyData.strOk at h;have:=Array.all_eq_true'.mp h c (by simpa using hc);simpa using this
theorem Jo {e:XE} (ie:SE K ga gd e):SI K ga gd (.str e):=by
 intro env ds lock env' h F0 H₀ I σ H Q R q;simp only [dI] at h;split at h
 ·rename_i rv e1 h1;split at h
  ·rename_i x hv;cases h;refine ie _ _ _ h1 F0 H₀ I σ H _ R fun v H1 R1 k1 r1=>?_;have a1:=r1.av;rw [hv] at a1;obtain ⟨rfl,hl,ok⟩:=(show v=.str x/\x.length<=sizeLine/\PyData.strOk x=true from a1);have ez:x.cps.toList.length=x.length:=by simp [Str.length]
   refine ⟨x,rfl,q _ H1 R1 k1 (fun i z=>by cases z) (nV (Be (g9 ok)) (by rw [LZ,ez];exact hl) fun H' k j=>⟨fun hj=>?_,fun hj=>?_⟩)⟩
   ·rw [LZ,ez] at hj;refine ⟨hj,fun y H'' hy=>?_⟩;obtain ⟨e,c,hc,rfl⟩:=hy;refine ⟨e,?_⟩;rw [Mm];have:x.cps.toList[j]?=some c:=by rw [<- hc];simp
    rw [this];rfl
   ·rw [LZ,ez] at hj;exact hj
  ·cases h
 ·cases h
theorem Ad {f:Nat->Int}:∀ {cs:List Nat},DmL K F H (cs.map fun c=>.int (f c)) (cs.map fun c=>.int (f c))
 | []=>rfl
 | c :: cs=>⟨_,_,rfl,rfl,Ad⟩
theorem Aq {lo:Int} {n:Nat} (hn:n<=sizeLine):yP K F I H (Itr lo n) ((List.range n).map fun (k:Nat)=>.int (lo+(k:Int))):=by
 refine nV (vs:=(List.range n).map fun (k:Nat)=>.int (lo+(k:Int))) (Ad (f:=fun k=>lo+(k:Int))) (by rw [LZ,Ng];exact hn) fun H' k j=>⟨fun hj=>?_,fun hj=>?_⟩
 ·rw [LZ,Ng] at hj;refine ⟨hj,fun y H'' hy=>⟨hy.1,?_⟩⟩;rw [Mm,List.getElem?_range hj,hy.2];rfl
 ·rw [LZ,Ng] at hj;exact hj
theorem Fq {as:XA} (ia:SA K ga gd as):SI K ga gd (.rng1 as):=by
 intro env ds lock env' h F0 H₀ I σ H Q R q;simp only [dI] at h;split at h
 ·rename_i avs e1 h1;split at h
  ·rename_i j;split at h
   ·rename_i hj;cases h;refine ia _ _ _ h1 F0 H₀ I σ H _ R fun vs H1 R1 k1 a1=>?_;obtain ⟨v,r,rfl,hv,rfl⟩:=a1;have hv:v=.int j:=hv;subst hv;refine ⟨j,rfl,hj.1,by have:=hj.2;omega,q _ H1 R1 k1 (fun i z=>by cases z) (Aq ?_)⟩;have:=hj.2;show j.toNat<=2 ^ 24;omega
   ·cases h
  ·cases h
 ·cases h
theorem D9 {a b:Addr} {xs ys:List V} {ds es:List PyData} (hd:DmL K F H ds xs) (he:DmL K F H es ys) (hn:ds.length=es.length) (hl:xs.length<=sizeLine) (h1:∀ H',(∀ b o,H b=some o->¬I b->H' b=some o)->SqT K H' a xs) (h2:∀ H',(∀ b o,H b=some o->¬I b->H' b=some o)->SqT K H' b ys):yP K F I H (Itz K a b xs ys) ((ds.zip es).map fun p=>.tuple [p.1,p.2]):=by
 have e1:=hd.len;have e2:=he.len;have el:((ds.zip es).map fun p=>PyData.tuple [p.1,p.2]).length=min xs.length ys.length:=by rw [LZ,List.length_zip,e1,e2]
 refine ⟨by rw [el];omega,fun H' k j=>⟨fun hj=>?_,fun hj=>?_⟩⟩
 ·rw [el] at hj;refine ⟨⟨h1 H' k,h2 H' k,by omega,by omega⟩,?_⟩;rintro x H'' ⟨p,u,v,hp,rfl,hu,hv,rfl⟩;obtain ⟨d,d1,d2⟩:=hd.get' hu;obtain ⟨e,e3,e4⟩:=he.get' hv;refine ⟨.tuple [d,e],?_,.inr ⟨p,u,v,d,e,rfl,rfl,hp,rfl,d2,e4⟩⟩;rw [Mm,show (ds.zip es)[j]?=some (d,e) from List.getElem?_zip_eq_some.mpr ⟨d1,e3⟩];rfl
 ·rw [el] at hj;exact ⟨h1 H' k,h2 H' k,by omega⟩
theorem HA {as:XA} (ia:SA K ga gd as):SI K ga gd (.zip as):=by
 intro env ds lock env' h F0 H₀ I σ H Q R q;simp only [dI] at h;split at h
 ·rename_i avs e1 h1;split at h
  ·rename_i xs ys;split at h
   ·rename_i hn;cases h;refine ia _ _ _ h1 F0 H₀ I σ H _ R fun vs H1 R1 k1 a1=>?_;obtain ⟨v,r,rfl,hv,w,r2,rfl,hw,rfl⟩:=a1;obtain ⟨a,us,rfl,la,za,ra⟩:=(show Dm K (FF F0 env' σ) H1 (.tuple xs) v from hv);obtain ⟨b,ws,rfl,lb,zb,rb⟩:=(show Dm K (FF F0 env' σ) H1 (.tuple ys) w from hw);exact ⟨a,b,us,ws,rfl,la,lb,q _ H1 R1 k1 (fun i z=>by cases z) (D9 ra rb hn za (fun H' k=>la.pr (R1.rW fun b o e n=>k b o e fun z=>n z.1)) (fun H' k=>lb.pr (R1.rW fun b o e n=>k b o e fun z=>n z.1)))⟩
   ·cases h
  ·cases h
 ·cases h
theorem De {as:XA} (ia:SA K ga gd as):SI K ga gd (.rng2 as):=by
 intro env ds lock env' h F0 H₀ I σ H Q R q;simp only [dI] at h;split at h
 ·rename_i avs e1 h1;split at h
  ·rename_i i j;split at h
   ·rename_i hj;cases h;refine ia _ _ _ h1 F0 H₀ I σ H _ R fun vs H1 R1 k1 a1=>?_;obtain ⟨v,r,rfl,hv,w,r2,rfl,hw,rfl⟩:=a1;have hv:v=.int i:=hv;have hw:w=.int j:=hw;subst hv hw;refine ⟨i,j,rfl,⟨hj.1,hj.2.1,hj.2.2.1,hj.2.2.2.1⟩,q _ H1 R1 k1 (fun i z=>by cases z) (Aq ?_)⟩;have:=hj.2.2.2.2;show (j - i).toNat<=2 ^ 24;omega
   ·cases h
  ·cases h
 ·cases h
end
open PySem
section
variable {K:Fg} {F F' I I' F0:Addr->Prop} {H H' H₀:Hp} {env env':En} {σ σ':St} {ga:Nat->V} {gd:List PyData}
theorem IE:SPs K ga gd .nil:=by
 intro env kvs env' h F0 H₀ I σ H Q R q;simp only [dP] at h;cases h;exact q [] H R (KpE.refl _) rfl
theorem Ei {k e:XE} {r:XP} (ik:SE K ga gd k) (ie:SE K ga gd e) (ir:SPs K ga gd r):SPs K ga gd (.cons k e r):=by
 intro env kvs env' h F0 H₀ I σ H Q R q;simp only [dP] at h;split at h
 ·rename_i rk e1 h1;split at h
  ·rename_i rv e2 h2;split at h
   ·rename_i kvs' e3 h3;split at h
    ·rename_i dk d hk hd;split at h
     ·rename_i key hkey;cases h;refine ik _ _ _ h1 F0 H₀ I σ H _ R fun v H1 R1 k1 r1=>?_;refine ie _ _ _ h2 F0 _ _ σ H1 _ R1.rebase fun u H2 S2 k2 r2=>?_;have R2:=R1.bU S2;refine ir _ _ _ h3 F0 _ _ σ H2 _ R2.rebase fun vs H3 S3 k3 r3=>?_;have a1:=r1.av;rw [hk] at a1;have a2:=r2.av;rw [hd] at a2;have ev:v=kV key:=by
       cases dk with
       | int i=>cases hkey;exact (show v=.int i from a1)
       | str x=>cases hkey;exact (show v=.str x/\_ from a1).1
       | _=>cases hkey
      have dd:Dm K (FF F0 env' σ) H3 d u:=R2.tM S3 k3 a2;have dk':Dm K (FF F0 env' σ) H3 (kD key) (kV key):=by
       cases dk with
       | int i=>cases hkey;rfl
       | str x=>cases hkey;exact ⟨rfl,(show v=.str x/\_ from a1).2⟩
       | _=>cases hkey
      rw [ev];exact q ((key,u) :: vs) H3 (R2.bU S3) ((k1.trans k2).trans k3) ⟨u,vs,rfl,dk',dd,r3⟩
     ·cases h
    ·cases h
   ·cases h
  ·cases h
 ·cases h
theorem JU {as:XP} (ih:SPs K ga gd as):SE K ga gd (.dsp as):=by
 intro env rv env' h F0 H₀ I σ H Q R q;simp only [dE] at h;cases h
end
open PySem
section
variable {K:Fg} {F F' I I' F0:Addr->Prop} {H H' H₀:Hp} {env env':En} {σ σ':St} {ga:Nat->V} {gd:List PyData}
theorem oS {α:Type}:∀ {l:List α} {i j:Nat} {x:α},l.Nodup->l[i]?=some x->l[j]?=some x->i=j
 | [],_,_,_,_,h,_=>by simp at h
 | y :: l,0,0,_,_,_,_=>rfl
 | y :: l,0,j+1,x,nd,h1,h2=>by
  simp at h1 h2;subst h1;exact absurd (My h2) (MW.mp nd).1
 | y :: l,i+1,0,x,nd,h1,h2=>by
  simp at h1 h2;subst h2;exact absurd (My h1) (MW.mp nd).1
 | y :: l,i+1,j+1,x,nd,h1,h2=>by
  simp at h1 h2;rw [oS (MW.mp nd).2 h1 h2]
def noOwn (env:En):Prop:=∀ (i:Nat) (d:PyData),env[i]?≠some (.own d)
theorem d5 (h:noOwn env):FF F0 env σ=F0:=by
 funext b;apply propext;constructor
 ·rintro (q | ⟨i,d,e,_⟩)
  ·exact q
  ·exact absurd e (h i d)
 ·exact .inl
theorem noOwn.kp (h:noOwn env) (k:KpE env env'):noOwn env':=fun i d e=>by
 obtain ⟨d',e'⟩:=k.own e;exact h i d' e'
def uK:Sl->Prop | .dat _=>True | .un=>True | _=>False
theorem jN {pre:En} {ps:St} (hp:∀ s∈pre,uK s) (hl:pre.length=ps.length):FF F0 (pre++env) (ps++σ)=FF F0 env σ:=by
 funext b;apply propext;constructor
 ·rintro (q | ⟨i,d,e,s⟩)
  ·exact .inl q
  ·by_cases hi:i < pre.length
   ·rw [MC hi] at e;have:=hp _ (My e);exact absurd this id
   ·rw [Mi (by omega)] at e;rw [Mi (by omega),<-hl] at s;exact .inr ⟨_,d,e,s⟩
 ·rintro (q | ⟨i,d,e,s⟩)
  ·exact .inl q
  ·refine .inr ⟨pre.length+i,d,?_,?_⟩
   ·rw [Mi (by omega)];simpa using e
   ·rw [Mi (by omega),hl];simpa using s
theorem nX {pre:En} (hp:∀ s∈pre,uK s) {i:Nat} (h:mu (pre++env) i):pre.length<=i/\mu env (i - pre.length):=by
 obtain ⟨d,h⟩:=h;by_cases hi:i < pre.length
 ·rw [MC hi] at h;rcases h with h | h <;> exact absurd (hp _ (My h)) id
 ·rw [Mi (by omega)] at h;exact ⟨by omega,d,h⟩
theorem sG {pre:En} {ps:St} (hp:∀ s∈pre,uK s) (hl:pre.length=ps.length):IA (pre++env) (ps++σ)=IA env σ:=by
 funext b;apply propext;constructor
 ·rintro ⟨i,m,s⟩;obtain ⟨hi,m'⟩:=nX hp m;rw [Mi (by omega),<-hl] at s;exact ⟨_,m',s⟩
 ·rintro ⟨i,⟨d,m⟩,s⟩;refine ⟨pre.length+i,⟨d,?_⟩,?_⟩
  ·rw [Mi (by omega)];simpa using m
  ·rw [Mi (by omega),hl];simpa using s
theorem Rel.front (R:Rel K F0 H₀ I env σ H) {ds:List PyData} {vs:List V} (h:DmL K (FF F0 env σ) H ds vs):Rel K F0 H₀ I (ds.map .dat++env) (vs.map some++σ) H:=by
 have hp:∀ s∈(ds.map Sl.dat),uK s:=fun s hs=>by obtain ⟨d,_,rfl⟩:=MK.mp hs;trivial
 have hl:(ds.map Sl.dat).length=(vs.map some).length:=by rw [LZ,LZ,h.len]
 have hl2:(ds.map Sl.dat).length=ds.length:=LZ _;have eF:=jN (F0:=F0) (env:=env) (σ:=σ) hp hl;have eI:=sG (env:=env) (σ:=σ) hp hl;have back:∀ {i:Nat} {s:Sl},(ds.map Sl.dat++env)[i]?=some s->(∀ d,s≠.dat d)->(ds.map Sl.dat).length<=i/\env[i - (ds.map Sl.dat).length]?=some s:=fun {i s} e n=>by
  by_cases hi:i < (ds.map Sl.dat).length
  ·rw [MC hi] at e;obtain ⟨d,_,z⟩:=MK.mp (My e);exact absurd z.symm (n d)
  ·rw [Mi (by omega)] at e;exact ⟨by omega,e⟩
 have fs:∀ {i:Nat} {x:Option V},(ds.map Sl.dat).length<=i->σ[i - (ds.map Sl.dat).length]?=some x->(vs.map some++σ)[i]?=some x:=fun {i x} hi e=>by
  rw [Mi (by omega),<-hl];exact e
 refine ⟨by rw [LY,LY,hl,R.len],fun i d e=>?_,fun i d e=>?_,fun i d e=>?_,fun i d e=>?_,fun i j a h1 h2 h3 h4=>?_,R.dom,R.f6⟩
 ·rw [eF];by_cases hi:i < (ds.map Sl.dat).length
  ·rw [MC hi,Mm] at e;cases e2:ds[i]? with
   | none=>rw [e2] at e;cases e
   | some d' =>
    rw [e2] at e;cases e;obtain ⟨v,q,r⟩:=h.get e2;refine ⟨v,?_,r⟩;rw [MC (by omega),Mm,q];rfl
  ·rw [Mi (by omega)] at e;obtain ⟨v,s,r⟩:=R.dat _ d e;exact ⟨v,fs (by omega) s,r⟩
 ·rw [eF];obtain ⟨hi,e⟩:=back e (fun _=>nofun);obtain ⟨a,s,q⟩:=R.own _ d e;exact ⟨a,fs hi s,q⟩
 ·rw [eF];obtain ⟨hi,e⟩:=back e (fun _=>nofun);obtain ⟨a,s,q⟩:=R.ino _ d e;exact ⟨a,fs hi s,q⟩
 ·rw [eF,eI];obtain ⟨hi,e⟩:=back e (fun _=>nofun);obtain ⟨a,s,q⟩:=R.ro _ d e;exact ⟨a,fs hi s,q⟩
 ·obtain ⟨i1,m1⟩:=nX hp h1;obtain ⟨i2,m2⟩:=nX hp h2;rw [Mi (by omega),<-hl] at h3 h4;have:=R.sep _ _ a m1 m2 h3 h4;omega
theorem Rel.behind {pre:En} {ps:St} (R:Rel K F0 H₀ I (pre++env) (ps++σ) H) (hp:∀ s∈pre,uK s) (hl:pre.length=ps.length):Rel K F0 H₀ I env σ H:=by
 have eF:=jN (F0:=F0) (env:=env) (σ:=σ) hp hl;have eI:=sG (env:=env) (σ:=σ) hp hl;have up:∀ {i:Nat} {s:Sl},env[i]?=some s->(pre++env)[pre.length+i]?=some s:=fun {i s} e=>by
  rw [Mi (by omega)];simpa using e
 have dn:∀ {i:Nat} {x:Option V},(ps++σ)[pre.length+i]?=some x->σ[i]?=some x:=fun {i x} e=>by
  rw [Mi (by omega),hl] at e;simpa using e
 have us:∀ {i:Nat} {x:Option V},σ[i]?=some x->(ps++σ)[pre.length+i]?=some x:=fun {i x} e=>by
  rw [Mi (by omega),hl];simpa using e
 refine ⟨by have:=R.len;rw [LY,LY,hl] at this;omega,fun i d e=>?_,fun i d e=>?_,fun i d e=>?_,fun i d e=>?_,fun i j a h1 h2 h3 h4=>?_,R.dom,R.f6⟩
 ·obtain ⟨v,s,r⟩:=R.dat _ d (up e);rw [eF] at r;exact ⟨v,dn s,r⟩
 ·obtain ⟨v,s,r⟩:=R.own _ d (up e);rw [eF] at r;exact ⟨v,dn s,r⟩
 ·obtain ⟨v,s,r⟩:=R.ino _ d (up e);rw [eF] at r;exact ⟨v,dn s,r⟩
 ·obtain ⟨v,s,r⟩:=R.ro _ d (up e);rw [eF,eI] at r;exact ⟨v,dn s,r⟩
 ·obtain ⟨d1,m1⟩:=h1;obtain ⟨d2,m2⟩:=h2;have:=R.sep (pre.length+i) (pre.length+j) a ⟨d1,m1.imp up up⟩ ⟨d2,m2.imp up up⟩ (us h3) (us h4);omega
theorem KpE.front {ds:List PyData} {e':En} (k:KpE (ds.map .dat++env) e'):∃ env',e'=ds.map .dat++env'/\KpE env env':=by
 have hlen:=k.1;rw [LY,LZ] at hlen;refine ⟨e'.drop ds.length,?_,?_,fun i s e=>?_⟩
 ·apply List.ext_getElem?;intro i;by_cases hi:i < ds.length
  ·have hm:(ds.map Sl.dat++env)[i]?=some (.dat ds[i]):=by
    rw [MC (by rw [LZ];exact hi),Mm,L6 hi];rfl
   obtain ⟨s',h',ev⟩:=k.2 i _ hm;have ev:s'=.dat ds[i]:=ev;rw [h',ev,MC (by rw [LZ];exact hi),Mm,L6 hi];rfl
  ·rw [Mi (by rw [LZ];omega),NI,LZ];congr 1;omega
 ·rw [MZ];omega
 ·obtain ⟨s',h',ev⟩:=k.2 (ds.length+i) s (by rw [Mi (by rw [LZ];omega),LZ];simpa using e);exact ⟨s',by rw [NI];exact h',ev⟩
theorem gA {lock:Option Nat} {js:List Nat} {k:Nat} {s:Sl} (h:(fQ env lock js)[k]?=some s):∃ j,js[k]?=some j/\s=se (decide (lock=some j)) (env[j]?.getD .un):=by
 unfold fQ at h;rw [Mm] at h;cases e:js[k]? with
 | none=>rw [e] at h;cases h
 | some j=>rw [e] at h;cases h;exact ⟨j,rfl,rfl⟩
theorem tI {js:List Nat} {k j:Nat} (h:js[k]?=some j):(bP js σ)[k]?=some ((σ[j]?).getD none):=by
 unfold bP;rw [Mm,h];rfl
theorem dt {lock:Option Nat} {js:List Nat}:noOwn (fQ env lock js):=fun k d e=>by
 obtain ⟨j,_,e'⟩:=gA e;cases h:env[j]?.getD .un with
 | un=>rw [h] at e';cases e'
 | dat _=>rw [h] at e';cases e'
 | own c=>rw [h] at e';unfold se at e';simp only at e';split at e' <;> cases e'
 | ino c=>rw [h] at e';unfold se at e';simp only at e';split at e' <;> cases e'
 | ro _=>rw [h] at e';cases e'
theorem getD_some {j:Nat} {s:Sl} (h:env[j]?.getD .un=s) (n:s≠.un):env[j]?=some s:=by
 cases e:env[j]? with
 | none=>rw [e] at h;exact absurd h.symm n
 | some t=>rw [e] at h;cases h;rfl
theorem tH {lock:Option Nat} {js:List Nat} {k:Nat} {d:PyData} (h:(fQ env lock js)[k]?=some (.ino d)):∃ j,js[k]?=some j/\lock≠some j/\(env[j]?=some (.own d)\/env[j]?=some (.ino d)):=by
 obtain ⟨j,hj,e'⟩:=gA h;refine ⟨j,hj,?_⟩;cases h:env[j]?.getD .un with
 | un=>rw [h] at e';cases e'
 | dat _=>rw [h] at e';cases e'
 | own c =>
  rw [h] at e';unfold se at e';simp only at e';split at e'
  ·cases e'
  ·rename_i n;cases e';exact ⟨by simpa using n,.inl (getD_some h nofun)⟩
 | ino c =>
  rw [h] at e';unfold se at e';simp only at e';split at e'
  ·cases e'
  ·rename_i n;cases e';exact ⟨by simpa using n,.inr (getD_some h nofun)⟩
 | ro _=>rw [h] at e';cases e'
theorem eJ {lock:Option Nat} {js:List Nat} {k:Nat} (h:mu (fQ env lock js) k):∃ j,js[k]?=some j/\lock≠some j/\mu env j:=by
 obtain ⟨d,h | h⟩:=h
 ·exact absurd h (dt k d)
 ·obtain ⟨j,h1,h2,h3⟩:=tH h;exact ⟨j,h1,h2,d,h3⟩
theorem b7 {js:List Nat} {k j:Nat} {a:Addr} (h:js[k]?=some j) (e:(bP js σ)[k]?=some (some (.ref a))):σ[j]?=some (some (.ref a)):=by
 rw [tI h] at e;cases q:σ[j]? with
 | none=>rw [q] at e;cases e
 | some x=>rw [q] at e;cases e;rfl
theorem df {js:List Nat} {k j:Nat} {v:V} (h:js[k]?=some j) (e:σ[j]?=some (some v)):(bP js σ)[k]?=some (some v):=by rw [tI h,e];rfl
theorem Rel.bP (R:Rel K F0 H₀ I env σ H) {lock:Option Nat} {js:List Nat} (nd:js.Nodup):Rel K (FF F0 env σ) H (IA (fQ env lock js) (L2.bP js σ)) (fQ env lock js) (L2.bP js σ) H:=by
 have eF:FF (FF F0 env σ) (fQ env lock js) (L2.bP js σ)=FF F0 env σ:=d5 dt;have sub:∀ b,IA (fQ env lock js) (L2.bP js σ) b->IA env σ b:=fun b ⟨k,m,s⟩=>by
  obtain ⟨j,hj,_,mj⟩:=eJ m;exact ⟨j,mj,b7 hj s⟩
 refine ⟨by unfold fQ L2.bP;rw [LZ,LZ],fun k d e=>?_,fun k d e=>absurd e (dt k d),fun k d e=>?_,fun k d e=>?_,fun k l a h1 h2 h3 h4=>?_,fun b h=>R.fz h,fun _ _ h _=>h⟩
 ·rw [eF];obtain ⟨j,hj,e'⟩:=gA e;have ej:env[j]?=some (.dat d):=by
   cases h:env[j]?.getD .un with
   | un=>rw [h] at e';cases e'
   | dat c=>rw [h] at e';cases e';exact getD_some h nofun
   | own c=>rw [h] at e';unfold se at e';simp only at e';split at e' <;> cases e'
   | ino c=>rw [h] at e';unfold se at e';simp only at e';split at e' <;> cases e'
   | ro _=>rw [h] at e';cases e'
  obtain ⟨v,s,r⟩:=R.dat j d ej;exact ⟨v,df hj s,r⟩
 ·rw [eF];obtain ⟨j,hj,_,ej⟩:=tH e;have:∃ a,σ[j]?=some (some (.ref a))/\FF F0 env σ a/\Top K (FF F0 env σ) H d a:=by
   rcases ej with ej | ej
   ·obtain ⟨a,s,_,_,t⟩:=R.own j d ej;exact ⟨a,s,.inr ⟨j,d,ej,s⟩,t⟩
   ·obtain ⟨a,s,f,_,t⟩:=R.ino j d ej;exact ⟨a,s,.inl f,t⟩
  obtain ⟨a,s,f,t⟩:=this;exact ⟨a,df hj s,f,⟨k,⟨d,.inr e⟩,df hj s⟩,t⟩
 ·rw [eF];obtain ⟨j,hj,e'⟩:=gA e;have lk:∀ a,lock=some j->mu env j->σ[j]?=some (some (.ref a))->¬IA (fQ env lock js) (L2.bP js σ) a:=fun a hl m s ⟨k',m',s'⟩=>by
   obtain ⟨j',hj',hn,mj'⟩:=eJ m';have:=R.sep j' j a mj' m (b7 hj' s') s;subst this;exact hn hl
  cases h:env[j]?.getD .un with
  | un=>rw [h] at e';cases e'
  | dat c=>rw [h] at e';cases e'
  | own c =>
   rw [h] at e';unfold se at e';simp only at e';split at e'
   ·rename_i n;cases e';have ej:=getD_some h nofun;obtain ⟨a,s,_,_,t⟩:=R.own j d ej;exact ⟨a,df hj s,t.ro (lk a (by simpa using n) ⟨d,.inl ej⟩ s)⟩
   ·cases e'
  | ino c =>
   rw [h] at e';unfold se at e';simp only at e';split at e'
   ·rename_i n;cases e';have ej:=getD_some h nofun;obtain ⟨a,s,_,_,t⟩:=R.ino j d ej;exact ⟨a,df hj s,t.ro (lk a (by simpa using n) ⟨d,.inr ej⟩ s)⟩
   ·cases e'
  | ro c =>
   rw [h] at e';cases e';obtain ⟨a,s,t⟩:=R.ro j d (getD_some h nofun);exact ⟨a,df hj s,t.pr Pr.refl (fun _ z=>z) sub fun _ _ z _=>z⟩
 ·obtain ⟨j1,e1,_,m1⟩:=eJ h1;obtain ⟨j2,e2,_,m2⟩:=eJ h2;have:=R.sep j1 j2 a m1 m2 (b7 e1 h3) (b7 e2 h4);subst this;exact oS nd e1 e2
theorem bA:∀ (env:En) (js:List Nat) (es:En),SmK env (aY env js es)
 | env,[],es=>by unfold aY;exact SmK.refl _
 | env,j :: js,[]=>by unfold aY;exact SmK.refl _
 | env,j :: js,s :: es=>by
  cases s with
  | ino d=>unfold aY;exact (fH env j d).trans (bA _ js es)
  | un=>unfold aY;exact bA _ js es
  | dat _=>unfold aY;exact bA _ js es
  | own _=>unfold aY;exact bA _ js es
  | ro _=>unfold aY;exact bA _ js es
theorem bD:∀ (env:En) (js:List Nat) (es:En) (i:Nat),i ∉ js->(aY env js es)[i]?=env[i]?
 | env,[],es,i,_=>by unfold aY;rfl
 | env,j :: js,[],i,_=>by unfold aY;rfl
 | env,j :: js,s :: es,i,h=>by
  have n:i≠j:=fun z=>h (by rw [z];exact Mj);have n':i ∉ js:=fun z=>h (L8 _ z);cases s with
  | ino d=>unfold aY;rw [bD _ js es i n',ng n]
  | un=>unfold aY;exact bD _ js es i n'
  | dat _=>unfold aY;exact bD _ js es i n'
  | own _=>unfold aY;exact bD _ js es i n'
  | ro _=>unfold aY;exact bD _ js es i n'
theorem fJ:∀ (env:En) (js:List Nat) (es:En) (k i:Nat) (s:Sl),js.Nodup->js[k]?=some i->es[k]?=some s->(∀ d,s=.ino d->mu env i->aQ (aY env js es) i=some d)/\((∀ d,s≠.ino d)->(aY env js es)[i]?=env[i]?)
 | env,[],es,k,i,s,_,h,_=>by simp at h
 | env,j :: js,[],k,i,s,_,_,h=>by simp at h
 | env,j :: js,t :: es,0,i,s,nd,h,h'=>by
  obtain ⟨n1,nd'⟩:=MW.mp nd;simp at h h';subst h h';constructor
  ·rintro d rfl m;unfold aY;have:=bD (gz env j d) js es j n1;unfold aQ;rw [this];exact mV m
  ·intro hn;cases t with
   | ino d=>exact absurd rfl (hn d)
   | un=>unfold aY;exact bD _ js es j n1
   | dat _=>unfold aY;exact bD _ js es j n1
   | own _=>unfold aY;exact bD _ js es j n1
   | ro _=>unfold aY;exact bD _ js es j n1
 | env,j :: js,t :: es,k+1,i,s,nd,h,h'=>by
  obtain ⟨n1,nd'⟩:=MW.mp nd;simp at h h';have hi:i∈js:=My h;have ne:i≠j:=fun z=>n1 (z▸hi);cases t with
  | ino d =>
   unfold aY;have ih:=fJ (gz env j d) js es k i s nd' h h';refine ⟨fun d' e m=>ih.1 d' e ((fH env j d).symm.kp.mu m),fun hn=>?_⟩;rw [ih.2 hn,ng ne]
  | un=>unfold aY;exact fJ env js es k i s nd' h h'
  | dat _=>unfold aY;exact fJ env js es k i s nd' h h'
  | own _=>unfold aY;exact fJ env js es k i s nd' h h'
  | ro _=>unfold aY;exact fJ env js es k i s nd' h h'
theorem KpE.J0 (k:KpE env env') {i:Nat} {d:PyData} (e:env[i]?=some (.ino d)):∃ d',env'[i]?=some (.ino d'):=by
 obtain ⟨s',h,ev⟩:=k.2 i _ e;obtain ⟨d',rfl⟩:=ev;exact ⟨d',h⟩
theorem Rel.back (R:Rel K F0 H₀ I env σ H) {lock:Option Nat} {js:List Nat} {ec:En} (nd:js.Nodup) (S:Rel K (FF F0 env σ) H (IA (fQ env lock js) (L2.bP js σ)) ec (L2.bP js σ) H') (k:KpE (fQ env lock js) ec):Rel K F0 H₀ I (aY env js ec) σ H':=by
 have sub:∀ b,IA (fQ env lock js) (L2.bP js σ) b->IA env σ b:=fun b ⟨k,m,s⟩=>by
  obtain ⟨j,hj,_,mj⟩:=eJ m;exact ⟨j,mj,b7 hj s⟩
 have hk:∀ b o,H b=some o->¬IA env σ b->H' b=some o:=fun b o e n=>S.f6 b o e fun z=>n (sub b z);have eFc:FF (FF F0 env σ) ec (L2.bP js σ)=FF F0 env σ:=d5 (dt.kp k);refine R.chg (bA env js ec) hk fun i d a hm hs=>?_;have sm:=bA env js ec;have mi:mu env i:=sm.kp.mu ((tG hm).elim (fun e=>⟨d,.inl e⟩) fun e=>⟨d,.inr e⟩);have mB:(aY env js ec)[i]?=env[i]?->¬IA (fQ env lock js) (L2.bP js σ) a->Top K (FF F0 env σ) H' d a:=fun e n=>by
  have hm':aQ env i=some d:=by unfold aQ at hm ⊢;rwa [e] at hm
  obtain ⟨_,a',s',_,t⟩:=R.eD hm';rw [hs] at s';cases s';exact t.pr (R.rW hk) (fun _ z=>z) fun o e=>S.f6 a o e n
 by_cases hi:i∈js
 ·obtain ⟨p,hp⟩:=List.mem_iff_getElem?.mp hi;have hlen:ec.length=js.length:=by rw [k.1];unfold fQ;rw [LZ]
  have hpl:p < js.length:=(L5.mp hp).1;have he:ec[p]?=some (ec[p]'(by omega)):=L6 _;obtain ⟨b1,b2⟩:=fJ env js ec p i _ nd hp he;by_cases hl:lock=some i
  ·-- locked
   refine mB (b2 fun d' z=>?_) ?_
   ·rw [z] at he;obtain ⟨s,e0,ev⟩:=k.back he;obtain ⟨j,hj,e'⟩:=gA e0;rw [hp] at hj;cases hj;obtain ⟨c,hc | hc⟩:=mi
    ·rw [hc] at e';simp only [Option.getD_some,se,hl,decide_true,Nz] at e';subst e';cases ev
    ·rw [hc] at e';simp only [Option.getD_some,se,hl,decide_true,Nz] at e';subst e';cases ev
   ·rintro ⟨q,mq,sq⟩;obtain ⟨j',hj',hn,mj'⟩:=eJ mq;have:=R.sep j' i a mj' mi (b7 hj' sq) hs;subst this;exact hn hl
  ·have:∃ c,(fQ env lock js)[p]?=some (.ino c):=by
    unfold fQ;rw [Mm,hp];obtain ⟨c,hc | hc⟩:=mi
    ·exact ⟨c,by rw [NQ,hc];simp [se,hl]⟩
    ·exact ⟨c,by rw [NQ,hc];simp [se,hl]⟩
   obtain ⟨c,hc⟩:=this;obtain ⟨d',hd'⟩:=k.J0 hc;rw [he] at hd';have ed:=b1 d' (MF hd') mi;rw [hm] at ed;cases ed;obtain ⟨a',s',_,_,t⟩:=S.ino p d (by rw [he];exact hd');have:=b7 hp s';rw [hs] at this;cases this
   rwa [eFc] at t
 ·refine mB (bD env js ec i hi) ?_;rintro ⟨q,mq,sq⟩;obtain ⟨j',hj',hn,mj'⟩:=eJ mq;have:=R.sep j' i a mj' mi (b7 hj' sq) hs;subst this;exact hi (My hj')
end
open PySem
section
variable {K:Fg} {F F' I I' F0:Addr->Prop} {H H' H₀ H1:Hp} {env env' e1:En} {σ σ':St} {ga:Nat->V} {gd:List PyData}
def II (K:Fg) (F:Addr->Prop) (H:Hp) (acc:List V):Option PyData->List V->Prop
 | none,acc'=>acc'=acc
 | some d,acc'=>∃ v,acc'=acc++[v]/\Dm K F H d v
theorem xG {step:PyData->En->Option (Option PyData×En)} {ds ys:List PyData} {ec:En} {lock:Option Nat} {js:List Nat} {J:It} {Q:VK} {τ:Type} {TI:τ->Prop} {t0:τ} {body:τ->List V->V->Hp->(τ->List V->Hp->Prop)->Prop} (ht0:TI t0)
  (R1:Rel K F0 H₀ I e1 σ H1) (nd:js.Nodup) (hit:yP K (FF F0 e1 σ) (fun b=>IA e1 σ b/\∀ i,lock=some i->mu e1 i->σ[i]?≠some (some (.ref b))) H1 J ds) (h2:yn step ds (fQ e1 lock js)=some (ys,ec))
  (turn:∀ t acc d envc y envc' x H',TI t->step d envc=some (y,envc')->Rel K (FF F0 e1 σ) H1 (IA (fQ e1 lock js) (bP js σ)) envc (bP js σ) H'->noOwn envc->Dm K (FF F0 e1 σ) H' d x->∀ N:τ->List V->Hp->Prop,
   (∀ t' acc' H2,TI t'->Rel K (FF F0 e1 σ) H1 (IA (fQ e1 lock js) (bP js σ)) envc' (bP js σ) H2->KpE envc envc'->Pr (FF F0 e1 σ) H' H2->II K (FF F0 e1 σ) H2 acc y acc'->N t' acc' H2)->body t acc x H' N)
  (fin:∀ acc H',Rel K F0 H₀ I (aY e1 js ec) σ H'->DmL K (FF F0 e1 σ) H' ys acc->acc.length<=sizeLine->∀ p,H' p=none->Q (.ref p) (upd H' p (.lst acc))) :
  ∃ W:Nat->Nat->τ->List V->Hp->Prop,(∃ m,W 0 m t0 [] H1)/\∀ i m t acc H,W i m t acc H ->
   (J.stop i H/\acc.length<=sizeLine/\∀ p,H p=none->Q (.ref p) (upd H p (.lst acc)))\/(J.go i H/\acc.length < sizeLine/\∀ x H',J.yld i H x H'->body t acc x H' fun t' acc' H2=>∃ m',m' < m/\W (i+1) m' t' acc' H2):=by
 obtain ⟨hvl,hturn⟩:=hit;have sub:∀ b,IA (fQ e1 lock js) (bP js σ) b->IA e1 σ b/\∀ i,lock=some i->mu e1 i->σ[i]?≠some (some (.ref b)):=fun b ⟨k,m,s⟩=>by
  obtain ⟨j,hj,hn,mj⟩:=eJ m;refine ⟨⟨j,mj,b7 hj s⟩,fun i hl mi si=>?_⟩;have:=R1.sep j i b mj mi (b7 hj s) si;subst this;exact hn hl
 have Rc0:=R1.bP (lock:=lock) nd
 refine ⟨fun i m t acc H'=>TI t/\m=ds.length - i/\i<=ds.length/\acc.length<=i/\∃ envc done rest,yn step (ds.drop i) envc=some (rest,ec)/\ys=done++rest/\Rel K (FF F0 e1 σ) H1 (IA (fQ e1 lock js) (bP js σ)) envc (bP js σ) H'/\KpE (fQ e1 lock js) envc/\DmL K (FF F0 e1 σ) H' done acc,
  ⟨ds.length,ht0,rfl,MV _,Mg _,fQ e1 lock js,[],ys,h2,rfl,Rc0,KpE.refl _,rfl⟩,?_⟩
 rintro i m t acc H' ⟨hti,rfl,hi,hal,envc,done,rest,hc,hy,Rc,kc,hacc⟩;have hkept:∀ b o,H1 b=some o->¬(IA e1 σ b/\∀ i,lock=some i->mu e1 i->σ[i]?≠some (some (.ref b)))->H' b=some o:=fun b o e n=>Rc.f6 b o e fun z=>n (sub b z);by_cases hlt:i < ds.length
 ·right;obtain ⟨go,yld⟩:=(hturn H' hkept i).1 (by omega);refine ⟨go,by omega,fun x H'' hx=>?_⟩;obtain ⟨d,hd,hy9⟩:=yld x H'' hx;obtain ⟨sm,hdx'⟩:=hy9.dm (F2:=FF F0 e1 σ) fun d v h=>h.pr (R1.rW fun b o e n=>hkept b o e fun z=>n z.1) fun _ z=>z;have Rc:=Rc.same sm;have hacc:=hacc.pr (fun b o e _=>sm b o e) fun _ z=>z;have ed:ds.drop i=d :: ds.drop (i+1):=by
   rw [Nj hlt];obtain ⟨_,q⟩:=L5.mp hd;rw [q]
  rw [ed] at hc;unfold yn at hc;split at hc
  ·rename_i y envc' hs;split at hc
   ·rename_i ys' e2 hr;cases hc;refine turn t acc d envc y envc' x H'' hti hs Rc (dt.kp kc) hdx' _ fun t' acc' H2 ht' R2 k2 p2 ha=>⟨_,by omega,ht',rfl,by omega,?_,envc',done++y.toList,ys',hr,by rw [hy,MM],R2,kc.trans k2,?_⟩
    ·cases y with
     | none=>rw [show acc'=acc from ha];omega
     | some dy=>obtain ⟨v,rfl,_⟩:=ha;rw [LY];simp;omega
    ·have hacc':=hacc.pr p2 fun _ z=>z;cases y with
     | none=>rw [show acc'=acc from ha];simpa using hacc'
     | some dy=>obtain ⟨v,rfl,hv⟩:=ha;exact hacc'.snoc hv
   ·cases hc
  ·cases hc
 ·left;have e:i=ds.length:=by omega
  subst e;have hz:acc.length<=sizeLine:=by omega
  rw [List.drop_length] at hc;unfold yn at hc;cases hc;rw [MS] at hy;subst hy;exact ⟨(hturn H' hkept _).2 (by omega),hz,fin acc H' (R1.back nd Rc kc) hacc hz⟩
theorem JV {js:List Nat} {it:XI} {c:XT} {e:XE} (ii:SI K ga gd it) (ic:ST K ga gd c) (ie:SE K ga gd e):SE K ga gd (.cmp js it c e):=by
 intro env rv env' h F0 H₀ I σ H Q R q;simp only [dE] at h;split at h
 ·rename_i ds lock e1 h1;split at h
  ·rename_i nd;split at h
   ·rename_i ys ec h2;cases h;refine ii _ _ _ _ h1 F0 H₀ I σ H _ R fun J H1 R1 k1 _ hit=>?_;refine Exists.elim (xG (Q:=Q) (τ:=Unit) (TI:=fun _=>True) (t0:=()) (body:=fun _ acc x H' N=>rT K ga c (some x :: bP js σ) H' fun b H2=>if b=true then rE K ga e (some x :: bP js σ) H2 fun y H3=>N () (acc++[y]) H3 else N () acc H2) trivial R1 nd hit h2 ?_ ?_) fun W hw=>?_
    rotate_right 1
    ·obtain ⟨w0,hW⟩:=hw;exact ⟨fun i m acc H=>W i m () acc H,w0,fun i m acc H w=>hW i m () acc H w⟩
    ·intro _ acc d envc y envc' x H' _ hs Rc no hd N hN;have eF:FF (FF F0 e1 σ) envc (bP js σ)=FF F0 e1 σ:=d5 no;have Rx:Rel K (FF F0 e1 σ) H1 (IA (fQ e1 lock js) (bP js σ)) (.dat d :: envc) (some x :: bP js σ) H':=Rc.front (ds:=[d]) (vs:=[x]) ⟨x,[],rfl,by rw [eF];exact hd,rfl⟩;have frontF:∀ {e2:En},KpE envc e2->FF (FF F0 e1 σ) (.dat d :: e2) (some x :: bP js σ)=FF F0 e1 σ:=fun {e2} k=>by
      have:=jN (F0:=FF F0 e1 σ) (env:=e2) (σ:=bP js σ) (pre:=[.dat d]) (ps:=[some x]) (fun s hs=>by rw [L9.mp hs];trivial) rfl;exact this.trans (d5 (no.kp k))
     unfold fy at hs;split at hs
     ·rename_i e2 hT;split at hs
      ·rename_i rv e3 hE;split at hs
       ·rename_i dy hv;cases hs;refine ic _ _ _ hT _ _ _ _ H' _ Rx.rebase fun H2 S2 k2=>?_;rw [Me rfl];have R2:=Rx.bU S2;refine ie _ _ _ hE _ _ _ _ H2 _ R2.rebase fun v H3 S3 k3 r3=>?_;have R3:=R2.bU S3;obtain ⟨ex,e3',kx⟩:=(k2.trans k3).front (ds:=[d]);have k23:=k2.trans k3;subst e3';have ht:(([d].map Sl.dat)++ex).tail=ex:=rfl;obtain ⟨e2x,e2',k2x⟩:=k2.front (ds:=[d]);have p12:Pr (FF F0 e1 σ) H' H2:=by have:=Rx.rW S2.f6;rwa [frontF (KpE.refl _)] at this
        have p23:Pr (FF F0 e1 σ) H2 H3:=by
         have:=R2.rW S3.f6;rw [e2'] at this
         rwa [show FF (FF F0 e1 σ) ([d].map Sl.dat++e2x) (some x :: bP js σ)=FF F0 e1 σ from frontF k2x] at this
        have a3:=r3.av;rw [hv] at a3;have dv:Dm K (FF F0 e1 σ) H3 dy v:=by
         have:Dm K (FF (FF F0 e1 σ) ([d].map Sl.dat++ex) (some x :: bP js σ)) H3 dy v:=a3
         rwa [show FF (FF F0 e1 σ) ([d].map Sl.dat++ex) (some x :: bP js σ)=FF F0 e1 σ from frontF kx] at this
        exact hN () _ H3 trivial (R3.behind (pre:=[.dat d]) (ps:=[some x]) (fun s hs=>by rw [L9.mp hs];trivial) rfl) kx (p12.trans p23 fun _ z=>z) ⟨v,rfl,dv⟩
       ·cases hs
      ·cases hs
     ·rename_i e2 hT;cases hs;refine ic _ _ _ hT _ _ _ _ H' _ Rx.rebase fun H2 S2 k2=>?_;rw [Mn (by decide)];have R2:=Rx.bU S2;obtain ⟨ex,e2',kx⟩:=k2.front (ds:=[d]);subst e2';have p12:Pr (FF F0 e1 σ) H' H2:=by have:=Rx.rW S2.f6;rwa [frontF (KpE.refl _)] at this
      exact hN () _ H2 trivial (R2.behind (pre:=[.dat d]) (ps:=[some x]) (fun s hs=>by rw [L9.mp hs];trivial) rfl) kx p12 rfl
     ·cases hs
    ·intro acc H' R' hd hz p hp;have eF:=(bA e1 js ec).ff (F0:=F0) (σ:=σ);have s:=bq.nw (.lst acc) hp;exact q _ _ (R'.same s) (k1.trans (bA e1 js ec).kp) (R'.qK (pr:=.frs (.list ys)) s ⟨p,rfl,hp,acc,aE,hz,by rw [eF];exact (hd.fresh hp).pr (Pr.of_same s) fun _ z=>z⟩)
   ·cases h
  ·cases h
 ·cases h
noncomputable def FC:St->Nat->List V->St
 | σ,_,[]=>σ
 | σ,k,v :: vs=>FC (σ.set k (some v)) (k+1) vs
theorem o9:∀ {vs:List V} {k:Nat} {σ:St} {H:Hp} {Q:St->Hp->Prop},Q (FC σ k vs) H->gNs (List.range' k vs.length) vs σ H Q
 | [],_,_,_,_,h=>⟨rfl,h⟩
 | v :: vs,k,σ,H,Q,h=>⟨v,vs,rfl,o9 (vs:=vs) (k:=k+1) h⟩
theorem sL:∀ {vs:List V} {pre hd tl:St},hd.length=vs.length->FC (pre++(hd++tl)) pre.length vs=pre++(vs.map some++tl)
 | [],pre,hd,tl,h=>by
  have:hd=[]:=List.eq_nil_of_length_eq_zero h;subst this;rfl
 | v :: vs,pre,[],tl,h=>by cases h
 | v :: vs,pre,x :: hd,tl,h=>by
  have hl:hd.length=vs.length:=by simpa using h
  have e:(pre++(x :: hd++tl)).set pre.length (some v)=(pre++[some v])++(hd++tl):=by
   rw [List.set_append_right _ _ (Mg _)];simp
  unfold FC;rw [e];have:=sL (vs:=vs) (pre:=pre++[some v]) (hd:=hd) (tl:=tl) hl;rw [LY] at this;rw [show pre.length+1=pre.length+[some v].length from rfl,this];simp
theorem v7 (n:List Str):(iz n).length=n.length:=by unfold iz;rw [LZ]
theorem DL {n:List Str} {js:List Nat} {it:XI} {e:XE} (ii:SI K ga gd it) (ie:SE K ga gd e):SE K ga gd (.CP n js it e):=by
 intro env rv env' h F0 H₀ I σ H Q R q;simp only [dE] at h;split at h
 ·rename_i ds lock e1 h1;split at h
  ·rename_i nd;split at h
   ·rename_i ys ec h2;cases h;refine ii _ _ _ _ h1 F0 H₀ I σ H _ R fun J H1 R1 k1 _ hit=>?_;refine Exists.elim (xG (Q:=Q) (τ:=St) (TI:=fun t=>∃ hd:St,hd.length=n.length/\t=hd++bP js σ) (t0:=iz n++bP js σ) (body:=fun t acc x H' N=>gTp K (List.range n.length) x t H' fun σ2 H2=>rE K ga e σ2 H2 fun y H3=>N σ2 (acc++[y]) H3) ⟨iz n,v7 n,rfl⟩ R1 nd hit h2 ?_ ?_) fun W hw=>?_
    rotate_right 1
    ·obtain ⟨w0,hW⟩:=hw;exact ⟨W,w0,hW⟩
    ·rintro t acc d envc y envc' x H' ⟨hd,hl,rfl⟩ hs Rc no hdx N hN;have eF:FF (FF F0 e1 σ) envc (bP js σ)=FF F0 e1 σ:=d5 no;unfold gI at hs;split at hs
     ·rename_i xs;split at hs
      ·rename_i hxl;split at hs
       ·rename_i rv e3 hE;split at hs
        ·rename_i dy hv;cases hs;obtain ⟨a,vs,rfl,hq,hz,hdl⟩:=hdx;have hvl:vs.length=n.length:=by rw [hdl.len,hxl]
         refine ⟨a,vs,rfl,hq,by rw [Ng];exact hvl,?_⟩;rw [List.range_eq_range',<-hvl];refine o9 ?_;have es:FC (hd++bP js σ) 0 vs=vs.map some++bP js σ:=sL (pre:=[]) (by rw [hl,hvl]);rw [es];have Rx:Rel K (FF F0 e1 σ) H1 (IA (fQ e1 lock js) (bP js σ)) (xs.map .dat++envc) (vs.map some++bP js σ) H':=Rc.front (by rw [eF];exact hdl);have hpre:∀ s∈(xs.map Sl.dat),uK s:=fun s hs=>by obtain ⟨d,_,rfl⟩:=MK.mp hs;trivial
         have hpl:(xs.map Sl.dat).length=(vs.map some).length:=by rw [LZ,LZ,hdl.len]
         have frontF:∀ {e2:En},KpE envc e2->FF (FF F0 e1 σ) (xs.map .dat++e2) (vs.map some++bP js σ)=FF F0 e1 σ:=fun {e2} k=>(jN hpre hpl).trans (d5 (no.kp k));refine ie _ _ _ hE _ _ _ _ H' _ Rx.rebase fun v H3 S3 k3 r3=>?_;have R3:=Rx.bU S3;obtain ⟨ex,e3',kx⟩:=k3.front;subst e3';have p:Pr (FF F0 e1 σ) H' H3:=by have:=Rx.rW S3.f6;rwa [frontF (KpE.refl _)] at this
         have a3:=r3.av;rw [hv] at a3;have dv:Dm K (FF F0 e1 σ) H3 dy v:=by
          have:Dm K (FF (FF F0 e1 σ) (xs.map .dat++ex) (vs.map some++bP js σ)) H3 dy v:=a3
          rwa [frontF kx] at this
         have ed:(xs.map Sl.dat++ex).drop n.length=ex:=by rw [<- hxl,<-LZ (f:=Sl.dat),List.drop_left]
         rw [ed] at hN;exact hN _ _ H3 ⟨vs.map some,by rw [LZ];exact hvl,rfl⟩ (R3.behind hpre hpl) kx p ⟨v,rfl,dv⟩
        ·cases hs
       ·cases hs
      ·cases hs
     ·cases hs
    ·intro acc H' R' hd hz p hp;have eF:=(bA e1 js ec).ff (F0:=F0) (σ:=σ);have s:=bq.nw (.lst acc) hp;exact q _ _ (R'.same s) (k1.trans (bA e1 js ec).kp) (R'.qK (pr:=.frs (.list ys)) s ⟨p,rfl,hp,acc,aE,hz,by rw [eF];exact (hd.fresh hp).pr (Pr.of_same s) fun _ z=>z⟩)
   ·cases h
  ·cases h
 ·cases h
mutual
theorem sE (hg:∀ g d,gd[g]?=some d->∀ F H,Dm K F H d (ga g)):∀ e:XE,SE K ga gd e
 | .var i=>Hc i | .mov i=>JK i | .tke i=>J2 i | .cst c=>Jn c | .glb g=>HI hg g
 | .prm p as=>Jt (sA hg as) | .met m o as=>JZ (sE hg o) (sA hg as) | .mtr m i as=>IM (sA hg as) | .call f as=>s_call (sA hg as)
 | .tup as=>HK (sA hg as) | .lst as=>JB (sA hg as) | .dsp as=>JU (sPs hg as) | .fst as=>HC (sF hg as)
 | .ifx c a b=>JJ (sT hg c) (sE hg a) (sE hg b) | .mw a b=>E8 (sE hg a) (sE hg b) | .orv a b=>HW (sE hg a) (sE hg b) | .B0 a=>EB (sE hg a)
 | .chn p q a b c=>Ji (sE hg a) (sE hg b) (sE hg c) | .sl2 p a b c=>IY (sE hg a) (sE hg b) (sE hg c)
 | .cmp js it c e=>JV (sI hg it) (sT hg c) (sE hg e) | .CP n js it e=>DL (sI hg it) (sE hg e)
theorem sA (hg:∀ g d,gd[g]?=some d->∀ F H,Dm K F H d (ga g)):∀ e:XA,SA K ga gd e
 | .nil=>Hw | .cons e r=>EO (sE hg e) (sA hg r)
theorem sF (hg:∀ g d,gd[g]?=some d->∀ F H,Dm K F H d (ga g)):∀ e:XA,SF K ga gd e
 | .nil=>Ht | .cons e r=>EG (sE hg e) (sF hg r)
theorem sPs (hg:∀ g d,gd[g]?=some d->∀ F H,Dm K F H d (ga g)):∀ e:XP,SPs K ga gd e
 | .nil=>IE | .cons k e r=>Ei (sE hg k) (sE hg e) (sPs hg r)
theorem sT (hg:∀ g d,gd[g]?=some d->∀ F H,Dm K F H d (ga g)):∀ e:XT,ST K ga gd e
 | .tst e=>GW (sE hg e) | .tru e=>Hq (sE hg e) | .and a b=>IK (sT hg a) (sT hg b) | .or a b=>K2 (sT hg a) (sT hg b) | .not a=>Jj (sT hg a) | .yes=>Iy
theorem sI (hg:∀ g d,gd[g]?=some d->∀ F H,Dm K F H d (ga g)):∀ e:XI,SI K ga gd e
 | .lst e=>Co (sE hg e) | .tup e=>Fc (sE hg e) | .str e=>Jo (sE hg e) | .rng1 as=>Fq (sA hg as) | .rng2 as=>De (sA hg as) | .dct e=>GZ (sE hg e) | .sq e=>K1 (sE hg e) | .itm e=>IS (sE hg e) | .zip as=>HA (sA hg as)
end
end
open PySem
section
variable {K:Fg} {F F' I I' F0:Addr->Prop} {H H' H₀ H1:Hp} {env env' e1:En} {σ σ':St} {ga:Nat->V} {gd:List PyData}
theorem LsF.bH {a:Addr} {xs:List V} (h:LsF K F H a xs):LsF K (fun b=>F b\/H b=none) H a xs:=by
 rcases h with ⟨n,h⟩ | h
 ·refine .inl ⟨fun z=>z.elim n fun e=>?_,h⟩;rcases h with h | ⟨o,h⟩ <;> (rw [e] at h;cases h)
 ·exact .inr h
mutual
theorem Dm.bH:∀ {d:PyData} {v:V},Dm K F H d v->Dm K (fun b=>F b\/H b=none) H d v
 | .none,v,h=>h
 | .bool b,v,h=>h
 | .int i,v,h=>h
 | .str x,v,h=>h
 | .list ds,v,h=>by
  obtain ⟨a,xs,e,l,z,r⟩:=h;exact ⟨a,xs,e,l.bH,z,DmL.bH r⟩
 | .tuple ds,v,h=>by
  obtain ⟨a,xs,e,l,z,r⟩:=h;exact ⟨a,xs,e,l,z,DmL.bH r⟩
 | .dict kvs,v,h=>by
  obtain ⟨a,ep,xs,e,n,l,z,r⟩:=h;exact ⟨a,ep,xs,e,fun q=>q.elim n fun q=>(by rw [q] at l;cases l),l,z,DmP.bH r⟩
theorem DmL.bH:∀ {ds:List PyData} {vs:List V},DmL K F H ds vs->DmL K (fun b=>F b\/H b=none) H ds vs
 | [],vs,h=>h
 | d :: ds,vs,h=>by
  obtain ⟨v,r,e,h1,h2⟩:=h;exact ⟨v,r,e,Dm.bH h1,DmL.bH h2⟩
theorem DmP.bH:∀ {ds:List (PyData×PyData)} {vs:List (PyData×V×V)},DmP K F H ds vs->DmP K (fun b=>F b\/H b=none) H ds vs
 | [],vs,h=>h
 | (k,d) :: ds,vs,h=>by
  obtain ⟨j,v,r,e,e2,h0,h1,h2⟩:=h;exact ⟨j,v,r,e,e2,Dm.bH h0,Dm.bH h1,DmP.bH h2⟩
end
theorem Top.bH {d:PyData} {a:Addr} (h:Top K F H d a):Top K (fun b=>F b\/H b=none) H d a:=by
 cases d with
 | list ds=>obtain ⟨xs,e,z,r⟩:=h;exact ⟨xs,e,z,r.bH⟩
 | dict ds=>obtain ⟨ep,xs,e,z,r⟩:=h;exact ⟨ep,xs,e,z,r.bH⟩
 | _=>exact absurd h id
theorem iw.bH {d:PyData} {a:Addr} (h:iw K F I H d a):iw K (fun b=>F b\/H b=none) (fun b=>I b\/H b=none) H d a:=by
 cases d with
 | list ds=>obtain ⟨xs,e,z,r⟩:=h;exact ⟨xs,e.bH,z,r.bH⟩
 | dict ds =>
  obtain ⟨ep,xs,n,e,z,r⟩:=h;exact ⟨ep,xs,fun q=>q.elim n fun q=>(by rw [q] at e;cases e),e,z,r.bH⟩
 | _=>exact absurd h id
theorem Pr.Kb (p:Pr F H H') (h:∀ b,F b->F' b):Pr F' H H':=fun b o e n=>p b o e (n.imp (fun z q=>z (h _ q)) id)
def Evs:Sl->Sl->Prop
 | .ino _,s=>∃ d,s=.ino d
 | .ro d,s=>s=.ro d
 | _,s=>(∀ d,s≠.ino d)/\∀ d,s≠.ro d
def FE:Sl->Prop | .ino _=>True | .ro _=>True | _=>False
def KpS (env:En) (σ:St) (env':En) (σ':St):Prop:=env'.length=env.length/\∀ (i:Nat) (s:Sl),env[i]?=some s->∃ s',env'[i]?=some s'/\Evs s s'/\(FE s->σ'[i]?=σ[i]?)
theorem Evs.refl:∀ s,Evs s s
 | .un=>⟨fun _=>nofun,fun _=>nofun⟩
 | .dat _=>⟨fun _=>nofun,fun _=>nofun⟩
 | .own d=>⟨fun _=>nofun,fun _=>nofun⟩
 | .ino d=>⟨d,rfl⟩
 | .ro _=>rfl
def soft (s:Sl):Prop:=(∀ d,s≠.ino d)/\∀ d,s≠.ro d
theorem Evs.soft {s s':Sl} (h:Evs s s') (q:L2.soft s):L2.soft s':=by
 cases s with
 | ino d=>exact absurd rfl (q.1 d)
 | ro d=>exact absurd rfl (q.2 d)
 | _=>exact h
theorem Evs.of {s s':Sl} (q:L2.soft s) (q':L2.soft s'):Evs s s':=by
 cases s with
 | ino d=>exact absurd rfl (q.1 d)
 | ro d=>exact absurd rfl (q.2 d)
 | _=>exact q'
theorem Evs.trans {a b c:Sl} (h:Evs a b) (q:Evs b c):Evs a c:=by
 cases a with
 | ino d=>obtain ⟨d',rfl⟩:=h;exact q
 | ro d=>rw [show b=.ro d from h] at q;exact q
 | un=>exact Evs.of ⟨fun _=>nofun,fun _=>nofun⟩ (q.soft h)
 | dat _=>exact Evs.of ⟨fun _=>nofun,fun _=>nofun⟩ (q.soft h)
 | own _=>exact Evs.of ⟨fun _=>nofun,fun _=>nofun⟩ (q.soft h)
theorem Evs.FE {a b:Sl} (h:Evs a b) (q:L2.FE a):L2.FE b:=by
 cases a with
 | ino d=>obtain ⟨d',rfl⟩:=h;trivial
 | ro d=>rw [show b=.ro d from h];trivial
 | _=>exact absurd q id
theorem KpS.refl (env:En) (σ:St):KpS env σ env σ:=⟨rfl,fun i s e=>⟨s,e,.refl s,fun _=>rfl⟩⟩
theorem KpS.trans {a b c:En} {x y z:St} (h:KpS a x b y) (q:KpS b y c z):KpS a x c z:=⟨q.1.trans h.1,fun i s e=>by
 obtain ⟨s1,e1,v1,w1⟩:=h.2 i s e;obtain ⟨s2,e2,v2,w2⟩:=q.2 i s1 e1
 exact ⟨s2,e2,v1.trans v2,fun t=>(w2 (v1.FE t)).trans (w1 t)⟩⟩
theorem KpE.s (k:KpE env env'):KpS env σ env' σ:=⟨k.1,fun i s e=>by
 obtain ⟨s',e',v⟩:=k.2 i s e;refine ⟨s',e',?_,fun _=>rfl⟩;cases s with
 | un=>rw [show s'=.un from v];exact .refl _
 | dat d=>rw [show s'=.dat d from v];exact .refl _
 | own d=>rcases v with ⟨d',rfl⟩ | ⟨d',rfl⟩ | rfl <;> exact ⟨fun _=>nofun,fun _=>nofun⟩
 | ino d=>exact v
 | ro d=>exact v⟩
theorem lA {i:Nat} (h:free env i=true):∃ s,env[i]?=some s/\L2.soft s:=by
 unfold free at h;split at h
 ·rename_i e;exact ⟨_,e,fun _=>nofun,fun _=>nofun⟩
 ·rename_i e;exact ⟨_,e,fun _=>nofun,fun _=>nofun⟩
 ·rename_i e;exact ⟨_,e,fun _=>nofun,fun _=>nofun⟩
 ·cases h
theorem xt {i:Nat} {s s':Sl} {x:Option V} (e:env[i]?=some s) (q:L2.soft s) (q':L2.soft s'):KpS env σ (env.set i s') (σ.set i x):=by
 have hi:i < env.length:=(L5.mp e).1;refine ⟨Mq,fun j t h=>?_⟩;by_cases z:i=j
 ·subst z;rw [e] at h;cases h;refine ⟨s',Ma hi,.of q q',fun t=>?_⟩;cases s with
  | ino d=>exact absurd rfl (q.1 d)
  | ro d=>exact absurd rfl (q.2 d)
  | _=>exact absurd t id
 ·exact ⟨t,by rw [L0 z];exact h,.refl t,fun _=>by rw [L0 z]⟩
def oy (K:Fg) (F0:Addr->Prop) (H₀:Hp) (I:Addr->Prop) (env:En) (σ:St) (D:Ends):Out->Prop
 | .nx e=>∀ σ' H',Rel K F0 H₀ I e σ' H'->KpS env σ e σ'->D.nx σ' H'
 | .bk e=>∀ σ' H',Rel K F0 H₀ I e σ' H'->KpS env σ e σ'->D.bk σ' H'
 | .ct e=>∀ σ' H',Rel K F0 H₀ I e σ' H'->KpS env σ e σ'->D.ct σ' H'
 | .rt rv e=>∀ v σ' H',Rel K F0 H₀ I e σ' H'->KpS env σ e σ'->jO K F0 H₀ I e σ' H' rv v->D.rt v H'
def SS (K:Fg) (ga:Nat->V) (gd:List PyData) (s:XS):Prop:=∀ (env:En) (out:Out),dS gd s env=some out->∀ (F0:Addr->Prop) (H₀:Hp) (I:Addr->Prop) (σ:St) (H:Hp) (D:Ends),Rel K F0 H₀ I env σ H->oy K F0 H₀ I env σ D out->rS K ga s D σ H
theorem oy.from {D:Ends} {out:Out} (k:KpS env σ env' σ') (h:oy K F0 H₀ I env σ D out):oy K F0 H₀ I env' σ' D out:=by
 cases out with
 | nx e=>exact fun s h1 r q=>h s h1 r (k.trans q)
 | bk e=>exact fun s h1 r q=>h s h1 r (k.trans q)
 | ct e=>exact fun s h1 r q=>h s h1 r (k.trans q)
 | rt rv e=>exact fun v s h1 r q w=>h v s h1 r (k.trans q) w
theorem Fo {a b:XS} (ia:SS K ga gd a) (ib:SS K ga gd b):SS K ga gd (.seq a b):=by
 intro env out h F0 H₀ I σ H D R q;simp only [dS] at h;split at h
 ·rename_i e h1;refine ia _ _ h1 F0 H₀ I σ H _ R fun σ' H' R' k'=>?_;exact ib _ _ h F0 H₀ I σ' H' D R' (q.from k')
 ·rename_i hn;refine ia _ _ h F0 H₀ I σ H _ R ?_;cases out with
  | nx e=>exact absurd h (hn e)
  | bk e=>exact q
  | ct e=>exact q
  | rt rv e=>exact q
theorem Rel.IU (R:Rel K F0 H₀ I env σ H) {i:Nat} {d:PyData} {v:V} (hf:free env i=true) (h:Dm K (FF F0 env σ) H d v):Rel K F0 H₀ I (env.set i (.dat d)) (σ.set i (some v)) H/\KpS env σ (env.set i (.dat d)) (σ.set i (some v)):=by
 obtain ⟨s,e,q⟩:=lA hf;have hi:i < env.length:=(L5.mp e).1;have R1:=R.forget i (some v);have:=R1.putD (i:=i) (d:=d) (v:=v) (Ma hi) (h.mono (R.sub i _).1);rw [M4,M4] at this;exact ⟨this,xt e q ⟨fun _=>nofun,fun _=>nofun⟩⟩
theorem Cb {i:Nat} {e:XE} (ie:SE K ga gd e):SS K ga gd (.bc i e):=by
 intro env out h F0 H₀ I σ H D R q;simp only [dS] at h;split at h
 ·rename_i rv e1 h1;split at h
  ·rename_i d hv;split at h
   ·rename_i hf;cases h;refine ie _ _ _ h1 F0 H₀ I σ H _ R fun v H1 R1 k1 r1=>?_;have a1:=r1.av;rw [hv] at a1;obtain ⟨R2,k2⟩:=R1.IU hf (show Dm K _ H1 d v from a1);exact q _ H1 R2 (k1.s.trans k2)
   ·cases h
  ·cases h
 ·cases h
theorem jO.forget {d:PyData} {v:V} (h:jO K F0 H₀ I env σ H (.frs d) v) (i:Nat) (x:Option V) (hs:∀ s,env[i]?=some s->L2.soft s):jO K F0 H₀ I (env.set i .un) (σ.set i x) H (.frs d) v:=by
 obtain ⟨a,ea,R,t,w,nF,hi,hr⟩:=h;have R0:=R.less hi;obtain ⟨hf,hia⟩:=R0.sub i x;have hf':∀ b,(FF F0 (env.set i .un) (σ.set i x) b\/b=a)->(FF F0 env σ b\/b=a):=fun b z=>z.imp (hf b) id;refine ⟨a,ea,R.forget i x,t.pr Pr.refl hf' fun _ z=>z,w,fun z=>nF (hf _ z),fun j c e s=>?_,fun j c e=>?_⟩
 ·rcases get_set e with ⟨_,z⟩ | ⟨n,e⟩
  ·cases z
  ·rw [L0 n] at s;exact hi j c e s
 ·rcases get_set e with ⟨_,z⟩ | ⟨n,e⟩
  ·cases z
  ·obtain ⟨b,s,r⟩:=hr j c e;exact ⟨b,by rw [L0 n];exact s,r.pr Pr.refl hf' (fun b z=>z.imp (hia b) id) fun _ _ z _=>z⟩
theorem CM {i:Nat} {e:XE} (ie:SE K ga gd e):SS K ga gd (.rJ i e):=by
 intro env out h F0 H₀ I σ H D R q;simp only [dS] at h;split at h
 ·rename_i d e1 h1;split at h
  ·rename_i hf;cases h;refine ie _ _ _ h1 F0 H₀ I σ H _ R fun v H1 R1 k1 r1=>?_;obtain ⟨s,e,qs⟩:=lA hf;have hi:i < e1.length:=(L5.mp e).1;have ev:∃ a,v=.ref a:=let ⟨a,e,_⟩:=r1;⟨a,e⟩
   obtain ⟨a,rfl⟩:=ev;have r2:=r1.forget i (some (.ref a)) (fun s' h=>by rw [e] at h;cases h;exact qs);have R2:=Rel.Kc (i:=i) (Ma hi) r2;rw [M4,M4] at R2;exact q _ H1 R2 (k1.s.trans (xt e qs ⟨fun _=>nofun,fun _=>nofun⟩))
  ·cases h
 ·cases h
theorem rH:∀ {is:List Nat} {ds:List PyData} {vs:List V} {env env':En} {σ:St} {Q:St->Hp->Prop},gW env is ds=some env'->Rel K F0 H₀ I env σ H->DmL K (FF F0 env σ) H ds vs->(∀ σ',Rel K F0 H₀ I env' σ' H->KpS env σ env' σ'->Q σ' H)->gNs is vs σ H Q
 | [],[],vs,env,env',σ,Q,h,R,hd,q=>by
  cases h;exact ⟨hd,q σ R (KpS.refl _ _)⟩
 | [],d :: ds,vs,env,env',σ,Q,h,R,hd,q=>by cases h
 | i :: is,[],vs,env,env',σ,Q,h,R,hd,q=>by cases h
 | i :: is,d :: ds,vs,env,env',σ,Q,h,R,hd,q=>by
  unfold gW at h;split at h
  ·rename_i hf;obtain ⟨v,r,rfl,h1,h2⟩:=hd;obtain ⟨R1,k1⟩:=R.IU hf h1;obtain ⟨s,e,qs⟩:=lA hf;refine ⟨v,r,rfl,?_⟩;refine rH h R1 (h2.mono fun b z=>?_) fun σ' R' k'=>q σ' R' (k1.trans k');rcases z with z | ⟨j,c,e',s'⟩
   ·exact .inl z
   ·rcases get_set e' with ⟨_,y⟩ | ⟨n,e'⟩
    ·cases y
    ·rw [L0 n] at s';exact .inr ⟨j,c,e',s'⟩
  ·cases h
theorem Bs {is:List Nat} {e:XE} (ie:SE K ga gd e):SS K ga gd (.C1 is e):=by
 intro env out h F0 H₀ I σ H D R q;simp only [dS] at h;split at h
 ·rename_i rv e1 h1;split at h
  ·rename_i ds hv;split at h
   ·rename_i e2 hset;cases h;refine ie _ _ _ h1 F0 H₀ I σ H _ R fun v H1 R1 k1 r1=>?_;have a1:=r1.av;rw [hv] at a1;obtain ⟨a,xs,rfl,l,z,r⟩:=(show Dm K (FF F0 e1 σ) H1 (.tuple ds) v from a1);have hlen:∀ {is:List Nat} {ds:List PyData} {e e':En},gW e is ds=some e'->is.length=ds.length:=by
     intro is;induction is with
     | nil=>intro ds e e' h;cases ds with
      | nil=>rfl
      | cons _ _=>cases h
     | cons i is ih=>intro ds e e' h;cases ds with
      | nil=>cases h
      | cons d ds =>
       unfold gW at h;split at h
       ·rw [L3,L3,ih h]
       ·cases h
    exact ⟨a,xs,rfl,l,by rw [r.len,hlen hset],rH hset R1 r fun σ' R' k'=>q σ' H1 R' (k1.s.trans k')⟩
   ·cases h
  ·cases h
 ·cases h
theorem AS {e:XE} (ie:SE K ga gd e):SS K ga gd (.drop e):=by
 intro env out h F0 H₀ I σ H D R q;simp only [dS] at h;split at h
 ·rename_i rv e1 h1;cases h;exact ie _ _ _ h1 F0 H₀ I σ H _ R fun v H1 R1 k1 r1=>q σ H1 R1 k1.s
 ·cases h
theorem F9 {e:XE} (ie:SE K ga gd e):SS K ga gd (.ret e):=by
 intro env out h F0 H₀ I σ H D R q;simp only [dS] at h;split at h
 ·rename_i rv e1 h1;cases h;exact ie _ _ _ h1 F0 H₀ I σ H _ R fun v H1 R1 k1 r1=>q v σ H1 R1 k1.s r1
 ·cases h
theorem EI {c:XT} {a b:XS} (ic:ST K ga gd c) (ia:SS K ga gd a) (ib:SS K ga gd b):SS K ga gd (.ifs c a b):=by
 intro env out h F0 H₀ I σ H D R q;simp only [dS] at h;split at h
 ·rename_i e1 h1;refine ic _ _ _ h1 F0 H₀ I σ H _ R fun H1 R1 k1=>?_;rw [Me rfl];exact ia _ _ h F0 H₀ I σ H1 D R1 (q.from k1.s)
 ·rename_i e1 h1;refine ic _ _ _ h1 F0 H₀ I σ H _ R fun H1 R1 k1=>?_;rw [Mn (by decide)];exact ib _ _ h F0 H₀ I σ H1 D R1 (q.from k1.s)
 ·cases h
theorem F3 {m:zK} {i:Nat} {k e:XE} (ik:SE K ga gd k) (ie:SE K ga gd e):SS K ga gd (.sto m i k e):=by
 intro env out h F0 H₀ I σ H D R q;simp only [dS] at h;split at h
 ·rename_i rv e1 h1;split at h
  ·rename_i x hv;split at h
   ·rename_i d0 hm0;split at h
    ·rename_i rk e2 h2;split at h
     ·rename_i dk d hvk hm;split at h
      ·rename_i d' hf;cases h;refine ie _ _ _ h1 F0 H₀ I σ H _ R fun v H1 R1 k1 r1=>?_;obtain ⟨_,a,s,_⟩:=R1.eD hm0;refine ⟨.ref a,s,?_⟩;refine ik _ _ _ h2 F0 _ _ σ H1 _ R1.rebase fun u H2 S2 k2 r2=>?_;have R2:=R1.bU S2;have a1:=r1.av;rw [hv] at a1;have dx:=R1.tM S2 k2 (show Dm K _ H1 x v from a1);obtain ⟨m2,a',s',f2,t2⟩:=R2.eD hm;rw [s] at s';cases s';refine m.ok K _ H2 d a dk x u v d' _ hf f2 t2 (r2.av.vw R2 hvk) dx fun H3 hk ht=>?_;exact q σ H3 (R2.KD hm s hk ht) ((k1.trans k2).trans (x6 _ _ _)).s
      ·cases h
     ·cases h
    ·cases h
   ·cases h
  ·cases h
 ·cases h
theorem Hh {n:Nat} {c:XT} {b:XS} (ic:ST K ga gd c) (ib:SS K ga gd b):SS K ga gd (.wh n c b):=by
 intro env out h F0 H₀ I σ H D R q;simp only [dS] at h;refine ⟨fun m σ' H'=>∃ env',whL (dT gd c) (dS gd b) m env'=some out/\Rel K F0 H₀ I env' σ' H'/\KpS env σ env' σ',⟨n,env,h,R,KpS.refl _ _⟩,?_⟩;rintro m σ' H' ⟨env',hw,R',k'⟩;cases m with
 | zero=>cases hw
 | succ m =>
  unfold whL at hw;split at hw
  ·rename_i e1 h1;refine ic _ _ _ h1 F0 H₀ I σ' H' _ R' fun H2 R2 k2=>?_;rw [Me rfl];refine ⟨fun σ3 H3=>∃ env3,whL (dT gd c) (dS gd b) m env3=some out/\Rel K F0 H₀ I env3 σ3 H3/\KpS env σ env3 σ3,fun σ3 H3 z=>⟨m,M8 _,z⟩,?_⟩;split at hw
   ·rename_i e hb;exact ib _ _ hb F0 H₀ I σ' H2 _ R2 fun σ3 H3 R3 k3=>⟨e,hw,R3,(k'.trans k2.s).trans k3⟩
   ·rename_i e hb;exact ib _ _ hb F0 H₀ I σ' H2 _ R2 fun σ3 H3 R3 k3=>⟨e,hw,R3,(k'.trans k2.s).trans k3⟩
   ·rename_i e hb;cases hw;exact ib _ _ hb F0 H₀ I σ' H2 _ R2 fun σ3 H3 R3 k3=>q σ3 H3 R3 ((k'.trans k2.s).trans k3)
   ·rename_i r e hb;cases hw;exact ib _ _ hb F0 H₀ I σ' H2 _ R2 fun v σ3 H3 R3 k3 r3=>q v σ3 H3 R3 ((k'.trans k2.s).trans k3) r3
   ·cases hw
  ·rename_i e1 h1;cases hw;refine ic _ _ _ h1 F0 H₀ I σ' H' _ R' fun H2 R2 k2=>?_;rw [Mn (by decide)];exact q σ' H2 R2 (k'.trans k2.s)
  ·cases hw
end
open PySem
section
variable {K:Fg} {F F' I I' F0:Addr->Prop} {H H' H₀ H1:Hp} {env env' e1:En} {σ σ':St} {ga:Nat->V} {gd:List PyData}
theorem Rel.HZ (R:Rel K F0 H₀ I env σ H) (h:∀ b,I b->I' b):Rel K F0 H₀ I' env σ H :=
 ⟨R.len,R.dat,fun i d e=>let ⟨a,s,n,w,t⟩:=R.own i d e;⟨a,s,n,w.imp id (h _),t⟩,fun i d e=>let ⟨a,s,n,w,t⟩:=R.ino i d e;⟨a,s,n,h _ w,t⟩,R.ro,R.sep,R.dom,fun b o e n=>R.f6 b o e fun z=>n (h _ z)⟩
theorem Rel.eqF {F1:Addr->Prop} (R:Rel K F0 H₀ I env σ H) (h:∀ b,F0 b↔F1 b):Rel K F1 H₀ I env σ H:=by
 have:F0=F1:=funext fun b=>propext (h b);exact this▸R
theorem Rel.Js (R:Rel K F0 H₀ I env σ H) {i:Nat} {d:PyData} {a:Addr} (hu:env[i]?=some .un) (s:σ[i]?=some (some (.ref a))) (h:iw K (FF F0 env σ) (IA env σ) H d a):Rel K F0 H₀ I (env.set i (.ro d)) σ H:=by
 have hi:i < env.length:=(L5.mp hu).1;have eF:FF F0 (env.set i (.ro d)) σ=FF F0 env σ:=by
  have:=mr (F0:=F0) (σ:=σ) (s:=.ro d) (x:=some (.ref a)) hu (fun _=>nofun)
  rwa [set_same s] at this
 have eI:IA (env.set i (.ro d)) σ=IA env σ:=by
  have:=vZ (σ:=σ) (s:=.ro d) (x:=some (.ref a)) hu (fun _=>⟨nofun,nofun⟩)
  rwa [set_same s] at this
 have mm:∀ j,mu (env.set i (.ro d)) j->mu env j:=fun j h=>by
  obtain ⟨c,e | e⟩:=h
  ·rcases get_set e with ⟨_,z⟩ | ⟨n,e⟩
   ·cases z
   ·exact ⟨c,.inl e⟩
  ·rcases get_set e with ⟨_,z⟩ | ⟨n,e⟩
   ·cases z
   ·exact ⟨c,.inr e⟩
 refine ⟨by rw [Mq];exact R.len,fun j c e=>?_,fun j c e=>?_,fun j c e=>?_,fun j c e=>?_,fun j k b h1 h2 h3 h4=>R.sep j k b (mm j h1) (mm k h2) h3 h4,R.dom,R.f6⟩
 ·rw [eF];rcases get_set e with ⟨_,z⟩ | ⟨n,e⟩
  ·cases z
  exact R.dat j c e
 ·rw [eF];rcases get_set e with ⟨_,z⟩ | ⟨n,e⟩
  ·cases z
  exact R.own j c e
 ·rw [eF];rcases get_set e with ⟨_,z⟩ | ⟨n,e⟩
  ·cases z
  exact R.ino j c e
 ·rw [eF,eI];rcases get_set e with ⟨z,y⟩ | ⟨n,e⟩
  ·subst z;cases y;exact ⟨a,s,h⟩
  exact R.ro j c e
theorem Rel.Lo (R:Rel K F0 H₀ I env σ H) {i:Nat} {d:PyData} {a:Addr} (hu:env[i]?=some .un) (s:σ[i]?=some (some (.ref a))) (h:Top K (FF F0 env σ) H d a) (hF:F0 a) (hI:I a) (na:∀ j,mu env j->σ[j]?≠some (some (.ref a)))
  (hro:∀ (j:Nat) (c:PyData),env[j]?=some (.ro c)->∃ b,σ[j]?=some (some (.ref b))/\iw K (FF F0 env σ) (fun b=>IA env σ b\/b=a) H c b):Rel K F0 H₀ I (env.set i (.ino d)) σ H:=by
 have hi:i < env.length:=(L5.mp hu).1;have eF:FF F0 (env.set i (.ino d)) σ=FF F0 env σ:=by
  have:=mr (F0:=F0) (σ:=σ) (s:=.ino d) (x:=some (.ref a)) hu (fun _=>nofun)
  rwa [set_same s] at this
 have mm:∀ j,mu (env.set i (.ino d)) j->i=j\/(mu env j/\i≠j):=fun j h=>by
  obtain ⟨c,e | e⟩:=h
  ·rcases get_set e with ⟨z,_⟩ | ⟨n,e⟩
   ·exact .inl z
   ·exact .inr ⟨⟨c,.inl e⟩,n⟩
  ·rcases get_set e with ⟨z,_⟩ | ⟨n,e⟩
   ·exact .inl z
   ·exact .inr ⟨⟨c,.inr e⟩,n⟩
 have eI:∀ b,IA (env.set i (.ino d)) σ b->IA env σ b\/b=a:=by
  rintro b ⟨j,m,q⟩;rcases mm j m with z | ⟨m',n⟩
  ·subst z;rw [s] at q;cases q;exact .inr rfl
  ·exact .inl ⟨j,m',q⟩
 refine ⟨by rw [Mq];exact R.len,fun j c e=>?_,fun j c e=>?_,fun j c e=>?_,fun j c e=>?_,fun j k b h1 h2 h3 h4=>?_,R.dom,R.f6⟩
 ·rw [eF];rcases get_set e with ⟨_,z⟩ | ⟨n,e⟩
  ·cases z
  exact R.dat j c e
 ·rw [eF];rcases get_set e with ⟨_,z⟩ | ⟨n,e⟩
  ·cases z
  exact R.own j c e
 ·rw [eF];rcases get_set e with ⟨z,y⟩ | ⟨n,e⟩
  ·subst z;cases y;exact ⟨a,s,hF,hI,h⟩
  exact R.ino j c e
 ·rw [eF];rcases get_set e with ⟨_,z⟩ | ⟨n,e⟩
  ·cases z
  obtain ⟨b,q,r⟩:=hro j c e;exact ⟨b,q,r.pr Pr.refl (fun _ z=>z) eI fun _ _ z _=>z⟩
 ·rcases mm j h1 with z1 | ⟨m1,n1⟩
  ·rcases mm k h2 with z2 | ⟨m2,n2⟩
   ·rw [<- z1,<-z2]
   ·rw [<- z1,s] at h3;cases h3;exact absurd h4 (na k m2)
  ·rcases mm k h2 with z2 | ⟨m2,n2⟩
   ·rw [<- z2,s] at h4;cases h4;exact absurd h3 (na j m1)
   ·exact R.sep j k b m1 m2 h3 h4
structure Lk (K:Fg) (F0:Addr->Prop) (H₀:Hp) (I:Addr->Prop) (e1:En) (σ:St) (H1:Hp) (lock:Option Nat) (F1:Addr->Prop):Prop where
 rel:Rel K F1 H₀ I (cm e1 lock) σ H1
 ff:FF F1 (cm e1 lock) σ=FF F0 e1 σ
 ia:∀ b,IA (cm e1 lock) σ b->IA e1 σ b/\∀ i,lock=some i->mu e1 i->σ[i]?≠some (some (.ref b))
 un:∀ env' σ' H',Rel K F1 H1 (IA (cm e1 lock) σ) env' σ' H'->KpS (cm e1 lock) σ env' σ'->Rel K F0 H₀ I (aF e1 lock env') σ' H'/\KpS e1 σ (aF e1 lock env') σ'/\FF F0 (aF e1 lock env') σ'=FF F1 env' σ'
theorem Lk.xT (R:Rel K F0 H₀ I e1 σ H1) {lock:Option Nat} (h1:cm e1 lock=e1) (h2:∀ env',aF e1 lock env'=env') (h3:∀ i,lock=some i->¬mu e1 i):Lk K F0 H₀ I e1 σ H1 lock F0 :=
 ⟨by rw [h1];exact R,by rw [h1],fun b hb=>by rw [h1] at hb;exact ⟨hb,fun i hi m=>absurd m (h3 i hi)⟩,fun env' σ' H' S k=>by rw [h1] at S k;rw [h2];exact ⟨R.bU S,k,rfl⟩⟩
theorem Lk.Fi (R:Rel K F0 H₀ I e1 σ H1) {i:Nat} {d:PyData} {a:Addr} (e:e1[i]?=some (.own d)\/e1[i]?=some (.ino d)) (s:σ[i]?=some (some (.ref a))):Lk K F0 H₀ I e1 σ H1 (some i) (fun b=>F0 b\/b=a):=by
 have hi:i < e1.length:=by rcases e with e | e <;> exact (L5.mp e).1
 have mi:mu e1 i:=⟨d,e⟩;have el:cm e1 (some i)=e1.set i (.ro d):=by simp only [cm];rcases e with e | e <;> rw [e]
 have hm:aQ e1 i=some d:=by unfold aQ;rcases e with e | e <;> rw [e]
 obtain ⟨_,a',s',fa,ta⟩:=R.eD hm;rw [s] at s';cases s';have hu:(e1.set i .un)[i]?=some .un:=Ma hi;have mmu:∀ j,mu (e1.set i .un) j->mu e1 j/\i≠j:=fun j h=>by
  obtain ⟨c,e | e⟩:=h
  ·rcases get_set e with ⟨_,z⟩ | ⟨n,e⟩
   ·cases z
   ·exact ⟨⟨c,.inl e⟩,n⟩
  ·rcases get_set e with ⟨_,z⟩ | ⟨n,e⟩
   ·cases z
   ·exact ⟨⟨c,.inr e⟩,n⟩
 have nIA:¬IA (e1.set i .un) σ a:=fun ⟨j,m,q⟩=>(mmu j m).2 (R.sep i j a mi (mmu j m).1 s q);have eFu:FF (fun b=>F0 b\/b=a) (e1.set i .un) σ=FF F0 e1 σ:=by
  funext b;apply propext;constructor
  ·rintro ((h | h) | ⟨j,c,e',q⟩)
   ·exact .inl h
   ·exact h▸fa
   ·rcases get_set e' with ⟨_,z⟩ | ⟨n,e'⟩
    ·cases z
    ·exact .inr ⟨j,c,e',q⟩
  ·rintro (h | ⟨j,c,e',q⟩)
   ·exact .inl (.inl h)
   ·by_cases n:i=j
    ·subst n;rw [s] at q;cases q;exact .inl (.inr rfl)
    ·exact .inr ⟨j,c,by rw [L0 n];exact e',q⟩
 have Ru:Rel K (fun b=>F0 b\/b=a) H₀ I (e1.set i .un) σ H1:=by
  rcases e with e | e
  ·obtain ⟨a2,s2,r⟩:=R.take e;rw [s] at s2;cases s2;obtain ⟨a3,ea,R',_⟩:=r;cases ea;exact R'
  ·have:=R.forget i (some (.ref a));rw [set_same s] at this;obtain ⟨a2,s2,f2,_⟩:=R.ino i d e;rw [s] at s2;cases s2;exact this.eqF fun b=>⟨.inl,fun z=>z.elim id fun z=>z▸f2⟩
 have Rl:Rel K (fun b=>F0 b\/b=a) H₀ I (e1.set i (.ro d)) σ H1:=by
  have:=Ru.Js (d:=d) hu s (by rw [eFu];exact ta.ro nIA)
  rwa [M4] at this
 have eFl:FF (fun b=>F0 b\/b=a) (e1.set i (.ro d)) σ=FF F0 e1 σ:=by
  rw [<- eFu];have:=mr (F0:=fun b=>F0 b\/b=a) (σ:=σ) (s:=.ro d) (x:=some (.ref a)) hu (fun _=>nofun)
  rwa [set_same s,M4] at this
 have eIl:IA (e1.set i (.ro d)) σ=IA (e1.set i .un) σ:=by
  have:=vZ (σ:=σ) (s:=.ro d) (x:=some (.ref a)) hu (fun _=>⟨nofun,nofun⟩)
  rwa [set_same s,M4] at this
 have iaSub:∀ b,IA (e1.set i (.ro d)) σ b->IA e1 σ b:=fun b hb=>by rw [eIl] at hb;obtain ⟨j,m,q⟩:=hb;exact ⟨j,(mmu j m).1,q⟩
 refine ⟨by rw [el];exact Rl,by rw [el];exact eFl,fun b hb=>?_,fun env' σ' H' S k=>?_⟩
 ·rw [el,eIl] at hb;obtain ⟨j,m,q⟩:=hb;refine ⟨⟨j,(mmu j m).1,q⟩,fun i' hi' mi' si'=>?_⟩;cases hi';exact (mmu j m).2 (R.sep i j b mi (mmu j m).1 si' q)
 ·rw [el] at S k;have hro:(e1.set i (.ro d))[i]?=some (.ro d):=Ma hi;obtain ⟨si,he,hv,hs⟩:=k.2 i _ hro;have hv:si=.ro d:=hv;subst hv;have hs:=(hs trivial).trans s;have hi':i < env'.length:=(L5.mp he).1;have na1:¬IA (e1.set i (.ro d)) σ a:=by rw [eIl];exact nIA
  have keepA:∀ o,H1 a=some o->H' a=some o:=fun o z=>S.f6 a o z na1;have fSub:∀ b,FF (fun b=>F0 b\/b=a) env' σ' b->(FF F0 e1 σ b\/H1 b=none):=fun b z=>by
   rcases z with (z | z) | ⟨j,c,e',q⟩
   ·exact .inl (.inl z)
   ·exact .inl (z▸fa)
   ·obtain ⟨b',q',_,w,_⟩:=S.own j c e';rw [q] at q';cases q';rcases w with w | w
    ·exact .inr w
    ·exact .inl (R.ia (iaSub b w))
  have pF:Pr (fun b=>FF F0 e1 σ b\/H1 b=none) H1 H':=(R.rW fun b o z n=>S.f6 b o z fun y=>n (iaSub b y)).Kb fun b z=>.inl z;have tA:Top K (FF (fun b=>F0 b\/b=a) env' σ') H' d a:=ta.bH.pr pF fSub keepA;have iaEnd:∀ b,IA env' σ' b->(IA e1 σ b\/H1 b=none):=fun b z=>by
   rcases S.iaI z with w | w
   ·exact .inr w
   ·exact .inl (iaSub b w)
  have roOld:∀ (j:Nat) (c:PyData),env'[j]?=some (.ro c)->i≠j->∃ b,σ'[j]?=some (some (.ref b))/\iw K (FF (fun b=>F0 b\/b=a) env' σ') (fun b=>IA env' σ' b\/b=a) H' c b:=fun j c e' n=>by
   have hj:j < e1.length:=by
    have:=(L5.mp e').1;rw [k.1,Mq] at this;exact this
   have e0:(e1.set i (.ro d))[j]?=some e1[j]:=by rw [L0 n];exact L6 hj
   obtain ⟨s',h',v',w'⟩:=k.2 j _ e0;rw [e'] at h';cases h';have es:e1[j]=.ro c:=by
    cases hh:e1[j] with
    | ino _=>rw [hh] at v';obtain ⟨_,z⟩:=v';cases z
    | ro c'=>rw [hh] at v';have:Sl.ro c=.ro c':=v';rw [this]
    | un=>rw [hh] at v';exact absurd rfl (v'.2 c)
    | dat _=>rw [hh] at v';exact absurd rfl (v'.2 c)
    | own _=>rw [hh] at v';exact absurd rfl (v'.2 c)
   have er:e1[j]?=some (.ro c):=by rw [L6 hj,es]
   obtain ⟨b,q,r⟩:=R.ro j c er;rw [es] at w';refine ⟨b,(w' trivial).trans q,r.bH.pr pF fSub (fun b z=>?_) fun b o z n=>S.f6 b o z fun y=>n (.inl (iaSub b y))⟩;rcases z with z | z
   ·exact iaEnd b z
   ·exact .inl (z▸⟨i,mi,s⟩)
  have inoNe:∀ (j:Nat) (c:PyData),env'[j]?=some (.ino c)->σ'[j]?≠some (some (.ref a)):=fun j c e' q=>by
   have n:i≠j:=fun z=>by subst z;rw [he] at e';cases e'
   have hj:j < e1.length:=by
    have:=(L5.mp e').1;rw [k.1,Mq] at this;exact this
   have e0:(e1.set i (.ro d))[j]?=some e1[j]:=by rw [L0 n];exact L6 hj
   obtain ⟨s',h',v',w'⟩:=k.2 j _ e0;rw [e'] at h';cases h';have es:∃ c',e1[j]=.ino c':=by
    cases hh:e1[j] with
    | ino c'=>exact ⟨c',rfl⟩
    | ro c'=>rw [hh] at v';cases v'
    | un=>rw [hh] at v';exact absurd rfl (v'.1 c)
    | dat _=>rw [hh] at v';exact absurd rfl (v'.1 c)
    | own _=>rw [hh] at v';exact absurd rfl (v'.1 c)
   obtain ⟨c',es⟩:=es;have er:e1[j]?=some (.ino c'):=by rw [L6 hj,es]
   rw [es] at w';rw [w' trivial] at q;exact n (R.sep i j a mi ⟨c',.inr er⟩ s q)
  have Sf:Rel K (fun b=>F0 b\/b=a) H1 (IA e1 σ) (env'.set i .un) σ' H':=by
   have:=S.forget i (some (.ref a));rw [set_same hs] at this;exact this.HZ iaSub
  have hu':(env'.set i .un)[i]?=some .un:=Ma hi';have eFe:FF (fun b=>F0 b\/b=a) (env'.set i .un) σ'=FF (fun b=>F0 b\/b=a) env' σ':=by
   funext b;apply propext;constructor
   ·rintro (h | ⟨j,c,e',q⟩)
    ·exact .inl h
    ·rcases get_set e' with ⟨_,z⟩ | ⟨n,e'⟩
     ·cases z
     ·exact .inr ⟨j,c,e',q⟩
   ·rintro (h | ⟨j,c,e',q⟩)
    ·exact .inl h
    ·have n:i≠j:=fun z=>by subst z;rw [he] at e';cases e'
     exact .inr ⟨j,c,by rw [L0 n];exact e',q⟩
  have iaE:∀ b,IA (env'.set i .un) σ' b->IA env' σ' b:=by
   rintro b ⟨j,⟨c,m⟩,q⟩;refine ⟨j,⟨c,?_⟩,q⟩;rcases m with m | m
   ·rcases get_set m with ⟨_,z⟩ | ⟨n,m⟩
    ·cases z
    ·exact .inl m
   ·rcases get_set m with ⟨_,z⟩ | ⟨n,m⟩
    ·cases z
    ·exact .inr m
  have kEnd:∀ t:Sl,Evs (e1[i]) t->KpS e1 σ (env'.set i t) σ':=fun t ht=>by
   refine ⟨by rw [Mq,k.1,Mq],fun j s0 e0=>?_⟩;by_cases z:i=j
   ·subst z;rw [L6 hi] at e0;cases e0;exact ⟨t,Ma hi',ht,fun _=>hs.trans s.symm⟩
   ·obtain ⟨s',h',v',w'⟩:=k.2 j s0 (by rw [L0 z];exact e0);exact ⟨s',by rw [L0 z];exact h',v',w'⟩
  rcases e with e | e
  ·have eu:aF e1 (some i) env'=env'.set i (.own d):=by simp only [aF];rw [e,he]
   obtain ⟨a2,s2,nF,_⟩:=R.own i d e;rw [s] at s2;cases s2;have nFF:¬FF F0 (env'.set i .un) σ' a:=by
    rintro (h | ⟨j,c,e',q⟩)
    ·exact nF h
    ·obtain ⟨b',q',n',_⟩:=Sf.own j c e';rw [q] at q';cases q';exact n' (.inr rfl)
   have rv:jO K F0 H1 (IA e1 σ) (env'.set i .un) σ' H' (.frs d) (.ref a):=by
    refine ⟨a,rfl,Sf,?_,.inr ⟨i,mi,s⟩,nFF,fun j c e' q=>?_,fun j c e'=>?_⟩
    ·rw [<- j5,eFe];exact tA
    ·rcases get_set e' with ⟨_,z⟩ | ⟨n,e'⟩
     ·cases z
     ·exact inoNe j c e' q
    ·rcases get_set e' with ⟨_,z⟩ | ⟨n,e'⟩
     ·cases z
     ·obtain ⟨b,q,r⟩:=roOld j c e' n;refine ⟨b,q,?_⟩;rw [<- j5,eFe];exact r.pr Pr.refl (fun _ z=>z) (fun b z=>z.imp (iaE b) id) fun _ _ z _=>z
   have Rn:=Rel.Kc hu' rv;rw [M4,set_same hs] at Rn;rw [eu];refine ⟨R.bU Rn,kEnd _ ?_,?_⟩
   ·have:e1[i]=.own d:=by have:=L6 hi;rw [e] at this;exact (MF this).symm
    rw [this];exact ⟨fun _=>nofun,fun _=>nofun⟩
   ·rw [<- eFe,j5];funext b;apply propext;constructor
    ·rintro (h | ⟨j,c,e',q⟩)
     ·exact .inl (.inl h)
     ·rcases get_set e' with ⟨z,_⟩ | ⟨n,e'⟩
      ·subst z;rw [hs] at q;cases q;exact .inr rfl
      ·exact .inl (.inr ⟨j,c,by rw [L0 n];exact e',q⟩)
    ·rintro ((h | ⟨j,c,e',q⟩) | rfl)
     ·exact .inl h
     ·rcases get_set e' with ⟨_,z⟩ | ⟨n,e'⟩
      ·cases z
      ·exact .inr ⟨j,c,by rw [L0 n];exact e',q⟩
     ·exact .inr ⟨i,d,Ma hi',hs⟩
  ·have eu:aF e1 (some i) env'=env'.set i (.ino d):=by simp only [aF];rw [e,he]
   obtain ⟨a2,s2,f2,i2,_⟩:=R.ino i d e;rw [s] at s2;cases s2;have Sf2:Rel K F0 H1 (IA e1 σ) (env'.set i .un) σ' H':=Sf.eqF fun b=>⟨fun z=>z.elim id fun z=>z▸f2,.inl⟩;have eF0:FF F0 (env'.set i .un) σ'=FF (fun b=>F0 b\/b=a) env' σ':=by
    rw [<- eFe];have:(fun b=>F0 b\/b=a)=F0:=funext fun b=>propext ⟨fun z=>z.elim id fun z=>z▸f2,.inl⟩;rw [this]
   have Rn:=Sf2.Lo (d:=d) hu' hs (by rw [eF0];exact tA) f2 ⟨i,mi,s⟩ (fun j m q=>?_) (fun j c e'=>?_)
   ·rw [M4] at Rn;rw [eu];refine ⟨R.bU Rn,kEnd _ ?_,?_⟩
    ·have:e1[i]=.ino d:=by have:=L6 hi;rw [e] at this;exact (MF this).symm
     rw [this];exact ⟨d,rfl⟩
    ·rw [<- eF0];have:=mr (F0:=F0) (σ:=σ') (s:=.ino d) (x:=some (.ref a)) hu' (fun _=>nofun)
     rwa [set_same hs,M4] at this
   ·obtain ⟨c,m | m⟩:=m
    ·obtain ⟨b',q',n',_⟩:=Sf.own j c m;rw [q] at q';cases q';exact n' (.inr rfl)
    ·rcases get_set m with ⟨_,z⟩ | ⟨n,m⟩
     ·cases z
     ·exact inoNe j c m q
   ·rcases get_set e' with ⟨_,z⟩ | ⟨n,e'⟩
    ·cases z
    ·obtain ⟨b,q,r⟩:=roOld j c e' n;refine ⟨b,q,?_⟩;rw [eF0];exact r.pr Pr.refl (fun _ z=>z) (fun b z=>z.imp (iaE b) id) fun _ _ z _=>z
theorem Lk.of (R:Rel K F0 H₀ I e1 σ H1) (lock:Option Nat):∃ F1,Lk K F0 H₀ I e1 σ H1 lock F1/\(lkd e1 lock=false->F1=F0/\cm e1 lock=e1/\∀ env',aF e1 lock env'=env'):=by
 cases lock with
 | none=>exact ⟨F0,Lk.xT R rfl (fun _=>rfl) (fun i z=>by cases z),fun _=>⟨rfl,rfl,fun _=>rfl⟩⟩
 | some i =>
  cases e:e1[i]? with
  | none =>
   have h1:cm e1 (some i)=e1:=by simp only [cm];rw [e]
   have h2:∀ env',aF e1 (some i) env'=env':=fun env'=>by simp only [aF];rw [e]
   exact ⟨F0,Lk.xT R h1 h2 (fun j z m=>by cases z;obtain ⟨d,m | m⟩:=m <;> (rw [e] at m;cases m)),fun _=>⟨rfl,h1,h2⟩⟩
  | some s =>
   cases s with
   | own d =>
    obtain ⟨a,q,_⟩:=R.own i d e;exact ⟨_,Lk.Fi R (.inl e) q,fun z=>by simp only [lkd] at z;rw [e] at z;cases z⟩
   | ino d =>
    obtain ⟨a,q,_⟩:=R.ino i d e;exact ⟨_,Lk.Fi R (.inr e) q,fun z=>by simp only [lkd] at z;rw [e] at z;cases z⟩
   | un =>
    have h1:cm e1 (some i)=e1:=by simp only [cm];rw [e]
    have h2:∀ env',aF e1 (some i) env'=env':=fun env'=>by simp only [aF];rw [e]
    exact ⟨F0,Lk.xT R h1 h2 (fun j z m=>by cases z;obtain ⟨d,m | m⟩:=m <;> (rw [e] at m;cases m)),fun _=>⟨rfl,h1,h2⟩⟩
   | dat d =>
    have h1:cm e1 (some i)=e1:=by simp only [cm];rw [e]
    have h2:∀ env',aF e1 (some i) env'=env':=fun env'=>by simp only [aF];rw [e]
    exact ⟨F0,Lk.xT R h1 h2 (fun j z m=>by cases z;obtain ⟨d,m | m⟩:=m <;> (rw [e] at m;cases m)),fun _=>⟨rfl,h1,h2⟩⟩
   | ro d =>
    have h1:cm e1 (some i)=e1:=by simp only [cm];rw [e]
    have h2:∀ env',aF e1 (some i) env'=env':=fun env'=>by simp only [aF];rw [e]
    exact ⟨F0,Lk.xT R h1 h2 (fun j z m=>by cases z;obtain ⟨d,m | m⟩:=m <;> (rw [e] at m;cases m)),fun _=>⟨rfl,h1,h2⟩⟩
theorem ya {b:PyData->En->Option Out} {ds:List PyData} {out:Out} {J:It} {F1 I1:Addr->Prop} {el:En} {g:TG} {tb:TS} {D:Ends} (R:Rel K F1 H1 I1 el σ H1) (hI:I1=IA el σ) (hit:yP K (FF F1 el σ) I1 H1 J ds) (h:forL b ds el=some out)
  (turn:∀ d o env' σ' H' x,b d env'=some o->Rel K F1 H1 I1 env' σ' H'->KpS el σ env' σ'->Dm K (FF F1 env' σ') H' d x->∀ D':Ends,oy K F1 H1 I1 env' σ' D' o->g x σ' H' fun σ2 H2=>tb D' σ2 H2)
  (q:oy K F1 H1 I1 el σ D out) :
  ∃ W:Nat->Nat->St->Hp->Prop,(∃ m,W 0 m σ H1)/\∀ i m σ H,W i m σ H ->
   (J.stop i H/\D.nx σ H)\/(J.go i H/\∃ N:St->Hp->Prop,(∀ σ' H',N σ' H'->∃ m',m' < m/\W (i+1) m' σ' H')/\∀ x H',J.yld i H x H'->g x σ H' fun σ2 H2=>tb { D with nx:=N,ct:=N,bk:=D.nx } σ2 H2):=by
 subst hI;obtain ⟨hvl,hturn⟩:=hit;refine ⟨fun i m σ' H'=>m=ds.length - i/\i<=ds.length/\∃ env',forL b (ds.drop i) env'=some out/\Rel K F1 H1 (IA el σ) env' σ' H'/\KpS el σ env' σ',⟨ds.length,rfl,MV _,el,h,R,KpS.refl _ _⟩,?_⟩;rintro i m σ' H' ⟨rfl,hi,env',hf,R',k'⟩;have hkept:∀ b o,H1 b=some o->¬IA el σ b->H' b=some o:=R'.f6;by_cases hlt:i < ds.length
 ·right;obtain ⟨go,yld⟩:=(hturn H' hkept i).1 (by omega);refine ⟨go,fun σ3 H3=>(ds.length - (i+1))=ds.length - (i+1)/\i+1<=ds.length/\∃ env',forL b (ds.drop (i+1)) env'=some out/\Rel K F1 H1 (IA el σ) env' σ3 H3/\KpS el σ env' σ3,fun σ3 H3 z=>⟨ds.length - (i+1),by omega,z⟩,fun x H'' hx=>?_⟩;obtain ⟨d,hd,hy9⟩:=yld x H'' hx;have fSub:∀ b,FF F1 env' σ' b->(FF F1 el σ b\/H1 b=none):=fun b z=>by
   rcases z with z | ⟨j,c,e',s'⟩
   ·exact .inl (.inl z)
   ·obtain ⟨b',q',_,w,_⟩:=R'.own j c e';rw [s'] at q';cases q';exact w.elim .inr fun w=>.inl (R.ia w)
  obtain ⟨sm,hdx'⟩:=hy9.dm (F2:=FF F1 env' σ') fun d v h=>h.bH.pr ((R.rW hkept).Kb fun b z=>.inl z) fSub;have R':=R'.same sm;have ed:ds.drop i=d :: ds.drop (i+1):=by
   rw [Nj hlt];obtain ⟨_,z⟩:=L5.mp hd;rw [z]
  rw [ed] at hf;unfold forL at hf;split at hf
  ·rename_i e hb;exact turn d _ env' σ' H'' x hb R' k' hdx' _ fun σ3 H3 R3 k3=>⟨rfl,by omega,e,hf,R3,k'.trans k3⟩
  ·rename_i e hb;exact turn d _ env' σ' H'' x hb R' k' hdx' _ fun σ3 H3 R3 k3=>⟨rfl,by omega,e,hf,R3,k'.trans k3⟩
  ·rename_i e hb;cases hf;exact turn d _ env' σ' H'' x hb R' k' hdx' _ fun σ3 H3 R3 k3=>q σ3 H3 R3 (k'.trans k3)
  ·rename_i r e hb;cases hf;exact turn d _ env' σ' H'' x hb R' k' hdx' _ fun v σ3 H3 R3 k3 r3=>q v σ3 H3 R3 (k'.trans k3) r3
  ·cases hf
 ·left;have e:i=ds.length:=by omega
  subst e;rw [List.drop_length] at hf;unfold forL at hf;cases hf;exact ⟨(hturn H' hkept _).2 (by omega),q σ' H' R' k'⟩
theorem jO.unl {rv:RV} {v:V} {F1:Addr->Prop} {e2:En} (h:jO K F1 H₀ I env σ H rv v) (hn:∀ d,rv≠.frs d) (eF:FF F0 e2 σ=FF F1 env σ) {H₁:Hp} {I₁:Addr->Prop}:jO K F0 H₁ I₁ e2 σ H rv v:=by
 cases rv with
 | dat d=>show Dm K _ H d v;rw [eF];exact h
 | bor i=>exact h
 | frs d=>exact absurd rfl (hn d)
theorem jO.Jp {rv:RV} {v:V} (h:jO K F0 H₀ I env σ H rv v):jO K F0 H₀ I env σ H (rv.soft true) v:=by
 cases rv with
 | dat d=>exact h
 | bor i=>exact h
 | frs d=>exact h.av
theorem jO.bU {rv:RV} {v:V} (R:Rel K F0 H₀ I env σ H) (h:jO K F0 H (IA env σ) env' σ' H' rv v):jO K F0 H₀ I env' σ' H' rv v:=by
 cases rv with
 | dat d=>exact h
 | bor i=>exact h
 | frs d =>
  obtain ⟨a,ea,S,t,w,nF,hi,hr⟩:=h;have S0:=R.bU (S.less hi);refine ⟨a,ea,⟨S.len,S.dat,fun i c e=>?_,fun i c e=>?_,S.ro,S.sep,S.dom,S0.f6⟩,t,R.oi w,nF,hi,hr⟩
  ·obtain ⟨b,s,n,w',t'⟩:=S.own i c e;exact ⟨b,s,n,R.oi w',t'⟩
  ·obtain ⟨b,s,n,w',t'⟩:=S.ino i c e;obtain ⟨b2,s2,_,i2,_⟩:=S0.ino i c e;rw [s] at s2;cases s2;exact ⟨b,s,n,i2,t'⟩
theorem Lk.out {lock:Option Nat} {F1:Addr->Prop} {D:Ends} {out:Out} (R1:Rel K F0 H₀ I e1 σ H1) (L:Lk K F0 H₀ I e1 σ H1 lock F1) (hno:lkd e1 lock=false->F1=F0/\cm e1 lock=e1/\∀ env',aF e1 lock env'=env')
  (q:oy K F0 H₀ I e1 σ D (out.map (lkd e1 lock) (aF e1 lock))):oy K F1 H1 (IA (cm e1 lock) σ) (cm e1 lock) σ D out:=by
 cases out with
 | nx e=>exact fun σ' H' R' k'=>let ⟨A,B,_⟩:=L.un e σ' H' R' k';q σ' H' A B
 | bk e=>exact fun σ' H' R' k'=>let ⟨A,B,_⟩:=L.un e σ' H' R' k';q σ' H' A B
 | ct e=>exact fun σ' H' R' k'=>let ⟨A,B,_⟩:=L.un e σ' H' R' k';q σ' H' A B
 | rt rv e =>
  intro v σ' H' R' k' r;obtain ⟨A,B,C⟩:=L.un e σ' H' R' k';refine q v σ' H' A B ?_;cases hl:lkd e1 lock with
  | true=>exact r.Jp.unl (fun d z=>by cases rv <;> cases z) C
  | false =>
   obtain ⟨rfl,h1,h2⟩:=hno hl;rw [h1] at r;rw [h2];have:rv.soft false=rv:=by cases rv <;> rfl
   rw [this];exact r.bU R1
theorem Hg {i:Nat} {it:XI} {b:XS} (ii:SI K ga gd it) (ib:SS K ga gd b):SS K ga gd (.fr i it b):=by
 intro env out h F0 H₀ I σ H D R q;simp only [dS] at h;split at h
 ·rename_i ds lock e1 h1;cases ho:forL (mM i (dS gd b)) ds (cm e1 lock) with
  | none=>rw [ho] at h;cases h
  | some o =>
   rw [ho] at h;cases h;refine ii _ _ _ _ h1 F0 H₀ I σ H _ R fun J H1 R1 k1 _ hit=>?_;obtain ⟨F1,L,hno⟩:=Lk.of R1 lock;have Rb:=L.rel.rebase;refine ya Rb rfl ?_ ho ?_ (L.out R1 hno (q.from k1.s))
   ·rw [L.ff];obtain ⟨a2,a3⟩:=hit;exact ⟨a2,fun H' hk=>a3 H' fun b o e n=>hk b o e fun z=>n (L.ia b z)⟩
   ·intro d o env' σ' H' x hb R' k' hd D' hD;unfold mM at hb;split at hb
    ·rename_i hf;obtain ⟨R2,k2⟩:=R'.IU hf hd;exact ib _ _ hb _ _ _ _ H' D' R2 (hD.from k2)
    ·cases hb
 ·cases h
theorem Ec {is:List Nat} {it:XI} {b:XS} (ii:SI K ga gd it) (ib:SS K ga gd b):SS K ga gd (.frT is it b):=by
 intro env out h F0 H₀ I σ H D R q;simp only [dS] at h;split at h
 ·rename_i ds lock e1 h1
  ·obtain ⟨o,ho,e0⟩:=Mt.mp h;subst e0;refine ii _ _ _ _ h1 F0 H₀ I σ H _ R fun J H1 R1 k1 _ hit=>?_;obtain ⟨F1,L,hno⟩:=Lk.of R1 lock;have Rb:=L.rel.rebase;refine ya Rb rfl ?_ ho ?_ (L.out R1 hno (q.from k1.s))
   ·rw [L.ff];obtain ⟨a2,a3⟩:=hit;exact ⟨a2,fun H' hk=>a3 H' fun b o e n=>hk b o e fun z=>n (L.ia b z)⟩
   ·intro d o env' σ' H' x hb R' k' hd D' hD;unfold j9 at hb;split at hb
    ·rename_i xs;split at hb
     ·rename_i e2 hset;obtain ⟨a,vs,rfl,l,z,r⟩:=hd;have hlen:∀ {is:List Nat} {ds:List PyData} {e e':En},gW e is ds=some e'->is.length=ds.length:=by
       intro is;induction is with
       | nil=>intro ds e e' h;cases ds with
        | nil=>rfl
        | cons _ _=>cases h
       | cons i is ih=>intro ds e e' h;cases ds with
        | nil=>cases h
        | cons d ds =>
         unfold gW at h;split at h
         ·rw [L3,L3,ih h]
         ·cases h
      exact ⟨a,vs,rfl,l,by rw [r.len,hlen hset],rH hset R' r fun σ2 R2 k2=>ib _ _ hb _ _ _ _ H' D' R2 (hD.from k2)⟩
     ·cases hb
    ·cases hb
 ·cases h
theorem sS (hg:∀ g d,gd[g]?=some d->∀ F H,Dm K F H d (ga g)):∀ s:XS,SS K ga gd s
 | .skip=>fun env out h F0 H₀ I σ H D R q=>by cases h;exact q σ H R (KpS.refl _ _)
 | .seq a b=>Fo (sS hg a) (sS hg b)
 | .bc i e=>Cb (sE hg e) | .rJ i e=>CM (sE hg e) | .C1 is e=>Bs (sE hg e) | .drop e=>AS (sE hg e) | .ret e=>F9 (sE hg e)
 | .GI=>fun env out h F0 H₀ I σ H D R q=>by cases h;exact q .non σ H R (KpS.refl _ _) rfl
 | .ifs c a b=>EI (sT hg c) (sS hg a) (sS hg b)
 | .fr i it b=>Hg (sI hg it) (sS hg b) | .frT is it b=>Ec (sI hg it) (sS hg b) | .wh n c b=>Hh (sT hg c) (sS hg b)
 | .brk=>fun env out h F0 H₀ I σ H D R q=>by cases h;exact q σ H R (KpS.refl _ _)
 | .cnt=>fun env out h F0 H₀ I σ H D R q=>by cases h;exact q σ H R (KpS.refl _ _)
 | .nev=>fun env out h F0 H₀ I σ H D R q=>by cases h
 | .sto m i k e=>F3 (sE hg k) (sE hg e)
end
open PySem
section
variable {K:Fg} {F F' G I I' F0:Addr->Prop} {H H' H₀ H1:Hp} {env env' e1:En} {σ σ':St} {ga:Nat->V} {gd:List PyData}
theorem du:∀ {ms:List PM} {ds:List PyData} {n:Nat},ds.length=ms.length->ms.length<=n->(au ms ds n).length=n
 | [],[],n,_,_=>by simp [au]
 | [],_ :: _,n,h,_=>by cases h
 | _ :: _,[],n,h,_=>by cases h
 | m :: ms,d :: ds,n,h,hn=>by
  have ih:=du (ms:=ms) (ds:=ds) (n:=n - 1) (by simpa using h) (by simp at hn;omega);simp at hn;cases m <;> (simp only [au,L3,ih];omega)
theorem bY.len:∀ {ms:List PM} {ds:List PyData} {vs:List V} {is:List Addr},bY K G I H ms ds vs is->ds.length=ms.length/\vs.length=ms.length
 | [],[],[],_,_=>⟨rfl,rfl⟩
 | [],[],_ :: _,_,h=>by exact absurd h id
 | [],_ :: _,_,_,h=>by exact absurd h id
 | m :: ms,[],_,_,h=>by cases m <;> exact absurd h id
 | m :: ms,d :: ds,[],_,h=>by cases m <;> exact absurd h id
 | .dat :: ms,d :: ds,v :: vs,is,h=>by obtain ⟨a,b⟩:=bY.len h.2;exact ⟨by simp [a],by simp [b]⟩
 | .bor :: ms,d :: ds,v :: vs,is,h=>by obtain ⟨a,b⟩:=bY.len h.2;exact ⟨by simp [a],by simp [b]⟩
 | .ino :: ms,d :: ds,v :: vs,is,h=>by obtain ⟨_,_,_,_,_,_,_,h⟩:=h;obtain ⟨a,b⟩:=bY.len h;exact ⟨by simp [a],by simp [b]⟩
def At (K:Fg) (G I:Addr->Prop) (H:Hp) (is:List Addr) (s:Sl) (x:Option V):Prop:=match s with
 | .un=>True
 | .dat d=>∃ v,x=some v/\Dm K G H d v
 | .ino d=>∃ a,x=some (.ref a)/\a∈is/\G a/\Top K G H d a
 | .ro d=>∃ a,x=some (.ref a)/\iw K G I H d a
 | .own _=>False
theorem At.more {is is':List Addr} {s:Sl} {x:Option V} (h:At K G I H is s x) (q:∀ a∈is,a∈is'):At K G I H is' s x:=by
 cases s with
 | ino d=>obtain ⟨a,e,m,r⟩:=h;exact ⟨a,e,q a m,r⟩
 | _=>exact h
theorem cI:∀ {ms:List PM} {ds:List PyData} {vs:List V} {is:List Addr} {n:Nat} {tl:St},bY K G I H ms ds vs is->∀ {i:Nat} {s:Sl},(au ms ds n)[i]?=some s->∀ {x:Option V},(vs.map some++tl)[i]?=some x->At K G I H is s x
 | [],[],[],is,n,tl,h,i,s,e,x,_=>by
  simp only [au,List.getElem?_replicate] at e;split at e
  ·cases e;trivial
  ·cases e
 | [],[],_ :: _,_,_,_,h,_,_,_,_,_=>by exact absurd h id
 | [],_ :: _,_,_,_,_,h,_,_,_,_,_=>by exact absurd h id
 | m :: ms,[],_,_,_,_,h,_,_,_,_,_=>by cases m <;> exact absurd h id
 | m :: ms,d :: ds,[],_,_,_,h,_,_,_,_,_=>by cases m <;> exact absurd h id
 | .dat :: ms,d :: ds,v :: vs,is,n,tl,h,0,s,e,x,ex=>by
  simp [au] at e ex;subst e ex;exact ⟨v,rfl,h.1⟩
 | .dat :: ms,d :: ds,v :: vs,is,n,tl,h,i+1,s,e,x,ex=>by
  simp [au] at e;exact cI h.2 e (by simpa using ex)
 | .bor :: ms,d :: ds,v :: vs,is,n,tl,h,0,s,e,x,ex=>by
  simp [au] at e ex;subst e ex;have h1:Bc K G I H d v:=h.1;cases d <;> first | exact h1 | exact ⟨v,rfl,h1⟩ | (obtain ⟨a,rfl,r⟩:=h1;exact ⟨a,rfl,r⟩)
 | .bor :: ms,d :: ds,v :: vs,is,n,tl,h,i+1,s,e,x,ex=>by
  simp [au] at e;exact cI h.2 e (by simpa using ex)
 | .ino :: ms,d :: ds,v :: vs,is,n,tl,h,0,s,e,x,ex=>by
  simp [au] at e ex;subst e ex;obtain ⟨a,r,rfl,rfl,g,t,_,_⟩:=h;exact ⟨a,rfl,Mj,g,t⟩
 | .ino :: ms,d :: ds,v :: vs,is,n,tl,h,i+1,s,e,x,ex=>by
  simp [au] at e;obtain ⟨a,r,rfl,rfl,g,t,_,h⟩:=h;exact (cI h e (by simpa using ex)).more fun b hb=>L8 _ hb
theorem my:∀ {ms:List PM} {ds:List PyData} {vs:List V} {is:List Addr} {n:Nat} {tl:St},bY K G I H ms ds vs is->∀ {i j:Nat} {c c':PyData} {a:Addr},(au ms ds n)[i]?=some (.ino c)->(au ms ds n)[j]?=some (.ino c') ->
  (vs.map some++tl)[i]?=some (some (.ref a))->(vs.map some++tl)[j]?=some (some (.ref a))->i=j
 | [],[],[],is,n,tl,h,i,j,c,c',a,e,_,_,_=>by
  simp only [au,List.getElem?_replicate] at e;split at e <;> cases e
 | [],[],_ :: _,_,_,_,h,_,_,_,_,_,_,_,_,_=>by exact absurd h id
 | [],_ :: _,_,_,_,_,h,_,_,_,_,_,_,_,_,_=>by exact absurd h id
 | m :: ms,[],_,_,_,_,h,_,_,_,_,_,_,_,_,_=>by cases m <;> exact absurd h id
 | m :: ms,d :: ds,[],_,_,_,h,_,_,_,_,_,_,_,_,_=>by cases m <;> exact absurd h id
 | m :: ms,d :: ds,v :: vs,is,n,tl,h,0,0,c,c',a,e,e',s,s'=>rfl
 | m :: ms,d :: ds,v :: vs,is,n,tl,h,i+1,j+1,c,c',a,e,e',s,s'=>by
  have hr:∃ r,bY K G I H ms ds vs r:=by
   cases m with
   | dat=>exact ⟨is,h.2⟩
   | bor=>exact ⟨is,h.2⟩
   | ino=>obtain ⟨_,r,_,_,_,_,_,h⟩:=h;exact ⟨r,h⟩
  obtain ⟨r,hr⟩:=hr;have:i=j:=my (n:=n - 1) (tl:=tl) hr (by cases m <;> simpa [au] using e) (by cases m <;> simpa [au] using e') (by simpa using s) (by simpa using s');rw [this]
 | m :: ms,d :: ds,v :: vs,is,n,tl,h,0,j+1,c,c',a,e,e',s,s'=>by
  cases m with
  | dat=>simp [au] at e
  | bor=>cases d <;> simp [au,CO] at e
  | ino =>
   obtain ⟨b,r,rfl,rfl,g,t,nr,h⟩:=h;simp [au] at e' s;subst s;obtain ⟨a',ea,m',_⟩:=cI (tl:=tl) h e' (by simpa using s');cases ea;exact absurd m' nr
 | m :: ms,d :: ds,v :: vs,is,n,tl,h,i+1,0,c,c',a,e,e',s,s'=>by
  cases m with
  | dat=>simp [au] at e'
  | bor=>cases d <;> simp [au,CO] at e'
  | ino =>
   obtain ⟨b,r,rfl,rfl,g,t,nr,h⟩:=h;simp [au] at e s';subst s';obtain ⟨a',ea,m',_⟩:=cI (tl:=tl) h e (by simpa using s);cases ea;exact absurd m' nr
theorem iC {G':Addr->Prop}:∀ {ms:List PM} {ds:List PyData} {vs:List V} {is:List Addr} {n:Nat} {tl:St} {env':En} {σ':St} {outs:List PyData},bY K G I H ms ds vs is->ms.length<=env'.length ->
  (∀ (i:Nat) (c:PyData),(au ms ds n)[i]?=some (.ino c)->∃ c',env'[i]?=some (.ino c')/\σ'[i]?=(vs.map some++tl)[i]?)->(∀ (i:Nat) (c:PyData) (a:Addr),env'[i]?=some (.ino c)->σ'[i]?=some (some (.ref a))->Top K G' H' c a) ->
  kS ms env'=some outs->k8 K G' H' outs is
 | [],[],[],is,n,tl,env',σ',outs,h,_,_,_,e=>by
  rw [show is=[] from h];cases env' <;> (simp only [kS] at e;cases e;trivial)
 | [],[],_ :: _,_,_,_,_,_,_,h,_,_,_,_=>by exact absurd h id
 | [],_ :: _,_,_,_,_,_,_,_,h,_,_,_,_=>by exact absurd h id
 | m :: ms,[],_,_,_,_,_,_,_,h,_,_,_,_=>by cases m <;> exact absurd h id
 | m :: ms,d :: ds,[],_,_,_,_,_,_,h,_,_,_,_=>by cases m <;> exact absurd h id
 | m :: ms,d :: ds,v :: vs,is,n,tl,[],σ',outs,h,hl,h1,h2,e=>by simp at hl
 | m :: ms,d :: ds,v :: vs,is,n,tl,s :: es,σ',outs,h,hl,h1,h2,e=>by
  have hl':ms.length<=es.length:=by simpa using hl
  have t1:∀ (i:Nat) (c:PyData),(au ms ds (n - 1))[i]?=some (.ino c)->∃ c',es[i]?=some (.ino c')/\σ'.tail[i]?=(vs.map some++tl)[i]?:=fun i c z=>by
   obtain ⟨c',e',q⟩:=h1 (i+1) c (by cases m <;> simpa [au] using z);exact ⟨c',by simpa using e',by simpa using q⟩
  have t2:∀ (i:Nat) (c:PyData) (a:Addr),es[i]?=some (.ino c)->σ'.tail[i]?=some (some (.ref a))->Top K G' H' c a:=fun i c a z q=>h2 (i+1) c a (by simpa using z) (by simpa using q);cases m with
  | dat=>exact iC h.2 hl' t1 t2 (by simpa [kS] using e)
  | bor=>exact iC h.2 hl' t1 t2 (by simpa [kS] using e)
  | ino =>
   obtain ⟨b,r,rfl,rfl,g,t,nr,h⟩:=h;obtain ⟨c',e',q⟩:=h1 0 d (by simp [au]);simp at e' q;subst e';simp only [kS] at e;split at e
   ·rename_i os ho;cases e;exact ⟨h2 0 c' b (by simp) (by simpa using q),iC h hl' t1 t2 ho⟩
   ·cases e
theorem xC (hg:∀ g d,gd[g]?=some d->∀ F H,Dm K F H d (ga g)) {ms:List PM} {N:List Str} {b:XS} {vs:List V} {H:Hp} {Q:VK} {E:XK} (h:bu (bX gd ms N.length b) K vs H Q E) (hn:ms.length<=N.length) :
  rS K ga b { nx:=fun _ H'=>Q .non H',rt:=Q } (start N vs) H:=by
 obtain ⟨G,ds,is,pr,outs,hF,ha,hd,post⟩:=h;have ha:bY K G (·∈is) H ms ds vs is:=ha;obtain ⟨hl1,hl2⟩:=ha.len;have hstart:start N vs=vs.map some++List.replicate (N.length - vs.length) none:=rfl;have no:noOwn (au ms ds N.length):=fun i d e=>by
  have hi:i < (au ms ds N.length).length:=(L5.mp e).1;rw [du hl1 hn] at hi;have hx:(vs.map some++List.replicate (N.length - vs.length) none)[i]?=some ((vs.map some++List.replicate (N.length - vs.length) none)[i]'(by rw [LY,LZ,Nv];omega)):=L6 _;exact (cI ha e hx:False)
 have at':∀ {i:Nat} {s:Sl},(au ms ds N.length)[i]?=some s->∃ x,(start N vs)[i]?=some x/\At K G (·∈is) H is s x:=fun {i s} e=>by
  have hi:i < (au ms ds N.length).length:=(L5.mp e).1;rw [du hl1 hn] at hi;have hx:(start N vs)[i]?=some ((start N vs)[i]'(by rw [hstart,LY,LZ,Nv];omega)):=L6 _;exact ⟨_,hx,cI ha e hx⟩
 have eF:FF G (au ms ds N.length) (start N vs)=G:=d5 no;have muI:∀ i,mu (au ms ds N.length) i->∃ c,(au ms ds N.length)[i]?=some (.ino c):=fun i ⟨c,m⟩=>m.elim (fun z=>absurd z (no i c)) fun z=>⟨c,z⟩;have R:Rel K G H (·∈is) (au ms ds N.length) (start N vs) H:=by
  refine ⟨by rw [du hl1 hn,hstart,LY,LZ,Nv];omega,fun i d e=>?_,fun i d e=>absurd e (no i d),fun i d e=>?_,fun i d e=>?_,fun i j a h1 h2 h3 h4=>?_,hd,fun _ _ h _=>h⟩
  ·rw [eF];obtain ⟨x,hx,v,rfl,r⟩:=at' e;exact ⟨v,hx,r⟩
  ·rw [eF];obtain ⟨x,hx,a,rfl,m,g,t⟩:=at' e;exact ⟨a,hx,g,m,t⟩
  ·rw [eF];obtain ⟨x,hx,a,rfl,r⟩:=at' e;refine ⟨a,hx,r.pr Pr.refl (fun _ z=>z) (fun b hb=>?_) fun _ _ z _=>z⟩;obtain ⟨j,m,s⟩:=hb;obtain ⟨c,m⟩:=muI j m;obtain ⟨x,hx,a,rfl,m,g,t⟩:=at' m;rw [s] at hx;cases hx;exact m
  ·obtain ⟨c,m1⟩:=muI i h1;obtain ⟨c',m2⟩:=muI j h2;exact my ha m1 m2 h3 h4
 simp only [bX] at hF;rw [Me hl1] at hF
 ·have inoK:∀ {env':En} {σ':St},KpS (au ms ds N.length) (start N vs) env' σ'->∀ (i:Nat) (c:PyData),(au ms ds N.length)[i]?=some (.ino c)->∃ c',env'[i]?=some (.ino c')/\σ'[i]?=(vs.map some++List.replicate (N.length - vs.length) none)[i]?:=fun {env' σ'} k i c e=>by
   obtain ⟨s',e',v,w⟩:=k.2 i _ e;obtain ⟨c',rfl⟩:=v;exact ⟨c',e',w trivial⟩
  have hlE:∀ {env':En} {σ':St},KpS (au ms ds N.length) (start N vs) env' σ'->ms.length<=env'.length:=fun {env' σ'} k=>by rw [k.1,du hl1 hn];exact hn
  split at hF
  ·rename_i rv env' hS;split at hF
   ·rename_i pr' outs' hpr houts;cases hF;refine sS hg b _ _ hS G H (·∈is) _ H _ R fun v σ' H' R' k' r'=>?_;have mono:∀ b,G b->FF G env' σ' b:=fun b z=>.inl z;cases rv with
    | bor i=>cases hpr
    | dat d =>
     cases hpr
     exact post v H' (fun b o e n=>R'.f6 b o e n) ⟨Dm.mono mono r',iC ha (hlE k') (inoK k') (fun i c a e s=>by
      obtain ⟨a',s',_,_,t⟩:=R'.ino i c e;rw [s] at s';cases s'
      exact t.pr Pr.refl mono fun _ z=>z) houts⟩
    | frs d =>
     cases hpr;obtain ⟨a,rfl,Ra,t,w,nF,hino,_⟩:=r';have mono':∀ b,(G b\/b=a)->FF (fun b=>G b\/b=a) env' σ' b:=fun b z=>.inl z
     refine post _ H' (fun b o e n=>R'.f6 b o e n) ⟨a,rfl,?_,t.pr Pr.refl (fun b z=>z.imp (mono b) id) (fun _ z=>z),iC ha (hlE k') (inoK k') (fun i c a' e s=>by
      obtain ⟨a2,s',_,_,t'⟩:=Ra.ino i c e;rw [s] at s';cases s'
      exact t'.pr Pr.refl mono' fun _ z=>z) houts⟩
     rcases w with w | w
     ·exact w
     ·-- it would be one that was handed in to be changed
      exfalso;have key:∀ {ms:List PM} {ds:List PyData} {vs:List V} {is:List Addr} {I:Addr->Prop} {n:Nat} {tl:St},bY K G I H ms ds vs is->a∈is->∃ (i:Nat) (c:PyData),(au ms ds n)[i]?=some (.ino c)/\(vs.map some++tl)[i]?=some (some (.ref a)):=by
       intro ms;induction ms with
       | nil =>
        intro ds vs is I n tl h m;cases ds with
        | cons _ _=>exact absurd h id
        | nil=>cases vs with
         | cons _ _=>exact absurd h id
         | nil=>rw [show is=[] from h] at m;cases m
       | cons p ms ih =>
        intro ds vs is I n tl h m;cases ds with
        | nil=>cases p <;> exact absurd h id
        | cons d ds =>
         cases vs with
         | nil=>cases p <;> exact absurd h id
         | cons v vs =>
          cases p with
          | dat=>obtain ⟨i,c,e,s⟩:=ih (n:=n - 1) (tl:=tl) h.2 m;exact ⟨i+1,c,by simpa [au] using e,by simpa using s⟩
          | bor=>obtain ⟨i,c,e,s⟩:=ih (n:=n - 1) (tl:=tl) h.2 m;exact ⟨i+1,c,by simpa [au] using e,by simpa using s⟩
          | ino =>
           obtain ⟨b,r,rfl,rfl,g,t,nr,h⟩:=h;rcases Mc.mp m with rfl | m
           ·exact ⟨0,d,by simp [au],by simp⟩
           ·obtain ⟨i,c,e,s⟩:=ih (n:=n - 1) (tl:=tl) h m;exact ⟨i+1,c,by simpa [au] using e,by simpa using s⟩
      obtain ⟨i,c,e,s⟩:=key (n:=N.length) (tl:=List.replicate (N.length - vs.length) none) ha w;obtain ⟨c',e',s'⟩:=inoK k' i c e;exact hino i c' e' (s'.trans s)
   ·cases hF
  ·rename_i env' hS;split at hF
   ·rename_i outs' houts;cases hF;refine sS hg b _ _ hS G H (·∈is) _ H _ R fun σ' H' R' k'=>?_;have mono:∀ b,G b->FF G env' σ' b:=fun b z=>.inl z
    exact post .non H' (fun b o e n=>R'.f6 b o e n) ⟨rfl,iC ha (hlE k') (inoK k') (fun i c a e s=>by
      obtain ⟨a',s',_,_,t⟩:=R'.ino i c e;rw [s] at s';cases s'
      exact t.pr Pr.refl mono fun _ z=>z) houts⟩
   ·cases hF
  ·cases hF
theorem su {f:Fn} {vs:List V} {H:Hp} {Q:VK} {E:XK} (h:bu f K vs H Q E):vs.length=f.ms.length:=by
 obtain ⟨G,ds,is,pr,outs,_,ha,_⟩:=h;exact ha.len.2
end
open PySem PySem.Spec PyProof.Rows
noncomputable def Prm.two (r:Fg->R2) (f:PyData->PyData->Option PR) (ok:∀ (K:Fg) (F:Addr->Prop) (H:Hp) (x y:PyData) (u v:V) (pr:PR) (Q:VK),f x y=some pr->Vw K F H x u->Vw K F H y v->(∀ b,F b->H b≠none)->(∀ w H',bq H H'->zY K F H H' pr w->Q w H')->r K u v H Q):Prm where
 r:=fun K vs H Q=>match vs with | [u,v]=>r K u v H Q | _=>False
 f:=fun ds=>match ds with | [x,y]=>f x y | _=>none
 ok:=fun K F H ds vs pr Q hf hv hd q=>by
  match ds,hf with
  | [x,y],hf =>
   obtain ⟨u,r1,rfl,h1,v,r2,rfl,h2,rfl⟩:=hv;exact ok K F H x y u v pr Q hf h1 h2 hd q
noncomputable def Prm.one (r:Fg->V->Hp->VK->Prop) (f:PyData->Option PR) (ok:∀ (K:Fg) (F:Addr->Prop) (H:Hp) (x:PyData) (u:V) (pr:PR) (Q:VK),f x=some pr->Vw K F H x u->(∀ b,F b->H b≠none)->(∀ w H',bq H H'->zY K F H H' pr w->Q w H')->r K u H Q):Prm where
 r:=fun K vs H Q=>match vs with | [u]=>r K u H Q | _=>False
 f:=fun ds=>match ds with | [x]=>f x | _=>none
 ok:=fun K F H ds vs pr Q hf hv hd q=>by
  match ds,hf with
  | [x],hf =>
   obtain ⟨u,r1,rfl,h1,rfl⟩:=hv;exact ok K F H x u pr Q hf h1 hd q
section
variable {K:Fg} {F F':Addr->Prop} {H:Hp}
theorem vInt {i:Int} {v:V} (h:Vw K F H (.int i) v):v=.int i:=h
theorem vBl {b:Bool} {v:V} (h:Vw K F H (.bool b) v):v=.bl b:=h
theorem DR {v:V} (h:Vw K F H .none v):v=.non:=h
theorem vStr {x:Str} {v:V} (h:Vw K F H (.str x) v):v=.str x/\x.length<=sizeLine/\PyData.strOk x=true:=h
theorem qH {ds:List PyData} {v:V} (h:Vw K F H (.list ds) v):∃ a xs,v=.ref a/\SqL K H a xs/\xs.length<=sizeLine/\DmL K F H ds xs:=let ⟨a,e,xs,r⟩:=h;⟨a,xs,e,r⟩
theorem xb {ds:List PyData} {v:V} (h:Vw K F H (.tuple ds) v):∃ a xs,v=.ref a/\SqT K H a xs/\xs.length<=sizeLine/\DmL K F H ds xs:=h
theorem CY {p:Addr} {xs:List V} {ds:List PyData} (hp:H p=none) (hz:xs.length<=sizeLine) (h:DmL K F H ds xs):zY K F H (upd H p (.lst xs)) (.frs (.list ds)) (.ref p) :=
 ⟨p,rfl,hp,xs,aE,hz,(h.fresh hp).pr (Pr.of_same (bq.nw _ hp)) fun _ z=>z⟩
theorem Jv {p:Addr} {xs:List V} {ds:List PyData} (hp:H p=none) (hz:xs.length<=sizeLine) (h:DmL K F H ds xs):zY K F H (upd H p (.tup xs)) (.dat (.tuple ds)) (.ref p) :=
 ⟨p,xs,rfl,.inl (.inl aE),hz,h.pr (Pr.of_same (bq.nw _ hp)) fun _ z=>z⟩
end
noncomputable def Kx:PyData->PyData->Option PR
 | .int i,.int j=>some (.dat (.int (i+j)))
 | .str x,.str y=>if x.length+y.length<=sizeLine then some (.dat (.str (x++y))) else none
 | .list xs,.list ys=>if xs.length+ys.length<=sizeLine then some (.frs (.list (xs++ys))) else none
 | .tuple (x :: xs),.tuple ys=>if (x :: xs).length+ys.length<=sizeLine then some (.dat (.tuple ((x :: xs)++ys))) else none
 | _,_=>none
def JL (K:Fg):R2:=rOr (rI0 fun i j=>.int (i+j)) (rOr DF (rOr (FO K) (Dq K)))
theorem kn (x y:Str):(x++y).length=x.length+y.length:=by
 show (x.cps++y.cps).size=_;rw [Array.size_append];rfl
noncomputable def bt:Prm:=Prm.two JL Kx fun K F H x y u v pr Q hf hx hy hd q=>by
 unfold Kx at hf;split at hf
 ·cases hf;rw [vInt hx,vInt hy];exact .inl ⟨_,_,rfl,rfl,q _ H (bq.rf H) rfl⟩
 ·split at hf
  ·rename_i x y hl;cases hf;obtain ⟨rfl,l1,o1⟩:=vStr hx;obtain ⟨rfl,l2,o2⟩:=vStr hy;exact .inr (.inl ⟨_,_,rfl,rfl,hl,q _ H (bq.rf H) ⟨rfl,by rw [kn];exact hl,pB o1 o2⟩⟩)
  ·cases hf
 ·split at hf
  ·rename_i xs ys hl;cases hf;obtain ⟨a,us,rfl,s1,z1,d1⟩:=qH hx;obtain ⟨b,ws,rfl,s2,z2,d2⟩:=qH hy;have hl':us.length+ws.length<=sizeLine:=by rw [d1.len,d2.len];exact hl
   exact .inr (.inr (.inl ⟨a,b,us,ws,rfl,rfl,s1,s2,hl',fun p hp=>q _ _ (bq.nw _ hp) (CY hp (by rw [LY];exact hl') (d1.app d2))⟩))
  ·cases hf
 ·split at hf
  ·rename_i x xs ys hl;cases hf;obtain ⟨a,us,rfl,s1,z1,d1⟩:=xb hx;obtain ⟨b,ws,rfl,s2,z2,d2⟩:=xb hy;have hl':us.length+ws.length<=sizeLine:=by rw [d1.len,d2.len];exact hl
   have hne:us≠[]:=fun z=>by rw [z] at d1;obtain ⟨v,r,e,_⟩:=d1;cases e
   refine .inr (.inr (.inr ⟨a,b,us,ws,rfl,rfl,s1,s2,hne,hl',fun z=>?_,fun z p hp=>q _ _ (bq.nw _ hp) (Jv hp (by rw [LY];exact hl') (d1.app d2))⟩));subst z;have hys:ys=[]:=by
    cases ys with
    | nil=>rfl
    | cons y ys=>obtain ⟨v,r,e,_⟩:=d2;cases e
   subst hys;exact q _ H (bq.rf H) ⟨a,us,rfl,s1,z1,by rw [MS];exact d1⟩
  ·cases hf
 ·cases hf
theorem ag {X:Cx}:OpR X (binaryOp .Add) (fun x y=>bt.r X.K [x,y]):=orR ED (orR AL (orR Bv AK))
noncomputable def AB (c:Int->Int->Bool) (g:Int->Int->PyData):PyData->PyData->Option PR
 | .int i,.int j=>if c i j=true then some (.dat (g i j)) else none
 | _,_=>none
noncomputable def Prm.ints (C:Int->Int->Prop) (c:Int->Int->Bool) (hc:∀ i j,c i j=true->C i j) (g:Int->Int->Int):Prm:=Prm.two (fun _=>rI C fun i j=>.int (g i j)) (AB c fun i j=>.int (g i j)) fun K F H x y u v pr Q hf hx hy hd q=>by
 unfold AB at hf;split at hf
 ·split at hf
  ·rename_i h;cases hf;rw [vInt hx,vInt hy];exact ⟨_,_,rfl,rfl,hc _ _ h,q _ H (bq.rf H) rfl⟩
  ·cases hf
 ·cases hf
noncomputable def Prm.Fz (g:Int->Int->Bool):Prm:=Prm.two (fun _=>rI0 fun i j=>.bl (g i j)) (AB (fun _ _=>true) fun i j=>.bool (g i j)) fun K F H x y u v pr Q hf hx hy hd q=>by
 unfold AB at hf;split at hf
 ·rw [Me rfl] at hf;cases hf;rw [vInt hx,vInt hy];exact ⟨_,_,rfl,rfl,q _ H (bq.rf H) rfl⟩
 ·cases hf
noncomputable def vj:Prm:=Prm.two (fun _=>rI0 fun i j=>.int (i - j)) (AB (fun _ _=>true) fun i j=>.int (i - j)) fun K F H x y u v pr Q hf hx hy hd q=>by
 unfold AB at hf;split at hf
 ·rw [Me rfl] at hf;cases hf;rw [vInt hx,vInt hy];exact ⟨_,_,rfl,rfl,q _ H (bq.rf H) rfl⟩
 ·cases hf
theorem cF {X:Cx}:OpR X (binaryOp .Sub) (fun x y=>vj.r X.K [x,y]):=Fh
noncomputable def mulC (i j:Int):Bool:=(decide (-(2 ^ 64) < i)&&decide (i < 2 ^ 64))||(decide (-(2 ^ 64) < j)&&decide (j < 2 ^ 64))
noncomputable def uB:Prm:=Prm.ints Df mulC (fun i j h=>by simpa [mulC,Df,Nf,Ms,MQ] using h) (fun i j=>i*j)
theorem cL {X:Cx}:OpR X (binaryOp .Mult) (fun x y=>uB.r X.K [x,y]):=F5
noncomputable def vd:Prm:=Prm.ints (fun _ j=>0 < j) (fun _ j=>decide (0 < j)) (fun i j h=>by simpa using h) (fun i j=>i % j)
theorem cM {X:Cx}:OpR X (binaryOp .Mod) (fun x y=>vd.r X.K [x,y]):=Et
noncomputable def y3:Prm:=Prm.ints (fun _ j=>0 < j/\j.natAbs.log2 < 9000) (fun _ j=>decide (0 < j)&&decide (j < 2 ^ 200)) (fun i j h=>by
 simp only [Ms,MQ] at h;refine ⟨h.1,?_⟩;have hz:j.natAbs≠0:=by omega
 have:j.natAbs < 2 ^ 200:=by omega
 exact Md ((Nat.log2_lt hz).mpr this) (by decide)) (fun i j=>i / j)
theorem nR {X:Cx}:OpR X (binaryOp .FloorDiv) (fun x y=>y3.r X.K [x,y]):=zg
noncomputable def z4:Prm:=Prm.ints Km (fun i j=>decide (0<=j)&&decide (j<=1000000)&&decide (i.natAbs < 2 ^ 64)) (fun i j h=>by simp only [Ms,MQ] at h;exact ⟨h.1.1,h.1.2,h.2⟩) (fun i j=>i ^ j.toNat)
theorem gn {X:Cx}:OpR X (binaryOp .Pow) (fun x y=>z4.r X.K [x,y]):=Fx
noncomputable def Gw:Prm:=Prm.one (fun _=>rU fun i=>.int (-i)) (fun x=>match x with | .int i=>some (.dat (.int (-i))) | _=>none) fun K F H x u pr Q hf hx hd q=>by
 split at hf
 ·cases hf;rw [vInt hx];exact ⟨_,rfl,q _ H (bq.rf H) rfl⟩
 ·cases hf
noncomputable def Gi (g:Int->Int->Bool) (h:Str->Str->Bool):PyData->PyData->Option PR
 | .int i,.int j=>some (.dat (.bool (g i j)))
 | .str x,.str y=>some (.dat (.bool (h x y)))
 | _,_=>none
noncomputable def ltS (x y:Str):Bool:=decide (x.cps.toList < y.cps.toList)
noncomputable def leS (x y:Str):Bool:=!decide (y.cps.toList < x.cps.toList)
noncomputable def ltP:Prm:=Prm.two (fun _=>rOr (rI0 fun i j=>.bl (decide (i < j))) J8) (Gi (fun i j=>decide (i < j)) ltS) fun K F H x y u v pr Q hf hx hy hd q=>by
 unfold Gi at hf;split at hf
 ·cases hf;rw [vInt hx,vInt hy];exact .inl ⟨_,_,rfl,rfl,q _ H (bq.rf H) rfl⟩
 ·cases hf;rw [(vStr hx).1,(vStr hy).1];exact .inr ⟨_,_,rfl,rfl,q _ H (bq.rf H) rfl⟩
 ·cases hf
theorem d6 {X:Cx}:OpR X (compareOp .Lt) (fun x y=>ltP.r X.K [x,y]):=orR JP DV
noncomputable def leP:Prm:=Prm.two (fun _=>rOr (rI0 fun i j=>.bl (decide (i<=j))) KJ) (Gi (fun i j=>decide (i<=j)) leS) fun K F H x y u v pr Q hf hx hy hd q=>by
 unfold Gi at hf;split at hf
 ·cases hf;rw [vInt hx,vInt hy];exact .inl ⟨_,_,rfl,rfl,q _ H (bq.rf H) rfl⟩
 ·cases hf;rw [(vStr hx).1,(vStr hy).1];exact .inr ⟨_,_,rfl,rfl,q _ H (bq.rf H) rfl⟩
 ·cases hf
theorem cV {X:Cx}:OpR X (compareOp .LtE) (fun x y=>leP.r X.K [x,y]):=orR HS FU
noncomputable def gtP:Prm:=Prm.Fz fun i j=>decide (i > j)
theorem sH {X:Cx}:OpR X (compareOp .Gt) (fun x y=>gtP.r X.K [x,y]):=IL
noncomputable def geP:Prm:=Prm.Fz fun i j=>decide (i>=j)
theorem FT {X:Cx}:OpR X (compareOp .GtE) (fun x y=>geP.r X.K [x,y]):=Ju
mutual
noncomputable def noD:PyData->Bool
 | .dict _=>false
 | .list xs=>gZ xs
 | .tuple xs=>gZ xs
 | _=>true
noncomputable def gZ:List PyData->Bool
 | []=>true
 | x :: xs=>noD x&&gZ xs
end
section
variable {K:Fg} {F:Addr->Prop} {H:Hp}
mutual
theorem Dm.lay:∀ {d:PyData} {v:V},Dm K F H d v->noD d=true->d.canLay0=true
 | .none,v,h,_=>by simp [PyData.canLay0]
 | .bool b,v,h,_=>by simp [PyData.canLay0]
 | .int i,v,h,_=>by simp [PyData.canLay0]
 | .str x,v,h,_=>by simpa [PyData.canLay0] using h.2.2
 | .list ds,v,h,n=>by obtain ⟨a,xs,e,l,z,r⟩:=h;simpa [PyData.canLay0] using DmL.lay r (by simpa [noD] using n)
 | .tuple ds,v,h,n=>by obtain ⟨a,xs,e,l,z,r⟩:=h;simpa [PyData.canLay0] using DmL.lay r (by simpa [noD] using n)
 | .dict kvs,v,h,n=>by simp [noD] at n
theorem DmL.lay:∀ {ds:List PyData} {vs:List V},DmL K F H ds vs->gZ ds=true->PyData.canLayAll0 ds=true
 | [],vs,h,_=>by simp [PyData.canLayAll0]
 | d :: ds,vs,h,n=>by
  obtain ⟨v,r,e,h1,h2⟩:=h;have n':noD d=true/\gZ ds=true:=by simpa [gZ] using n
  simp [PyData.canLayAll0,Dm.lay h1 n'.1,DmL.lay h2 n'.2]
end
theorem Vw.lay {d:PyData} {v:V} (h:Vw K F H d v) (n:noD d=true):d.canLay0=true:=by
 cases d with
 | list ds=>obtain ⟨a,xs,e,l,z,r⟩:=qH h;simpa [PyData.canLay0] using DmL.lay r (by simpa [noD] using n)
 | dict ds=>simp [noD] at n
 | _=>exact Dm.lay (K:=K) (F:=F) (H:=H) h n
variable {X:Cx} {pins:List (Addr×Obj)} {σ:St} {s:Shared}
mutual
theorem Dm.reads (I:Inv X pins σ H s):∀ {d:PyData} {v:V} {u:Value},Dm X.K F H d v->noD d=true->RelV v u->∃ as,Reads s.heap u d as
 | .none,v,u,hd,_,r=>by
  have e:v=.non:=hd;subst e;cases (show u=Value.none from r);exact ⟨_,.none⟩
 | .bool b,v,u,hd,_,r=>by
  have e:v=.bl b:=hd;subst e;cases (show u=Value.bool b from r);exact ⟨_,.bool b⟩
 | .int i,v,u,hd,_,r=>by
  have e:v=.int i:=hd;subst e;obtain ⟨t,e⟩:=(show ∃ t,u=Value.int i t from r);subst e;exact ⟨_,.int i t⟩
 | .str y,v,u,hd,_,r=>by
  have e:v=.str y:=hd.1;subst e;obtain ⟨t,e⟩:=(show ∃ t,u=Value.str y t from r);subst e;exact ⟨_,.str y t⟩
 | .list ds,v,u,hd,n,r=>by
  obtain ⟨a,xs,e,l,z,rs⟩:=hd;subst e;cases (show u=Value.ref a from r);obtain ⟨its,rv,⟨o,k,h1,h2,h3,h4⟩,_⟩:=I.list (l.elim (fun q=>.inl q.2) .inr);obtain ⟨as,ra⟩:=DmL.reads I rs (by simpa [noD] using n) rv;exact ⟨_,.list h1 h2 h4 (by simpa using ra)⟩
 | .tuple ds,v,u,hd,n,r=>by
  obtain ⟨a,xs,e,l,z,rs⟩:=hd;subst e;cases (show u=Value.ref a from r);obtain ⟨its,rv,⟨o,h1,h2,k,h4⟩,_⟩:=I.tuple l;obtain ⟨as,ra⟩:=DmL.reads I rs (by simpa [noD] using n) rv;exact ⟨_,.tuple h1 h2 h4 (by simpa using ra)⟩
 | .dict kvs,v,u,hd,n,r=>by simp [noD] at n
theorem DmL.reads (I:Inv X pins σ H s):∀ {ds:List PyData} {vs:List V} {us:List Value},DmL X.K F H ds vs->gZ ds=true->Vals vs us->∃ as,ReadsAll s.heap us ds as
 | [],vs,us,hd,_,r=>by
  have e:vs=[]:=hd;subst e;cases r;exact ⟨_,.nil⟩
 | d :: ds,vs,us,hd,n,r=>by
  obtain ⟨v,rr,e,h1,h2⟩:=hd;have n':noD d=true/\gZ ds=true:=by simpa [gZ] using n
  subst e;cases r with
  | cons r1 r2 =>
   obtain ⟨as,q1⟩:=Dm.reads I h1 n'.1 r1;obtain ⟨bs,q2⟩:=DmL.reads I h2 n'.2 r2;exact ⟨_,.cons q1 q2⟩
end
theorem Vw.reads (I:Inv X pins σ H s) {d:PyData} {v:V} {u:Value} (h:Vw X.K F H d v) (n:noD d=true) (r:RelV v u):∃ as,Reads s.heap u d as:=by
 cases d with
 | list ds =>
  obtain ⟨a,xs,rfl,l,z,rs⟩:=qH h;cases (show u=Value.ref a from r);obtain ⟨its,rv,⟨o,k,h1,h2,h3,h4⟩,_⟩:=I.list l;obtain ⟨as,ra⟩:=DmL.reads I rs (by simpa [noD] using n) rv;exact ⟨_,.list h1 h2 h4 (by simpa using ra)⟩
 | dict ds=>simp [noD] at n
 | _=>exact Dm.reads (F:=F) I h n r
end
noncomputable def oT (d:PyData):Bool:=noD d&&decide (d.depth<=64)
def Le (neg:Bool) (K:Fg):R2:=fun x y H Q=>∃ F d e,Vw K F H d x/\Vw K F H e y/\oT d=true/\oT e=true/\Q (.bl (if neg then !PyData.eqv d e else PyData.eqv d e)) H
noncomputable def eqD (neg:Bool) (d e:PyData):Option PR:=if oT d=true/\oT e=true then some (.dat (.bool (if neg then !PyData.eqv d e else PyData.eqv d e))) else none
noncomputable def GA (neg:Bool):Prm:=Prm.two (Le neg) (eqD neg) fun K F H x y u v pr Q hf hx hy hd q=>by
 unfold eqD at hf;split at hf
 ·rename_i h;cases hf;exact ⟨F,x,y,hx,hy,h.1,h.2,q _ H (bq.rf H) rfl⟩
 ·cases hf
noncomputable abbrev eqP:Prm:=GA false
noncomputable abbrev neP:Prm:=GA true
theorem gB {K:Fg} {F:Addr->Prop} {H:Hp} {d:PyData} {v:V} (h:Vw K F H d v) (o:oT d=true):SeqAt.shaped d=true:=by
 have o':noD d=true/\d.depth<=64:=by simpa [oT] using o
 simp [SeqAt.shaped,h.lay o'.1,o'.2]
theorem aA {X:Cx} (hu:X.A.units+64 < cLine):OpR X (compareOp .Eq) (fun x y=>eqP.r X.K [x,y]):=by
 intro pins s σ H x y v u Q I rx ry h;obtain ⟨F,d,e,h1,h2,o1,o2,hq⟩:=h;obtain ⟨as,r1⟩:=h1.reads I (by have:=o1;simp [oT] at this;exact this.1) rx;obtain ⟨bs,r2⟩:=h2.reads I (by have:=o2;simp [oT] at this;exact this.1) ry;exact SeqAt.compareEq_shaped r1 r2 (gB h1 o1) (gB h2 o2) hu ⟨.bl _,H,I,rfl,hq⟩
theorem mI {X:Cx} (hu:X.A.units+64 < cLine):OpR X (compareOp .NotEq) (fun x y=>neP.r X.K [x,y]):=by
 intro pins s σ H x y v u Q I rx ry h;obtain ⟨F,d,e,h1,h2,o1,o2,hq⟩:=h;obtain ⟨as,r1⟩:=h1.reads I (by have:=o1;simp [oT] at this;exact this.1) rx;obtain ⟨bs,r2⟩:=h2.reads I (by have:=o2;simp [oT] at this;exact this.1) ry;exact SeqAt.compareNe_shaped r1 r2 (gB h1 o1) (gB h2 o2) hu ⟨.bl _,H,I,rfl,hq⟩
noncomputable def m6:PyData->Bool | .none=>true | _=>false
theorem sC {K:Fg} {F:Addr->Prop} {H:Hp} {d:PyData} {v:V} (h:Vw K F H d v):decide (v=.non)=m6 d:=by
 cases d with
 | none=>rw [DR h];rfl
 | bool b=>rw [vBl h];rfl
 | int i=>rw [vInt h];rfl
 | str x=>rw [(vStr h).1];rfl
 | list ds=>obtain ⟨a,xs,rfl,_⟩:=qH h;rfl
 | tuple ds=>obtain ⟨a,xs,rfl,_⟩:=xb h;rfl
 | dict ds=>obtain ⟨a,rfl,_⟩:=h;rfl
noncomputable def isP:Prm:=Prm.two (fun _=>Kv) (fun x y=>match y with | .none=>some (.dat (.bool (m6 x))) | _=>none) fun K F H x y u v pr Q hf hx hy hd q=>by
 split at hf
 ·cases hf;exact ⟨DR hy,q _ H (bq.rf H) (by rw [sC hx];rfl)⟩
 ·cases hf
theorem oF {X:Cx}:OpR X (compareOp .Is) (fun x y=>isP.r X.K [x,y]):=Bi
noncomputable def oJ:Prm:=Prm.two (fun _=>DX) (fun x y=>match y with | .none=>some (.dat (.bool (!m6 x))) | _=>none) fun K F H x y u v pr Q hf hx hy hd q=>by
 split at hf
 ·cases hf;exact ⟨DR hy,q _ H (bq.rf H) (by rw [sC hx];rfl)⟩
 ·cases hf
theorem ko {X:Cx}:OpR X (compareOp .IsNot) (fun x y=>oJ.r X.K [x,y]):=yI
noncomputable def ixD:PyData->PyData->Option PR
 | .list xs,.int i=>(atI xs i).map .dat
 | .tuple xs,.int i=>(atI xs i).map .dat
 | .str x,.int i=>(atI x.cps.toList i).map fun c=>.dat (.str ⟨#[c]⟩)
 | _,_=>none
theorem Az {K:Fg} {F:Addr->Prop} {H:Hp} {ds:List PyData} {xs:List V} {i:Int} {d:PyData} (h:DmL K F H ds xs) (e:atI ds i=some d):∃ v,atI xs i=some v/\Dm K F H d v:=by
 unfold atI at e ⊢;rw [h.len];cases q:ixN ds.length i with
 | none=>rw [q] at e;cases e
 | some j =>
  rw [q] at e;have e:ds[j]?=some d:=e;exact h.get e
theorem Bo {α:Type} {xs:List α} {i:Int} {x:α} (e:atI xs i=some x):x∈xs:=by
 unfold atI at e;cases q:ixN xs.length i with
 | none=>rw [q] at e;cases e
 | some j=>rw [q] at e;exact My (show xs[j]?=some x from e)
noncomputable def ixP:Prm:=Prm.two rIx ixD fun K F H x y u v pr Q hf hx hy hd q=>by
 unfold ixD at hf;split at hf
 ·obtain ⟨d,e,rfl⟩:=Mt.mp hf;obtain ⟨a,us,rfl,s1,z1,d1⟩:=qH hx;rw [vInt hy];obtain ⟨v,ev,dv⟩:=Az d1 e;exact .inl ⟨a,us,_,v,rfl,rfl,s1,ev,q _ H (bq.rf H) dv⟩
 ·obtain ⟨d,e,rfl⟩:=Mt.mp hf;obtain ⟨a,us,rfl,s1,z1,d1⟩:=xb hx;rw [vInt hy];obtain ⟨v,ev,dv⟩:=Az d1 e;exact .inr (.inl ⟨a,us,_,v,rfl,rfl,s1,ev,q _ H (bq.rf H) dv⟩)
 ·rename_i x i;obtain ⟨c,e,rfl⟩:=Mt.mp hf;obtain ⟨rfl,l1,o1⟩:=vStr hx;rw [vInt hy];have hc:=g9 o1 c (Bo e);exact .inr (.inr ⟨_,_,c,rfl,rfl,l1,e,q _ H (bq.rf H) ⟨rfl,by show 1<=sizeLine;decide,by simp [PyData.strOk,hc]⟩⟩)
 ·cases hf
theorem bR {X:Cx}:IxR X (fun x y=>ixP.r X.K [x,y]):=Eb
noncomputable def cutD {α:Type} (xs:List α) (lo hi:Option Int):List α:=(xs.drop (HT.sIx xs.length 0 lo)).take (HT.sIx xs.length xs.length hi - HT.sIx xs.length 0 lo)
noncomputable def slD (lo hi:Option Int):PyData->Option PR
 | .list xs=>some (.frs (.list (cutD xs lo hi)))
 | .tuple xs=>if HT.sIx xs.length 0 lo=0/\HT.sIx xs.length xs.length hi=xs.length then none else some (.dat (.tuple (cutD xs lo hi)))
 | .str x=>some (.dat (.str (jG x lo hi)))
 | _=>none
def GQ (K:Fg) (lo hi:Option Int):V->Hp->VK->Prop:=fun x H Q=>DW HY (DW (HE K) (HG K)) x lo hi H Q
section
variable {K:Fg} {F:Addr->Prop} {H:Hp}
theorem DmL.drop:∀ {ds:List PyData} {xs:List V} (n:Nat),DmL K F H ds xs->DmL K F H (ds.drop n) (xs.drop n)
 | ds,xs,0,h=>h
 | [],xs,n+1,h=>by rw [show xs=[] from h];rfl
 | d :: ds,xs,n+1,h=>by obtain ⟨v,r,rfl,_,h2⟩:=h;exact DmL.drop n h2
theorem DmL.take:∀ {ds:List PyData} {xs:List V} (n:Nat),DmL K F H ds xs->DmL K F H (ds.take n) (xs.take n)
 | ds,xs,0,h=>by rw [List.take_zero,List.take_zero];rfl
 | [],xs,n+1,h=>by rw [show xs=[] from h];rfl
 | d :: ds,xs,n+1,h=>by obtain ⟨v,r,rfl,h1,h2⟩:=h;exact ⟨v,_,rfl,h1,DmL.take n h2⟩
theorem DmL.cut {ds:List PyData} {xs:List V} (lo hi:Option Int) (h:DmL K F H ds xs):DmL K F H (cutD ds lo hi) (yl xs lo hi):=by
 unfold cutD yl;rw [h.len];exact (h.drop _).take _
theorem sO (xs:List V) (lo hi:Option Int):(yl xs lo hi).length<=xs.length:=by
 unfold yl;rw [MN,MZ];omega
theorem wL {x:Str} (lo hi:Option Int) (h:PyData.strOk x=true):PyData.strOk (jG x lo hi)=true:=by
 have hm:=g9 h;unfold PyData.strOk jG;rw [Array.all_eq_true'];intro c hc;have:c∈(x.cps.toList.drop (HT.sIx x.length 0 lo)).take (HT.sIx x.length x.length hi - HT.sIx x.length 0 lo):=by simpa using hc
 have:=hm c (List.mem_of_mem_drop (Ni this));simpa using this
theorem Ca {lo hi:Option Int} {x:PyData} {u:V} {pr:PR} {Q:VK} (hf:slD lo hi x=some pr) (hx:Vw K F H x u) (q:∀ w H',bq H H'->zY K F H H' pr w->Q w H'):GQ K lo hi u H Q:=by
 unfold slD at hf;split at hf
 ·cases hf;obtain ⟨a,us,rfl,s1,z1,d1⟩:=qH hx;exact .inr (.inl ⟨a,us,rfl,s1,fun p hp=>q _ _ (bq.nw _ hp) (CY hp (Mr (sO _ _ _) z1) (d1.cut lo hi))⟩)
 ·split at hf
  ·cases hf
  rename_i hn;cases hf;obtain ⟨a,us,rfl,s1,z1,d1⟩:=xb hx;exact .inr (.inr ⟨a,us,rfl,s1,by rw [d1.len];exact hn,fun p hp=>q _ _ (bq.nw _ hp) (Jv hp (Mr (sO _ _ _) z1) (d1.cut lo hi))⟩)
 ·cases hf;obtain ⟨rfl,l1,o1⟩:=vStr hx;exact .inl ⟨_,rfl,l1,q _ H (bq.rf H) ⟨rfl,Mr (dG _ _ _) l1,wL lo hi o1⟩⟩
 ·cases hf
end
noncomputable def JR:Prm:=Prm.two (fun K x y H Q=>∃ i,y=.int i/\GQ K (some i) none x H Q) (fun x y=>match y with | .int i=>slD (some i) none x | _=>none) fun K F H x y u v pr Q hf hx hy hd q=>by
 split at hf
 ·exact ⟨_,vInt hy,Ca hf hx q⟩
 ·cases hf
noncomputable def GO:Prm:=Prm.two (fun K x y H Q=>∃ i,y=.int i/\GQ K none (some i) x H Q) (fun x y=>match y with | .int i=>slD none (some i) x | _=>none) fun K F H x y u v pr Q hf hx hy hd q=>by
 split at hf
 ·exact ⟨_,vInt hy,Ca hf hx q⟩
 ·cases hf
noncomputable def Kw (i j:Int):Prm:=Prm.one (fun K=>GQ K (some i) (some j)) (slD (some i) (some j)) fun K F H x u pr Q hf hx hd q=>Ca hf hx q
noncomputable def Ko:PyData->Option PR
 | .str x=>some (.dat (.int x.length))
 | .list xs=>some (.dat (.int xs.length))
 | .tuple xs=>some (.dat (.int xs.length))
 | _=>none
noncomputable def lZ:Prm:=Prm.one (fun K x=>DZ K [x]) Ko fun K F H x u pr Q hf hx hd q=>by
 unfold Ko at hf;split at hf
 ·cases hf;obtain ⟨rfl,l1,o1⟩:=vStr hx;exact FW l1 (q _ H (bq.rf H) rfl)
 ·cases hf;obtain ⟨a,us,rfl,s1,z1,d1⟩:=qH hx;exact Es s1 (q _ H (bq.rf H) (by rw [d1.len];rfl))
 ·cases hf;obtain ⟨a,us,rfl,s1,z1,d1⟩:=xb hx;exact FJ s1 (q _ H (bq.rf H) (by rw [d1.len];rfl))
 ·cases hf
theorem jx {X:Cx} {f:Value} {r:List V->Hp->VK->Prop} {r':V->Hp->VK->Prop} (h:aW X f r) (e:∀ x H Q,r' x H Q->r [x] H Q):aW X f (fun vs H Q=>match vs with | [u]=>r' u H Q | _=>False):=by
 intro pins s σ H xs us Q I rv q
 match xs,q with
 | [x],q=>exact h pins s σ H [x] us Q I rv (e x H Q q)
theorem aT {X:Cx}:aW X (.builtin "len") (lZ.r X.K):=jx xo fun _ _ _ h=>h
noncomputable def GC:Prm:=Prm.one (fun _ x=>Iv [x]) (fun x=>match x with | .int i=>some (.dat (.int (if i < 0 then -i else i))) | _=>none) fun K F H x u pr Q hf hx hd q=>by
 split at hf
 ·cases hf;rw [vInt hx];exact JM (q _ H (bq.rf H) rfl)
 ·cases hf
theorem qU {X:Cx}:aW X (.builtin "abs") (GC.r X.K):=jx vK fun _ _ _ h=>h
noncomputable def HL:Prm:=Prm.one (fun _ x=>B3 [x]) (fun x=>match x with | .int i=>some (.dat (.int i)) | .bool k=>some (.dat (.int (if k then 1 else 0))) | _=>none) fun K F H x u pr Q hf hx hd q=>by
 split at hf
 ·cases hf;rw [vInt hx];exact .inl ⟨_,rfl,q _ H (bq.rf H) rfl⟩
 ·cases hf;rw [vBl hx];exact .inr ⟨_,rfl,q _ H (bq.rf H) rfl⟩
 ·cases hf
theorem A1 {X:Cx}:aW X (.type "int") (HL.r X.K):=jx v3 fun _ _ _ h=>h
noncomputable def J9:Prm:=Prm.two (fun _ x y=>DK [x,y]) (AB (fun _ _=>true) fun i j=>.int (if j < i then j else i)) fun K F H x y u v pr Q hf hx hy hd q=>by
 unfold AB at hf;split at hf
 ·rw [Me rfl] at hf;cases hf;rw [vInt hx,vInt hy];exact ⟨_,_,rfl,q _ H (bq.rf H) rfl⟩
 ·cases hf
theorem FG {X:Cx} {f:Value} {r:List V->Hp->VK->Prop} {r':R2} (h:aW X f r) (e:∀ x y H Q,r' x y H Q->r [x,y] H Q):aW X f (fun vs H Q=>match vs with | [u,v]=>r' u v H Q | _=>False):=by
 intro pins s σ H xs us Q I rv q
 match xs,q with
 | [x,y],q=>exact h pins s σ H [x,y] us Q I rv (e x y H Q q)
theorem Cq {X:Cx} (hc:X.calm=true):aW X (.builtin "min") (J9.r X.K):=FG (t7 hc) fun _ _ _ _ h=>h
noncomputable def xX (T:String) (x:PyData):Option PR:=match T with
 | "str" => some (.dat (.bool (isS x)))
 | "int" => some (.dat (.bool (isI x)))
 | "bool" => some (.dat (.bool (isB x)))
 | "tuple" => some (.dat (.bool (isT x)))
 | "list" => some (.dat (.bool (isL x)))
 | _=>none
noncomputable def Gn (T:String):PyData->Option PR
 | .dict _=>none
 | x=>xX T x
def Jg (T:String) (K:Fg):V->Hp->VK->Prop:=fun x H Q=>∃ F d b,Vw K F H d x/\Gn T d=some (.dat (.bool b))/\Q (.bl b) H
theorem Jr {T:String} {d:PyData} {pr:PR} (h:Gn T d=some pr):∃ b,pr=.dat (.bool b):=by
 have h:xX T d=some pr:=by cases d <;> first | exact h | cases h
 unfold xX at h;split at h <;> first | (cases h;exact ⟨_,rfl⟩) | cases h
noncomputable def oo (T:String):Prm:=Prm.one (Jg T) (Gn T) fun K F H x u pr Q hf hx hd q=>by
 obtain ⟨b,rfl⟩:=Jr hf;exact ⟨F,x,b,hx,hf,q _ H (bq.rf H) rfl⟩
theorem Bq {K:Fg} {T:String} {d:PyData} {b:Bool} (h:Gn T d=some (.dat (.bool b))):PySem.W.kitOne K (.type (tyN d)) (.type T)=some b:=by
 have h:xX T d=some (.dat (.bool b)):=by cases d <;> first | exact h | cases h
 unfold xX at h;split at h
 ·cases h;exact H9 d
 ·cases h;exact Hl d
 ·cases h;exact HR d
 ·cases h;exact Iw d
 ·cases h;exact Il d
 ·cases h
def KQ (K:Fg):List V->Hp->VK->Prop:=fun vs H Q=>match vs with | [x,.ty T]=>(oo T).r K [x] H Q | _=>False
theorem Bd {X:Cx}:aW X (.builtin "isinstance") (KQ X.K):=by
 intro pins s σ H xs us Q I r h
 match xs,h with
 | [x,.ty T'],h =>
  obtain ⟨F,d,b,hv,hb,q⟩:=h;obtain ⟨u,w',rfl,r1,r2⟩:=vals2 r;cases (show w'=Value.type T' from r2);have e:=Bq (K:=X.K) hb;have fin:∀ tk,EP X pins σ Q (.bool b) { s with toks:=tk }:=fun tk=>⟨.bl b,H,I.tok _,rfl,q⟩;cases d with
  | none=>rw [DR hv] at r1;cases (show u=Value.none from r1);exact NC PySem.W.kitx_none I.kIn True.intro e (fun z=>nomatch z) fin
  | bool y=>rw [vBl hv] at r1;cases (show u=Value.bool y from r1);exact NC PySem.W.kitx_bool I.kIn True.intro e (fun z=>nomatch z) fin
  | int i=>rw [vInt hv] at r1;obtain ⟨t,q⟩:=(show ∃ t,u=Value.int i t from r1);cases q;exact NC PySem.W.kitx_int I.kIn True.intro e (fun z=>nomatch z) fin
  | str y=>rw [(vStr hv).1] at r1;obtain ⟨t,q⟩:=(show ∃ t,u=Value.str y t from r1);cases q;exact NC PySem.W.kitx_str I.kIn True.intro e (fun z=>nomatch z) fin
  | list ds =>
   obtain ⟨a,xs,rfl,l,z,rs⟩:=qH hv;cases (show u=Value.ref a from r1);obtain ⟨its,rv,⟨o,k,h1,h2,h3,h4⟩,_⟩:=I.list l;exact NC PySem.W.kitx_list I.kIn ⟨o,h1,h2⟩ e (fun z=>nomatch z) fin
  | tuple ds =>
   obtain ⟨a,xs,rfl,l,z,rs⟩:=xb hv;cases (show u=Value.ref a from r1);obtain ⟨its,rv,⟨o,h1,h2,k,h4⟩,_⟩:=I.tuple l;exact NC PySem.W.kitx_tuple I.kIn ⟨o,h1,h2⟩ e (fun z=>nomatch z) fin
  | dict ds=>cases hb
noncomputable def chars (x:Str):List PyData:=x.cps.toList.map fun c=>.str ⟨#[c]⟩
noncomputable def iq (x:Str):List V:=x.cps.toList.map fun c=>.str ⟨#[c]⟩
def Dc (K:Fg):V->Hp->VK->Prop:=fun x H Q=>Fe K [x] H Q\/∃ z,x=.str z/\z.length<=sizeLine/\∀ p,H p=none->Q (.ref p) (upd H p (.lst (iq z)))
noncomputable def DP:PyData->Option PR
 | .list xs=>some (.frs (.list xs))
 | .tuple xs=>some (.frs (.list xs))
 | .str x=>some (.frs (.list (chars x)))
 | _=>none
noncomputable def FZ:Prm:=Prm.one Dc DP fun K F H x u pr Q hf hx hd q=>by
 unfold DP at hf;split at hf
 ·cases hf;obtain ⟨a,us,rfl,s1,z1,d1⟩:=qH hx;exact .inl ⟨a,us,rfl,.inl s1,fun p hp=>q _ _ (bq.nw _ hp) (CY hp z1 d1)⟩
 ·cases hf;obtain ⟨a,us,rfl,s1,z1,d1⟩:=xb hx;exact .inl ⟨a,us,rfl,.inr s1,fun p hp=>q _ _ (bq.nw _ hp) (CY hp z1 d1)⟩
 ·cases hf;obtain ⟨rfl,l1,o1⟩:=vStr hx;refine .inr ⟨_,rfl,l1,fun p hp=>q _ _ (bq.nw _ hp) (CY hp ?_ (Be (g9 o1)))⟩;rw [show (iq _).length=_ from LZ _];simpa [Str.length] using l1
 ·cases hf
theorem tK:∀ {xs:List V} {us:List Value},xs.length=us.length->(∀ (i:Nat) (x:V) (u:Value),xs[i]?=some x->us[i]?=some u->RelV x u)->Vals xs us
 | [],[],_,_=>.nil
 | [],_ :: _,h,_=>by cases h
 | _ :: _,[],h,_=>by cases h
 | x :: xs,u :: us,h,q=>.cons (q 0 x u rfl rfl) (tK (by simpa using h) fun i y w h1 h2=>q (i+1) y w (by simpa using h1) (by simpa using h2))
theorem uI {z:Str} {acc:Array Value} (h:ItemsOf (SignAt z) acc z.cps.size):Vals (iq z) acc.toList:=by
 refine tK ?_ fun i x u h1 h2=>?_
 ·rw [show (iq z).length=_ from LZ _];simp [h.1]
 ·obtain ⟨c,t,hc,rfl⟩:=h.2 i u (by simpa using h2);unfold iq at h1;rw [Mm] at h1;have:z.cps.toList[i]?=some c:=by rw [<- hc];simp
  rw [this] at h1;cases h1;exact ⟨t,rfl⟩
theorem pN {X:Cx} (hc:X.calm=true):aW X (.type "list") (fun xs H Q=>∃ z,xs=[.str z]/\z.length<=sizeLine/\∀ p,H p=none->Q (.ref p) (upd H p (.lst (iq z)))):=by
 intro pins s σ H xs us Q I r h;obtain ⟨z,rfl,hl,q⟩:=h;obtain ⟨u,rfl,r1⟩:=vals1 r;obtain ⟨t,rfl⟩:=r1;have hz:(iq z).length<=sizeLine:=by rw [show (iq z).length=_ from LZ _];simpa [Str.length] using hl
 refine call_list_str (I.ok.hd hc) z t (fun h' tk acc' c' hk hS hacc=>?_) hl;refine ⟨.ref s.heap.objs.size,_,I.laid (t':=tk) hk (Mg _) (show fh X.prog X.w _ h' _ (.lst (iq z)) from ⟨hz,acc'.toList,c',?_,by rw [Array.toArray_toList];exact hS⟩),rfl,q _ (I.hok.fresh (Mg _))⟩;exact uI hacc
theorem zD {X:Cx} {f:Value} {r r':List V->Hp->VK->Prop} (h:aW X f r) (h':aW X f r'):aW X f (fun xs H Q=>r xs H Q\/r' xs H Q):=by
 intro pins s σ H xs us Q I rv q;rcases q with q | q
 ·exact h pins s σ H xs us Q I rv q
 ·exact h' pins s σ H xs us Q I rv q
theorem zO {X:Cx} (hc:X.calm=true):aW X (.type "list") (FZ.r X.K):=jx (zD ur (pN hc)) fun x H Q h=>h.imp id fun ⟨z,e,r⟩=>⟨z,by rw [e],r⟩
noncomputable def zW:PyData->Option PR
 | .list xs=>some (.dat (.tuple xs))
 | .tuple xs=>some (.dat (.tuple xs))
 | _=>none
noncomputable def kH:Prm:=Prm.one (fun K x=>Aw K [x]) zW fun K F H x u pr Q hf hx hd q=>by
 unfold zW at hf;split at hf
 ·cases hf;obtain ⟨a,us,rfl,s1,z1,d1⟩:=qH hx;exact ⟨a,us,rfl,.inl ⟨s1,fun p hp=>q _ _ (bq.nw _ hp) (Jv hp z1 d1)⟩⟩
 ·cases hf;obtain ⟨a,us,rfl,s1,z1,d1⟩:=xb hx;exact ⟨a,us,rfl,.inr ⟨s1,q _ H (bq.rf H) ⟨a,us,rfl,s1,z1,d1⟩⟩⟩
 ·cases hf
theorem c8 {X:Cx}:aW X (.type "tuple") (kH.r X.K):=jx rQ fun _ _ _ h=>h
noncomputable def aj (i:Int):Str:=Str.ofString (toString i)
theorem uc {i:Int} {k:Nat} (hk:0 < k) (h:i.natAbs < 10 ^ k):(aj i).length<=k+1:=by
 unfold aj;rw [PySem.ofString_length];exact int_text_length_le10 hk h
theorem b5 (s:String):PyData.strOk (Str.ofString s)=true:=by
 rw [Str.ofString_eq_toList];unfold PyData.strOk;rw [Array.all_eq_true'];intro c hc;have:c∈s.toList.map Char.toNat:=by simpa using hc
 obtain ⟨ch,_,rfl⟩:=MK.mp this;have:=ch.valid;simp only [MQ];rcases this with h | ⟨_,h⟩
 ·show ch.val.toNat < _;have:ch.val.toNat < 0xD800:=h;omega
 ·exact h
noncomputable def Kp:PyData->Option PR
 | .int i=>if i.natAbs < 10 ^ 400 then some (.dat (.str (aj i))) else none
 | .str x=>some (.dat (.str x))
 | .none=>some (.dat (.str "None"))
 | _=>none
noncomputable def uO:Prm:=Prm.one (fun _ x=>DA [x]) Kp fun K F H x u pr Q hf hx hd q=>by
 unfold Kp at hf;split at hf
 ·split at hf
  ·rename_i i hi;cases hf;rw [vInt hx];have hlog:i.natAbs.log2 < 1920:=by
    by_cases e:i.natAbs=0
    ·rw [e];decide
    ·exact Md ((Nat.log2_lt e).mpr (Nat.lt_trans hi (by decide +kernel:(10:Nat) ^ 400 < 2 ^ 1900))) (by decide)
   exact .inl ⟨i,rfl,hlog,q _ H (bq.rf H) ⟨rfl,Mr (uc (k:=400) (by decide) hi) (by decide),b5 _⟩⟩
  ·cases hf
 ·cases hf;obtain ⟨rfl,l1,o1⟩:=vStr hx;exact .inr (.inr ⟨_,rfl,q _ H (bq.rf H) ⟨rfl,l1,o1⟩⟩)
 ·cases hf;rw [DR hx];exact .inr (.inl ⟨rfl,q _ H (bq.rf H) ⟨rfl,by decide,b5 _⟩⟩)
 ·cases hf
theorem fg {X:Cx}:aW X (.type "str") (uO.r X.K):=jx wa fun _ _ _ h=>h
noncomputable def kh:List PyData->Option (List Bool)
 | []=>some []
 | .bool b :: r=>match kh r with | some bs=>some (b :: bs) | none=>none
 | _ :: _=>none
theorem wg {K:Fg} {F:Addr->Prop} {H:Hp}:∀ {ds:List PyData} {xs:List V} {bs:List Bool},kh ds=some bs->DmL K F H ds xs->xs=bs.map V.bl
 | [],xs,bs,h,q=>by cases h;exact q
 | .bool b :: r,xs,bs,h,q=>by
  unfold kh at h;split at h
  ·rename_i bs' h';cases h;obtain ⟨v,vr,rfl,h1,h2⟩:=q;rw [wg h' h2,show v=.bl b from h1];rfl
  ·cases h
 | .none :: r,xs,bs,h,q=>by cases h
 | .int _ :: r,xs,bs,h,q=>by cases h
 | .str _ :: r,xs,bs,h,q=>by cases h
 | .list _ :: r,xs,bs,h,q=>by cases h
 | .tuple _ :: r,xs,bs,h,q=>by cases h
 | .dict _ :: r,xs,bs,h,q=>by cases h
noncomputable def GD:Prm:=Prm.one (fun K x=>Ks K [x]) (fun x=>match x with | .list ds=>(kh ds).map fun bs=>.dat (.bool (bs.all id)) | _=>none) fun K F H x u pr Q hf hx hd q=>by
 split at hf
 ·obtain ⟨bs,e,rfl⟩:=Mt.mp hf;obtain ⟨a,us,rfl,s1,z1,d1⟩:=qH hx;rw [wg e d1] at s1;exact ⟨a,bs,rfl,s1,q _ H (bq.rf H) rfl⟩
 ·cases hf
theorem wW {X:Cx} (hc:X.calm=true):aW X (.builtin "all") (GD.r X.K):=jx (wQ hc) fun _ _ _ h=>h
theorem Fv {K:Fg} {F:Addr->Prop} {H:Hp} {k:PyData}:∀ {ds:List (PyData×PyData)} {xs:List (PyData×V×V)},DmP K F H ds xs->(∀ d,getD ds k=some d->∃ v,He xs k=some v/\Dm K F H d v)/\(getD ds k=none->He xs k=none)
 | [],xs,h=>by
  rw [show xs=[] from h];exact ⟨fun d e=>(nomatch e),fun _=>rfl⟩
 | (k',d') :: ds,xs,h=>by
  obtain ⟨j,v,r,rfl,e,_,h1,h2⟩:=h;have ih:=Fv (k:=k) h2;unfold getD He at ih ⊢;rw [List.find?_cons,List.find?_cons];cases PyData.eqv k' k with
  | true=>exact ⟨fun d e=>(by cases e;exact ⟨v,rfl,h1⟩),fun e=>(nomatch e)⟩
  | false=>exact ih
theorem z3 {K:Fg} {F:Addr->Prop} {H:Hp}:∀ {ds:List (PyData×PyData)} {xs:List (PyData×V×V)},DmP K F H ds xs->xs.length=ds.length
 | [],xs,h=>by rw [show xs=[] from h];rfl
 | (k,d) :: ds,xs,h=>by obtain ⟨j,v,r,rfl,_,_,_,h2⟩:=h;rw [L3,L3,z3 h2]
theorem qg {F:Addr->Prop} {H:Hp} {a:Addr} {o o':HO} (ha:F a) (e:H a=some o') (w:Wr o'=true):Pr F H (upd H a o):=fun b u q n=>by
 by_cases y:b=a
 ·subst y;rcases n with n | n
  ·exact absurd ha n
  ·rw [e] at q;cases q;rw [n] at w;cases w
 ·rw [ao y];exact q
theorem DmL.set {K:Fg} {F:Addr->Prop} {H:Hp}:∀ {ds:List PyData} {xs:List V} {d:PyData} {v:V} (j:Nat),DmL K F H ds xs->Dm K F H d v->DmL K F H (ds.set j d) (xs.set j v)
 | [],xs,d,v,j,h,q=>by rw [show xs=[] from h];rfl
 | e :: ds,xs,d,v,0,h,q=>by obtain ⟨w,r,rfl,_,h2⟩:=h;exact ⟨v,r,rfl,q,h2⟩
 | e :: ds,xs,d,v,j+1,h,q=>by obtain ⟨w,r,rfl,h1,h2⟩:=h;exact ⟨w,_,rfl,h1,DmL.set j h2 q⟩
noncomputable def uT:zK where
 r:=fun _ o i x H Q=>Ee o i x H Q
 f:=fun d k x=>match d,k with
  | .list xs,.int i=>(ixN xs.length i).map fun j=>.list (xs.set j x)
  | _,_=>none
 ok:=fun K F H d a k x vk vx d' Q hf ha ht hk hx q=>by
  split at hf
  ·obtain ⟨j,e,rfl⟩:=Mt.mp hf;obtain ⟨xs,ea,z,r⟩:=ht;rw [vInt hk];refine ⟨a,xs,_,j,rfl,rfl,ea,by rw [r.len];exact e,q _ (fun b o n e=>by rw [ao n];exact e) ⟨_,aE,by rw [Mq];exact z,(r.set j hx).pr (qg ha ea rfl) fun _ z=>z⟩⟩
  ·cases hf
theorem xY {K:Fg} {F:Addr->Prop} {H:Hp} {d:PyData} {a:Addr} (h:isL d=true) (t:Top K F H d a):tyV K "list" (.ref a) H:=by
 cases d with
 | list ds=>obtain ⟨xs,e,_⟩:=t;exact .inl ⟨rfl,xs,.inl (.inl e)⟩
 | _=>cases h
noncomputable def vt:Mtr where
 T := "list"
 r:=fun _=>vY
 ty:=isL
 f:=fun d as=>match d,as with
  | .list xs,[(true,x)]=>if xs.length < sizeLine then some (.list (xs++[x]),.none) else none
  | _,_=>none
 zj:=fun K F H d a h t=>xY h t
 ok:=fun K F H d a as vs d' x Q hf ha ht _hd hv q=>by
  split at hf
  ·split at hf
   ·rename_i hl;cases hf;obtain ⟨v,r,rfl,hv,rfl⟩:=hv;obtain ⟨xs,ea,z,rx⟩:=ht;refine ⟨a,xs,v,rfl,rfl,ea,by rw [rx.len];exact hl,q _ _ (fun b o n e=>by rw [ao n];exact e) ⟨_,aE,by rw [LY,rx.len];simp;omega,(rx.snoc hv).pr (qg ha ea rfl) fun _ z=>z⟩ rfl⟩
   ·cases hf
  ·cases hf
noncomputable def J3:Mtr where
 T := "list"
 r:=tU
 ty:=isL
 f:=fun d as=>match d,as with
  | .list xs,[(_,.list ys)]=>if xs.length+ys.length<=sizeLine then some (.list (xs++ys),.none) else none
  | _,_=>none
 zj:=fun K F H d a h t=>xY h t
 ok:=fun K F H d a as vs d' x Q hf ha ht _hd hv q=>by
  split at hf
  ·split at hf
   ·rename_i b ys hl;cases hf;have hv':∃ v,vs=[v]/\Vw K F H (.list ys) v:=by
     cases b with
     | true=>obtain ⟨v,r,rfl,hv,rfl⟩:=hv;exact ⟨v,rfl,hv.vw⟩
     | false=>obtain ⟨v,r,rfl,hv,rfl⟩:=hv;exact ⟨v,rfl,hv⟩
    obtain ⟨v,rfl,hv2⟩:=hv';obtain ⟨b',us,rfl,s1,z1,d1⟩:=qH hv2;obtain ⟨xs,ea,z,rx⟩:=ht;have hl':xs.length+us.length<=sizeLine:=by rw [rx.len,d1.len];exact hl
    refine ⟨a,b',xs,us,rfl,rfl,ea,s1,hl',q _ _ (fun b o n e=>by rw [ao n];exact e) ⟨_,aE,by rw [LY];exact hl',(rx.app d1).pr (qg ha ea rfl) fun _ z=>z⟩ rfl⟩
   ·cases hf
  ·cases hf
noncomputable def strsOf:List PyData->Option (List Str)
 | []=>some []
 | .str x :: r=>match strsOf r with | some xs=>some (x :: xs) | none=>none
 | _ :: _=>none
theorem s8 {K:Fg} {F:Addr->Prop} {H:Hp}:∀ {ds:List PyData} {xs:List V} {ss:List Str},strsOf ds=some ss->DmL K F H ds xs->xs=ss.map V.str/\∀ s∈ss,PyData.strOk s=true
 | [],xs,bs,h,q=>by cases h;exact ⟨q,fun s z=>by cases z⟩
 | .str b :: r,xs,bs,h,q=>by
  unfold strsOf at h;split at h
  ·rename_i bs' h';cases h;obtain ⟨v,vr,rfl,h1,h2⟩:=q;obtain ⟨i1,i2⟩:=s8 h' h2;refine ⟨by rw [i1,show v=.str b from h1.1];rfl,fun s z=>?_⟩;rcases Mc.mp z with rfl | z
   ·exact h1.2.2
   ·exact i2 s z
  ·cases h
 | .none :: r,xs,bs,h,q=>by cases h
 | .int _ :: r,xs,bs,h,q=>by cases h
 | .bool _ :: r,xs,bs,h,q=>by cases h
 | .list _ :: r,xs,bs,h,q=>by cases h
 | .tuple _ :: r,xs,bs,h,q=>by cases h
 | .dict _ :: r,xs,bs,h,q=>by cases h
theorem qu (g:Array Nat):∀ (ps:List Str) (acc:Array Nat),(ps.foldl (fun acc p=>acc++g++p.cps) acc).size=acc.size+(ps.map fun p=>p.length).sum+ps.length*g.size
 | [],acc=>by simp
 | p :: ps,acc=>by
  rw [NR,qu g ps];simp only [List.map_cons,List.sum_cons,L3,Array.size_append,Nat.succ_mul];show acc.size+g.size+p.cps.size+_+_=acc.size+(p.cps.size+_)+_;omega
theorem tX (z:Str) (ss:List Str):(Txt.join z ss).length<=(ss.map (·.length)).sum+ss.length*z.length:=by
 cases ss with
 | nil =>
  have:(Txt.join z []).length=0:=rfl;rw [this];exact MV _
 | cons x r =>
  show ((r.foldl (fun acc p=>acc++z.cps++p.cps) x.cps)).size<=_;rw [qu];simp only [List.map_cons,List.sum_cons,L3,Nat.succ_mul];show x.cps.size+_+r.length*z.cps.size<=x.cps.size+_+(r.length*z.cps.size+z.cps.size);omega
theorem tu {g:Array Nat} (hg:g.all (· < 0x110000)=true):∀ (ps:List Str) (acc:Array Nat),(∀ p∈ps,PyData.strOk p=true)->acc.all (· < 0x110000)=true->(ps.foldl (fun acc p=>acc++g++p.cps) acc).all (· < 0x110000)=true
 | [],acc,_,h=>h
 | p :: ps,acc,hp,h=>by
  rw [NR];refine tu hg ps _ (fun q hq=>hp q (L8 _ hq)) ?_;rw [Array.all_append,Array.all_append,h,hg,show p.cps.all (· < 0x110000)=true from hp p Mj];rfl
theorem xJ {z:Str} {ss:List Str} (hz:PyData.strOk z=true) (hs:∀ s∈ss,PyData.strOk s=true):PyData.strOk (Txt.join z ss)=true:=by
 cases ss with
 | nil=>exact b5 ""
 | cons x r=>exact tu hz r _ (fun q hq=>hs q (L8 _ hq)) (hs x Mj)
noncomputable def eg (z:Str) (ss:List Str):Bool:=decide ((ss.map (·.length)).sum+ss.length*z.length<=16777216)
noncomputable def DB:PyData->List PyData->Option PR
 | .str z,[.list ds]=>match strsOf ds with | some ss=>if eg z ss=true then some (.dat (.str (Txt.join z ss))) else none | none=>none
 | .str z,[.tuple ds]=>match strsOf ds with | some ss=>if eg z ss=true then some (.dat (.str (Txt.join z ss))) else none | none=>none
 | _,_=>none
theorem ty_str {K:Fg} {F:Addr->Prop} {H:Hp} {d:PyData} {v:V} (h:isS d=true) (t:Vw K F H d v):tyV K "str" v H:=by
 cases d with
 | str x=>rw [(vStr t).1];rfl
 | _=>cases h
noncomputable def joinM:Mtd where
 T := "str"
 r:=z6
 ty:=isS
 f:=DB
 zj:=fun K F H d v h t=>ty_str h t
 ok:=fun K F H d v ds vs pr Q hf hx hv hd q=>by
  unfold DB at hf;split at hf
  ·rename_i z ds;split at hf
   ·rename_i ss hss;split at hf
    ·rename_i hok;cases hf;obtain ⟨rfl,l1,o1⟩:=vStr hx;obtain ⟨w,r,rfl,hw,rfl⟩:=hv;obtain ⟨a,us,rfl,s1,z1,d1⟩:=qH hw;obtain ⟨e,os⟩:=s8 hss d1;rw [e] at s1;have hok':(ss.map (·.length)).sum+ss.length*z.length<=16777216:=by simpa [eg] using hok
     exact ⟨z,a,ss,rfl,rfl,.inl s1,hok',q _ H (bq.rf H) ⟨rfl,Mr (tX z ss) hok',xJ o1 os⟩⟩
    ·cases hf
   ·cases hf
  ·rename_i z ds;split at hf
   ·rename_i ss hss;split at hf
    ·rename_i hok;cases hf;obtain ⟨rfl,l1,o1⟩:=vStr hx;obtain ⟨w,r,rfl,hw,rfl⟩:=hv;obtain ⟨a,us,rfl,s1,z1,d1⟩:=xb hw;obtain ⟨e,os⟩:=s8 hss d1;rw [e] at s1;have hok':(ss.map (·.length)).sum+ss.length*z.length<=16777216:=by simpa [eg] using hok
     exact ⟨z,a,ss,rfl,rfl,.inr s1,hok',q _ H (bq.rf H) ⟨rfl,Mr (tX z ss) hok',xJ o1 os⟩⟩
    ·cases hf
   ·cases hf
  ·cases hf
noncomputable def fvP:Prm:=Prm.one (fun _ x H Q=>∃ y,x=.str y/\y.length<=sizeLine/\Q (.str y) H) (fun x=>match x with | .str y=>some (.dat (.str y)) | _=>none) fun K F H x u pr Q hf hx hd q=>by
 split at hf
 ·cases hf;obtain ⟨rfl,l1,o1⟩:=vStr hx;exact ⟨_,rfl,l1,q _ H (bq.rf H) ⟨rfl,l1,o1⟩⟩
 ·cases hf
noncomputable def Fn.no (ms:List PM):Fn:=⟨ms,fun _=>none⟩
theorem Ac {K:Fg} {F:Addr->Prop} {H:Hp}:∀ {ns:List Int},DmL K F H (ns.map .int) (ns.map .int)
 | []=>rfl
 | n :: ns=>⟨_,_,rfl,rfl,Ac⟩
theorem E9 {f:Fn} {K:Fg} {H:Hp} {a:Addr} {ns:List Int} (hm:f.ms=[.dat]) (hl:ns.length<=63) (hS:SqL K H a (ns.map V.int)) (hF:f.F [.list (ns.map .int)]=some (.dat (.bool true),[])):bu f K [.ref a] H (fun v _=>v=.bl true) fun _ _ _=>False:=by
 refine ⟨fun _=>False,[.list (ns.map .int)],[],.dat (.bool true),[],hF,?_,fun _ h=>absurd h id,fun v' H' _ r=>r.1⟩;rw [hm];refine ⟨⟨a,ns.map .int,rfl,?_,?_,Ac⟩,rfl⟩
 ·rcases hS with hS | hS
  ·exact .inl ⟨id,hS⟩
  ·exact .inr hS
 ·rw [LZ];exact Mr hl (by decide)
open PySem PySem.Spec PyProof.Rows
section
variable {X:Cx} {pos:Pos} {s:Stmt}
theorem Ap:JS X s wA:=⟨fun _ _ _ _ _ _ h=>absurd h id⟩
end
open PySem PySem.Spec PyProof.Rows
noncomputable def yD (f:Str):List (PyData×PyData)->Option PyData
 | (.str g,d) :: r=>if g=f then some d else yD f r
 | _=>none
noncomputable def u3 (f:Str) (x:PyData):List (PyData×PyData)->Option (List (PyData×PyData))
 | []=>some [(.str f,x)]
 | (.str g,d) :: r=>if g=f then some ((.str g,x) :: r) else (u3 f x r).map ((.str g,d) :: ·)
 | _=>none
section
variable {K:Fg} {F:Addr->Prop} {H:Hp} {f:Str}
theorem E2 {ds:List (PyData×PyData)} {d:PyData}:∀ {xs:List (PyData×V×V)},DmP K F H ds xs->yD f ds=some d->∃ v,(qV xs).lookup f=some v/\Dm K F H d v:=by
 induction ds with
 | nil=>intro xs h e;cases e
 | cons p ds ih =>
  obtain ⟨k0,d'⟩:=p;intro xs h e;obtain ⟨j,v,r,rfl,_,_,h1,h2⟩:=h;cases k0 with
  | str g =>
   have e:(if g=f then some d' else yD f ds)=some d:=e;show ∃ v',List.lookup f ((g,v) :: qV r)=some v'/\_;by_cases q:g=f
   ·rw [Me q] at e;cases e;subst q;exact ⟨v,by rw [Nd,beq_self_eq_true],h1⟩
   ·rw [Mn q] at e;rw [Nd,show (f==g)=false from Nk.mpr fun z=>q z.symm];exact ih h2 e
  | _=>cases e
theorem Dt {x:PyData} {u:V} (hx:Dm K F H x u) (hf:f.length<=sizeLine/\PyData.strOk f=true) {ds:List (PyData×PyData)}:∀ {ds':List (PyData×PyData)} {xs:List (PyData×V×V)},DmP K F H ds xs->u3 f x ds=some ds'->∃ xs',DmP K F H ds' xs'/\qV xs'=oj f u (qV xs)/\xs'.length<=xs.length+1:=by
 induction ds with
 | nil =>
  intro ds' xs h e;cases e;rw [show xs=[] from h];refine ⟨[(.str f,.str f,u)],?_,rfl,Mg _⟩;exact ⟨.str f,u,[],rfl,rfl,⟨rfl,hf⟩,hx,rfl⟩
 | cons p ds ih =>
  obtain ⟨k0,d⟩:=p;intro ds' xs h e;obtain ⟨j,v,r,rfl,k,h0,h1,h2⟩:=h;cases k0 with
  | str g =>
   have e:(if g=f then some ((PyData.str g,x) :: ds) else (u3 f x ds).map ((PyData.str g,d) :: ·))=some ds':=e;show ∃ xs',_/\qV xs'=(if g=f then (g,u) :: qV r else (g,v) :: oj f u (qV r))/\_;by_cases q:g=f
   ·rw [Me q] at e ⊢;cases e;refine ⟨(.str g,j,u) :: r,?_,rfl,Nat.le_succ _⟩;exact ⟨j,u,r,rfl,k,h0,hx,h2⟩
   ·rw [Mn q] at e ⊢;obtain ⟨ds2,e2,rfl⟩:=Mt.mp e;obtain ⟨xs',a,b,c⟩:=ih h2 e2;refine ⟨(.str g,j,v) :: xs',?_,by rw [<- b];rfl,Nat.succ_le_succ c⟩;exact ⟨j,v,xs',rfl,k,h0,h1,a⟩
  | _=>cases e
end
def Ln (f:Str) (K:Fg):V->Hp->VK->Prop:=fun x H Q=>∃ a dx fs v,x=.ref a/\H a=some (.ins clsAt dx fs)/\fs.lookup f=some v/\Q v H
noncomputable def sM (f:Str):Prm:=Prm.one (Ln f) (fun d=>match d with | .dict kvs=>(yD f kvs).map .dat | _=>none) fun K F H x u pr Q hf hx hd q=>by
 split at hf
 ·obtain ⟨d,e,rfl⟩:=Mt.mp hf;obtain ⟨a,rfl,ep,xs,ea,_,r⟩:=hx;obtain ⟨v,ev,dv⟩:=E2 r e;exact ⟨a,ep,_,v,rfl,ea,ev,q _ H (bq.rf H) dv⟩
 ·cases hf
noncomputable def ve (f:Str):zK where
 r:=fun K o _ x H Q=>∃ a dx fs,o=.ref a/\H a=some (.ins clsAt dx fs)/\fs.length < 1000/\Q (upd H a (.ins clsAt dx (oj f x fs)))
 f:=fun d _ x=>match d with
  | .dict kvs=>if f.length<=sizeLine/\PyData.strOk f=true/\kvs.length < 1000 then (u3 f x kvs).map .dict else none
  | _=>none
 ok:=fun K F H d a k x vk vx d' Q hf ha ht hk hx q=>by
  split at hf
  ·split at hf
   ·rename_i kvs h;obtain ⟨ds',e,rfl⟩:=Mt.mp hf;obtain ⟨ep,xs,ea,z,r⟩:=ht;obtain ⟨xs',r',b,c⟩:=Dt hx ⟨h.1,h.2.1⟩ r e;have hl:xs.length < 1000:=by rw [z3 r];exact h.2.2
    refine ⟨a,ep,qV xs,rfl,ea,by unfold qV;rw [LZ];exact hl,q _ (fun b o n e=>by rw [ao n];exact e) ⟨ep,xs',by rw [b];exact aE,by rw [Nh];omega,r'.pr (qg ha ea rfl) fun _ z=>z⟩⟩
   ·cases hf
  ·cases hf
section
variable {X:Cx} {o e value:Expr} {f:Str} {pos pos':Pos} {ta tv:TE}
theorem K4 (c:Cls X.K clsAt) (n:fu X.K clsAt f) (he:JE X e ta) (hb:attributeBase e f X.env (eval e X.env)=eval e X.env):JE X (.Attribute e f pos) (fun σ H Q=>ta σ H fun x H1=>(sM f).r X.K [x] H1 Q):=⟨by
 intro pins s σ H Q I h;refine A2 hb (thn (he.h pins s σ H _ I h) fun u s1 ⟨x,H1,I1,rx,a,dx,fs,v,ex,ea,l,q⟩=>?_);subst ex;obtain rfl:u=Value.ref a:=rx
 exact ua I1 ea c n l fun u' s2 I2 ru=>⟨v,H1,I2,ru,q⟩⟩
theorem GU (c:Cls X.K clsAt) (n:fu X.K clsAt f) (ha:JE X o ta) (hv:JE X value tv) (hs:swapsWith value (some (.Attribute o f pos')) pos.line X.env=pure false) :
  JS X (.Assign [.Attribute o f pos'] value pos) (fun D σ H=>tv σ H fun x H1=>ta σ H1 fun y H2=>(ve f).r X.K y .non x H2 (D.nx σ)):=⟨by
 intro pins s σ H D I h;refine plainObj_wpAny_Assign_Attribute (thn (hv.h pins s σ H _ I h) fun u s1 ⟨y,H1,I1,ry,q⟩=>thn (ha.h pins s1 σ H1 _ I1 q) fun ov s2 ⟨x,H2,I2,rx,a,dx,fs,ex,ea,l,q2⟩=>?_) hs;subst ex;obtain rfl:ov=Value.ref a:=rx
 exact uA I2 ea c n l ry fun s3 I3=>⟨σ,_,I3,q2⟩⟩
end
open PySem PySem.Spec PyProof.Rows
noncomputable def CK:PyData->Bool
 | .list _=>false
 | .dict _=>false
 | _=>true
noncomputable def KA:PyData->Bool
 | .str _=>true
 | .int _=>true
 | _=>false
noncomputable def qQ:List PM->List (Bool×PyData)->Bool
 | [],[]=>true
 | .dat :: r,p :: s=>(p.1||CK p.2)&&qQ r s
 | _,_=>false
noncomputable def AZ:List PM->List PyData->Bool
 | [],[]=>true
 | .dat :: r,p :: s=>KA p&&AZ r s
 | _,_=>false
noncomputable def GF (m:Str):List (PyData×PyData)->Bool
 | []=>true
 | (.str g,_) :: r=>!(g==m)&&GF m r
 | _=>false
section
variable {K:Fg} {F:Addr->Prop} {H:Hp}
theorem IX {d:PyData} {v:V} (h:Vw K F H d v) (e:CK d=true):Dm K F H d v:=by
 cases d <;> first | exact h | cases e
theorem BL {I:Addr->Prop} {ms:List PM}:∀ {as:List (Bool×PyData)} {vs:List V},MvL K F H as vs->qQ ms as=true->bY K F I H ms (as.map (·.2)) vs []:=by
 induction ms with
 | nil =>
  intro as vs h e;cases as with
  | nil=>rw [show vs=[] from h];rfl
  | cons=>cases e
 | cons m ms ih =>
  intro as vs h e;cases as with
  | nil=>cases m <;> cases e
  | cons p as =>
   cases m with
   | dat =>
    obtain ⟨b,d⟩:=p;have e:((b||CK d)&&qQ ms as)=true:=e;rw [Ms] at e;cases b with
    | true=>obtain ⟨v,r,rfl,h1,h2⟩:=h;exact ⟨h1,ih h2 e.2⟩
    | false=>obtain ⟨v,r,rfl,h1,h2⟩:=h;exact ⟨IX h1 e.1,ih h2 e.2⟩
   | _=>cases e
theorem BW {I F':Addr->Prop} {H':Hp} {ms:List PM}:∀ {ds:List PyData} {vs:List V},VwL K F H ds vs->AZ ms ds=true->bY K F' I H' ms ds vs []:=by
 induction ms with
 | nil =>
  intro ds vs h e;cases ds with
  | nil=>rw [show vs=[] from h];rfl
  | cons=>cases e
 | cons m ms ih =>
  intro ds vs h e;cases ds with
  | nil=>cases m <;> cases e
  | cons d ds =>
   cases m with
   | dat =>
    have e:(KA d&&AZ ms ds)=true:=e;rw [Ms] at e;obtain ⟨v,r,rfl,h1,h2⟩:=h;refine ⟨?_,ih h2 e.2⟩;cases d with
    | str x=>exact h1
    | int i=>exact h1
    | _=>cases e.1
   | _=>cases e
theorem IG {m:Str} {ds:List (PyData×PyData)}:∀ {xs:List (PyData×V×V)},DmP K F H ds xs->GF m ds=true->(qV xs).lookup m=none:=by
 induction ds with
 | nil=>intro xs h _;rw [show xs=[] from h];rfl
 | cons p ds ih =>
  obtain ⟨k0,d⟩:=p;intro xs h e;obtain ⟨j,v,r,rfl,_,_,h1,h2⟩:=h;cases k0 with
  | str g =>
   have e:(!(g==m)&&GF m ds)=true:=e;rw [Ms] at e;show List.lookup m ((g,v) :: qV r)=none;rw [Nd];have q:¬g=m:=fun z=>by have:=e.1;rw [z,beq_self_eq_true] at this;cases this
   rw [show (m==g)=false from Nk.mpr fun z=>q z.symm];exact ih h2 e.2
  | _=>cases e
end
noncomputable def aH (m:Str) (f:Fn):Mtr where
 T := ""
 tq:=fun _ x H=>∃ a dx fs,x=.ref a/\H a=some (.ins clsAt dx fs)/\fs.lookup m=none
 r:=fun K x vs H Q=>bu f K (x :: vs) H Q NoE
 ty:=fun d=>match d with | .dict kvs=>GF m kvs | _=>false
 f:=fun d as=>match f.ms with
  | .ino :: ms=>if qQ ms as=true then match f.F (d :: as.map (·.2)) with | some (.dat x,[d'])=>some (d',x) | _=>none else none
  | _=>none
 zj:=fun K F H d a h t=>by
  cases d with
  | dict kvs=>obtain ⟨ep,xs,ea,_,r⟩:=t;exact ⟨a,ep,_,rfl,ea,IG r h⟩
  | _=>cases h
 ok:=fun K F H d a as vs d' x Q hf ha ht hd hv q=>by
  split at hf
  ·rename_i ms hms;split at hf
   ·rename_i hm;split at hf
    ·rename_i x' d'' hF;cases hf;refine ⟨F,d :: as.map (·.2),[a],.dat x,[d'],hF,?_,hd,fun v' H' hk hr=>?_⟩
     ·rw [hms];exact ⟨a,[],rfl,rfl,ha,ht,by simp,BL hv hm⟩
     ·exact q v' H' (fun b o n e=>hk b o e (by simp [n])) hr.2.1 hr.1
    ·cases hf
   ·cases hf
  ·cases hf
noncomputable def Gz (f:Fn):Prm where
 r:=fun K vs H Q=>∀ x dx,H x=none->H dx=none->dx≠x->bu f K (.ref x :: vs) (upd (upd H dx (.own x)) x (.ins clsAt dx [])) (fun v H2=>v=.non/\Q (.ref x) H2) NoE
 f:=fun ds=>match f.ms with
  | .ino :: ms=>if AZ ms ds=true then match f.F (.dict [] :: ds) with | some (.dat .none,[d])=>some (.frs d) | _=>none else none
  | _=>none
 ok:=fun K F H ds vs pr Q hf hv hd q=>by
  split at hf
  ·rename_i ms hms;split at hf
   ·rename_i hm;split at hf
    ·rename_i d hF;cases hf;intro x dx hx hdx ne;have kp:∀ b o,H b=some o->b≠x/\upd (upd H dx (.own x)) x (.ins clsAt dx []) b=some o:=fun b o e=>by
      have n1:b≠x:=fun z=>by rw [z,hx] at e;cases e
      have n2:b≠dx:=fun z=>by rw [z,hdx] at e;cases e
      exact ⟨n1,by rw [ao n1,ao n2];exact e⟩
     refine ⟨fun b=>F b\/b=x,.dict [] :: ds,[x],.dat .none,[d],hF,?_,?_,fun v' H' hk hr=>?_⟩
     ·rw [hms];exact ⟨x,[],rfl,rfl,.inr rfl,⟨dx,[],aE,MV _,rfl⟩,by simp,BW hv hm⟩
     ·rintro b (z | rfl)
      ·cases e:H b with
       | none=>exact absurd e (hd b z)
       | some o=>rw [(kp b o e).2];exact fun z=>nomatch z
      ·rw [aE];exact fun z=>nomatch z
     ·exact ⟨hr.1,q (.ref x) H' (fun b o e=>hk b o (kp b o e).2 (by simp [(kp b o e).1])) ⟨x,rfl,hx,hr.2.1⟩⟩
    ·cases hf
   ·cases hf
  ·cases hf
section
variable {X:Cx} {CX:CXT} {k:Nat} {f:Addr} {fd:FuncData} {ps:List Str} {fn:Fn} {x m:Str} {p pos apos:Pos} {e o:Expr} {es:List Expr} {i:Nat} {t:TA}
theorem Lw {pl:Sem Bool} (he:JE X o (bE i)) (c:Cls X.K clsAt) (hm:Meth X.K clsAt m f) (F:aO X.prog X.w X.K X.mg X.base CX k f fd ps (bu fn X.K)) (hr:d7 k X.A) (hb:Binds X.K fd ps []) (hx:Passes CX X NoE) (ha:JA X (e :: es) t)
  (hst:starEach (e :: es) X.env=(false,eval e X.env) :: starEach es X.env) (hpl:(backTo pos (starEach es X.env)).any (·.1)=false)
  (ht:eval (.Call (.Attribute o m apos) (e :: es) [] pos) X.env=(do
   let ov<-eval o X.env
   standAt apos.atName
   let (f,first)<-holding [ov] (getMethod ov m pl)
   callWith pos f first (backTo pos (starEach (e :: es) X.env)) (backToKw pos (keywordEach [] X.env)))) :
  JE X (.Call (.Attribute o m apos) (e :: es) [] pos) (fun σ H Q=>bE i σ H fun x H1=>(aH m fn).tq X.K x H1/\t σ H1 fun xs H2=>(aH m fn).r X.K x xs H2 Q):=⟨fun pins s σ H Q I h=>by
 refine BG (pl:=pl) he.h c hm F hr hb .nil hx ha.h hst hpl ht pins s σ H Q I ?_;obtain ⟨v,hv,⟨a,dx,fs,e1,e2,e3⟩,q⟩:=h;refine ⟨v,hv,a,dx,fs,e1,e2,e3,?_⟩;simp only [MS]
 exact q⟩
theorem J1 {pl:Sem Bool} (he:JE X o (bE i)) (c:Cls X.K clsAt) (hm:Meth X.K clsAt m f) (F:aO X.prog X.w X.K X.mg X.base CX k f fd ps (bu fn X.K)) (hr:d7 k X.A) (hb:Binds X.K fd ps []) (hx:Passes CX X NoE)
  (ht:eval (.Call (.Attribute o m apos) [] [] pos) X.env=(do
   let ov<-eval o X.env
   standAt apos.atName
   let (f,first)<-holding [ov] (getMethod ov m pl)
   callWith pos f first (backTo pos (starEach [] X.env)) (backToKw pos (keywordEach [] X.env)))) :
  JE X (.Call (.Attribute o m apos) [] [] pos) (fun σ H Q=>bE i σ H fun x H1=>(aH m fn).tq X.K x H1/\cu σ H1 fun xs H2=>(aH m fn).r X.K x xs H2 Q):=⟨fun pins s σ H Q I h=>by
 refine zF (pl:=pl) he.h c hm F hr hb .nil hx ht pins s σ H Q I ?_;obtain ⟨v,hv,⟨a,dx,fs,e1,e2,e3⟩,q⟩:=h
 exact ⟨v,hv,a,dx,fs,e1,e2,e3,q⟩⟩
theorem eNew (M:Mk X.K clsAt f) (F:aO X.prog X.w X.K X.mg X.base CX k f fd ps (bu fn X.K)) (hr:d7 (k+1) X.A) (hg:Gl X x) (hm:X.mg x=some (.ref clsAt)) (hb:Binds X.K fd ps []) (hx:Passes CX X NoE)
  (ha:JA X (e :: es) t) (hdb:(x==("__debug__" : Str))=false) (he:starEach (e :: es) X.env=(false,eval e X.env) :: starEach es X.env) (hpl:(backTo pos (starEach es X.env)).any (·.1)=false) :
  JE X (.Call (.Name x p) (e :: es) [] pos) (tCB ((Gz fn).r X.K) t):=⟨fun pins s σ H Q I h=>by
 refine AU M F hr hg hm hb .nil hx ha.h hdb he hpl pins s σ H Q I ?_;show t σ H fun vs H1=>_;simp only [MS]
 exact h⟩
end
open PySem PySem.Spec PyProof.Rows
noncomputable def wJ (d:PyData):Bool:=noD d&&decide (d.depth<=32)
noncomputable def wo (ds:List PyData) (x:PyData):Bool:=ds.any fun d=>PyData.eqv d x
noncomputable def ngB (neg b:Bool):Bool:=if neg then !b else b
def LD (neg:Bool) (K:Fg):R2:=rOr (fun x y H Q=>∃ i j,x=.str i/\y=.str j/\Q (.bl (ngB neg (!(Builtin.Str.occurrences j i 0 j.length 1).isEmpty))) H)
 fun x y H Q=>∃ (p:Addr) (xs:List V) (F:Addr->Prop) (d:PyData) (ds:List PyData),y=.ref p/\(SqL K H p xs\/SqT K H p xs)/\Vw K F H d x/\DmL K F H ds xs/\wJ d=true/\gZ ds=true/\Q (.bl (ngB neg (wo ds d))) H
noncomputable def inD (neg:Bool):PyData->PyData->Option PR
 | .str i,.str j=>some (.dat (.bool (ngB neg (!(Builtin.Str.occurrences j i 0 j.length 1).isEmpty))))
 | x,.list ds=>if wJ x=true/\gZ ds=true then some (.dat (.bool (ngB neg (wo ds x)))) else none
 | x,.tuple ds=>if wJ x=true/\gZ ds=true then some (.dat (.bool (ngB neg (wo ds x)))) else none
 | _,_=>none
noncomputable def Gg (neg:Bool):Prm:=Prm.two (LD neg) (inD neg) fun K F H x y u v pr Q hf hx hy hd q=>by
 unfold inD at hf;split at hf
 ·cases hf;exact .inl ⟨_,_,(vStr hx).1,(vStr hy).1,q _ H (bq.rf H) rfl⟩
 ·split at hf
  ·rename_i h;cases hf;obtain ⟨a,us,rfl,s1,z1,d1⟩:=qH hy;exact .inr ⟨a,us,F,_,_,rfl,.inl s1,hx,d1,h.1,h.2,q _ H (bq.rf H) rfl⟩
  ·cases hf
 ·split at hf
  ·rename_i h;cases hf;obtain ⟨a,us,rfl,s1,z1,d1⟩:=xb hy;exact .inr ⟨a,us,F,_,_,rfl,.inr s1,hx,d1,h.1,h.2,q _ H (bq.rf H) rfl⟩
  ·cases hf
 ·cases hf
noncomputable abbrev inP:Prm:=Gg false
noncomputable abbrev oM:Prm:=Gg true
open Classical in
noncomputable def eqR (h:Heap) (x:PyData) (u:Value):Bool:=if q:∃ d as,Reads h u d as then PyData.eqv (Classical.choose q) x else false
theorem Aa {h:Heap} {x d:PyData} {u:Value} {as:List Addr} (r:Reads h u d as):eqR h x u=PyData.eqv d x:=by
 have q:∃ d as,Reads h u d as:=⟨d,as,r⟩;unfold eqR;rw [dif_pos q];obtain ⟨bs,r2⟩:=Classical.choose_spec q;rw [(PySem.Reads.unique r _ _ r2).1]
section
variable {X:Cx} {pins:List (Addr×Obj)} {σ:St} {s:Shared} {H:Hp} {F:Addr->Prop}
theorem kd (I:Inv X pins σ H s) (x:PyData):∀ {ds:List PyData} {xs:List V} {us:List Value},DmL X.K F H ds xs->gZ ds=true->Vals xs us->us.any (eqR s.heap x)=wo ds x
 | [],xs,us,h,_,r=>by rw [show xs=[] from h] at r;cases r;rfl
 | d :: ds,xs,us,h,n,r=>by
  obtain ⟨v,t,rfl,h1,h2⟩:=h;have n':noD d=true/\gZ ds=true:=by simpa [gZ] using n
  cases r with
  | cons r1 r2 =>
   obtain ⟨as,ra⟩:=h1.reads I n'.1 r1;rw [List.any_cons,Aa ra,kd I x h2 n'.2 r2];rfl
theorem ka (I:Inv X pins σ H s) {A:Around} {x:PyData} {b:Value} {bs:List Addr} (rb:Reads s.heap b x bs) (hb:x.canLay0=true) (hu:A.units+x.depth < cLine):∀ {ds:List PyData} {xs:List V} {us:List Value},DmL X.K F H ds xs->gZ ds=true->Vals xs us->∀ u∈us,SeqAt.EqAt A s u b (eqR s.heap x u)
 | [],xs,us,h,_,r=>by rw [show xs=[] from h] at r;cases r;intro u hu;cases hu
 | d :: ds,xs,us,h,n,r=>by
  obtain ⟨v,t,rfl,h1,h2⟩:=h;have n':noD d=true/\gZ ds=true:=by simpa [gZ] using n
  cases r with
  | cons r1 r2 =>
   intro u hm;rcases Mc.mp hm with rfl | hm
   ·obtain ⟨as,ra⟩:=h1.reads I n'.1 r1;rw [Aa ra];exact SeqAt.eqAt_reads d x A s _ b as bs ra rb (h1.lay n'.1) hb (by omega)
   ·exact ka I rb hb hu h2 n'.2 r2 u hm
end
theorem bp {X:Cx} (hu:X.A.units+64 < cLine):OpR X (compareOp .In) (fun x y=>inP.r X.K [x,y]):=by
 refine orR DN ?_;intro pins s σ H x y v u Q I rx ry h;obtain ⟨p,xs,F,d,ds,rfl,hq,hd,hs,o1,o2,q⟩:=h;have o1':noD d=true/\d.depth<=32:=by simpa [wJ] using o1
 cases ry;obtain ⟨bs,rb⟩:=hd.reads I o1'.1 rx;rcases hq with hq | hq
 ·obtain ⟨its,r,pl,hz⟩:=I.list hq;refine SeqAt.in_listAt (eqR s.heap d) pl.isList (fun w hw=>ka I rb (hd.lay o1'.1) (by have:X.A.in1.units=X.A.units+1:=rfl;omega) hs o2 r w (by simpa using hw)) ⟨.bl _,H,I,rfl,?_⟩;rw [show its.toArray.any (eqR s.heap d)=its.any (eqR s.heap d) by simp,kd I d hs o2 r];exact q
 ·obtain ⟨its,r,pl,hz⟩:=I.tuple hq;refine SeqAt.in_tupleAt (eqR s.heap d) pl (fun w hw=>ka I rb (hd.lay o1'.1) (by have:X.A.in1.units=X.A.units+1:=rfl;omega) hs o2 r w (by simpa using hw)) ⟨.bl _,H,I,rfl,?_⟩;rw [show its.toArray.any (eqR s.heap d)=its.any (eqR s.heap d) by simp,kd I d hs o2 r];exact q
theorem o6 {X:Cx} (hu:X.A.units+64 < cLine):OpR X (compareOp .NotIn) (fun x y=>oM.r X.K [x,y]):=by
 refine orR yg ?_;intro pins s σ H x y v u Q I rx ry h;obtain ⟨p,xs,F,d,ds,rfl,hq,hd,hs,o1,o2,q⟩:=h;have o1':noD d=true/\d.depth<=32:=by simpa [wJ] using o1
 cases ry;obtain ⟨bs,rb⟩:=hd.reads I o1'.1 rx;rcases hq with hq | hq
 ·obtain ⟨its,r,pl,hz⟩:=I.list hq;refine SeqAt.notIn_listAt (eqR s.heap d) pl.isList (fun w hw=>ka I rb (hd.lay o1'.1) (by have:X.A.in1.units=X.A.units+1:=rfl;omega) hs o2 r w (by simpa using hw)) ⟨.bl _,H,I,rfl,?_⟩;rw [show its.toArray.any (eqR s.heap d)=its.any (eqR s.heap d) by simp,kd I d hs o2 r];exact q
 ·obtain ⟨its,r,pl,hz⟩:=I.tuple hq;refine SeqAt.notIn_tupleAt (eqR s.heap d) pl (fun w hw=>ka I rb (hd.lay o1'.1) (by have:X.A.in1.units=X.A.units+1:=rfl;omega) hs o2 r w (by simpa using hw)) ⟨.bl _,H,I,rfl,?_⟩;rw [show its.toArray.any (eqR s.heap d)=its.any (eqR s.heap d) by simp,kd I d hs o2 r];exact q
theorem aO.no {P:Program} {w:World} {K:Fg} {mg:Str->Option Value} {base:Heap} {k:Nat} {f:Addr} {fd:FuncData} {ps:List Str} {sp:Sp} {x qual:Str} {st:Stmt} {N:List Str} (F:Fun K x qual st f fd) (S:af N ps (aa st)) (h:∀ vs H Q E,¬sp vs H Q E):aO P w K mg base CX0 (k+1) f fd ps sp :=
 F.okJ S (fun vs H Q E z=>(h vs H Q E z).elim) (fun cdv A outer s H vs Q E hr z=>(h vs H Q E z).elim)
open PySem
structure Kn where
 nx:En->Prop
 rt:RV->En->Prop
 bk:En->Prop
 ct:En->Prop
def Kn.at (E:Kn):Out->Prop | .nx e=>E.nx e | .rt r e=>E.rt r e | .bk e=>E.bk e | .ct e=>E.ct e
def WS (gd:List PyData) (s:XS) (env:En) (E:Kn):Prop:=∃ o,dS gd s env=some o/\E.at o
def WE (gd:List PyData) (e:XE) (env:En) (Q:RV->En->Prop):Prop:=∃ r e',dE gd e env=some (r,e')/\Q r e'
def WA (gd:List PyData) (e:XA) (env:En) (Q:List AV->En->Prop):Prop:=∃ r e',dA gd e env=some (r,e')/\Q r e'
def WT (gd:List PyData) (e:XT) (env:En) (Q:Bool->En->Prop):Prop:=∃ r e',dT gd e env=some (r,e')/\Q r e'
def WI (gd:List PyData) (e:XI) (env:En) (Q:List PyData->Option Nat->En->Prop):Prop:=∃ ds lk e',dI gd e env=some (ds,lk,e')/\Q ds lk e'
def WF (f:Fn) (ds:List PyData) (Q:PR->List PyData->Prop):Prop:=∃ pr outs,f.F ds=some (pr,outs)/\Q pr outs
def WPr (p:Prm) (avs:List AV) (e:En) (Q:RV->En->Prop):Prop:=∃ ds pr,aK e avs=some ds/\p.f ds=some pr/\Q pr.rv e
def Gd (i:Nat) (r:RV) (e:En) (N:En->Prop):Prop:=∃ d,r.av=.dat d/\free e i=true/\N (e.set i (.dat d))
def wC (i:Nat) (r:RV) (e:En) (N:En->Prop):Prop:=∃ d,r=.frs d/\free e i=true/\N (e.set i (.own d))
def HB (b:PyData->En->Option Out) (ds:List PyData) (lk:Option Nat) (e1:En) (E:Kn):Prop:=∃ o,forL b ds (cm e1 lk)=some o/\E.at (o.map (lkd e1 lk) (aF e1 lk))
def nK (f:Fn) (avs:List AV) (e:En) (Q:RV->En->Prop):Prop:=∃ rv e',zo f avs e=some (rv,e')/\Q rv e'
def GP (ms:List PM) (QF:PR->List PyData->Prop) (r:RV) (e:En):Prop:=∃ pr outs,r.pr=some pr/\kS ms e=some outs/\QF pr outs
def zB (ms:List PM) (QF:PR->List PyData->Prop) (e:En):Prop:=∃ outs,kS ms e=some outs/\QF (.dat .none) outs
def C4 (m:zK) (i:Nat) (v:PyData) (rk:RV) (e2:En) (N:En->Prop):Prop:=∃ dk d d',rk.view e2=some dk/\aQ e2 i=some d/\m.f d dk v=some d'/\N (gz e2 i d')
def Gy (gd:List PyData) (m:zK) (i:Nat) (a:XE) (r:RV) (e:En) (N:En->Prop):Prop:=∃ v,r.av=.dat v/\(aQ e i).isSome=true/\WE gd a e fun rk e2=>C4 m i v rk e2 N
def AM (m:Mtd) (r:RV) (avs:List AV) (e2:En) (Q:RV->En->Prop):Prop:=∃ d ds pr,r.view e2=some d/\aK e2 avs=some ds/\m.f d ds=some pr/\Q pr.rv e2
def Gj (gd:List PyData) (m:Mtd) (as:XA) (r:RV) (e:En) (Q:RV->En->Prop):Prop:=∃ d0,r.view e=some d0/\m.ty d0=true/\WA gd as e fun avs e2=>AM m r avs e2 Q
def WMr (m:Mtr) (i:Nat) (avs:List AV) (e2:En) (Q:RV->En->Prop):Prop:=∃ d ds d' x,aQ e2 i=some d/\b4 e2 avs=some ds/\m.f d ds=some (d',x)/\Q (.dat x) (gz e2 i d')
def WTp (mk:List PyData->RV) (avs:List AV) (e:En) (Q:RV->En->Prop):Prop:=∃ ds,pJ avs=some ds/\ds.length<=sizeLine/\Q (mk ds) e
def Dh (is:List Nat) (r:RV) (e:En) (N:En->Prop):Prop:=∃ ds e2,r.av=.dat (.tuple ds)/\gW e is ds=some e2/\N e2
section
variable {gd:List PyData} {env e1:En} {E:Kn} {Q:RV->En->Prop} {QA:List AV->En->Prop} {QT:Bool->En->Prop} {QI:List PyData->Option Nat->En->Prop} {i:Nat} {d:PyData} {a b c:XE} {as:XA} {s t:XS} {p:Prm} {f:Fn} {x y:XT}
theorem cn {ms:List PM} {n:Nat} {ds:List PyData} {QF:PR->List PyData->Prop} (hl:ds.length=ms.length) (h:WS gd s (au ms ds n) ⟨zB ms QF,GP ms QF,fun _=>False,fun _=>False⟩):WF (bX gd ms n s) ds QF:=by
 obtain ⟨o,ho,q⟩:=h;unfold WF bX;simp only;rw [Me hl,ho];cases o with
 | nx e=>obtain ⟨outs,h1,h2⟩:=q;simp only [h1];exact ⟨_,_,rfl,h2⟩
 | rt r e=>obtain ⟨pr,outs,h1,h2,h3⟩:=q;simp only [h1,h2];exact ⟨_,_,rfl,h3⟩
 | bk e=>exact absurd q id
 | ct e=>exact absurd q id
theorem og (h:WS gd s env { E with nx:=fun e=>WS gd t e E }):WS gd (.seq s t) env E:=by
 obtain ⟨o,ho,q⟩:=h;unfold WS;simp only [dS,ho];cases o with
 | nx e=>exact q
 | rt r e=>exact ⟨_,rfl,q⟩
 | bk e=>exact ⟨_,rfl,q⟩
 | ct e=>exact ⟨_,rfl,q⟩
theorem cc (h:∀ N:En->Prop,N=(fun e=>WS gd t e E)->WS gd s env { E with nx:=N }):WS gd (.seq s t) env E:=og (h _ rfl)
theorem lN {e:En} {x y:AV} {i:Int} {xs:List PyData} (h1:aK e [x,y]=some [.list xs,.int i]) (h:atI xs i=some d) (q:Q (.dat d) e):WPr ixP [x,y] e Q:=⟨_,.dat d,h1,by show (atI xs i).map PR.dat=_;rw [h];rfl,q⟩
theorem fP {e:En} {x y:AV} {i:Int} {z:Str} {c:Nat} (h1:aK e [x,y]=some [.str z,.int i]) (h:atI z.cps.toList i=some c) (q:Q (.dat (.str ⟨#[c]⟩)) e):WPr ixP [x,y] e Q:=⟨_,.dat (.str ⟨#[c]⟩),h1,by show (atI z.cps.toList i).map _=_;rw [h];rfl,q⟩
theorem D4 (h:E.nx env):WS gd .skip env E:=⟨_,rfl,h⟩
theorem IJ (h:E.bk env):WS gd .brk env E:=⟨_,rfl,h⟩
theorem HD (h:E.ct env):WS gd .cnt env E:=⟨_,rfl,h⟩
theorem DC (h:E.rt (.dat .none) env):WS gd .GI env E:=⟨_,rfl,h⟩
theorem ES (h:WE gd a env fun r e=>Gd i r e E.nx):WS gd (.bc i a) env E:=by
 obtain ⟨r,e',h1,d,h2,h3,h4⟩:=h;unfold WS;simp only [dS,h1,h2];rw [Me h3];exact ⟨_,rfl,h4⟩
theorem E5 (h:WE gd a env fun r e=>wC i r e E.nx):WS gd (.rJ i a) env E:=by
 obtain ⟨r,e',h1,d,rfl,h3,h4⟩:=h;unfold WS;simp only [dS,h1];rw [Me h3];exact ⟨_,rfl,h4⟩
theorem DD {is:List Nat} (h:WE gd a env fun r e=>Dh is r e E.nx):WS gd (.C1 is a) env E:=by
 obtain ⟨r,e',h1,ds,e2,h2,h3,h4⟩:=h;unfold WS;simp only [dS,h1,h2,h3];exact ⟨_,rfl,h4⟩
theorem ER (h:WE gd a env fun _ e=>E.nx e):WS gd (.drop a) env E:=by
 obtain ⟨r,e',h1,h2⟩:=h;unfold WS;simp only [dS,h1];exact ⟨_,rfl,h2⟩
theorem IP (h:WE gd a env E.rt):WS gd (.ret a) env E:=by
 obtain ⟨r,e',h1,h2⟩:=h;unfold WS;simp only [dS,h1];exact ⟨_,rfl,h2⟩
theorem HH (h:WT gd x env fun b e=>if b=true then WS gd s e E else WS gd t e E):WS gd (.ifs x s t) env E:=by
 obtain ⟨b,e',h1,h2⟩:=h;unfold WS;simp only [dS,h1];cases b with
 | true=>exact h2
 | false=>exact h2
theorem K6 {it:XI} (h:WI gd it env fun ds lk e=>HB (mM i (dS gd s)) ds lk e E):WS gd (.fr i it s) env E:=by
 obtain ⟨ds,lk,e',h1,o,h2,h3⟩:=h;unfold WS;simp only [dS,h1,h2];exact ⟨_,rfl,h3⟩
theorem HU {is:List Nat} {it:XI} (h:WI gd it env fun ds lk e=>HB (j9 is (dS gd s)) ds lk e E):WS gd (.frT is it s) env E:=by
 obtain ⟨ds,lk,e',h1,o,h2,h3⟩:=h;unfold WS;simp only [dS,h1,h2];exact ⟨_,rfl,h3⟩
theorem Iu {m:zK} (h:WE gd b env fun r e=>Gy gd m i a r e E.nx):WS gd (.sto m i a b) env E:=by
 obtain ⟨r,e',h1,v,h2,h3,rk,e2,h4,dk,d,d',h5,h6,h7,h8⟩:=h;obtain ⟨d0,hd0⟩:=Option.isSome_iff_exists.mp h3;unfold WS;simp only [dS,h1,h2,hd0,h4,h5,h6,h7];exact ⟨_,rfl,h8⟩
theorem GK {n:Nat} (Inv:Nat->En->Prop) (m:Nat) (hm:m < n) (h0:Inv m env) (hs:∀ k e,k<=m->Inv k e->WT gd x e fun b e1=>if b=true then WS gd s e1 ⟨fun e2=>∃ j,j < k/\Inv j e2,E.rt,E.nx,fun e2=>∃ j,j < k/\Inv j e2⟩ else E.nx e1):WS gd (.wh n x s) env E:=by
 unfold WS;simp only [dS];induction n generalizing m env with
 | zero=>omega
 | succ n ih =>
  unfold whL;obtain ⟨b,e1,h1,h2⟩:=hs m env (Mg _) h0;rw [h1];cases b with
  | false=>exact ⟨_,rfl,h2⟩
  | true =>
   rw [Me rfl] at h2;obtain ⟨o,h3,h4⟩:=h2;simp only [h3];have step:∀ e2,(∃ j,j < m/\Inv j e2)->∃ o,whL (dT gd x) (dS gd s) n e2=some o/\E.at o:=fun e2 ⟨j,hj,hi⟩=>ih j (by omega) hi fun k e hk=>hs k e (by omega);cases o with
   | nx e=>exact step e h4
   | ct e=>exact step e h4
   | bk e=>exact ⟨_,rfl,h4⟩
   | rt r e=>exact ⟨_,rfl,h4⟩
theorem w_var (h:env[i]?=some (.dat d)) (q:Q (.dat d) env):WE gd (.var i) env Q:=⟨_,_,by simp only [dE,h],q⟩
theorem Dw (h:env[i]?=some (.own d)) (q:Q (.bor i) env):WE gd (.var i) env Q:=⟨_,_,by simp only [dE,h],q⟩
theorem DS (h:env[i]?=some (.ino d)) (q:Q (.bor i) env):WE gd (.var i) env Q:=⟨_,_,by simp only [dE,h],q⟩
theorem Fs (h:env[i]?=some (.ro d)) (q:Q (.bor i) env):WE gd (.var i) env Q:=⟨_,_,by simp only [dE,h],q⟩
theorem JH (h:env[i]?=some (.own d)) (q:Q (.dat d) (env.set i (.dat d))):WE gd (.mov i) env Q:=⟨_,_,by simp only [dE,h],q⟩
theorem Hi (h:env[i]?=some (.own d)) (q:Q (.frs d) (env.set i .un)):WE gd (.tke i) env Q:=⟨_,_,by simp only [dE,h],q⟩
theorem AO {c:Cst} (q:Q (.dat c.d) env):WE gd (.cst c) env Q:=⟨_,_,rfl,q⟩
theorem Jm {g:Nat} (h:gd[g]?=some d) (q:Q (.dat d) env):WE gd (.glb g) env Q:=⟨_,_,by simp only [dE,h],q⟩
theorem AJ (h:WA gd as env fun avs e=>WPr p avs e Q):WE gd (.prm p as) env Q:=by
 obtain ⟨avs,e',h1,ds,pr,h2,h3,h4⟩:=h;exact ⟨_,_,by simp only [dE,h1,h2,h3],h4⟩
theorem C3 (h:WA gd as env fun avs e=>nK f avs e Q):WE gd (.call f as) env Q:=by
 obtain ⟨avs,e',h1,rv,e2,h2,h3⟩:=h;exact ⟨_,_,by simp only [dE,h1];exact h2,h3⟩
theorem ab {avs:List AV} {ds:List PyData} {is:List Nat} (h1:kN e1 f.ms avs=some ds) (h2:c7 f.ms avs=is) (h:WF f ds fun pr outs=>ckA is (vh f.ms avs) outs.length=true/\Q pr.rv (dW e1 is outs)):nK f avs e1 Q:=by
 obtain ⟨pr,outs,h3,h4,h5⟩:=h;subst h2;unfold nK zo;simp only [h1,h3];rw [Me h4];exact ⟨_,_,rfl,h5⟩
theorem Jh {m:Mtd} {o:XE} (h:WE gd o env fun r e=>Gj gd m as r e Q):WE gd (.met m o as) env Q:=by
 obtain ⟨r,e',h1,d0,h2,h3,avs,e2,h4,d,ds,pr,h5,h6,h7,h8⟩:=h;exact ⟨_,_,by simp only [dE,h1,h2];rw [Me h3];simp only [h4,h5,h6,h7],h8⟩
theorem Io {m:Mtr} (h0:aQ env i=some d) (h1:m.ty d=true) (h:WA gd as env fun avs e2=>WMr m i avs e2 Q):WE gd (.mtr m i as) env Q:=by
 obtain ⟨avs,e2,h4,d,ds,d',x,h5,h6,h7,h8⟩:=h;exact ⟨_,_,by simp only [dE,h0];rw [Me h1];simp only [h4,h5,h6,h7],h8⟩
theorem DT (h:WA gd as env fun avs e=>WTp (fun ds=>.dat (.tuple ds)) avs e Q):WE gd (.tup as) env Q:=by
 obtain ⟨avs,e2,h4,ds,h5,h6,h7⟩:=h;exact ⟨_,_,by simp only [dE,h4,h5];rw [Me h6],h7⟩
theorem Fp (h:WA gd as env fun avs e=>WTp (fun ds=>.frs (.list ds)) avs e Q):WE gd (.lst as) env Q:=by
 obtain ⟨avs,e2,h4,ds,h5,h6,h7⟩:=h;exact ⟨_,_,by simp only [dE,h4,h5];rw [Me h6],h7⟩
theorem JX (h:WT gd x env fun k e=>if k=true then WE gd a e Q else WE gd b e Q):WE gd (.ifx x a b) env Q:=by
 obtain ⟨k,e',h1,h2⟩:=h;unfold WE;simp only [dE,h1];cases k with
 | true=>exact h2
 | false=>exact h2
theorem Ds (h:WE gd a env fun r e=>∃ k,r=.dat (.bool k)/\if k=true then WE gd b e Q else Q (.dat (.bool false)) e):WE gd (.mw a b) env Q:=by
 obtain ⟨r,e',h1,k,rfl,h2⟩:=h;unfold WE;cases k with
 | true=>simp only [dE,h1];exact h2
 | false=>simp only [dE,h1];exact ⟨_,_,rfl,h2⟩
theorem Hb (h:WE gd a env fun r e=>∃ k,r=.dat (.bool k)/\if k=true then Q (.dat (.bool true)) e else WE gd b e Q):WE gd (.orv a b) env Q:=by
 obtain ⟨r,e',h1,k,rfl,h2⟩:=h;unfold WE;cases k with
 | true=>simp only [dE,h1];exact ⟨_,_,rfl,h2⟩
 | false=>simp only [dE,h1];exact h2
theorem EU (h:WE gd a env fun r e=>∃ k,r=.dat (.bool k)/\Q (.dat (.bool (!k))) e):WE gd (.B0 a) env Q:=by
 obtain ⟨r,e',h1,k,rfl,h2⟩:=h;exact ⟨_,_,by simp only [dE,h1],h2⟩
theorem GX {p':Prm} (h:WE gd a env fun r e=>WE gd b e fun r2 e2=>∃ x y k,r.av=.dat x/\r2.av=.dat y/\p.f [x,y]=some (.dat (.bool k))/\if k=true then WE gd c e2 fun r3 e3=>∃ z pr,r3.av=.dat z/\p'.f [y,z]=some pr/\Q pr.rv e3 else Q (.dat (.bool false)) e2):WE gd (.chn p p' a b c) env Q:=by
 obtain ⟨r,e',h1,r2,e2,h2,x,y,k,h3,h4,h5,h6⟩:=h;unfold WE;cases k with
 | true =>
  rw [Me rfl] at h6;obtain ⟨r3,e3,h7,z,pr,h8,h9,h10⟩:=h6;simp only [dE,h1,h2,h3,h4,h5,h7,h8,h9];exact ⟨_,_,rfl,h10⟩
 | false =>
  rw [Mn (by decide)] at h6;simp only [dE,h1,h2,h3,h4,h5];exact ⟨_,_,rfl,h6⟩
theorem HV {g:Int->Int->Prm} (h:WE gd a env fun r e=>WE gd b e fun r2 e2=>∃ i,r2=.dat (.int i)/\WE gd c e2 fun r3 e3=>∃ j,r3=.dat (.int j)/\∃ d pr,r.view e3=some d/\(g i j).f [d]=some pr/\Q pr.rv e3):WE gd (.sl2 g a b c) env Q:=by
 obtain ⟨r,e',h1,r2,e2,h2,i,rfl,r3,e3,h3,j,rfl,d,pr,h4,h5,h6⟩:=h;exact ⟨_,_,by simp only [dE,h1,h2,h3,h4,h5],h6⟩
theorem gR (h:∃ x e1,dF gd as Str.empty env=some (x,e1)/\Q (.dat (.str x)) e1):WE gd (.fst as) env Q:=by
 obtain ⟨x,e1,h1,h2⟩:=h;exact ⟨_,_,by simp only [dE,h1],h2⟩
def CC (st:PyData->En->Option (Option PyData×En)) (js:List Nat) (ds:List PyData) (lk:Option Nat) (e1:En) (Q:RV->En->Prop):Prop :=
 ∃ ys ec,yn st ds (fQ e1 lk js)=some (ys,ec)/\Q (.frs (.list ys)) (aY e1 js ec)
theorem GY {js:List Nat} {it:XI} (hn:Bg js=true) (h:WI gd it env fun ds lk e1=>CC (fy (dT gd x) (dE gd a)) js ds lk e1 Q):WE gd (.cmp js it x a) env Q:=by
 obtain ⟨ds,lk,e1,h1,ys,ec,h2,h3⟩:=h;refine ⟨_,_,?_,h3⟩;simp only [dE,h1];rw [Me (jP hn),h2]
theorem FV {n:List Str} {js:List Nat} {it:XI} (hn:Bg js=true) (h:WI gd it env fun ds lk e1=>CC (gI n.length (dE gd a)) js ds lk e1 Q):WE gd (.CP n js it a) env Q:=by
 obtain ⟨ds,lk,e1,h1,ys,ec,h2,h3⟩:=h;refine ⟨_,_,?_,h3⟩;simp only [dE,h1];rw [Me (jP hn),h2]
def vO (st:PyData->En->Option (Option PyData×En)) (d:PyData) (ec:En) (Q:Option PyData->En->Prop):Prop:=∃ y e,st d ec=some (y,e)/\Q y e
theorem je {QS:Option PyData->En->Prop} {ec:En} (h:WT gd x (.dat d :: ec) fun k e2=>if k=true then WE gd a e2 fun r e3=>∃ y,r.av=.dat y/\QS (some y) e3.tail else QS none e2.tail):vO (fy (dT gd x) (dE gd a)) d ec QS:=by
 obtain ⟨k,e2,h1,h2⟩:=h;unfold vO fy;rw [h1];cases k with
 | true =>
  rw [Me rfl] at h2;obtain ⟨r,e3,h3,y,h4,h5⟩:=h2;simp only [h3,h4];exact ⟨_,_,rfl,h5⟩
 | false =>
  rw [Mn (by decide)] at h2;exact ⟨_,_,rfl,h2⟩
theorem AQ {QS:Option PyData->En->Prop} {ec:En} {n:Nat} {xs:List PyData} (hl:xs.length=n) (h:WE gd a (xs.map .dat++ec) fun r e3=>∃ y,r.av=.dat y/\QS (some y) (e3.drop n)):vO (gI n (dE gd a)) (.tuple xs) ec QS:=by
 obtain ⟨r,e3,h3,y,h4,h5⟩:=h;unfold vO gI;simp only;rw [Me hl];simp only [h3,h4];exact ⟨_,_,rfl,h5⟩
theorem dY {st:PyData->En->Option (Option PyData×En)} {js:List Nat} {ds:List PyData} {lk:Option Nat} (Inv:Nat->List PyData->En->Prop) (h0:Inv 0 [] (fQ e1 lk js))
  (hs:∀ i d ys ec,ds[i]?=some d->Inv i ys ec->vO st d ec fun y e=>Inv (i+1) (ys++y.toList) e)
  (hq:∀ ys ec,Inv ds.length ys ec->Q (.frs (.list ys)) (aY e1 js ec)):CC st js ds lk e1 Q:=by
 have key:∀ (rest:List PyData) (i:Nat) (ys:List PyData) (ec:En),ds.drop i=rest->i<=ds.length->Inv i ys ec->∃ zs ec',yn st rest ec=some (zs,ec')/\Inv ds.length (ys++zs) ec':=by
  intro rest;induction rest with
  | nil =>
   intro i ys ec hd hi hI;have:ds.length<=i:=List.drop_eq_nil_iff.mp hd;have:i=ds.length:=by omega
   subst this;exact ⟨[],ec,rfl,by rw [MS];exact hI⟩
  | cons d rest ih =>
   intro i ys ec hd hi hI;have hlt:i < ds.length:=by
    apply Classical.byContradiction;intro h;rw [List.drop_eq_nil_iff.mpr (by omega)] at hd;cases hd
   rw [Nj hlt] at hd;injection hd with hd1 hd2;obtain ⟨y,e,h1,h2⟩:=hs i d ys ec (by rw [L6 hlt,hd1]) hI;obtain ⟨zs,ec',h3,h4⟩:=ih (i+1) _ e hd2 hlt h2;refine ⟨y.toList++zs,ec',?_,by rw [<- MM];exact h4⟩;unfold yn;simp only [h1,h3]
 obtain ⟨zs,ec,h1,h2⟩:=key ds 0 [] _ rfl (MV _) h0;exact ⟨zs,ec,h1,hq zs ec h2⟩
def WB (b:PyData->En->Option Out) (d:PyData) (e:En) (E:Kn):Prop:=∃ o,b d e=some o/\E.at o
theorem y4 {e:En} (hf:free e i=true) (h:WS gd s (e.set i (.dat d)) E):WB (mM i (dS gd s)) d e E:=by
 obtain ⟨o,h1,h2⟩:=h;exact ⟨o,by unfold mM;rw [Me hf];exact h1,h2⟩
theorem Dd {e e2:En} {is:List Nat} {xs:List PyData} (hf:gW e is xs=some e2) (h:WS gd s e2 E):WB (j9 is (dS gd s)) (.tuple xs) e E:=by
 obtain ⟨o,h1,h2⟩:=h;exact ⟨o,by unfold j9;simp only [hf];exact h1,h2⟩
theorem iQ {b:PyData->En->Option Out} {ds:List PyData} {lk:Option Nat} (Inv:Nat->En->Prop) (h0:Inv 0 (cm e1 lk))
  (hs:∀ i d e,ds[i]?=some d->Inv i e->WB b d e ⟨Inv (i+1),fun r e=>E.rt (r.soft (lkd e1 lk)) (aF e1 lk e),fun e=>E.nx (aF e1 lk e),Inv (i+1)⟩)
  (hq:∀ e,Inv ds.length e->E.nx (aF e1 lk e)):HB b ds lk e1 E:=by
 have key:∀ (rest:List PyData) (i:Nat) (e:En),ds.drop i=rest->i<=ds.length->Inv i e->∃ o,forL b rest e=some o/\E.at (o.map (lkd e1 lk) (aF e1 lk)):=by
  intro rest;induction rest with
  | nil =>
   intro i e hd hi hI;have:ds.length<=i:=List.drop_eq_nil_iff.mp hd;have:i=ds.length:=by omega
   subst this;exact ⟨_,rfl,hq e hI⟩
  | cons d rest ih =>
   intro i e hd hi hI;have hlt:i < ds.length:=by
    apply Classical.byContradiction;intro h;rw [List.drop_eq_nil_iff.mpr (by omega)] at hd;cases hd
   rw [Nj hlt] at hd;injection hd with hd1 hd2;obtain ⟨o,h1,h2⟩:=hs i d e (by rw [L6 hlt,hd1]) hI;unfold forL;simp only [h1];cases o with
   | nx e'=>exact ih (i+1) e' hd2 hlt h2
   | ct e'=>exact ih (i+1) e' hd2 hlt h2
   | bk e'=>exact ⟨_,rfl,h2⟩
   | rt r e'=>exact ⟨_,rfl,h2⟩
 exact key ds 0 _ rfl (MV _) h0
theorem Bu (q:QA [] env):WA gd .nil env QA:=⟨_,_,rfl,q⟩
theorem vN (h:WE gd a env fun r e=>WA gd as e fun avs e2=>QA (r.av :: avs) e2):WA gd (.cons a as) env QA:=by
 obtain ⟨r,e',h1,avs,e2,h2,h3⟩:=h;exact ⟨_,_,by simp only [dA,h1,h2],h3⟩
theorem Hm (h:WE gd a env fun r e=>∃ k,r=.dat (.bool k)/\QT k e):WT gd (.tst a) env QT:=by
 obtain ⟨r,e',h1,k,rfl,h2⟩:=h;exact ⟨_,_,by simp only [dT,h1],h2⟩
theorem HJ (h:WE gd a env fun r e=>∃ d,r.view e=some d/\EV d=false/\QT (JY d) e):WT gd (.tru a) env QT:=by
 obtain ⟨r,e',h1,d,h2,h4,h3⟩:=h;exact ⟨_,e',by simp only [dT,h1,h2,h4];rfl,h3⟩
theorem w_and (h:WT gd x env fun k e=>if k=true then WT gd y e QT else QT false e):WT gd (.and x y) env QT:=by
 obtain ⟨k,e',h1,h2⟩:=h;unfold WT;cases k with
 | true=>simp only [dT,h1];exact h2
 | false=>simp only [dT,h1];exact ⟨_,_,rfl,h2⟩
theorem w_or (h:WT gd x env fun k e=>if k=true then QT true e else WT gd y e QT):WT gd (.or x y) env QT:=by
 obtain ⟨k,e',h1,h2⟩:=h;unfold WT;cases k with
 | true=>simp only [dT,h1];exact ⟨_,_,rfl,h2⟩
 | false=>simp only [dT,h1];exact h2
theorem w_not (h:WT gd x env fun k e=>QT (!k) e):WT gd (.not x) env QT:=by
 obtain ⟨k,e',h1,h2⟩:=h;exact ⟨_,_,by simp only [dT,h1],h2⟩
theorem Jb (h:QT true env):WT gd .yes env QT:=⟨_,_,rfl,h⟩
def Dz (r:RV) (e:En) (QI:List PyData->Option Nat->En->Prop):Prop:=(∃ ds,r.av=.dat (.list ds)/\QI ds none e)\/∃ i ds,r.av=.bor i/\cont e i=some (.list ds)/\QI ds (some i) e
theorem LL (h:WE gd a env fun r e=>Dz r e QI):WI gd (.lst a) env QI:=by
 obtain ⟨r,e',h1,⟨ds,h2,h3⟩ | ⟨i,ds,h2,h3,h4⟩⟩:=h
 ·exact ⟨_,_,_,by simp only [dI,h1,h2],h3⟩
 ·exact ⟨_,_,_,by simp only [dI,h1,h2,h3],h4⟩
theorem pP {r:RV} {e:En} {ds:List PyData} (h:r.av=.dat (.list ds)) (q:QI ds none e):Dz r e QI:=.inl ⟨ds,h,q⟩
theorem K5 (h:WE gd a env fun r e=>∃ ds,r.av=.dat (.tuple ds)/\QI ds none e):WI gd (.tup a) env QI:=by
 obtain ⟨r,e',h1,ds,h2,h3⟩:=h;exact ⟨_,_,_,by simp only [dI,h1,h2],h3⟩
def WSq (r:RV) (e:En) (QI:List PyData->Option Nat->En->Prop):Prop:=Dz r e QI\/∃ ds,r.av=.dat (.tuple ds)/\QI ds none e
theorem Ll (h:WE gd a env fun r e=>WSq r e QI):WI gd (.sq a) env QI:=by
 obtain ⟨r,e',h1,(⟨ds,h2,h3⟩ | ⟨i,ds,h2,h3,h4⟩) | ⟨ds,h2,h3⟩⟩:=h
 ·exact ⟨_,_,_,by simp only [dI,h1,h2],h3⟩
 ·exact ⟨_,_,_,by simp only [dI,h1,h2,h3],h4⟩
 ·exact ⟨_,_,_,by simp only [dI,h1,h2],h3⟩
theorem LB (h:WE gd a env fun r e=>∃ z,r.av=.dat (.str z)/\QI (z.cps.toList.map fun c=>.str ⟨#[c]⟩) none e):WI gd (.str a) env QI:=by
 obtain ⟨r,e',h1,ds,h2,h3⟩:=h;exact ⟨_,_,_,by simp only [dI,h1,h2],h3⟩
theorem Lc (h:WA gd as env fun avs e=>∃ j:Int,avs=[.dat (.int j)]/\(-(2 ^ 62)<=j/\j<=2 ^ 24)/\QI ((List.range j.toNat).map fun (k:Nat)=>.int ((0:Int)+(k:Int))) none e):WI gd (.rng1 as) env QI:=by
 obtain ⟨r,e',h1,j,rfl,h2,h3⟩:=h;exact ⟨_,_,_,by simp only [dI,h1];rw [Me h2],h3⟩
end
open PySem PySem.Spec PyProof.Rows
noncomputable def HX (ww:World):Bool:=ww.params.followText "set-order"
structure LS (ww:World) (tb:SetTable) (n:Nat):Prop where
 fit:tb.fits n=true
 led:tb.led=!HX ww
 pln:n≠0->tb.plain=false
def Hu (pr:Program) (ww:World) (h:Heap) (a:Addr) (ss:List Str):Prop :=
 ∃ ob es ep tb,h.get? a=some ob/\ob.ExactSet/\ob.data=.set es ep tb/\ElemsOf (strKind pr ww) es.toList/\(∃ zs,StrsAre (es.toList.map (·.2)) zs/\zs.Perm ss)/\es.size < scanBound/\LS ww tb es.size
open PySem PySem.Spec PyProof.Rows
noncomputable def leT (x y:Str):Bool:=!ltCps y.cps.toList x.cps.toList
theorem mR (x y:Str):leT x y=true↔x.cps.toList<=y.cps.toList:=by
 unfold leT;rw [ltCps_eq,Bool.not_eq_true',decide_eq_false_iff_not];exact List.not_lt
theorem pX {x y z:Str} (h:leT x y=true) (h':leT y z=true):leT x z=true:=by
 rw [mR] at *;exact List.le_trans h h'
theorem wR (x y:Str):leT x y=true\/leT y x=true:=by
 rw [mR,mR];exact List.le_total _ _
theorem nj {x y:Str} (h:leT x y=true) (h':leT y x=true):x=y:=by
 rw [mR] at *;have:=List.le_antisymm h h';cases x;cases y;simp only [Str.mk.injEq];exact Array.toList_inj.mp this
noncomputable def Cv (x:Str):List Str->List Str
 | []=>[x]
 | y :: r=>if leT x y=true then x :: y :: r else y :: Cv x r
noncomputable def r9:List Str->List Str
 | []=>[]
 | x :: r=>Cv x (r9 r)
theorem km (x:Str):∀ l:List Str,(Cv x l).Perm (x :: l)
 | []=>List.Perm.refl _
 | y :: r=>by
  unfold Cv;split
  ·exact List.Perm.refl _
  ·exact ((km x r).cons y).trans (List.Perm.swap ..)
theorem cj:∀ l:List Str,(r9 l).Perm l
 | []=>List.Perm.refl _
 | x :: r=>(km x _).trans ((cj r).cons x)
theorem wV (x:Str):∀ l:List Str,l.Pairwise (fun a b=>leT a b=true)->(Cv x l).Pairwise fun a b=>leT a b=true
 | [],_=>by simp [Cv]
 | y :: r,h=>by
  obtain ⟨h1,h2⟩:=NH.mp h;unfold Cv;split
  ·rename_i c;refine NH.mpr ⟨fun b hb=>?_,h⟩;rcases Mc.mp hb with rfl | hb
   ·exact c
   ·exact pX c (h1 b hb)
  ·rename_i c;refine NH.mpr ⟨fun b hb=>?_,wV x r h2⟩;rcases Mc.mp ((km x r).mem_iff.mp hb) with rfl | hb
   ·exact (wR b y).resolve_left c
   ·exact h1 b hb
theorem iE:∀ l:List Str,(r9 l).Pairwise fun a b=>leT a b=true
 | []=>by simp [r9]
 | x :: r=>wV x _ (iE r)
theorem pV:∀ (p:Str) (l:List Str),risingS p l=true->(p :: l).Pairwise fun a b=>leT a b=true
 | p,[],_=>by simp
 | p,x :: r,h=>by
  have h:(!ltCps x.cps.toList p.cps.toList&&risingS x r)=true:=h;rw [Ms] at h;have ih:=pV x r h.2;refine NH.mpr ⟨fun b hb=>?_,ih⟩;rcases Mc.mp hb with rfl | hb
  ·exact h.1
  ·exact pX h.1 ((NH.mp ih).1 b hb)
theorem vF:∀ {l:List Str},sortedS l=true->l.Pairwise fun a b=>leT a b=true
 | [],_=>by simp
 | x :: r,h=>pV x r h
theorem xq {l l':List Str} (h:sortedS l=true) (p:l.Perm l'):l=r9 l' :=
 List.Perm.eq_of_pairwise (fun _ _ _ _ a b=>nj a b) (vF h) (iE l') (p.trans (cj l').symm)
open PySem PySem.Spec PyProof.Rows
theorem wG:∀ {ds:List PyData} {ss:List Str},strsOf ds=some ss->ds=ss.map .str
 | [],ss,h=>by cases h;rfl
 | d :: ds,ss,h=>by
  unfold strsOf at h;split at h
  ·cases h;rename_i e;cases e
  ·rename_i x r e;cases e;split at h
   ·rename_i xs hx;cases h;rw [wG hx];rfl
   ·cases h
  ·cases h
theorem vG {K:Fg} {F:Addr->Prop} {H:Hp}:∀ {ss:List Str},(∀ s∈ss,s.length<=sizeLine/\PyData.strOk s=true)->DmL K F H (ss.map .str) (ss.map V.str)
 | [],_=>rfl
 | s :: ss,h=>⟨_,_,rfl,⟨rfl,h s Mj⟩,vG fun x hx=>h x (L8 _ hx)⟩
theorem Ak {K:Fg} {F:Addr->Prop} {H:Hp}:∀ {ss:List Str} {us:List V},DmL K F H (ss.map .str) us->∀ s∈ss,s.length<=sizeLine/\PyData.strOk s=true
 | [],_,_,s,hs=>by cases hs
 | s :: ss,us,h,x,hx=>by
  obtain ⟨v,r,rfl,h1,h2⟩:=h;rcases Mc.mp hx with rfl | hx
  ·exact h1.2
  ·exact Ak h2 x hx
noncomputable def yV:PyData->Option PR
 | .list ds=>match strsOf ds with | some ss=>if ss.length < 64 then some (.frs (.list ((r9 ss).map .str))) else none | none=>none
 | _=>none
noncomputable def mP:Prm:=Prm.one (fun K x=>AH K [x]) yV fun K F H x u pr Q hf hx hd q=>by
 unfold yV at hf;split at hf
 ·rename_i ds;split at hf
  ·rename_i ss hss;split at hf
   ·rename_i h64;cases hf;obtain ⟨a,us,rfl,s1,z1,d1⟩:=qH hx;obtain ⟨e,os⟩:=s8 hss d1;rw [e] at s1;rw [wG hss] at d1;refine ⟨a,ss,rfl,s1,h64,fun p ss' hp pm so=>?_⟩;have es:ss'=r9 ss:=xq so pm;subst es;refine q _ _ (bq.nw _ hp) (CY hp (by rw [LZ,(cj ss).length_eq,Nh];omega) (vG fun s hs=>Ak d1 s ((cj ss).mem_iff.mp hs)))
   ·cases hf
  ·cases hf
 ·cases hf
theorem mN {X:Cx}:aW X (.builtin "sorted") (mP.r X.K):=jx pf fun _ _ _ h=>h
noncomputable def LA (X:Cx) (p:Addr) (ss:List Str):HO:=.ext fun h=>Hu X.prog X.w h p ss
open PySem PySem.Spec PyProof.Rows
section
variable {X:Cx} {pins:List (Addr×Obj)} {σ:St} {H:Hp} {s:Shared}
theorem Inv.ghost {h:Nat} {g:Str} (I:Inv X pins σ H s) (hN:X.N[h]?=some g) (hv:¬Vis X.env.scope g) (o:Option V):Inv X pins (σ.set h o) H s:=by
 obtain ⟨m,hm,hl⟩:=I.loc;refine ⟨I.ok,I.os,I.bare,I.base,⟨m,hm,fun i x v e1 e2 e3=>?_⟩,I.cell,I.free,I.jH,I.pin,I.hok,by rw [Mq];exact I.len⟩;by_cases z:i=h
 ·subst z;rw [hN] at e1;cases e1;exact absurd e3 hv
 ·rw [L0 (fun q=>z q.symm)] at e2;exact hl i x v e1 e2 e3
def clE (te:TE):TE:=fun σ H P=>∃ P0:VK,te σ H P0/\∀ x H1,P0 x H1->P x H1
def clA (ta:TA):TA:=fun σ H P=>∃ P0:List V->Hp->Prop,ta σ H P0/\∀ xs H1,P0 xs H1->P xs H1
theorem Lg {e:Expr} {te:TE} (ha:JE X e te):JE X e (clE te):=⟨fun pins s σ H P I ⟨P0,h0,h1⟩=>ME (ha.h pins s σ H P0 I h0) (fun v s' ⟨x,H',I',r,q⟩=>⟨x,H',I',r,h1 _ _ q⟩) fun _ _ z=>z⟩
theorem KR {es:List Expr} {ta:TA} (ha:JA X es ta):JA X es (clA ta):=⟨fun pos pins s σ H P I ⟨P0,h0,h1⟩=>ME (ha.h pos pins s σ H P0 I h0) (fun v s' ⟨x,H',I',r,q⟩=>⟨x,H',I',r,h1 _ _ q⟩) fun _ _ z=>z⟩
def ghA (h:Nat) (ta:TA):TA:=fun σ H P=>∃ v,ta (σ.set h (some v)) H P
theorem KW {es:List Expr} {ta:TA} {h:Nat} {g:Str} (hN:X.N[h]?=some g) (hv:¬Vis X.env.scope g) (ha:JA X es ta):JA X es (ghA h ta):=⟨fun pos pins s σ H P I ⟨v,h0⟩=>by
 refine ME (ha.h pos pins s (σ.set h (some v)) H P (I.ghost hN hv _) h0) (fun us s' ⟨x,H',I',r,q⟩=>⟨x,H',?_,r,q⟩) fun _ _ z=>z;have I2:=I'.ghost hN hv ((σ[h]?).getD none);rw [M4] at I2;have e:σ.set h ((σ[h]?).getD none)=σ:=by
  apply List.ext_getElem?;intro j;by_cases z:j=h
  ·subst z;cases q:σ[j]? with
   | none =>
    rw [List.getElem?_eq_none_iff] at q ⊢;rw [Mq];exact q
   | some o =>
    have:j < σ.length:=by
     rcases Nat.lt_or_ge j σ.length with z | z
     ·exact z
     ·rw [Nw z] at q;cases q
    rw [Ma this];rfl
  ·rw [L0 (fun q=>z q.symm)]
 rw [e] at I2
 exact I2⟩
theorem H0 {sc:Scope} {g:Str} (h:sc.names.lookup g=none):¬Vis sc g:=fun z=>by rcases z with z | z | z <;> (rw [h] at z;cases z)
theorem xi {f:Fn} {K:Fg} {vs:List V} {H:Hp} {Q Q':VK} {E:XK} (h:bu f K vs H Q E) (m:∀ v H',Q v H'->Q' v H'):bu f K vs H Q' E:=by
 obtain ⟨G,ds,is,pr,outs,a,b,c,d⟩:=h;exact ⟨G,ds,is,pr,outs,a,b,c,fun v' H' x y=>m _ _ (d v' H' x y)⟩
theorem EL {st:Stmt} {ce a1 a2 L:Expr} {post:List Expr} {tL:TE} {tp:TA} {i i1 i2 h:Nat} {g:Str} {f:Fn} {K:Fg}
  (hset:∀ te,JE X ce te->JS X st (om te (cy i))) (hcall:∀ t,JA X (a1 :: a2 :: L :: post) t->JE X ce (gx (bu f K) [] E0 t))
  (hN:X.N[h]?=some g) (hv:¬Vis X.env.scope g) (n1:i1≠h) (n2:i2≠h) (n3:i≠h)
  (s1:PySem.W.isStarred a1=false) (s2:PySem.W.isStarred a2=false) (s3:PySem.W.isStarred L=false)
  (h1:JE X a1 (bE i1)) (h2:JE X a2 (bE i2)) (hL:JE X L tL) (hp:JA X post tp) :
  JS X st (mh (ud (bE i1)) (mh (ud (bE i2)) (mh (om tL (cy h)) (om (gx (bu f K) [] E0 (ay (bE i1) (ay (bE i2) (ay (bE h) tp)))) (cy i))))):=by
 refine ⟨fun pins s σ H D I hT=>?_⟩;obtain ⟨v1,e1,v2,e2,hT⟩:=hT;have big:=hset _ (hcall _ (eA h1 (eA h2 (eA (Lg hL) (KW hN hv (KR hp)) s3) s2) s1));refine ME (big.h pins s σ H { D with nx:=fun σ1 H1=>∃ v r,σ1=σ.set i (some r)/\D.nx ((σ.set h (some v)).set i (some r)) H1 } I ?_) (fun fl s' q=>?_) fun _ _ z=>z
 ·refine ⟨v1,e1,v2,e2,_,hT,fun v H1 hK=>?_⟩;obtain ⟨w1,q1,w2,q2,w3,q3,hK⟩:=hK;rw [L0 (fun z=>n1 z.symm),e1] at q1;rw [L0 (fun z=>n2 z.symm),e2] at q2;have lt:h < σ.length:=by
   rcases Nat.lt_or_ge h σ.length with z | z
   ·exact z
   ·rw [Nw (by rw [Mq];exact z)] at q3;cases q3
  rw [Ma lt] at q3;cases q1;cases q2;cases q3;exact ⟨v,_,hK,fun ws H2 z=>xi z fun r H3 y=>⟨v,r,rfl,y⟩⟩
 ·cases fl with
  | next =>
   obtain ⟨σ',H',I',v,r,rfl,q⟩:=q;have I2:=I'.ghost hN hv (some v);rw [List.set_comm _ _ n3] at I2;exact ⟨_,H',I2,q⟩
  | brk=>exact q
  | cont=>exact q
  | ret u=>exact q
end
open PySem PySem.Spec PyProof.Rows
noncomputable def xc:PyData->List PyData->Option PR
 | .str z,[.str y]=>some (.dat (.bool (decide (y.length<=z.length)&&Builtin.Str.subAt z y 0)))
 | _,_=>none
noncomputable def xF:Mtd where
 T := "str"
 r:=fun _=>yh
 ty:=isS
 f:=xc
 zj:=fun K F H d v h t=>ty_str h t
 ok:=fun K F H d v ds vs pr Q hf hx hv hd q=>by
  unfold xc at hf;split at hf
  ·cases hf;obtain ⟨rfl,_⟩:=vStr hx;obtain ⟨w,r,rfl,hw,rfl⟩:=hv;obtain ⟨rfl,_⟩:=vStr hw;exact ⟨_,_,rfl,rfl,q _ H (bq.rf H) rfl⟩
  ·cases hf
open PySem PySem.Spec PyProof.Rows
noncomputable def kgV (l:List (Str×Cst)) (z:Str):V:=((l.find? fun p=>decide (p.1=z)).map (·.2.v)).getD .non
noncomputable def kgD (l:List (Str×Cst)) (z:Str):PyData:=((l.find? fun p=>decide (p.1=z)).map (·.2.d)).getD .none
theorem Hr (l:List (Str×Cst)) (z:Str) (K:Fg) (F:Addr->Prop) (H:Hp):Dm K F H (kgD l z) (kgV l z):=by
 unfold kgD kgV;cases l.find? fun p=>decide (p.1=z) with
 | none=>rfl
 | some p=>exact p.2.ok K F H
def KG (w:World) (K:Fg) (a:Addr) (l:List (Str×Cst)):Prop:=∃ es n,K.lookup a=some ⟨.type "dict", none,.dict es n,#[]⟩/\PySem.W.KeysLit w.params es.toList/\(a==sysModules)=false/\∀ z,RelV (kgV l z) ((findBy Value.isStrOf es z).getD .none)
noncomputable def CU (e:DictEntry):Option Str:=match e.key with | .str x _=>some x | _=>none
theorem Jf {es:Array DictEntry} {l:List (Str×Cst)} (hk:es.toList.map CU=l.map fun p=>some p.1) (h:∀ p∈l,∃ u,findBy Value.isStrOf es p.1=some u/\RelV p.2.v u):∀ z,RelV (kgV l z) ((findBy Value.isStrOf es z).getD .none):=by
 intro z;unfold kgV;cases hf:l.find? (fun p=>decide (p.1=z)) with
 | none =>
  have:findBy Value.isStrOf es z=none:=by
   unfold findBy;rw [Option.map_eq_none_iff,Array.find?_eq_none];intro e he hz;obtain ⟨t,ek⟩:=Value.isStrOf_shape hz;have hm:CU e∈es.toList.map CU:=List.mem_map_of_mem (Array.mem_def.mp he);rw [hk] at hm;obtain ⟨p,hp,e2⟩:=MK.mp hm;have:CU e=some z:=by unfold CU;rw [ek]
   rw [this] at e2;injection e2 with e2;have:=List.find?_eq_none.mp hf p hp;simp [e2] at this
  rw [this];rfl
 | some p =>
  have hp:=List.mem_of_find?_eq_some hf;have hz:p.1=z:=by simpa using List.find?_some hf
  obtain ⟨u,h1,h2⟩:=h p hp;rw [<- hz,h1];exact h2
def Ek (l:List (Str×Cst)):V->Hp->VK->Prop:=fun y H Q=>∃ z,y=.str z/\Q (kgV l z) H
noncomputable def FH (l:List (Str×Cst)):PyData->Option PR
 | .str z=>some (.dat (kgD l z))
 | _=>none
noncomputable def Fu (l:List (Str×Cst)):Prm:=Prm.one (fun _=>Ek l) (FH l) fun K F H x u pr Q hf hx hd q=>by
 unfold FH at hf;split at hf
 ·cases hf;obtain ⟨rfl,_⟩:=vStr hx;exact ⟨_,rfl,q _ H (bq.rf H) (Hr l _ K F H)⟩
 ·cases hf
section
variable {X:Cx} {o e:Expr} {apos cpos:Pos} {te:TE} {a:Addr} {l:List (Str×Cst)}
theorem eKG (ho:JE X o (tC (.ref a))) (hk:KG X.w X.K a l) (he:JE X e te) (hbase:attributeBase o "get" X.env (eval o X.env)=eval o X.env)
  (hfew:((backTo cpos (starEach [e] X.env)).all (fun x=>!x.1)&&(backToKw cpos (keywordEach [] X.env)).all (fun x=>x.1.isSome)&&decide (([e]:List Expr).length+([]:List Keyword).length+(if ([]:List Keyword).isEmpty then 0 else 1) < 30))=true)
  (hline:(apos.endLine==cpos.line)=true) (h1:PySem.W.isStarred e=false):JE X (.Call (.Attribute o "get" apos) [e] [] cpos) (tCB ((Fu l).r X.K) (ay te cu)):=by
 have m:M1 X o "get" apos e cpos:=⟨hbase,hfew,hline,by rw [a9 h1];rfl⟩;refine ⟨?_⟩;intro pins s σ H Q I h;obtain ⟨es,n,hl,hks,hsm,hf⟩:=hk;refine wpAny_Call_method m.base m.few m.line PySem.F.plainAttrs_dict PySem.F.slot_dict_get PySem.F.type_dict_get (thn (ho.h pins s σ H (fun x H1=>x=.ref a/\H1=H) I ⟨rfl,rfl⟩) fun u s1 ⟨x,H1,I1,rx,ex,eH⟩=>?_);subst ex eH;obtain rfl:u=Value.ref a:=rx;have hm:s1.heap.MapOf (PySem.strKind X.prog X.w) a (fun k=>findBy Value.isStrOf es k):=PySem.W.mapOf_K I1.kIn hl hks;refine ⟨hm.typeIs,hm.noDict,?_⟩;rw [m.trees];have h:te σ H1 fun y H2=>Ek l y H2 Q:=h;refine Calls.callWith_builtin rfl (Calls.evalArgs_plain (Calls.spliced_cons (thn (he.h pins s1 σ H1 _ I1 h) fun iv s2 ⟨y,H2,I2,ry,z,ey,q2⟩=>Calls.spliced_nil ?_)));subst ey;obtain ⟨t,rfl⟩:=ry;have hm2:s2.heap.MapOf (PySem.strKind X.prog X.w) a (fun k=>findBy Value.isStrOf es k):=PySem.W.mapOf_K I2.kIn hl hks;refine call_meetsIn PySem.F.slot_dict_get hm2.typeIs PySem.F.entry_dict_get (PySem.F.args_dict_get_2 _ _) (meets_dict_get (PySem.strKind X.prog X.w) a (strKind_is X.prog X.w z t) hsm) ⟨_,hm2,?_⟩;exact ⟨_,H2,I2.tok _,hf z,q2⟩
end
open PySem PySem.Spec PyProof.Rows
theorem Lb {X:Cx} {e:Expr} {te:TE} {T:String} {p p2 pos:Pos} (hg:Gl X "isinstance") (hm:X.mg "isinstance" = none) (ha:JE X e te) (hs:PySem.W.isStarred e=false) (hb:JE X (.Name (Str.ofString T) p2) (tC (.ty T))):JE X (.Call (.Name "isinstance" p) [e,.Name (Str.ofString T) p2] [] pos) (tCB ((oo T).r X.K) (ay te cu)) :=
 ⟨(eB Bd hg hm (by decide +kernel) (eA ha (eA hb ae rfl) hs) hs rfl (by decide) rfl).h⟩
open PySem PySem.Spec PyProof.Rows
noncomputable def sY {α:Type} (xs:List α) (i:Nat) (y:α):List α:=xs.take i++y :: xs.drop i
def vM:V->List V->Hp->VK->Prop:=fun x vs H Q=>∃ (l:Addr) (xs:List V) (i:Nat) (y:V),x=.ref l/\vs=[.int i,y]/\H l=some (.lst xs)/\xs.length < sizeLine/\i<=xs.length/\Q .non (upd H l (.lst (sY xs i y)))
theorem vR {α:Type} {xs:List α} {i:Nat} {y:α} (h:i<=xs.length):(sY xs i y).length=xs.length+1:=by
 simp [sY];omega
theorem wX {X:Cx}:MtM X "list.insert" vM:=by
 intro pins s σ H x vs v us Q I rx rv h;obtain ⟨l,xs,i,y,rfl,rfl,hH,hz,hi,q⟩:=h;cases rx;cases rv with
 | cons r1 r2 =>
  cases r2 with
  | cons r2 r3 =>
   cases r3;obtain ⟨t,rfl⟩:=r1;rename_i u;obtain ⟨z,its,n,r,hl,e⟩:=I.HP hH;have hlen:=r.length;have hs:sizeLine=16777216:=Nh;have hc:¬(!Builtin.List.listFitsIndex (i:Int))=true:=by
    have:(i:Int) < 2 ^ 63:=by omega
    simp only [Builtin.List.listFitsIndex];simp;omega
   have hk:(if (i:Int) < 0 then ((i:Int)+(its.toArray.size:Int)).toNat else min ((i:Int)).toNat its.toArray.size)=i:=by
    rw [Mn (by omega),NK,Mh];omega
   have hz2:its.toArray.size<=sizeLine:=by rw [Mh];omega
   generalize (i:Int)=j at hc hk ⊢;refine NG F.slot_list_insert ⟨_,e,rfl⟩ F.entry_list_insert (F.args_list_insert_3 _ _ _) (PySem.AutoSeq1.list_insert_list_int_val_1 l its.toArray n j t u hc hz2) ⟨e,?_⟩;refine ⟨.non,_,I.Jl (its':=sY its i u) (ys:=sY xs i y) hH e ?_ ((r.take i).append (.cons r2 (r.drop i))) (by rw [vR hi];omega),rfl,q⟩;dsimp only;rw [hk];simp [sY];exact Nu (by simp)
noncomputable def KO:Mtr where
 T := "list"
 r:=fun _=>vM
 ty:=isL
 f:=fun d as=>match d,as with
  | .list xs,[(_,.int i),(true,x)]=>if xs.length < sizeLine/\0<=i/\i<=xs.length then some (.list (sY xs i.toNat x),.none) else none
  | _,_=>none
 zj:=fun K F H d a h t=>xY h t
 ok:=fun K F H d a as vs d' x Q hf ha ht _hd hv q=>by
  split at hf
  ·rename_i ds bb i y;split at hf
   ·rename_i hl;cases hf;obtain ⟨xs,ea,z,rx⟩:=ht;have hv2:∃ v,vs=[.int i,v]/\Dm K F H y v:=by
     cases bb with
     | true=>obtain ⟨v1,r1,rfl,h1,v2,r2,rfl,h2,rfl⟩:=hv;exact ⟨v2,by rw [show v1=.int i from h1],h2⟩
     | false=>obtain ⟨v1,r1,rfl,h1,v2,r2,rfl,h2,rfl⟩:=hv;exact ⟨v2,by rw [show v1=.int i from h1],h2⟩
    obtain ⟨v,rfl,hd⟩:=hv2;have hi:i.toNat<=xs.length:=by rw [rx.len];omega
    have e1:((i.toNat:Nat):Int)=i:=Int.toNat_of_nonneg hl.2.1;refine ⟨a,xs,i.toNat,v,rfl,by rw [e1],ea,by rw [rx.len];exact hl.1,hi,q _ _ (fun b o n e=>by rw [ao n];exact e) ⟨_,aE,by rw [vR hi,rx.len];omega,DmL.pr (qg ha ea rfl) (fun _ z=>z) ?_⟩ rfl⟩;have tk:∀ {ds:List PyData} {xs:List V} (n:Nat),DmL K F H ds xs->DmL K F H (ds.take n) (xs.take n)/\DmL K F H (ds.drop n) (xs.drop n):=by
     intro ds;induction ds with
     | nil=>intro xs n h;rw [show xs=[] from h];simp [DmL]
     | cons d ds ih =>
      intro xs n h;obtain ⟨v,r,rfl,h1,h2⟩:=h;cases n with
      | zero=>exact ⟨rfl,v,r,rfl,h1,h2⟩
      | succ n=>exact ⟨⟨v,_,rfl,h1,(ih n h2).1⟩,(ih n h2).2⟩
    exact (tk _ rx).1.app ⟨v,_,rfl,hd,(tk _ rx).2⟩
   ·cases hf
  ·cases hf
noncomputable def oq (x:Str) (n:Nat):Str:=⟨(List.replicate n x.cps.toList).flatten.toArray⟩
theorem sv (x:Str) (n:Nat):(oq x n).length=n*x.length:=by
 show ((List.replicate n x.cps.toList).flatten.toArray).size=n*x.cps.size;simp
theorem oB:∀ (l:List (Array Nat)) (a:Array Nat),(l.foldl (·++·) a).toList=a.toList++(l.map (·.toList)).flatten
 | [],a=>by simp
 | x :: l,a=>by rw [NR,oB l];simp
theorem A8 (x:Str) (n:Nat):Txt.mul x n=oq x n:=by
 have ext:∀ {a b:Str},a.cps.toList=b.cps.toList->a=b:=by
  intro a b h;cases a;cases b;congr 1;exact Array.toList_inj.mp h
 unfold Txt.mul;by_cases h1:(n:Int) < 1
 ·rw [Me h1];have:n=0:=by omega
  subst this;exact ext rfl
 ·rw [Mn h1];by_cases h2:((n:Int)==1||x.length==0)=true
  ·rw [Me h2];simp only [Nf,Ny] at h2;refine ext ?_;rcases h2 with h2 | h2
   ·have:n=1:=by omega
    subst this;simp [oq]
   ·have:x.cps.toList=[]:=by
     have:x.cps.toList.length=0:=by simpa [Str.length] using h2
     exact List.length_eq_zero_iff.mp this
    simp [oq,this]
  ·rw [Mn h2];refine ext ?_;show ((List.replicate (n:Int).toNat x.cps).foldl (·++·) #[]).toList=_;rw [oB];simp [oq]
def Ex:R2:=fun x y H Q=>∃ (z:Str) (n:Nat),x=.str z/\y=.int n/\n<=1000/\z.length<=1000/\Q (.str (oq z n)) H
theorem Cf {X:Cx}:OpR X (binaryOp .Mult) Ex:=by
 intro pins s σ H x y v u Q I rx ry h;obtain ⟨z,n,rfl,rfl,h1,h2,q⟩:=h;obtain ⟨t,rfl⟩:=rx;obtain ⟨t',rfl⟩:=ry;refine SB.mul ⟨by simp;omega,fun a b=>?_,fun a b=>?_⟩ fun t'' k=>⟨.str _,H,I.tok k,⟨t'',by rw [A8]⟩,q⟩
 ·have hn:(0:Int) < n:=by omega
  rw [Int.not_lt];refine Int.le_ediv_of_mul_le hn ?_;have:(z.length:Int)*n<=1000*1000:=Int.mul_le_mul (by omega) (by omega) (by omega) (by omega);omega
 ·have:z.length*(n:Int).toNat<=1000*1000:=Nat.mul_le_mul h2 (by omega);have hs:sizeLine=16777216:=Nh;simp only [Builtin.Str.tooLong];simp;rw [NK] at this;omega
theorem uP {x:Str} {n:Nat} (h:PyData.strOk x=true):PyData.strOk (oq x n)=true:=by
 unfold PyData.strOk at h ⊢;rw [Array.all_eq_true'] at h ⊢;intro c hc;have:c∈(List.replicate n x.cps.toList).flatten:=by simpa [oq] using hc
 obtain ⟨l,hl,hcl⟩:=List.mem_flatten.mp this;rw [(List.mem_replicate.mp hl).2] at hcl;exact h c (by simpa using hcl)
noncomputable def vv:Prm:=Prm.two (fun _=>Ex) (fun x y=>match x,y with | .str z,.int n=>if 0<=n/\n<=1000/\z.length<=1000 then some (.dat (.str (oq z n.toNat))) else none | _,_=>none) fun K F H x y u v pr Q hf hx hy hd q=>by
 split at hf
 ·rename_i z n;split at hf
  ·rename_i h;cases hf;obtain ⟨ex,hl,ho⟩:=vStr hx;have ey:=vInt hy;have e1:((n.toNat:Nat):Int)=n:=Int.toNat_of_nonneg h.1;refine ⟨z,n.toNat,ex,by rw [e1];exact ey,by omega,h.2.2,q _ H (bq.rf H) ⟨rfl,?_,uP ho⟩⟩;rw [sv];have:n.toNat*z.length<=1000*1000:=Nat.mul_le_mul (by omega) h.2.2;have hs:sizeLine=16777216:=Nh;omega
  ·cases hf
 ·cases hf
theorem ni {X:Cx}:OpR X (binaryOp .Mult) (fun x y=>vv.r X.K [x,y]):=Cf
open PySem
theorem m4 {e:En} {i:Nat} {s:Sl} (h:e[i]?=some s) (q:soft s):free e i=true:=by
 unfold free;rw [h];cases s with
 | ino d=>exact absurd rfl (q.1 d)
 | ro d=>exact absurd rfl (q.2 d)
 | _=>rfl
theorem rN:soft .un:=⟨fun _=>nofun,fun _=>nofun⟩
theorem gm {d:PyData}:soft (.dat d):=⟨fun _=>nofun,fun _=>nofun⟩
theorem Ie {d:PyData}:soft (.own d):=⟨fun _=>nofun,fun _=>nofun⟩
theorem jK {e:En} {i:Nat} {avs:List AV} {xs:List PyData} {d:PyData} {Q:RV->En->Prop} (h1:aQ e i=some (.list xs)) (h2:xs.length < sizeLine) (h3:b4 e avs=some [(true,d)]) (q:Q (.dat .none) (gz e i (.list (xs++[d])))):WMr vt i avs e Q :=
 ⟨_,_,.list (xs++[d]),.none,h1,h3,by show (if xs.length < sizeLine then _ else _)=_;rw [Me h2],q⟩
theorem gf:∀ (ss:List Str),strsOf (ss.map .str)=some ss
 | []=>rfl
 | s :: ss=>by simp only [List.map_cons,strsOf,gf ss]
theorem Av {r:RV} {avs:List AV} {e:En} {z:Str} {ss:List Str} {Q:RV->En->Prop} (h1:r.view e=some (.str z)) (h2:aK e avs=some [.list (ss.map .str)]) (h3:eg z ss=true) (q:Q (.dat (.str (Txt.join z ss))) e):AM joinM r avs e Q:=by
 refine ⟨_,_,.dat (.str (Txt.join z ss)),h1,h2,?_,q⟩;show (match strsOf (ss.map .str) with | some ss=>if eg z ss=true then some (PR.dat (.str (Txt.join z ss))) else none | none=>none)=_;rw [gf];simp only;rw [Me h3]
theorem eS {e:En} {x y:AV} {xs ys:List PyData} {Q:RV->En->Prop} (h1:aK e [x,y]=some [.list xs,.list ys]) (h2:xs.length+ys.length<=sizeLine) (q:Q (.frs (.list (xs++ys))) e):WPr bt [x,y] e Q :=
 ⟨_,.frs (.list (xs++ys)),h1,by show (if xs.length+ys.length<=sizeLine then _ else _)=_;rw [Me h2],q⟩
theorem cv {e:En} {x y:AV} {xs ys:Str} {Q:RV->En->Prop} (h1:aK e [x,y]=some [.str xs,.str ys]) (h2:xs.length+ys.length<=sizeLine) (q:Q (.dat (.str (xs++ys))) e):WPr bt [x,y] e Q :=
 ⟨_,.dat (.str (xs++ys)),h1,by show (if xs.length+ys.length<=sizeLine then _ else _)=_;rw [Me h2],q⟩
theorem Lz {e:En} {x y:AV} {d d':PyData} {Q:RV->En->Prop} (h1:aK e [x,y]=some [d,d']) (h2:oT d=true) (h3:oT d'=true) (q:Q (.dat (.bool (!PyData.eqv d d'))) e):WPr neP [x,y] e Q :=
 ⟨_,.dat (.bool (!PyData.eqv d d')),h1,by show (if oT d=true/\oT d'=true then _ else _)=_;rw [Me ⟨h2,h3⟩];rfl,q⟩
theorem iI {n i:Nat} {d:PyData} (h:((List.range n).map fun (k:Nat)=>PyData.int ((0:Int)+(k:Int)))[i]?=some d):d=.int i/\i < n:=by
 rw [Mm] at h;cases q:(List.range n)[i]? with
 | none=>rw [q] at h;cases h
 | some j =>
  rw [q] at h;obtain ⟨hi,e⟩:=L5.mp q;rw [Ng] at hi;have:j=i:=by rw [<- e];simp
  subst this;cases h;exact ⟨by simp,hi⟩
theorem k6 {n:Nat}:((List.range n).map fun (k:Nat)=>PyData.int ((0:Int)+(k:Int))).length=n:=by rw [LZ,Ng]
theorem atV {α:Type} {xs:List α} {r:Int} (h0:0<=r) (h1:r < xs.length):∃ v,v∈xs/\atI xs r=some v:=by
 have hj:r.toNat < xs.length:=by omega
 have ej:r=((r.toNat:Nat):Int):=by omega
 refine ⟨xs[r.toNat],List.getElem_mem hj,?_⟩;have:=fo (xs:=xs) (j:=r.toNat) (v:=xs[r.toNat]) (L6 hj);rw [<- ej] at this;exact this
theorem mL:∀ (ss:List Str),strsOf (ss.map .str)=some ss
 | []=>rfl
 | s :: ss=>by simp only [List.map_cons,strsOf,mL ss]
theorem sy {α:Type} {xs:List α} {k:Int} (h:0<=k):cutD xs none (some k)=xs.take k.toNat:=by
 unfold cutD;simp only [HT.sIx,List.drop_zero,Nat.sub_zero];rw [Mn (by omega)];by_cases z:k.toNat<=xs.length
 ·congr 1;omega
 ·rw [Nu (by omega),Nu (by omega)]
theorem aq (x:Str):x.cps.toList.length=x.length:=by simp [Str.length]
theorem Ai {k:Nat}:∀ {ss:List Str},(∀ s∈ss,s.length<=k)->(ss.map (·.length)).sum<=k*ss.length
 | [],_=>by simp
 | s :: ss,h=>by
  have h1:=h s Mj;have h2:=Ai fun x hx=>h x (L8 _ hx);simp only [List.map_cons,List.sum_cons,L3,Nat.mul_succ];omega
theorem mZ:∀ {ds:List PyData},gZ ds=true↔∀ d∈ds,noD d=true
 | []=>by simp [gZ]
 | d :: ds=>by simp [gZ,mZ (ds:=ds)]
theorem j3 {k:Nat}:∀ {ds:List PyData},(∀ d∈ds,d.depth<=k)->PyData.depthAll ds<=k
 | [],_=>by simp [PyData.depthAll]
 | d :: ds,h=>by
  have h1:=h d Mj;have h2:=j3 fun x hx=>h x (L8 _ hx);simp only [PyData.depthAll];omega
theorem uC {k:Nat} {ds:List PyData} (h:∀ d∈ds,d.depth<=k):(PyData.list ds).depth<=k+1:=by
 simp only [PyData.depth];have:=j3 h;omega
theorem B6 {d:PyData} (h1:noD d=true) (h2:d.depth<=64):oT d=true:=by simp [oT,h1,h2]
open PySem
section
variable {gd:List PyData} {env e1:En} {Q:RV->En->Prop} {a:XE} {as:XA}
def WFs (gd:List PyData) (as:XA) (out:Str) (env:En) (Q:Str->En->Prop):Prop:=∃ x e1,dF gd as out env=some (x,e1)/\Q x e1
theorem Lr (h:WFs gd as Str.empty env fun x e=>Q (.dat (.str x)) e):WE gd (.fst as) env Q:=gR h
theorem zU {out:Str} {R:Str->En->Prop} (h:WE gd a env fun r e=>∃ x,r=.dat (.str x)/\(out++x).length<=sizeLine/\WFs gd as (out++x) e R):WFs gd (.cons a as) out env R:=by
 obtain ⟨r,e1,h1,x,rfl,h2,y,e2,h3,h4⟩:=h;refine ⟨y,e2,?_,h4⟩;simp only [dF,h1];rw [Me h2,h3]
theorem JD {out:Str} {R:Str->En->Prop} (h:out.length<=sizeLine) (q:R out env):WFs gd .nil out env R:=⟨out,env,by simp only [dF];rw [Me h],q⟩
theorem jA {x:AV} {i:Int} (h1:aK e1 [x]=some [.int i]) (h2:i.natAbs < 10 ^ 400) (q:Q (.dat (.str (aj i))) e1):WPr uO [x] e1 Q :=
 ⟨_,.dat (.str (aj i)),h1,by show (if i.natAbs < 10 ^ 400 then _ else _)=_;rw [Me h2],q⟩
theorem AF {e:En} {x y:AV} {i j:Int} (h1:aK e [x,y]=some [.int i,.int j]) (h2:-(2 ^ 64) < j) (h3:j < 2 ^ 64) (q:Q (.dat (.int (i*j))) e):WPr uB [x,y] e Q :=
 ⟨_,.dat (.int (i*j)),h1,Me (by simp only [mulC,Nf,Ms,MQ];exact .inr ⟨h2,h3⟩),q⟩
end
open PySem PySem.Spec PyProof.Rows
theorem z5 {e:En} {x:AV} {ss:List Str} {Q:RV->En->Prop} (h1:aK e [x]=some [.list (ss.map .str)]) (h2:ss.length < 64) (q:Q (.frs (.list ((r9 ss).map .str))) e):WPr mP [x] e Q:=by
 refine ⟨_,.frs (.list ((r9 ss).map .str)),h1,?_,q⟩;show yV (.list (ss.map .str))=_;unfold yV;simp only [mL];rw [Me h2]
theorem mG:∀ bs:List Bool,kh (bs.map .bool)=some bs
 | []=>rfl
 | b :: bs=>by
  rw [List.map_cons];unfold kh;rw [mG bs]
theorem Ef {e:En} {i:Nat} {avs:List AV} {xs ys:List PyData} {b:Bool} {Q:RV->En->Prop} (h1:aQ e i=some (.list xs)) (h2:xs.length+ys.length<=sizeLine) (h3:b4 e avs=some [(b,.list ys)]) (q:Q (.dat .none) (gz e i (.list (xs++ys)))):WMr J3 i avs e Q :=
 ⟨_,_,.list (xs++ys),.none,h1,h3,by show (if xs.length+ys.length<=sizeLine then _ else _)=_;rw [Me h2],q⟩
open PySem PySem.Spec PyProof.Rows
def ym:List (Option Sl)->En->Prop
 | [],e=>e=[]
 | some s :: r,e=>∃ e',ym r e'/\e=s :: e'
 | none :: r,e=>∃ x e',soft x/\ym r e'/\e=x :: e'
def zm:List (Option Sl)->(En->Prop)->Prop
 | [],P=>P []
 | some s :: ts,P=>zm ts fun e=>P (s :: e)
 | none :: ts,P=>∀ s,soft s->zm ts fun e=>P (s :: e)
theorem ym.out:∀ {ts:List (Option Sl)} {e:En} {P:En->Prop},ym ts e->zm ts P->P e
 | [],_,_,h,q=>by cases (show _=_ from h);exact q
 | some s :: ts,e,P,h,q=>by obtain ⟨r,hr,rfl⟩:=h;exact hr.out (P:=fun e=>P (s :: e)) q
 | none :: ts,e,P,h,q=>by obtain ⟨s,r,hs,hr,rfl⟩:=h;exact hr.out (P:=fun e=>P (s :: e)) (q s hs)
section
variable {gd:List PyData} {e e':En} {E:Kn} {Q:RV->En->Prop} {QA:List AV->En->Prop} {QT:Bool->En->Prop} {QI:List PyData->Option Nat->En->Prop} {N:En->Prop} {i:Nat} {r:RV}
theorem F7 (h:e=e') (q:Gd i r e' N):Gd i r e N:=h▸q
theorem BH (h:e=e') (q:wC i r e' N):wC i r e N:=h▸q
theorem D6 {is:List Nat} (h:e=e') (q:Dh is r e' N):Dh is r e N:=h▸q
theorem LI {as:XA} (h:e=e') (q:WA gd as e' QA):WA gd as e QA:=h▸q
theorem LN {a:XE} (h:e=e') (q:WE gd a e' Q):WE gd a e Q:=h▸q
theorem Ly {s:XS} (h:e=e') (q:WS gd s e' E):WS gd s e E:=h▸q
theorem K8 {t:XT} (h:e=e') (q:WT gd t e' QT):WT gd t e QT:=h▸q
theorem Lj {t:XI} (h:e=e') (q:WI gd t e' QI):WI gd t e QI:=h▸q
theorem Hn {p:Prm} {avs:List AV} (h:e=e') (q:WPr p avs e' Q):WPr p avs e Q:=h▸q
theorem Ck {f:Fn} {avs:List AV} (h:e=e') (q:nK f avs e' Q):nK f avs e Q:=h▸q
theorem Im {mk:List PyData->RV} {avs:List AV} (h:e=e') (q:WTp mk avs e' Q):WTp mk avs e Q:=h▸q
theorem IH {m:Mtr} {avs:List AV} (h:e=e') (q:WMr m i avs e' Q):WMr m i avs e Q:=h▸q
theorem GR {m:Mtd} {avs:List AV} (h:e=e') (q:AM m r avs e' Q):AM m r avs e Q:=h▸q
theorem FQ {m:Mtd} {as:XA} (h:e=e') (q:Gj gd m as r e' Q):Gj gd m as r e Q:=h▸q
theorem Di {ms:List PM} {QF:PR->List PyData->Prop} (h:e=e') (q:GP ms QF r e'):GP ms QF r e:=h▸q
theorem A7 {ms:List PM} {QF:PR->List PyData->Prop} (h:e=e') (q:zB ms QF e'):zB ms QF e:=h▸q
theorem DI (h:e=e') (q:Dz r e' QI):Dz r e QI:=h▸q
theorem Ea {m:zK} {a:XE} (h:e=e') (q:Gy gd m i a r e' N):Gy gd m i a r e N:=h▸q
theorem DO {m:zK} {v:PyData} (h:e=e') (q:C4 m i v r e' N):C4 m i v r e N:=h▸q
end
theorem isEq {b:Bool} {avs:List AV} {e:En} {Q:RV->En->Prop} (h:WPr (GA b) avs e Q):WPr (GA b) avs e Q:=h
theorem ug {env e2:En} {i:Nat} {is:List Nat} {d:PyData} {ds:List PyData} (h:free env i=true) (q:gW (env.set i (.dat d)) is ds=some e2):gW env (i :: is) (d :: ds)=some e2:=by
 simp only [gW];rw [Me h];exact q
theorem at0 {x:PyData} {xs:List PyData}:atI (x :: xs) 0=some x:=by
 unfold atI ixN;rw [Me (Int.le_refl _),Me (by rw [L3];omega)];rfl
theorem wN {x:PyData} {xs:List PyData}:atI (xs++[x]) (-1)=some x:=by
 unfold atI ixN;rw [Mn (by decide),Me (by rw [LY];simp;omega)];have:((-1:Int)+(((xs++[x]).length:Nat):Int)).toNat=xs.length:=by rw [LY];simp;omega
 rw [this];simp
theorem Cy {x y:Str}:PyData.eqv (.str x) (.str y)=decide (x=y):=by
 simp only [PyData.eqv];rfl
def KC (p:Prm) (r r2:RV) (k:PyData->Bool->Prop):Prop:=∃ x y b,r.av=.dat x/\r2.av=.dat y/\p.f [x,y]=some (.dat (.bool b))/\k y b
def KH (p:Prm) (y:PyData) (r:RV) (e:En) (Q:RV->En->Prop):Prop:=∃ z pr,r.av=.dat z/\p.f [y,z]=some pr/\Q pr.rv e
theorem E1 {gd:List PyData} {env:En} {p p':Prm} {a b c:XE} {Q:RV->En->Prop} (h:WE gd a env fun r e=>WE gd b e fun r2 e2=>KC p r r2 fun y k=>if k=true then WE gd c e2 fun r3 e3=>KH p' y r3 e3 Q else Q (.dat (.bool false)) e2):WE gd (.chn p p' a b c) env Q:=by
 refine GX ?_;obtain ⟨r,e,h1,r2,e2,h2,x,y,k,h3,h4,h5,h6⟩:=h;exact ⟨r,e,h1,r2,e2,h2,x,y,k,h3,h4,h5,h6⟩
theorem w_all {e:En} {x:AV} {bs:List Bool} {Q:RV->En->Prop} (h1:aK e [x]=some [.list (bs.map .bool)]) (q:Q (.dat (.bool (bs.all id))) e):WPr GD [x] e Q:=by
 refine ⟨_,.dat (.bool (bs.all id)),h1,?_,q⟩;show (kh (bs.map .bool)).map _=_;rw [mG];rfl
theorem Nq {α:Type} {xs:List α} {i:Nat} {x:α} (h:xs[i]?=some x):xs.take i++[x]=xs.take (i+1):=by
 rw [List.take_add_one,h];rfl
theorem zL {α:Type} {P:α->Prop} {xs:List α} {y:α} (h:∀ x∈xs,P x) (hy:P y):∀ x∈xs++[y],P x:=fun x hm=>by
 rcases Nn.mp hm with hm | hm
 ·exact h x hm
 ·rw [L9.mp hm];exact hy
open PySem PySem.Spec PyProof.Rows
theorem Hy {e:En} {i:Nat} {avs:List AV} {xs:List PyData} {d:PyData} {j:Int} {b:Bool} {Q:RV->En->Prop} (h1:aQ e i=some (.list xs)) (h2:xs.length < sizeLine) (h3:b4 e avs=some [(b,.int j),(true,d)]) (h4:0<=j) (h5:j<=xs.length) (q:Q (.dat .none) (gz e i (.list (sY xs j.toNat d)))):WMr KO i avs e Q :=
 ⟨_,_,_,_,h1,h3,by show (if xs.length < sizeLine/\0<=j/\j<=xs.length then some (PyData.list (sY xs j.toNat d),PyData.none) else none)=_;rw [Me ⟨h2,h4,h5⟩],q⟩
theorem xA {e:En} {x y:AV} {z:Str} {n:Int} {Q:RV->En->Prop} (h1:aK e [x,y]=some [.str z,.int n]) (h2:0<=n) (h3:n<=1000) (h4:z.length<=1000) (q:Q (.dat (.str (oq z n.toNat))) e):WPr vv [x,y] e Q :=
 ⟨_,.dat _,h1,by show (if 0<=n/\n<=1000/\z.length<=1000 then some (PR.dat (.str (oq z n.toNat))) else none)=_;rw [Me ⟨h2,h3,h4⟩],q⟩
open PySem PySem.Spec PyProof.Rows
def Ho:V->Hp->VK->Prop:=fun x H Q=>B3 [x] H Q\/∃ y n,x=.str y/\y.length<=640/\PySem.intText? y=some n/\Q (.int n) H
noncomputable def zc:PyData->Option PR
 | .int i=>some (.dat (.int i)) | .bool k=>some (.dat (.int (if k then 1 else 0)))
 | .str x=>if x.length<=640 then (PySem.intText? x).map fun n=>.dat (.int n) else none
 | _=>none
noncomputable def mS:Prm:=Prm.one (fun _=>Ho) zc fun K F H x u pr Q hf hx hd q=>by
 unfold zc at hf;split at hf
 ·rename_i i;exact .inl (HL.ok K F H [.int i] [u] pr Q hf ⟨u,_,rfl,hx,rfl⟩ hd q)
 ·rename_i k;exact .inl (HL.ok K F H [.bool k] [u] pr Q hf ⟨u,_,rfl,hx,rfl⟩ hd q)
 ·split at hf
  ·rename_i y hl;cases e:PySem.intText? y with
   | none=>rw [e] at hf;cases hf
   | some n =>
    rw [e] at hf;cases hf;exact .inr ⟨y,n,(vStr hx).1,hl,e,q _ H (bq.rf H) rfl⟩
  ·cases hf
 ·cases hf
theorem nE {X:Cx}:aW X (.type "int") (mS.r X.K):=by
 intro pins s σ H xs us Q I r h
 match xs,h with
 | [x],h =>
  rcases h with h | ⟨y,n,rfl,hl,hn,q⟩
  ·exact A1 pins s σ H [x] us Q I r h
  ·cases r with
   | cons r1 rr =>
    cases rr;obtain ⟨t,rfl⟩:=r1;exact PySem.W.KIN.call_text hn hl ⟨.int n,H,I.tok _,⟨_,rfl⟩,q⟩
section
variable {X:Cx} {elts:List Expr} {c:Nat} {pt p pos:Pos} {ea eb:Expr}
theorem eIZ {t:TA} (hm:X.mg "zip" = none) (ha:JA X [ea,eb] t) (hg:Gl X "zip" := by exact rfl) (h1:PySem.W.isStarred ea=false:=by exact rfl) (h2:PySem.W.isStarred eb=false:=by exact rfl) :
  JI X (.Tuple elts c pt) (.Call (.Name "zip" p) [ea,eb] [] pos) (Jk X.K t):=⟨FY hg hm boot_zip ha.h (a9 h1) (by rw [a9 h2];rfl)⟩
end
open PySem PySem.Spec PyProof.Rows
section
variable {X:Cx} {x:Str} {p pos:Pos} {e:Expr} {es:List Expr} {t:TA} {f:Addr} {fd:FuncData} {ps:List Str} {sp:Sp} {k m:Nat} {r:List V->Hp->VK->Prop} {id T:String}
theorem eVx (i:Nat) (a:X.N[i]?=some x:=by exact rfl) (b:Vis X.env.scope x:=by exact .inl rfl) (c:(x==("__debug__" : Str))=false:=by exact rfl) (d:(x==("__classdict__" : Str))=false:=by exact rfl):JE X (.Name x pos) (bE i):=Kf i a b c d
theorem eVy (i:Nat) (a:X.N[i]?=some x:=by exact rfl) (b:Vis X.env.scope x:=by exact .inr (.inl rfl)) (c:(x==("__debug__" : Str))=false:=by exact rfl) (d:(x==("__classdict__" : Str))=false:=by exact rfl):JE X (.Name x pos) (bE i):=Kf i a b c d
theorem eCl (F:aO X.prog X.w X.K X.mg X.base CX0 k f fd ps sp) (hr:d7 m X.A) (hm:X.mg x=some (.ref f)) (hk:PySem.W.keepIn X.K (.ref f)=true) (hb:Binds X.K fd ps []) (ha:JA X (e :: es) t)
  (a:k<=m:=by omega) (b:Gl X x:=by exact rfl) (h1:PySem.W.isStarred e=false:=by exact rfl) (h2:es.all (fun e=>!PySem.W.isStarred e)=true:=by exact rfl) (c:(x==("__debug__" : Str))=false:=by exact rfl):JE X (.Call (.Name x p) (e :: es) [] pos) (gx sp [] E0 t) :=
 BK F (hr.mono a) b hm hk hb .nil uJ ha h1 h2 c
theorem eBs (hc:aW X (.builtin id) r) (hm:X.mg x=none) (ha:JA X (e :: es) t) (a:Gl X x:=by exact rfl) (hv:bootBuiltins x=some (.builtin id):=by decide +kernel) (h1:PySem.W.isStarred e=false:=by exact rfl) (h2:es.all (fun e=>!PySem.W.isStarred e)=true:=by exact rfl)
  (hn:x ≠ "__name__" := by decide) (c:(x==("__debug__" : Str))=false:=by exact rfl):JE X (.Call (.Name x p) (e :: es) [] pos) (tCB r t):=eB hc a hm hv ha h1 h2 hn c
theorem eTs (hc:aW X (.type T) r) (hm:X.mg x=none) (ha:JA X (e :: es) t) (a:Gl X x:=by exact rfl) (hv:bootBuiltins x=some (.type T):=by decide +kernel) (h1:PySem.W.isStarred e=false:=by exact rfl) (h2:es.all (fun e=>!PySem.W.isStarred e)=true:=by exact rfl)
  (hn:x ≠ "__name__" := by decide) (c:(x==("__debug__" : Str))=false:=by exact rfl):JE X (.Call (.Name x p) (e :: es) [] pos) (tCB r t):=eTy hc a hm hv ha h1 h2 hn c
end
theorem Fun.okX {P:Program} {w:World} {K:Fg} {mg:Str->Option Value} {base:Heap} {x qual:Str} {st:Stmt} {f:Addr} {fd:FuncData} {N ps:List Str} {k:Nat} {b:XS} {gd:List PyData} {ga:Nat->V} {ms:List PM} {rd:TS}
  (F:Fun K x qual st f fd) (S:af N ps (aa st)) (hg:∀ g d,gd[g]?=some d->∀ F H,Dm K F H d (ga g)) (e:rd=rS K ga b)
  (j:∀ {cdv:Value} {A:Around} {outer:List Env} {s:Shared} {H:Hp} {E:XK},d7 k (A.deeper (envOfC qual (aa st) s.heap.objs.size f cdv))->JSs (yj CX0 P w K mg base N qual (aa st) f cdv A outer s H E).nox (aZ st) rd)
  (hl:ms.length<=N.length:=by decide) (hp:ms.length=ps.length:=by exact rfl):aO P w K mg base CX0 (k+1) f fd ps (bu (bX gd ms N.length b) K) :=
 F.okJ S (fun vs H Q E h=>(su h).trans hp) fun cdv A outer s H vs Q E hr h=>⟨rd,j hr,by rw [e];exact xC (N:=N) hg h hl⟩
open PySem PySem.Spec PyProof.Rows
structure Fa (K:Fg) (mg:Str->Option Value) (x:Str) (st:Stmt) (ps:List Str) (a:Addr×FuncData):Prop where
 F:Fun K x x st a.1 a.2
 c:∀ us:List Value,us.length=ps.length->bindArgs a.2 ⟨us,[]⟩=pure (ps.zip us)
 m:mg x=some (.ref a.1)
section
variable {K:Fg} {mg:Str->Option Value} {x:Str} {st:Stmt} {ps:List Str} {a:Addr×FuncData} {h:Heap} {f:Addr} {od an:Option Addr} {sl:Array (Option Value)} {oc kV dc pm cd ct:Value}
theorem Fa.b (D:Fa K mg x st ps a):Binds K a.2 ps []:=.all D.c
def CQ (K:Fg) (mg:Str->Option Value):List (Str×Stmt×List Str)->Prop
 | []=>True
 | (x,st,ps) :: r=>(∃ a,Fa K mg x st ps a)/\CQ K mg r
theorem Hs {r:List (Str×Stmt×List Str)} (X:K.In h) (G:h.Ns mainGlobals mg) (a:PySem.W.nsIn K mainGlobals x=some (some (.ref f))) (l:K.lookup f=some ⟨oc,od,.func (PySem.W.fnOf x x (bT st) (aZ st) (aa st) .none kV dc pm an cd ct),sl⟩) (c:PySem.W.codeIn K cd x=true) (k:PySem.W.keepIn K (.ref f)=true)
  (hb:∀ (kV dc pm:Value) (an:Option Addr) (cd ct:Value) (us:List Value),us.length=ps.length->bindArgs (PySem.W.fnOf x x (bT st) (aZ st) (aa st) .none kV dc pm an cd ct) ⟨us,[]⟩=pure (ps.zip us)) (hr:CQ K mg r):CQ K mg ((x,st,ps) :: r) :=
 ⟨⟨(f,_),gP l c k,hb _ _ _ _ _ _,MR X G a⟩,hr⟩
theorem EC (a0:Addr×FuncData):∀ {l:List (Str×Stmt×List Str)},CQ K mg l->∃ f:Nat->Addr×FuncData,∀ i {x st ps},l[i]?=some (x,st,ps)->Fa K mg x st ps (f i)
 | [],_=>⟨fun _=>a0,fun i x st ps h=>by cases h⟩
 | (y,st,ps) :: r,⟨⟨a,ha⟩,hr⟩=>by
  obtain ⟨f,hf⟩:=EC a0 hr;refine ⟨fun i=>i.casesOn a f,fun i x st ps h=>?_⟩;cases i with
  | zero=>cases h;exact ha
  | succ i=>exact hf i h
theorem K9 {e:Str×Stmt×List Str} {l:List (Str×Stmt×List Str)} (D:CQ K mg (e :: l)):∃ f:Nat->Addr×FuncData,∀ i {x st ps},(e :: l)[i]?=some (x,st,ps)->Fa K mg x st ps (f i):=by
 obtain ⟨y,st,ps⟩:=e;have ⟨⟨a,_⟩,_⟩:=D;exact EC a D
end
theorem us1 {P:List Value->Prop} (h:∀ a,P [a]):∀ us:List Value,us.length=1->P us
 | [a],_=>h a
theorem us2 {P:List Value->Prop} (h:∀ a b,P [a,b]):∀ us:List Value,us.length=2->P us
 | [a,b],_=>h a b
theorem us3 {P:List Value->Prop} (h:∀ a b c,P [a,b,c]):∀ us:List Value,us.length=3->P us
 | [a,b,c],_=>h a b c
theorem us4 {P:List Value->Prop} (h:∀ a b c d,P [a,b,c,d]):∀ us:List Value,us.length=4->P us
 | [a,b,c,d],_=>h a b c d
theorem us5 {P:List Value->Prop} (h:∀ a b c d e,P [a,b,c,d,e]):∀ us:List Value,us.length=5->P us
 | [a,b,c,d,e],_=>h a b c d e
theorem scm {N P:List Str} {sc:Scope} (a:sc.kind=.function:=by exact rfl) (b:sc.isCoroutine=false:=by exact rfl) (c:sc.isGenerator=false:=by exact rfl) (d:N.Nodup:=by decide +kernel) (e:N.take P.length=P:=by exact rfl) (f:∀ x∈P,sc.names.lookup x=some .local\/sc.names.lookup x=some .cell:=by decide +kernel) (g:∀ y∈sc.names,y.2≠.free:=by decide +kernel):af N P sc:=⟨a,b,c,d,e,f,g⟩
theorem Fa.ok {P:Program} {w:World} {K:Fg} {mg:Str->Option Value} {base:Heap} {x:Str} {st:Stmt} {a:Addr×FuncData} {N ps:List Str} {k:Nat} {b:XS} {gd:List PyData} {ga:Nat->V} {ms:List PM}
  (D:Fa K mg x st ps a) (S:af N ps (aa st)) (hg:∀ g d,gd[g]?=some d->∀ F H,Dm K F H d (ga g))
  (j:∀ {cdv:Value} {A:Around} {outer:List Env} {s:Shared} {H:Hp} {E:XK},d7 k (A.deeper (envOfC x (aa st) s.heap.objs.size a.1 cdv))->JSs (yj CX0 P w K mg base N x (aa st) a.1 cdv A outer s H E).nox (aZ st) (rS K ga b))
  (hl:ms.length<=N.length:=by decide) (hp:ms.length=ps.length:=by exact rfl):aO P w K mg base CX0 (k+1) a.1 a.2 ps (bu (bX gd ms N.length b) K) :=
 D.F.okX S hg rfl j hl hp
section
variable {X:Cx} {x:Str} {p p2 pos pos':Pos} {e a b:Expr} {es:List Expr} {t:TA} {te ta tb:TE} {ps:List Str} {sp:Sp} {k m i:Nat} {r:List V->Hp->VK->Prop} {T:String} {st:Stmt} {q:Addr×FuncData}
theorem eCx (F:aO X.prog X.w X.K X.mg X.base CX0 k q.1 q.2 ps sp) (hr:d7 m X.A) (D:Fa X.K X.mg x st ps q) (ha:JA X (e :: es) t)
  (a:k<=m:=by omega) (b:Gl X x:=by exact rfl) (h1:PySem.W.isStarred e=false:=by exact rfl) (h2:es.all (fun e=>!PySem.W.isStarred e)=true:=by exact rfl) (c:(x==("__debug__" : Str))=false:=by exact rfl):JE X (.Call (.Name x p) (e :: es) [] pos) (gx sp [] E0 t) :=
 BK F (hr.mono a) b D.m D.F.kp D.b .nil uJ ha h1 h2 c
theorem eAx (ha:JE X e te) (hr:JA X es t) (h:PySem.W.isStarred e=false:=by exact rfl):JA X (e :: es) (ay te t):=eA ha hr h
theorem eIy (ha:JE X a ta) (hb:JE X b tb) (hs:rV b:=by exact fun _ _=>rfl):JE X (.Subscript a b pos) (tOp (fun x y=>ixP.r X.K [x,y]) ta tb):=eIx bR ha hb hs
theorem eSx (hN:X.N.Nodup) (i:Nat) (he:JE X e te) (hi:X.N[i]?=some x:=by exact rfl) (hx:Loc X.env.scope x:=by exact .inl rfl) (hs:swapsWith e (some (.Name x pos')) pos.line X.env=pure false:=by exact rfl) (hf:X.fn x=true\/X.env.scope.names.lookup x=some .local:=by exact .inl rfl) :
  JS X (.Assign [.Name x pos'] e pos) (om te (cy i)):=BI he hN hi hx hs hf
theorem eSy (hN:X.N.Nodup) (i:Nat) (he:JE X e te) (hi:X.N[i]?=some x:=by exact rfl) (hx:Loc X.env.scope x:=by exact .inr rfl) (hs:swapsWith e (some (.Name x pos')) pos.line X.env=pure false:=by exact rfl) (hf:X.fn x=true\/X.env.scope.names.lookup x=some .local:=by exact .inl rfl) :
  JS X (.Assign [.Name x pos'] e pos) (om te (cy i)):=BI he hN hi hx hs hf
theorem eGx (hN:X.N.Nodup) (i:Nat) (hi:X.N[i]?=some x:=by exact rfl) (hx:Loc X.env.scope x:=by exact .inl rfl) (hf:X.fn x=true\/X.env.scope.names.lookup x=some .local:=by exact .inl rfl):JG X (.Name x pos) (cy i):=eGN hN hi hx hf
theorem eTx {op:CmpOp} {r:R2} (ho:OpR X (compareOp op) r) (ha:JE X a ta) (hb:JE X b tb) (hm:behindInMarks op b=false:=by exact bN _):JT X (.Compare a [op] [b] pos) (jL (tOp r ta tb)):=cq ho ha hb hm
theorem eUx (h:JE X e te) (he:∀ whole,isTrue e X.env whole=(do let v<-whole;standAt e.pos;holding [v] (truthy v)):=by exact fun _=>rfl):JT X e (tB te):=KI h he
theorem eIz (hm:X.mg "isinstance" = none) (ha:JE X e te) (hz:X.mg (Str.ofString T)=none) (hg:Gl X "isinstance" := by exact rfl) (hs:PySem.W.isStarred e=false:=by exact rfl)
  (h1:Gl X (Str.ofString T):=by exact rfl) (h2:bootBuiltins (Str.ofString T)=some (.type T):=by decide +kernel) (h3:Str.ofString T ≠ "__name__" := by decide) (h4:(Str.ofString T==("__debug__" : Str))=false:=by exact rfl):JE X (.Call (.Name "isinstance" p) [e,.Name (Str.ofString T) p2] [] pos) (tCB ((oo T).r X.K) (ay te cu)) :=
 Lb hg hm ha hs (LM h1 hz h2 rfl h3 h4)
theorem eFx {iter tg:Expr} {body:List Stmt} {wi:TI} {g:TG} {tb:TS} (hi:JI X tg iter wi) (hg:JG X tg g) (hb:JSs X body tb) (hp:PassesOwn (model X.prog X.w) X.A X.env X.xe:=by exact NP) (hc:X.calm=true:=by exact rfl) (hs:∀ x,foldedSetIterable iter X.env x=pure x:=by exact fun _=>rfl):JS X (.For tg iter body [] pos) (D3 wi g tb):=Ls hi hg hb hp hc hs
theorem eUy (ha:JE X a ta):JE X (.UnaryOp .USub a pos) (tCB (Gw.r X.K) (ay ta cu)):=eUn Fy ha
theorem eKx {elt iter:Expr} {px:Pos} {ifs:List Expr} {scope:Scope} {wi:TI} {tt:TT} {js:List Nat} (ys:List Str) (hi:JI X (.Name x px) iter wi) (ht:JTs X (x :: ys) scope ifs tt) (he:JC X (x :: ys) scope elt te) (B:i6 X scope x) (cap:eG X scope ys js)
  (hc:X.calm=true:=by exact rfl) (nd:(x :: ys).Nodup:=by decide +kernel) (hs:∀ x,foldedSetIterable iter X.env x=pure x:=by exact fun _=>rfl):JE X (.ListComp elt [⟨.Name x px,iter,ifs,0⟩] scope pos) (pL js wi tt te):=B8 ys hi ht he hc B nd cap hs
end
abbrev vr (i:Nat):XE:=.var i
abbrev ci (i:Int):XE:=.cst (.i i)
abbrev cs (x:String) (h:(Str.ofString x).length<=sizeLine:=by decide +kernel):XE:=.cst (.s x h (b5 x))
abbrev p1 (p:Prm) (a:XE):XE:=.prm p (.cons a .nil)
abbrev p2 (p:Prm) (a b:XE):XE:=.prm p (.cons a (.cons b .nil))
open PySem PySem.Spec PyProof.Rows
section
variable {X:Cx} {e o value:Expr} {es:List Expr} {f m x:Str} {p pos pos' apos:Pos} {ta tv:TE} {t:TA} {k n i:Nat} {a:Addr} {fd:FuncData} {ps:List Str} {fn:Fn} {pl:Sem Bool}
theorem eFl (c:Cls X.K clsAt) (n:fu X.K clsAt f) (he:JE X e ta) (hb:attributeBase e f X.env (eval e X.env)=eval e X.env:=by exact rfl):JE X (.Attribute e f pos) (tCB ((sM f).r X.K) (ay ta cu)):=K4 c n he hb
theorem eSF (c:Cls X.K clsAt) (n:fu X.K clsAt f) (ha:JE X o (bE i)) (hv:JE X value tv) (hs:swapsWith value (some (.Attribute o f pos')) pos.line X.env=pure false:=by exact rfl) :
  JS X (.Assign [.Attribute o f pos'] value pos) (fun D σ H=>tv σ H fun x H1=>bE i σ H1 fun y H2=>(ve f).r X.K y .non x H2 (D.nx σ)):=GU c n ha hv hs
theorem eMt (c:Cls X.K clsAt) (hm:Meth X.K clsAt m a) (F:aO X.prog X.w X.K X.mg X.base CX0 k a fd ps (bu fn X.K)) (hr:d7 n X.A) (hb:Binds X.K fd ps []) (he:JE X o (bE i)) (ha:JA X (e :: es) t)
  (hk:k<=n:=by omega) (hst:PySem.W.isStarred e=false:=by exact rfl) (hpl:es.all (fun e=>!PySem.W.isStarred e)=true:=by exact rfl)
  (ht:eval (.Call (.Attribute o m apos) (e :: es) [] pos) X.env=(do
   let ov<-eval o X.env
   standAt apos.atName
   let (f,first)<-holding [ov] (getMethod ov m pl)
   callWith pos f first (backTo pos (starEach (e :: es) X.env)) (backToKw pos (keywordEach [] X.env))):=by exact rfl) :
  JE X (.Call (.Attribute o m apos) (e :: es) [] pos) (fun σ H Q=>bE i σ H fun x H1=>(aH m fn).tq X.K x H1/\t σ H1 fun xs H2=>(aH m fn).r X.K x xs H2 Q) :=
 Lw (pl:=pl) he c hm F (hr.mono hk) hb uJ ha (a9 hst) (cO hpl) ht
theorem uh (c:Cls X.K clsAt) (hm:Meth X.K clsAt m a) (F:aO X.prog X.w X.K X.mg X.base CX0 k a fd ps (bu fn X.K)) (hr:d7 n X.A) (hb:Binds X.K fd ps []) (he:JE X o (bE i))
  (hk:k<=n:=by omega)
  (ht:eval (.Call (.Attribute o m apos) [] [] pos) X.env=(do
   let ov<-eval o X.env
   standAt apos.atName
   let (f,first)<-holding [ov] (getMethod ov m pl)
   callWith pos f first (backTo pos (starEach [] X.env)) (backToKw pos (keywordEach [] X.env))):=by exact rfl) :
  JE X (.Call (.Attribute o m apos) [] [] pos) (fun σ H Q=>bE i σ H fun x H1=>(aH m fn).tq X.K x H1/\cu σ H1 fun xs H2=>(aH m fn).r X.K x xs H2 Q) :=
 J1 (pl:=pl) he c hm F (hr.mono hk) hb uJ ht
theorem eNw (M:Mk X.K clsAt a) (F:aO X.prog X.w X.K X.mg X.base CX0 k a fd ps (bu fn X.K)) (hr:d7 n X.A) (hm:X.mg x=some (.ref clsAt)) (hb:Binds X.K fd ps []) (ha:JA X (e :: es) t)
  (hk:k+1<=n:=by omega) (hg:Gl X x:=by exact rfl) (hdb:(x==("__debug__" : Str))=false:=by exact rfl) (hst:PySem.W.isStarred e=false:=by exact rfl) (hpl:es.all (fun e=>!PySem.W.isStarred e)=true:=by exact rfl) :
  JE X (.Call (.Name x p) (e :: es) [] pos) (tCB ((Gz fn).r X.K) t):=eNew M F (hr.mono hk) hg hm hb uJ ha hdb (a9 hst) (cO hpl)
end
end L2
end
set_option bootstrap.genMatcherCode true
section
namespace K19
open PySem PySem.Spec PyProof.Rows L2
noncomputable def top (i:Nat):Stmt:=PySem.Challenge.pw_webshapes_k19_forms_read.main.body.getD i (.Pass ⟨0,0,0,0⟩)
noncomputable def topC (i j:Nat):Stmt:=match top i with | .ClassDef _ _ _ b _ _ _ _ _ _ _=>b.getD j (.Pass ⟨0,0,0,0⟩) | _=>.Pass ⟨0,0,0,0⟩
noncomputable abbrev cE:Stmt:=top 6
noncomputable abbrev lh:Stmt:=top 7
noncomputable abbrev jr:Stmt:=top 8
noncomputable abbrev lC:Stmt:=top 9
noncomputable abbrev lu:Stmt:=top 10
noncomputable abbrev iu:Stmt:=top 11
noncomputable abbrev dU:Stmt:=top 12
noncomputable abbrev kj:Stmt:=top 13
noncomputable abbrev g8:Stmt:=top 23
noncomputable abbrev fZ:Stmt:=top 24
noncomputable abbrev cQ:Stmt:=top 25
noncomputable abbrev ku:Stmt:=top 30
noncomputable abbrev gX:Stmt:=top 31
noncomputable abbrev gE:Stmt:=top 32
noncomputable abbrev gY:Stmt:=top 34
noncomputable abbrev cH:Stmt:=top 35
noncomputable abbrev gS:Stmt:=top 36
noncomputable abbrev hV:Stmt:=top 38
noncomputable abbrev fY:Stmt:=top 39
noncomputable abbrev fv:Stmt:=top 40
noncomputable abbrev jn:Stmt:=top 41
noncomputable abbrev gJ:Stmt:=top 42
noncomputable abbrev g6:Stmt:=top 43
noncomputable abbrev fV:Stmt:=top 44
noncomputable abbrev fG:Stmt:=top 45
noncomputable abbrev jg:Stmt:=top 46
noncomputable abbrev gC:Stmt:=top 47
noncomputable abbrev gU:Stmt:=top 48
noncomputable abbrev gK:Stmt:=top 49
noncomputable abbrev gL:Stmt:=top 50
noncomputable abbrev gM:Stmt:=top 51
noncomputable abbrev w5:Stmt:=top 53
noncomputable abbrev tZ:Stmt:=top 54
noncomputable abbrev jW:Stmt:=top 55
noncomputable abbrev mC:Stmt:=top 56
noncomputable abbrev tP:Stmt:=top 57
noncomputable abbrev wu:Stmt:=top 58
noncomputable abbrev pw:Stmt:=top 59
noncomputable abbrev nT:Stmt:=top 60
noncomputable abbrev oN:Stmt:=top 61
noncomputable abbrev gN:Stmt:=top 62
noncomputable abbrev me:Stmt:=top 63
noncomputable abbrev b3:Stmt:=top 64
noncomputable abbrev sx:Stmt:=top 65
noncomputable abbrev tN:Stmt:=top 66
noncomputable abbrev iS:Stmt:=top 67
noncomputable abbrev kX:Stmt:=top 68
noncomputable abbrev xS:Stmt:=top 69
noncomputable abbrev bf:Stmt:=topC 37 0
noncomputable abbrev aR:Stmt:=topC 37 1
noncomputable abbrev aS:Stmt:=topC 37 2
noncomputable abbrev bh:Stmt:=topC 37 3
noncomputable def dfs:List (Str×Stmt×List Str):=("are_letters", cE,["thing", "fewest"]) :: ("is_name", lh,["thing"]) :: ("is_whole", jr,["thing"]) :: ("is_said", lC,["thing"]) :: ("kind_of", lu,["node"]) :: ("show_node", iu,["node"]) :: ("number_in", dU,["text"]) :: ("node_in", kj,["text"]) :: ("length_of", g8,["word"]) :: ("are_bounds", fZ,["low", "high"]) :: ("straight_parts", cQ,["form"]) :: ("run_end", ku,["text", "at", "signs"]) :: ("token_end", gX,["text", "at"]) :: ("tokens_of", gE,["text"]) :: ("show_high", gY,["high"]) :: ("show_inside", cH,["form"]) :: ("show_form", gS,["form"]) :: ("read_word", hV,["reader"]) :: ("read_value", fY,["reader"]) :: ("read_number", fv,["reader"]) :: ("read_low", jn,["reader"]) :: ("read_high", gJ,["reader", "low"]) :: ("read_step", g6,["reader"]) :: ("read_comma", fV,["reader", "has_room"]) :: ("read_closed", fG,["reader"]) :: ("read_not", jg,["reader", "depth", "walked"]) :: ("read_list", gC,["reader", "head", "depth", "walked"]) :: ("read_walk", gU,["reader", "head", "depth"]) :: ("may_begin", gK,["head", "forms", "depth", "walked"]) :: ("read_part", gL,["reader", "depth", "walked"]) :: ("read_form", gM,["text"]) :: ("_law_pen", w5,["_law_script"]) :: ("_law_take", tZ,["_law_pen_here", "_law_most"]) :: ("_law_names", jW,["_law_pen_here", "_law_many"]) :: ("_law_number", mC,["_law_pen_here"]) :: ("_law_node", tP,["_law_pen_here", "_law_things"]) :: ("_law_tip", wu,["_law_pen_here", "_law_names_here", "_law_free"]) :: ("_law_count", pw,["_law_pen_here", "_law_names_here"]) :: ("_law_form", nT,["_law_pen_here", "_law_names_here", "_law_room", "_law_deep", "_law_free"]) :: ("_law_inner", oN,["_law_form_here"]) :: ("_law_node_text", gN,["_law_node_here"]) :: ("_law_commas", me,["_law_rows"]) :: ("_law_tokens", b3,["_law_form_here"]) :: ("_law_grow", sx,["_law_one", "_law_other"]) :: ("_law_laid", tN,["_law_pen_here", "_law_tokens_here"]) :: ("_law_turned", iS,["_law_pen_here", "_law_form_here"]) :: ("_law_alike", kX,["_law_found", "_law_due"]) :: ("law", xS,["_law_script"]) :: []
structure Adr where
 f:Nat->Addr×FuncData
 mX:Addr
 mT:FuncData
 lB:Addr
 ky:FuncData
 kG:Addr
 kf:FuncData
 nQ:Addr
 oa:FuncData
 kb:Addr
 eL:Addr
 kF:Addr
 vI:Tok
 Ib:Tok
 x5:Tok
 vB:Tok
 oI:Tok
 rm:Tok
 lG:Tok
 pz:Tok
 lQ:Tok
 nB:Tok
noncomputable def dr:List (Str×Cst):=[("any", (.i 1)),("thing", (.i 1)),("number", (.i 1)),("said", (.i 1)),("from", (.i 2)),("upto", (.i 2)),("is", (.i 2)),("keeps", (.i 2)),("not", (.i 2)),("all", (.i 2)),("some", (.i 2)),("one", (.i 2)),("none", (.i 2)),("many", (.i 5)),("each", (.i 5)),("closed", (.i 2))]
structure Txt (w:World) (K:Fg) (mg:Str->Option Value) (t:Adr):Prop where
 d:∀ i {x st ps},dfs[i]?=some (x,st,ps)->Fa K mg x st ps (t.f i)
 yZ:Fun K "__init__" "FormReader.__init__" bf t.mX t.mT
 zd:Binds K t.mT ["self", "text"] []
 xQ:Fun K "shown" "FormReader.shown" aR t.lB t.ky
 aV:Binds K t.ky ["self"] []
 aU:Meth K clsAt "shown" t.lB
 wY:Fun K "taken" "FormReader.taken" aS t.kG t.kf
 bO:Binds K t.kf ["self", "value", "fits"] []
 bJ:Meth K clsAt "taken" t.kG
 yN:Fun K "skip" "FormReader.skip" bh t.nQ t.oa
 bF:Binds K t.oa ["self", "token"] []
 bG:Meth K clsAt "skip" t.nQ
 cl:Cls K clsAt
 cmk:Mk K clsAt t.mX
 cg:mg "FormReader" = some (.ref clsAt)
 na_forms:fu K clsAt "forms"
 na_place:fu K clsAt "place"
 na_tokens:fu K clsAt "tokens"
 z_abs:mg "abs" = none
 z_all:mg "all" = none
 z_bool:mg "bool" = none
 z_int:mg "int" = none
 z_isinstance:mg "isinstance" = none
 z_len:mg "len" = none
 z_list:mg "list" = none
 z_min:mg "min" = none
 z_range:mg "range" = none
 z_sorted:mg "sorted" = none
 z_str:mg "str" = none
 z_tuple:mg "tuple" = none
 z_zip:mg "zip" = none
 g_DEEPEST:mg "DEEPEST" = some (Value.int 8 t.vI)
 g_END:mg "END" = some (Value.str "" t.Ib)
 g_FIGURES:mg "FIGURES" = some (Value.str "0123456789" t.x5)
 g_LENGTHS:mg "LENGTHS" = some (.ref t.kF)
 g_LETTERS:mg "LETTERS" = some (Value.str "abcdefghijklmnopqrstuvwxyz" t.vB)
 g_LISTS:mg "LISTS" = some (.ref t.kb)
 g_MOST_BONDS:mg "MOST_BONDS" = some (Value.int 8 t.oI)
 g_MOST_ENDS:mg "MOST_ENDS" = some (Value.int 60 t.rm)
 g_MOST_FIGURES:mg "MOST_FIGURES" = some (Value.int 30 t.lG)
 g_MOST_FORMS:mg "MOST_FORMS" = some (Value.int 40 t.pz)
 g_MOST_LETTERS:mg "MOST_LETTERS" = some (Value.int 8 t.lQ)
 g_MOST_LISTED:mg "MOST_LISTED" = some (Value.int 6 t.nB)
 g_WALKS:mg "WALKS" = some (.ref t.eL)
 v8:KG w K t.kF dr
 s_LISTS:∀ H,SqT K H t.kb [.str "all", .str "some", .str "one", .str "none"]
 s_WALKS:∀ H,SqT K H t.eL [.str "many", .str "each"]
theorem lT:af ["thing", "fewest"] ["thing", "fewest"] (aa cE):=scm
theorem uz:af ["thing"] ["thing"] (aa lh):=scm
theorem rG:af ["thing"] ["thing"] (aa jr):=scm
theorem ux:af ["thing"] ["thing"] (aa lC):=scm
theorem u2:af ["node"] ["node"] (aa lu):=scm
theorem iV:af ["node", "kind"] ["node"] (aa iu):=scm
theorem ft:af ["text", "figures", "number"] ["text"] (aa dU):=scm
theorem mn:af ["text", "said"] ["text"] (aa kj):=scm
theorem qf:af ["word"] ["word"] (aa g8):=scm
theorem nL:af ["low", "high"] ["low", "high"] (aa fZ):=scm
theorem dB:af ["form", "head"] ["form"] (aa cQ):=scm
theorem ma:af ["text", "at", "signs"] ["text", "at", "signs"] (aa ku):=scm
theorem qp:af ["text", "at"] ["text", "at"] (aa gX):=scm
theorem cf:af ["text", "found", "at", "behind"] ["text"] (aa gE):=scm
theorem qF:af ["high"] ["high"] (aa gY):=scm
theorem gb:af ["form", "ahead"] ["form"] (aa cH):=scm
theorem cU:af ["form", "head", "inside"] ["form"] (aa gS):=scm
theorem jB:af ["reader", "word"] ["reader"] (aa hV):=scm
theorem il:af ["reader", "node"] ["reader"] (aa fY):=scm
theorem fR:af ["reader", "number"] ["reader"] (aa fv):=scm
theorem lx:af ["reader", "low"] ["reader"] (aa jn):=scm
theorem jb:af ["reader", "low", "high"] ["reader", "low"] (aa gJ):=scm
theorem pZ:af ["reader"] ["reader"] (aa g6):=scm
theorem ny:af ["reader", "has_room"] ["reader", "has_room"] (aa fV):=scm
theorem cX:af ["reader", "bonds", "bond"] ["reader"] (aa fG):=scm
theorem kr:af ["reader", "depth", "walked", "part"] ["reader", "depth", "walked"] (aa jg):=scm
theorem i9:af ["reader", "head", "depth", "walked", "parts"] ["reader", "head", "depth", "walked"] (aa gC):=scm
theorem ck:af ["reader", "head", "depth", "low", "high", "step", "part"] ["reader", "head", "depth"] (aa gU):=scm
theorem jD:af ["head", "forms", "depth", "walked", "within"] ["head", "forms", "depth", "walked"] (aa gK):=scm
theorem fB:af ["reader", "depth", "walked", "head"] ["reader", "depth", "walked"] (aa gL):=scm
theorem eQ:af ["text", "reader", "form"] ["text"] (aa gM):=scm
theorem Ej:af ["_law_script"] ["_law_script"] (aa w5):=scm
theorem gj:af ["_law_pen_here", "_law_most", "_law_found", "_law_at", "_law_cell", "_law_number_here"] ["_law_pen_here", "_law_most"] (aa tZ):=scm
theorem bV:af ["_law_pen_here", "_law_many", "_law_letters", "_law_base", "_law_words", "_law_way", "_law_size", "_law_at", "_law_turn", "_law_found", "_law_k", "_law_sign"] ["_law_pen_here", "_law_many"] (aa jW):=scm
theorem dC:af ["_law_pen_here", "_law_way", "_law_number_here"] ["_law_pen_here"] (aa mC):=scm
theorem kz:af ["_law_pen_here", "_law_things", "_law_way", "_law_word", "_law_k"] ["_law_pen_here", "_law_things"] (aa tP):=scm
theorem AI:af ["_law_pen_here", "_law_names_here", "_law_free", "_law_word"] ["_law_pen_here", "_law_names_here", "_law_free"] (aa wu):=scm
theorem jM:af ["_law_pen_here", "_law_names_here", "_law_low", "_law_high", "_law_step"] ["_law_pen_here", "_law_names_here"] (aa pw):=scm
theorem lz:af ["_law_pen_here", "_law_names_here", "_law_room", "_law_deep", "_law_free", "_law_way", "_law_many", "_law_some"] ["_law_pen_here", "_law_names_here", "_law_room", "_law_deep", "_law_free"] (aa nT):=scm
theorem yQ:af ["_law_form_here"] ["_law_form_here"] (aa oN):=scm
theorem ox:af ["_law_node_here"] ["_law_node_here"] (aa gN):=scm
theorem kg:af ["_law_rows", "_law_found", "_law_row"] ["_law_rows"] (aa me):=scm
theorem c6:af ["_law_form_here", "_law_word", "_law_high", "_law_step"] ["_law_form_here"] (aa b3):=scm
theorem qN:af ["_law_one", "_law_other", "_law_letters", "_law_figures"] ["_law_one", "_law_other"] (aa sx):=scm
theorem dR:af ["_law_pen_here", "_law_tokens_here", "_law_most", "_law_text", "_law_places", "_law_k", "_law_blanks"] ["_law_pen_here", "_law_tokens_here"] (aa tN):=scm
theorem fD:af ["_law_pen_here", "_law_form_here", "_law_bonds", "_law_bond", "_law_some"] ["_law_pen_here", "_law_form_here"] (aa iS):=scm
theorem tT:af ["_law_found", "_law_due"] ["_law_found", "_law_due"] (aa kX):=scm
theorem jq:af ["_law_script", "_law_pen_here", "_law_turn", "_law_names_here", "_law_form_here", "_law_text", "_law_places", "_gh"] ["_law_script"] (aa xS):=scm
theorem x2:af ["self", "text"] ["self", "text"] (aa bf):=scm
theorem t9:af ["self"] ["self"] (aa aR):=scm
theorem uR:af ["self", "value", "fits"] ["self", "value", "fits"] (aa aS):=scm
theorem wB:af ["self", "token"] ["self", "token"] (aa bh):=scm
noncomputable def gds:List PyData:=[.tuple [PyData.str "all", PyData.str "some", PyData.str "one", PyData.str "none"],.tuple [PyData.str "many", PyData.str "each"]]
noncomputable def gav (t:Adr):Nat->V:=fun g=>([.ref t.kb,.ref t.eL]:List V)[g]?.getD .non
theorem aJ {w:World} {K:Fg} {mg:Str->Option Value} {t:Adr} (T:Txt w K mg t):∀ g d,gds[g]?=some d->∀ F H,Dm K F H d (gav t g):=by
 intro g d h F H;rcases g with _ | g
 ·cases h;exact ⟨_,_,rfl,T.s_LISTS H,by decide,⟨_,_,rfl,⟨rfl,by decide +kernel,b5 _⟩,⟨_,_,rfl,⟨rfl,by decide +kernel,b5 _⟩,⟨_,_,rfl,⟨rfl,by decide +kernel,b5 _⟩,⟨_,_,rfl,⟨rfl,by decide +kernel,b5 _⟩,rfl⟩⟩⟩⟩⟩
 rcases g with _ | g
 ·cases h;exact ⟨_,_,rfl,T.s_WALKS H,by decide,⟨_,_,rfl,⟨rfl,by decide +kernel,b5 _⟩,⟨_,_,rfl,⟨rfl,by decide +kernel,b5 _⟩,rfl⟩⟩⟩
 cases h
noncomputable def f7:XS :=
 (.seq (.ifs (.or (.not (.tst (p1 (oo "str") (vr 0)))) (.not (.tst (.chn leP leP (vr 1) (p1 lZ (vr 0)) (ci 8))))) (.ret (.cst (.b false))) .skip)
  (.ret (p1 GD (.cmp [] (.str (vr 0)) .yes (.chn leP leP (cs "a") (vr 0) (cs "z"))))))
noncomputable def b6:Fn:=bX gds [.dat,.dat] 2 f7
def lK (K:Fg):Sp:=bu b6 K
noncomputable def mK:XS :=
 (.ret (.call b6 (.cons (vr 0) (.cons (ci 1) .nil))))
noncomputable def cZ:Fn:=bX gds [.dat] 1 mK
def vc (K:Fg):Sp:=bu cZ K
noncomputable def kK:XS :=
 (.ret (.mw (p1 (oo "int") (vr 0)) (.B0 (p1 (oo "bool") (vr 0)))))
noncomputable def cD:Fn:=bX gds [.dat] 1 kK
def qO (K:Fg):Sp:=bu cD K
noncomputable def l6:XS :=
 (.ret (.mw (p1 (oo "tuple") (vr 0)) (.mw (p2 eqP (p1 lZ (vr 0)) (ci 1)) (.call b6 (.cons (p2 ixP (vr 0) (ci 0)) (.cons (ci 0) .nil))))))
noncomputable def iH:Fn:=bX gds [.dat] 1 l6
def uo (K:Fg):Sp:=bu iH K
noncomputable def ub:XS :=
 (.seq (.ifs (.tst (p1 (oo "str") (vr 0))) (.ret (cs "thing")) .skip)
  (.seq (.ifs (.tst (p1 (oo "tuple") (vr 0))) (.ret (cs "said")) .skip)
  (.ret (cs "number"))))
noncomputable def mD:Fn:=bX gds [.dat] 1 ub
def u7 (K:Fg):Sp:=bu mD K
noncomputable def ju:XS :=
 (.seq (.bc 1 (.call mD (.cons (vr 0) .nil)))
  (.seq (.ifs (.tst (p2 eqP (vr 1) (cs "number"))) (.ret (p1 uO (vr 0))) .skip)
  (.seq (.ifs (.tst (p2 eqP (vr 1) (cs "said"))) (.ret (p2 bt (cs "'") (p2 ixP (vr 0) (ci 0)))) .skip)
  (.ret (vr 0)))))
noncomputable def eZ:Fn:=bX gds [.dat] 2 ju
def p0 (K:Fg):Sp:=bu eZ K
noncomputable def fi:XS :=
 (.seq (.bc 1 (.ifx (.tst (.met xF (vr 0) (.cons (cs "-") .nil))) (p2 JR (vr 0) (ci 1)) (vr 0)))
  (.seq (.ifs (.or (.not (.tst (.chn leP leP (ci 1) (p1 lZ (vr 1)) (ci 30)))) (.not (.tst (p1 GD (.cmp [] (.str (vr 1)) .yes (.chn leP leP (cs "0") (vr 0) (cs "9"))))))) (.ret (.cst .n)) .skip)
  (.seq (.bc 2 (p1 mS (vr 0)))
  (.ret (.ifx (.tst (p2 eqP (p1 uO (vr 2)) (vr 0))) (vr 2) (.cst .n))))))
noncomputable def eV:Fn:=bX gds [.dat] 3 fi
def qB (K:Fg):Sp:=bu eV K
noncomputable def mF:XS :=
 (.seq (.ifs (.not (.tst (p1 (oo "str") (vr 0)))) (.ret (.cst .n)) .skip)
  (.seq (.ifs (.tst (.met xF (vr 0) (.cons (cs "'") .nil))) (.seq (.bc 1 (.tup (.cons (p2 JR (vr 0) (ci 1)) .nil)))
  (.ret (.ifx (.tst (.call iH (.cons (vr 1) .nil))) (vr 1) (.cst .n)))) .skip)
  (.ret (.ifx (.tst (.call cZ (.cons (vr 0) .nil))) (vr 0) (.call eV (.cons (vr 0) .nil))))))
noncomputable def cC:Fn:=bX gds [.dat] 2 mF
def uL (K:Fg):Sp:=bu cC K
noncomputable def ji:XS :=
 (.ret (p1 (Fu dr) (vr 0)))
noncomputable def cS:Fn:=bX gds [.dat] 1 ji
def pG (K:Fg):Sp:=bu cS K
noncomputable def gQ:XS :=
 (.seq (.ifs (.or (.not (.tst (.call cD (.cons (vr 0) .nil)))) (.not (.tst (.chn leP leP (ci 0) (vr 0) (ci 60))))) (.ret (.cst (.b false))) .skip)
  (.ret (.orv (p2 isP (vr 1) (.cst .n)) (.mw (.call cD (.cons (vr 1) .nil)) (.chn leP leP (vr 0) (vr 1) (ci 60))))))
noncomputable def cx:Fn:=bX gds [.dat,.dat] 2 gQ
def m7 (K:Fg):Sp:=bu cx K
noncomputable def iA:XS :=
 (.seq (.bc 1 (p2 ixP (vr 0) (ci 0)))
  (.seq (.ifs (.tst (p2 eqP (vr 1) (cs "not"))) (.ret (.tup (.cons (p2 ixP (vr 0) (ci 1)) .nil))) .skip)
  (.seq (.ifs (.tst (p2 inP (vr 1) (.glb 0))) (.ret (p2 ixP (vr 0) (ci 1))) .skip)
  (.seq (.ifs (.tst (p2 inP (vr 1) (.glb 1))) (.ret (.tup (.cons (p2 ixP (vr 0) (ci 4)) .nil))) .skip)
  (.ret (.tup .nil))))))
noncomputable def dh:Fn:=bX gds [.dat] 2 iA
def iB (K:Fg):Sp:=bu dh K
noncomputable def mH:XS :=
 (.seq (.wh 100000 (.and (.tst (p2 ltP (vr 1) (p1 lZ (vr 0)))) (.tst (p2 inP (p2 ixP (vr 0) (vr 1)) (vr 2)))) (.bc 1 (p2 bt (vr 1) (ci 1))))
  (.ret (vr 1)))
noncomputable def de:Fn:=bX gds [.dat,.dat,.dat] 3 mH
def uy (K:Fg):Sp:=bu de K
noncomputable def jy:XS :=
 (.seq (.ifs (.tst (p2 inP (p2 ixP (vr 0) (vr 1)) (cs "abcdefghijklmnopqrstuvwxyz"))) (.ret (.call de (.cons (vr 0) (.cons (vr 1) (.cons (cs "abcdefghijklmnopqrstuvwxyz") .nil))))) .skip)
  (.seq (.ifs (.tst (p2 eqP (p2 ixP (vr 0) (vr 1)) (cs "'"))) (.ret (.call de (.cons (vr 0) (.cons (p2 bt (vr 1) (ci 1)) (.cons (cs "abcdefghijklmnopqrstuvwxyz") .nil))))) .skip)
  (.seq (.ifs (.or (.tst (p2 eqP (p2 ixP (vr 0) (vr 1)) (cs "-"))) (.tst (p2 inP (p2 ixP (vr 0) (vr 1)) (cs "0123456789")))) (.ret (.call de (.cons (vr 0) (.cons (p2 bt (vr 1) (ci 1)) (.cons (cs "0123456789") .nil))))) .skip)
  (.ret (p2 bt (vr 1) (ci 1))))))
noncomputable def fe:Fn:=bX gds [.dat,.dat] 2 jy
def qd (K:Fg):Sp:=bu fe K
noncomputable def i7:XS :=
 (.seq (.rJ 1 (.lst .nil))
  (.seq (.bc 2 (ci 0))
  (.seq (.wh 100000 (.tst (p2 ltP (vr 2) (p1 lZ (vr 0)))) (.seq (.bc 3 (.call fe (.cons (vr 0) (.cons (vr 2) .nil))))
  (.seq (.ifs (.tst (p2 neP (p2 ixP (vr 0) (vr 2)) (cs " "))) (.drop (.mtr vt 1 (.cons (.tup (.cons (.sl2 Kw (vr 0) (vr 2) (vr 3)) (.cons (vr 2) .nil))) .nil))) .skip)
  (.bc 2 (vr 3)))))
  (.seq (.drop (.mtr vt 1 (.cons (.tup (.cons (cs "") (.cons (p1 lZ (vr 0)) .nil))) .nil)))
  (.ret (.tke 1))))))
noncomputable def eY:Fn:=bX gds [.dat] 4 i7
def jf (K:Fg):Sp:=bu eY K
noncomputable def jh:XS :=
 (.ret (.ifx (.tst (p2 isP (vr 0) (.cst .n))) (cs "*") (p1 uO (vr 0))))
noncomputable def fA:Fn:=bX gds [.dat] 1 jh
def qb (K:Fg):Sp:=bu fA K
noncomputable def bM (F_show_form:Fn):XS :=
 (.seq (.ifs (.tst (p2 eqP (p2 ixP (vr 0) (ci 0)) (cs "closed"))) (.ret (.met joinM (cs ", ") (.cons (p2 ixP (vr 0) (ci 1)) .nil))) .skip)
  (.seq (.bc 1 (.ifx (.tst (p2 inP (p2 ixP (vr 0) (ci 0)) (.glb 1))) (.lst (.cons (p1 uO (p2 ixP (vr 0) (ci 1))) (.cons (.call fA (.cons (p2 ixP (vr 0) (ci 2)) .nil)) (.cons (p2 ixP (vr 0) (ci 3)) .nil)))) (.lst .nil)))
  (.ret (.met joinM (cs ", ") (.cons (p2 bt (vr 1) (.cmp [] (.tup (.call dh (.cons (vr 0) .nil))) .yes (.call F_show_form (.cons (vr 0) .nil)))) .nil)))))
noncomputable def jd (F_show_inside:Fn):XS :=
 (.seq (.bc 1 (p2 ixP (vr 0) (ci 0)))
  (.seq (.ifs (.tst (p2 eqP (.call cS (.cons (vr 1) .nil)) (ci 1))) (.ret (vr 1)) .skip)
  (.seq (.ifs (.tst (p2 eqP (vr 1) (cs "keeps"))) (.ret (p2 bt (p2 bt (vr 1) (cs " ")) (p2 ixP (vr 0) (ci 1)))) .skip)
  (.seq (.ifs (.tst (p2 inP (vr 1) (.tup (.cons (cs "from") (.cons (cs "upto") (.cons (cs "is") .nil)))))) (.ret (p2 bt (p2 bt (vr 1) (cs " ")) (.call eZ (.cons (p2 ixP (vr 0) (ci 1)) .nil)))) .skip)
  (.seq (.bc 2 (.call F_show_inside (.cons (vr 0) .nil)))
  (.ret (.fst (.cons (p1 fvP (vr 1)) (.cons (cs "(") (.cons (p1 fvP (vr 2)) (.cons (cs ")") .nil)))))))))))
noncomputable def bg (F_show_form:Fn):Fn:=bX gds [.dat] 2 (bM F_show_form)
noncomputable def aM:Nat->Fn
 | 0=>Fn.no [.dat]
 | n+1=>bX gds [.dat] 3 (jd (bg (aM n)))
noncomputable def lE (n:Nat):Fn:=bg (aM n)
def lI (K:Fg) (n:Nat):Sp:=bu (lE n) K
def iZ (K:Fg) (n:Nat):Sp:=bu (aM n) K
noncomputable def l7:XS :=
 (.ret (p2 ixP (p2 ixP (p1 (sM "tokens") (vr 0)) (p1 (sM "place") (vr 0))) (ci 0)))
noncomputable def az:Fn:=bX gds [.ino] 1 l7
def uM (K:Fg):Sp:=bu az K
noncomputable def mO:XS :=
 (.seq (.ifs (.not (.tst (vr 2))) .nev .skip)
  (.seq (.sto (ve "place") 0 (.cst .n) (p2 bt (p1 (sM "place") (vr 0)) (ci 1)))
  (.ret (vr 1))))
noncomputable def aG:Fn:=bX gds [.ino,.dat,.dat] 3 mO
def t8 (K:Fg):Sp:=bu aG K
noncomputable def iT:XS :=
 (.seq (.bc 1 (.mtr (aH "shown" az) 0 .nil))
  (.ret (.mtr (aH "taken" aG) 0 (.cons (vr 1) (.cons (.call cZ (.cons (vr 1) .nil)) .nil)))))
noncomputable def b8:Fn:=bX gds [.ino] 2 iT
def ql (K:Fg):Sp:=bu b8 K
noncomputable def gO:XS :=
 (.seq (.bc 1 (.call cC (.cons (.mtr (aH "shown" az) 0 .nil) .nil)))
  (.ret (.mtr (aH "taken" aG) 0 (.cons (vr 1) (.cons (p2 oJ (vr 1) (.cst .n)) .nil)))))
noncomputable def dM:Fn:=bX gds [.ino] 2 gO
def nu (K:Fg):Sp:=bu dM K
noncomputable def fT:XS :=
 (.seq (.bc 1 (.call cC (.cons (.mtr (aH "shown" az) 0 .nil) .nil)))
  (.ret (.mtr (aH "taken" aG) 0 (.cons (vr 1) (.cons (.call cD (.cons (vr 1) .nil)) .nil)))))
noncomputable def cY:Fn:=bX gds [.ino] 2 fT
def lF (K:Fg):Sp:=bu cY K
noncomputable def ke:XS :=
 (.seq (.bc 1 (.call cC (.cons (.mtr (aH "shown" az) 0 .nil) .nil)))
  (.ret (.mtr (aH "taken" aG) 0 (.cons (vr 1) (.cons (.call cx (.cons (vr 1) (.cons (.cst .n) .nil))) .nil)))))
noncomputable def gu:Fn:=bX gds [.ino] 2 ke
def rY (K:Fg):Sp:=bu gu K
noncomputable def iW:XS :=
 (.seq (.ifs (.tst (p2 eqP (.mtr (aH "shown" az) 0 .nil) (cs "*"))) (.ret (.mtr (aH "taken" aG) 0 (.cons (.cst .n) (.cons (.cst (.b true)) .nil)))) .skip)
  (.seq (.bc 2 (.call cC (.cons (.mtr (aH "shown" az) 0 .nil) .nil)))
  (.ret (.mtr (aH "taken" aG) 0 (.cons (vr 2) (.cons (.mw (p2 oJ (vr 2) (.cst .n)) (.call cx (.cons (vr 1) (.cons (vr 2) .nil)))) .nil))))))
noncomputable def eR:Fn:=bX gds [.ino,.dat] 3 iW
def oP (K:Fg):Sp:=bu eR K
noncomputable def oX:XS :=
 (.drop (.mtr (aH "taken" aG) 0 (.cons (vr 1) (.cons (p2 eqP (.mtr (aH "shown" az) 0 .nil) (vr 1)) .nil))))
noncomputable def aL:Fn:=bX gds [.ino,.dat] 2 oX
def vq (K:Fg):Sp:=bu aL K
noncomputable def i5:XS :=
 (.seq (.ifs (.tst (p2 neP (.mtr (aH "shown" az) 0 .nil) (cs "^"))) (.ret (.call b8 (.cons (vr 0) .nil))) .skip)
  (.seq (.drop (.mtr (aH "skip" aL) 0 (.cons (cs "^") .nil)))
  (.ret (p2 bt (cs "^") (.call b8 (.cons (vr 0) .nil))))))
noncomputable def eM:Fn:=bX gds [.ino] 1 i5
def qt (K:Fg):Sp:=bu eM K
noncomputable def gF:XS :=
 (.drop (.mtr (aH "taken" aG) 0 (.cons (cs ",") (.cons (.mw (p2 eqP (.mtr (aH "shown" az) 0 .nil) (cs ",")) (vr 1)) .nil))))
noncomputable def cz:Fn:=bX gds [.ino,.dat] 2 gF
def nW (K:Fg):Sp:=bu cz K
noncomputable def fS:XS :=
 (.seq (.rJ 1 (.lst .nil))
  (.seq (.drop (.mtr (aH "skip" aL) 0 (.cons (cs "(") .nil)))
  (.seq (.wh 100000 (.tst (p2 neP (.mtr (aH "shown" az) 0 .nil) (cs ")"))) (.seq (.ifs (.tru (vr 1)) (.drop (.call cz (.cons (vr 0) (.cons (p2 ltP (p1 lZ (vr 1)) (ci 8)) .nil)))) .skip)
  (.seq (.bc 2 (.mtr (aH "shown" az) 0 .nil))
  (.drop (.mtr vt 1 (.cons (.mtr (aH "taken" aG) 0 (.cons (vr 2) (.cons (.mw (.call cZ (.cons (vr 2) .nil)) (p2 oM (vr 2) (vr 1))) .nil))) .nil))))))
  (.seq (.drop (.mtr (aH "skip" aL) 0 (.cons (cs ")") .nil)))
  (.ret (.tup (.cons (cs "closed") (.cons (p1 kH (p1 mP (vr 1))) .nil))))))))
noncomputable def cW:Fn:=bX gds [.ino] 3 fS
def lX (K:Fg):Sp:=bu cW K
noncomputable def iU:XS :=
 (.seq (.ifs (.or (.tst (p2 isP (.call cS (.cons (vr 0) .nil)) (.cst .n))) (.and (.tst (vr 3)) (.or (.tst (p2 inP (vr 0) (.glb 1))) (.tst (p2 eqP (vr 0) (cs "closed")))))) (.ret (.cst (.b false))) .skip)
  (.seq (.bc 4 (.ifx (.or (.tst (p2 inP (vr 0) (.glb 1))) (.tst (p2 eqP (vr 0) (cs "not")))) (ci 1) (ci 0)))
  (.ret (.mw (p2 leP (p2 bt (p2 bt (vr 1) (ci 1)) (vr 4)) (ci 40)) (p2 leP (p2 bt (vr 2) (vr 4)) (ci 8))))))
noncomputable def bx:Fn:=bX gds [.dat,.dat,.dat,.dat] 5 iU
def qD (K:Fg):Sp:=bu bx K
noncomputable def jX (F_read_part:Fn):XS :=
 (.seq (.drop (.mtr (aH "skip" aL) 0 (.cons (cs "(") .nil)))
  (.seq (.bc 3 (.call F_read_part (.cons (vr 0) (.cons (p2 bt (vr 1) (ci 1)) (.cons (vr 2) .nil)))))
  (.seq (.drop (.mtr (aH "skip" aL) 0 (.cons (cs ")") .nil)))
  (.ret (.tup (.cons (cs "not") (.cons (vr 3) .nil)))))))
noncomputable def jl (F_read_part:Fn):XS :=
 (.seq (.rJ 4 (.lst .nil))
  (.seq (.drop (.mtr (aH "skip" aL) 0 (.cons (cs "(") .nil)))
  (.seq (.wh 100000 (.tst (p2 neP (.mtr (aH "shown" az) 0 .nil) (cs ")"))) (.seq (.ifs (.tru (vr 4)) (.drop (.call cz (.cons (vr 0) (.cons (.mw (p2 ltP (p1 lZ (vr 4)) (ci 6)) (p2 ltP (p1 (sM "forms") (vr 0)) (ci 40))) .nil)))) .skip)
  (.drop (.mtr vt 4 (.cons (.call F_read_part (.cons (vr 0) (.cons (p2 bt (vr 2) (ci 1)) (.cons (vr 3) .nil)))) .nil)))))
  (.seq (.drop (.mtr (aH "skip" aL) 0 (.cons (cs ")") .nil)))
  (.ret (.tup (.cons (vr 1) (.cons (p1 kH (vr 4)) .nil))))))))
noncomputable def jC (F_read_part:Fn):XS :=
 (.seq (.drop (.mtr (aH "skip" aL) 0 (.cons (cs "(") .nil)))
  (.seq (.bc 3 (.call gu (.cons (vr 0) .nil)))
  (.seq (.drop (.mtr (aH "skip" aL) 0 (.cons (cs ",") .nil)))
  (.seq (.bc 4 (.call eR (.cons (vr 0) (.cons (vr 3) .nil))))
  (.seq (.drop (.mtr (aH "skip" aL) 0 (.cons (cs ",") .nil)))
  (.seq (.bc 5 (.call eM (.cons (vr 0) .nil)))
  (.seq (.drop (.mtr (aH "skip" aL) 0 (.cons (cs ",") .nil)))
  (.seq (.bc 6 (.call F_read_part (.cons (vr 0) (.cons (p2 bt (vr 2) (ci 1)) (.cons (.cst (.b true)) .nil)))))
  (.seq (.drop (.mtr (aH "skip" aL) 0 (.cons (cs ")") .nil)))
  (.ret (.tup (.cons (vr 1) (.cons (vr 3) (.cons (vr 4) (.cons (vr 5) (.cons (vr 6) .nil))))))))))))))))
noncomputable def jm (F_read_not:Fn) (F_read_list:Fn) (F_read_walk:Fn):XS :=
 (.seq (.bc 3 (.mtr (aH "shown" az) 0 .nil))
  (.seq (.drop (.mtr (aH "taken" aG) 0 (.cons (vr 3) (.cons (.call bx (.cons (vr 3) (.cons (p1 (sM "forms") (vr 0)) (.cons (vr 1) (.cons (vr 2) .nil))))) .nil))))
  (.seq (.sto (ve "forms") 0 (.cst .n) (p2 bt (p1 (sM "forms") (vr 0)) (ci 1)))
  (.seq (.ifs (.tst (p2 inP (vr 3) (.tup (.cons (cs "from") (.cons (cs "upto") .nil))))) (.ret (.tup (.cons (vr 3) (.cons (.call cY (.cons (vr 0) .nil)) .nil)))) .skip)
  (.seq (.ifs (.tst (p2 eqP (vr 3) (cs "is"))) (.ret (.tup (.cons (vr 3) (.cons (.call dM (.cons (vr 0) .nil)) .nil)))) .skip)
  (.seq (.ifs (.tst (p2 eqP (vr 3) (cs "keeps"))) (.ret (.tup (.cons (vr 3) (.cons (.call b8 (.cons (vr 0) .nil)) .nil)))) .skip)
  (.seq (.ifs (.tst (p2 eqP (vr 3) (cs "closed"))) (.ret (.call cW (.cons (vr 0) .nil))) .skip)
  (.seq (.ifs (.tst (p2 eqP (vr 3) (cs "not"))) (.ret (.call F_read_not (.cons (vr 0) (.cons (vr 1) (.cons (vr 2) .nil))))) .skip)
  (.seq (.ifs (.tst (p2 inP (vr 3) (.glb 0))) (.ret (.call F_read_list (.cons (vr 0) (.cons (vr 3) (.cons (vr 1) (.cons (vr 2) .nil)))))) .skip)
  (.seq (.ifs (.tst (p2 inP (vr 3) (.glb 1))) (.ret (.call F_read_walk (.cons (vr 0) (.cons (vr 3) (.cons (vr 1) .nil))))) .skip)
  (.ret (.tup (.cons (vr 3) .nil)))))))))))))
noncomputable def gw (F_read_part:Fn):Fn:=bX gds [.ino,.dat,.dat] 4 (jX F_read_part)
noncomputable def fw (F_read_part:Fn):Fn:=bX gds [.ino,.dat,.dat,.dat] 5 (jl F_read_part)
noncomputable def eK (F_read_part:Fn):Fn:=bX gds [.ino,.dat,.dat] 7 (jC F_read_part)
noncomputable def aC:Nat->Fn
 | 0=>Fn.no [.ino,.dat,.dat]
 | n+1=>bX gds [.ino,.dat,.dat] 4 (jm (gw (aC n)) (fw (aC n)) (eK (aC n)))
noncomputable def rO (n:Nat):Fn:=gw (aC n)
noncomputable def ou (n:Nat):Fn:=fw (aC n)
noncomputable def oK (n:Nat):Fn:=eK (aC n)
def rp (K:Fg) (n:Nat):Sp:=bu (rO n) K
def p4 (K:Fg) (n:Nat):Sp:=bu (ou n) K
def pH (K:Fg) (n:Nat):Sp:=bu (oK n) K
def jv (K:Fg) (n:Nat):Sp:=bu (aC n) K
noncomputable def oY:XS :=
 (.seq (.sto (ve "tokens") 0 (.cst .n) (.call eY (.cons (vr 1) .nil)))
  (.seq (.sto (ve "place") 0 (.cst .n) (ci 0))
  (.sto (ve "forms") 0 (.cst .n) (ci 0))))
noncomputable def lq:Fn:=bX gds [.ino,.dat] 2 oY
def wU (K:Fg):Sp:=bu lq K
noncomputable def jt:XS :=
 (.seq (.ifs (.not (.tst (p1 (oo "str") (vr 0)))) .nev .skip)
  (.seq (.rJ 1 (p1 (Gz lq) (vr 0)))
  (.seq (.bc 2 (.call (aC 8) (.cons (vr 1) (.cons (ci 1) (.cons (.cst (.b false)) .nil)))))
  (.seq (.drop (.mtr (aH "skip" aL) 1 (.cons (cs "") .nil)))
  (.ret (vr 2))))))
noncomputable def cR:Fn:=bX gds [.dat] 3 jt
def qA (K:Fg):Sp:=bu cR K
noncomputable def EX:XS :=
 (.ret (.lst (.cons (vr 0) (.cons (ci 0) (.cons (ci 0) .nil)))))
noncomputable def xm:Fn:=bX gds [.dat] 1 EX
def Dy (K:Fg):Sp:=bu xm K
noncomputable def vp:XS :=
 (.seq (.ifs (.tst (p2 gtP (p2 ixP (vr 0) (ci 2)) (ci 0))) (.seq (.bc 2 (p2 vd (p2 ixP (vr 0) (ci 2)) (vr 1)))
  (.seq (.sto uT 0 (ci 2) (p2 y3 (p2 ixP (vr 0) (ci 2)) (vr 1)))
  (.ret (vr 2)))) .skip)
  (.seq (.bc 3 (p2 ixP (vr 0) (ci 1)))
  (.seq (.sto uT 0 (ci 1) (p2 bt (vr 3) (ci 1)))
  (.seq (.bc 4 (ci 0))
  (.seq (.ifs (.tst (p2 gtP (p1 lZ (p2 ixP (vr 0) (ci 0))) (ci 0))) (.bc 4 (p2 ixP (p2 ixP (vr 0) (ci 0)) (p2 vd (vr 3) (p1 lZ (p2 ixP (vr 0) (ci 0)))))) .skip)
  (.seq (.ifs (.and (.tst (p2 ltP (vr 3) (p1 lZ (p2 ixP (vr 0) (ci 0))))) (.tst (p2 geP (p1 GC (vr 4)) (p2 z4 (ci 10) (ci 18))))) (.seq (.sto uT 0 (ci 2) (p2 y3 (p1 GC (vr 4)) (vr 1)))
  (.ret (p2 vd (p1 GC (vr 4)) (vr 1)))) .skip)
  (.seq (.bc 5 (p2 vd (p2 uB (p2 bt (p2 bt (p2 bt (p2 vd (vr 4) (ci 2147483629)) (p2 uB (p2 uB (ci 7919) (vr 3)) (vr 3))) (p2 uB (ci 41) (vr 3))) (ci 17)) (ci 48271)) (ci 2147483647)))
  (.seq (.bc 5 (p2 vd (p2 bt (p2 bt (p2 uB (vr 5) (vr 5)) (p2 uB (ci 69621) (vr 5))) (vr 3)) (ci 2147483587)))
  (.ret (p2 vd (p2 y3 (vr 5) (ci 7)) (vr 1)))))))))))
noncomputable def ak:Fn:=bX gds [.ino,.dat] 6 vp
def Ci (K:Fg):Sp:=bu ak K
noncomputable def tm:XS :=
 (.seq (.bc 2 (cs "abcdefghijklmnopqrstuvwxyz"))
  (.seq (.bc 3 (.met joinM (cs "") (.cons (.cmp [2,0] (.rng1 (.cons (ci 8) .nil)) .yes (p2 ixP (vr 1) (.call ak (.cons (vr 2) (.cons (ci 26) .nil))))) .nil)))
  (.seq (.bc 4 (.lst (.cons (cs "any") (.cons (cs "all") (.cons (cs "keeps") (.cons (cs "is") (.cons (cs "many") (.cons (cs "each") (.cons (cs "not") (.cons (cs "closed") .nil))))))))))
  (.seq (.bc 5 (.call ak (.cons (vr 0) (.cons (ci 4) .nil))))
  (.seq (.bc 6 (p2 bt (ci 1) (.call ak (.cons (vr 0) (.cons (ci 8) .nil)))))
  (.seq (.bc 7 (.call ak (.cons (vr 0) (.cons (vr 6) .nil))))
  (.seq (.bc 8 (.call ak (.cons (vr 0) (.cons (ci 26) .nil))))
  (.seq (.rJ 9 (.lst .nil))
  (.seq (.fr 10 (.rng1 (.cons (vr 1) .nil)) (.seq (.bc 11 (p2 ixP (vr 2) (p2 vd (p2 bt (vr 8) (p2 uB (ci 5) (vr 10))) (ci 26))))
  (.ifs (.and (.tst (p2 eqP (vr 5) (ci 0))) (.tst (p2 ltP (vr 1) (ci 9)))) (.drop (.mtr vt 9 (.cons (p2 GO (vr 3) (p2 bt (p2 vd (p2 bt (vr 8) (p2 uB (ci 3) (vr 10))) (ci 8)) (ci 1))) .nil))) (.ifs (.and (.tst (p2 eqP (vr 5) (ci 1))) (.tst (p2 ltP (vr 1) (ci 9)))) (.drop (.mtr vt 9 (.cons (p2 ixP (vr 4) (p2 vd (p2 bt (vr 8) (vr 10)) (ci 8))) .nil))) (.ifs (.tst (p2 eqP (vr 5) (ci 2))) (.drop (.mtr vt 9 (.cons (p2 bt (p2 ixP (vr 4) (p2 vd (vr 10) (ci 8))) (vr 11)) .nil))) (.drop (.mtr vt 9 (.cons (p2 bt (p2 bt (p2 GO (vr 3) (vr 7)) (vr 11)) (.sl2 Kw (vr 3) (p2 bt (vr 7) (ci 1)) (vr 6))) .nil))))))))
  (.ret (.tke 9)))))))))))
noncomputable def n4:Fn:=bX gds [.ino,.dat] 12 tm
def yw (K:Fg):Sp:=bu n4 K
noncomputable def qq:XS :=
 (.seq (.bc 1 (.call ak (.cons (vr 0) (.cons (ci 4) .nil))))
  (.seq (.bc 2 (.call ak (.cons (vr 0) (.cons (ci 21) .nil))))
  (.seq (.ifs (.tst (p2 eqP (vr 1) (ci 1))) (.bc 2 (p2 vj (p2 vj (p2 z4 (ci 10) (ci 30)) (ci 1)) (.call ak (.cons (vr 0) (.cons (ci 3) .nil))))) .skip)
  (.seq (.ifs (.tst (p2 eqP (vr 1) (ci 2))) (.bc 2 (p2 bt (p2 uB (p2 bt (p2 uB (.call ak (.cons (vr 0) (.cons (p2 z4 (ci 10) (ci 9)) .nil))) (p2 z4 (ci 10) (ci 9))) (.call ak (.cons (vr 0) (.cons (p2 z4 (ci 10) (ci 9)) .nil)))) (p2 z4 (ci 10) (ci 12))) (.call ak (.cons (vr 0) (.cons (p2 z4 (ci 10) (ci 12)) .nil))))) .skip)
  (.seq (.ifs (.tst (p2 eqP (.call ak (.cons (vr 0) (.cons (ci 3) .nil))) (ci 0))) (.bc 2 (p2 vj (ci 0) (vr 2))) .skip)
  (.ret (vr 2)))))))
noncomputable def hG:Fn:=bX gds [.ino] 3 qq
def wx (K:Fg):Sp:=bu hG K
noncomputable def wF:XS :=
 (.seq (.bc 2 (.call ak (.cons (vr 0) (.cons (ci 3) .nil))))
  (.seq (.ifs (.tst (p2 eqP (vr 2) (ci 0))) (.ret (p2 ixP (vr 1) (.call ak (.cons (vr 0) (.cons (p1 lZ (vr 1)) .nil))))) .skip)
  (.seq (.ifs (.tst (p2 eqP (vr 2) (ci 1))) (.ret (.call hG (.cons (vr 0) .nil))) .skip)
  (.seq (.bc 3 (cs ""))
  (.seq (.fr 4 (.rng1 (.cons (p2 ixP (.lst (.cons (ci 0) (.cons (ci 8) (.cons (p2 bt (ci 1) (.call ak (.cons (vr 0) (.cons (ci 8) .nil)))) (.cons (ci 3) .nil))))) (.call ak (.cons (vr 0) (.cons (ci 4) .nil)))) .nil)) (.bc 3 (p2 bt (vr 3) (p2 ixP (cs "abcdefghijklmnopqrstuvwxyz") (.call ak (.cons (vr 0) (.cons (ci 26) .nil)))))))
  (.ret (.tup (.cons (vr 3) .nil))))))))
noncomputable def rM:Fn:=bX gds [.ino,.dat] 5 wF
def CJ (K:Fg):Sp:=bu rM K
noncomputable def Aj:XS :=
 (.seq (.bc 3 (p2 ixP (.lst (.cons (cs "any") (.cons (cs "thing") (.cons (cs "number") (.cons (cs "said") (.cons (cs "from") (.cons (cs "upto") (.cons (cs "is") (.cons (cs "keeps") (.cons (cs "keeps") (.cons (cs "closed") .nil))))))))))) (.call ak (.cons (vr 0) (.cons (ci 10) .nil)))))
  (.seq (.ifs (.tst (p2 inP (vr 3) (.tup (.cons (cs "from") (.cons (cs "upto") .nil))))) (.ret (.tup (.cons (vr 3) (.cons (.call hG (.cons (vr 0) .nil)) .nil)))) .skip)
  (.seq (.ifs (.tst (p2 eqP (vr 3) (cs "is"))) (.ret (.tup (.cons (vr 3) (.cons (.call rM (.cons (vr 0) (.cons (vr 1) .nil))) .nil)))) .skip)
  (.seq (.ifs (.or (.tst (p2 eqP (vr 3) (cs "keeps"))) (.and (.tst (p2 eqP (vr 3) (cs "closed"))) (.not (.tst (vr 2))))) (.ret (.tup (.cons (cs "keeps") (.cons (p2 ixP (vr 1) (.call ak (.cons (vr 0) (.cons (p1 lZ (vr 1)) .nil)))) .nil)))) .skip)
  (.seq (.ifs (.tst (p2 eqP (vr 3) (cs "closed"))) (.ret (.tup (.cons (vr 3) (.cons (p1 kH (p1 mP (p2 GO (vr 1) (.call ak (.cons (vr 0) (.cons (p2 bt (p1 lZ (vr 1)) (ci 1)) .nil)))))) .nil)))) .skip)
  (.ret (.tup (.cons (vr 3) .nil))))))))
noncomputable def vU:Fn:=bX gds [.ino,.dat,.dat] 4 Aj
def Fb (K:Fg):Sp:=bu vU K
noncomputable def tj:XS :=
 (.seq (.bc 2 (p2 ixP (.lst (.cons (ci 0) (.cons (ci 0) (.cons (ci 1) (.cons (ci 2) (.cons (ci 60) (.cons (.call ak (.cons (vr 0) (.cons (ci 61) .nil))) .nil))))))) (.call ak (.cons (vr 0) (.cons (ci 6) .nil)))))
  (.seq (.bc 3 (p2 ixP (.lst (.cons (.cst .n) (.cons (vr 2) (.cons (p2 bt (vr 2) (.call ak (.cons (vr 0) (.cons (p2 vj (ci 61) (vr 2)) .nil)))) .nil)))) (.call ak (.cons (vr 0) (.cons (ci 3) .nil)))))
  (.seq (.bc 4 (p2 bt (p2 ixP (.lst (.cons (cs "") (.cons (cs "") (.cons (cs "^") .nil)))) (.call ak (.cons (vr 0) (.cons (ci 3) .nil)))) (p2 ixP (vr 1) (.call ak (.cons (vr 0) (.cons (p1 lZ (vr 1)) .nil))))))
  (.ret (.tup (.cons (p2 ixP (.lst (.cons (cs "many") (.cons (cs "each") .nil))) (.call ak (.cons (vr 0) (.cons (ci 2) .nil)))) (.cons (vr 2) (.cons (vr 3) (.cons (vr 4) .nil)))))))))
noncomputable def m5:Fn:=bX gds [.ino,.dat] 5 tj
def zw (K:Fg):Sp:=bu m5 K
noncomputable def w8 (F_form:Fn):XS :=
 (.seq (.bc 5 (.call ak (.cons (vr 0) (.cons (ci 10) .nil))))
  (.seq (.ifs (.or (.tst (p2 ltP (vr 5) (ci 3))) (.or (.tst (p2 ltP (vr 3) (ci 2))) (.tst (p2 ltP (p2 ixP (vr 2) (ci 0)) (ci 1))))) (.ret (.call vU (.cons (vr 0) (.cons (vr 1) (.cons (vr 4) .nil))))) .skip)
  (.seq (.ifs (.tst (p2 eqP (vr 5) (ci 3))) (.seq (.sto uT 2 (ci 0) (p2 vj (p2 ixP (vr 2) (ci 0)) (ci 1)))
  (.ret (.tup (.cons (cs "not") (.cons (.call F_form (.cons (vr 0) (.cons (vr 1) (.cons (vr 2) (.cons (p2 vj (vr 3) (ci 1)) (.cons (vr 4) .nil)))))) .nil))))) .skip)
  (.seq (.ifs (.and (.tst (p2 ltP (vr 5) (ci 7))) (.tst (vr 4))) (.seq (.sto uT 2 (ci 0) (p2 vj (p2 ixP (vr 2) (ci 0)) (ci 1)))
  (.ret (p2 bt (.call m5 (.cons (vr 0) (.cons (vr 1) .nil))) (.tup (.cons (.call F_form (.cons (vr 0) (.cons (vr 1) (.cons (vr 2) (.cons (p2 vj (vr 3) (ci 1)) (.cons (.cst (.b false)) .nil)))))) .nil))))) .skip)
  (.seq (.bc 6 (p2 J9 (.call ak (.cons (vr 0) (.cons (ci 7) .nil))) (p2 ixP (vr 2) (ci 0))))
  (.seq (.sto uT 2 (ci 0) (p2 vj (p2 ixP (vr 2) (ci 0)) (vr 6)))
  (.seq (.bc 7 (.cmp [0,1,2,4,3] (.rng1 (.cons (vr 6) .nil)) .yes (.call F_form (.cons (vr 1) (.cons (vr 2) (.cons (vr 3) (.cons (p2 vj (vr 5) (ci 1)) (.cons (vr 4) .nil))))))))
  (.ret (.tup (.cons (p2 ixP (.lst (.cons (cs "all") (.cons (cs "some") (.cons (cs "one") (.cons (cs "none") .nil))))) (.call ak (.cons (vr 0) (.cons (ci 4) .nil)))) (.cons (p1 kH (vr 7)) .nil)))))))))))
noncomputable def iO:Nat->Fn
 | 0=>Fn.no [.ino,.dat,.ino,.dat,.dat]
 | n+1=>bX gds [.ino,.dat,.ino,.dat,.dat] 8 (w8 (iO n))
def xW (K:Fg) (n:Nat):Sp:=bu (iO n) K
noncomputable def sg:XS :=
 (.seq (.ifs (.tst (p2 eqP (p2 ixP (vr 0) (ci 0)) (cs "not"))) (.ret (.lst (.cons (p2 ixP (vr 0) (ci 1)) .nil))) .skip)
  (.seq (.ifs (.tst (p2 inP (p2 ixP (vr 0) (ci 0)) (.tup (.cons (cs "many") (.cons (cs "each") .nil))))) (.ret (.lst (.cons (p2 ixP (vr 0) (ci 4)) .nil))) .skip)
  (.seq (.ifs (.tst (p2 inP (p2 ixP (vr 0) (ci 0)) (.tup (.cons (cs "all") (.cons (cs "some") (.cons (cs "one") (.cons (cs "none") .nil))))))) (.ret (p1 FZ (p2 ixP (vr 0) (ci 1)))) .skip)
  (.ret (.lst .nil)))))
noncomputable def nZ:Fn:=bX gds [.dat] 1 sg
def yL (K:Fg):Sp:=bu nZ K
noncomputable def i4:XS :=
 (.seq (.ifs (.tst (p1 (oo "tuple") (vr 0))) (.ret (p2 bt (cs "'") (p2 ixP (vr 0) (ci 0)))) .skip)
  (.ret (p1 uO (vr 0))))
noncomputable def e7:Fn:=bX gds [.dat] 1 i4
def jc (K:Fg):Sp:=bu e7 K
noncomputable def qm:XS :=
 (.seq (.rJ 1 (.lst .nil))
  (.seq (.fr 2 (.lst (vr 0)) (.seq (.ifs (.tst (p2 neP (vr 1) (.lst .nil))) (.drop (.mtr vt 1 (.cons (cs ",") .nil))) .skip)
  (.drop (.mtr J3 1 (.cons (vr 2) .nil)))))
  (.ret (.tke 1))))
noncomputable def c5:Fn:=bX gds [.dat] 3 qm
def hX (K:Fg):Sp:=bu c5 K
noncomputable def kZ (F_tokens:Fn):XS :=
 (.seq (.bc 1 (p2 ixP (vr 0) (ci 0)))
  (.seq (.ifs (.tst (p2 eqP (vr 1) (cs "is"))) (.ret (.lst (.cons (vr 1) (.cons (.call e7 (.cons (p2 ixP (vr 0) (ci 1)) .nil)) .nil)))) .skip)
  (.seq (.ifs (.tst (p2 inP (vr 1) (.tup (.cons (cs "from") (.cons (cs "upto") (.cons (cs "keeps") .nil)))))) (.ret (.lst (.cons (vr 1) (.cons (p1 uO (p2 ixP (vr 0) (ci 1))) .nil)))) .skip)
  (.seq (.ifs (.tst (p2 eqP (vr 1) (cs "closed"))) (.ret (p2 bt (p2 bt (.lst (.cons (vr 1) (.cons (cs "(") .nil))) (.call c5 (.cons (.cmp [] (.tup (p2 ixP (vr 0) (ci 1))) .yes (.lst (.cons (vr 0) .nil))) .nil))) (.lst (.cons (cs ")") .nil)))) .skip)
  (.seq (.ifs (.tst (p2 eqP (vr 1) (cs "not"))) (.ret (p2 bt (p2 bt (.lst (.cons (vr 1) (.cons (cs "(") .nil))) (.call F_tokens (.cons (p2 ixP (vr 0) (ci 1)) .nil))) (.lst (.cons (cs ")") .nil)))) .skip)
  (.seq (.ifs (.tst (p2 inP (vr 1) (.tup (.cons (cs "many") (.cons (cs "each") .nil))))) (.seq (.bc 2 (p2 ixP (.lst (.cons (cs "*") (.cons (p1 uO (p2 ixP (vr 0) (ci 2))) .nil))) (p1 mS (p2 oJ (p2 ixP (vr 0) (ci 2)) (.cst .n)))))
  (.seq (.bc 3 (.lst (.cons (p2 ixP (vr 0) (ci 3)) .nil)))
  (.seq (.ifs (.tst (p2 eqP (p2 ixP (p2 ixP (vr 0) (ci 3)) (ci 0)) (cs "^"))) (.bc 3 (.lst (.cons (cs "^") (.cons (p2 JR (p2 ixP (vr 0) (ci 3)) (ci 1)) .nil)))) .skip)
  (.ret (p2 bt (p2 bt (.lst (.cons (vr 1) (.cons (cs "(") .nil))) (.call c5 (.cons (.lst (.cons (.lst (.cons (p1 uO (p2 ixP (vr 0) (ci 1))) .nil)) (.cons (.lst (.cons (vr 2) .nil)) (.cons (vr 3) (.cons (.call F_tokens (.cons (p2 ixP (vr 0) (ci 4)) .nil)) .nil))))) .nil))) (.lst (.cons (cs ")") .nil))))))) .skip)
  (.seq (.ifs (.tst (p2 inP (vr 1) (.tup (.cons (cs "all") (.cons (cs "some") (.cons (cs "one") (.cons (cs "none") .nil))))))) (.ret (p2 bt (p2 bt (.lst (.cons (vr 1) (.cons (cs "(") .nil))) (.call c5 (.cons (.cmp [] (.tup (p2 ixP (vr 0) (ci 1))) .yes (.call F_tokens (.cons (vr 0) .nil))) .nil))) (.lst (.cons (cs ")") .nil)))) .skip)
  (.ret (.lst (.cons (vr 1) .nil))))))))))
noncomputable def cJ:Nat->Fn
 | 0=>Fn.no [.dat]
 | n+1=>bX gds [.dat] 4 (kZ (cJ n))
def fE (K:Fg) (n:Nat):Sp:=bu (cJ n) K
noncomputable def xr:XS :=
 (.seq (.bc 2 (cs "abcdefghijklmnopqrstuvwxyz"))
  (.seq (.bc 3 (cs "0123456789"))
  (.ret (.orv (.mw (p2 inP (p2 ixP (vr 0) (p1 Gw (ci 1))) (p2 bt (vr 2) (cs "'"))) (p2 inP (p2 ixP (vr 1) (ci 0)) (vr 2))) (.mw (p2 inP (p2 ixP (vr 0) (p1 Gw (ci 1))) (p2 bt (vr 3) (cs "-"))) (p2 inP (p2 ixP (vr 1) (ci 0)) (vr 3)))))))
noncomputable def rh:Fn:=bX gds [.dat,.dat] 4 xr
def Cr (K:Fg):Sp:=bu rh K
noncomputable def vP:XS :=
 (.seq (.bc 2 (p2 ixP (.lst (.cons (ci 1) (.cons (ci 2) (.cons (ci 4) .nil)))) (.call ak (.cons (vr 0) (.cons (ci 3) .nil)))))
  (.seq (.bc 3 (p2 vv (cs " ") (.call ak (.cons (vr 0) (.cons (vr 2) .nil)))))
  (.seq (.rJ 4 (.lst .nil))
  (.seq (.fr 5 (.rng1 (.cons (p1 lZ (vr 1)) .nil)) (.seq (.bc 6 (.call ak (.cons (vr 0) (.cons (vr 2) .nil))))
  (.seq (.ifs (.and (.tst (p2 gtP (vr 5) (ci 0))) (.and (.tst (p2 eqP (vr 6) (ci 0))) (.tst (.call rh (.cons (p2 ixP (vr 1) (p2 vj (vr 5) (ci 1))) (.cons (p2 ixP (vr 1) (vr 5)) .nil)))))) (.bc 6 (ci 1)) .skip)
  (.seq (.bc 3 (p2 bt (vr 3) (p2 vv (cs " ") (p2 uB (vr 6) (p1 mS (p2 gtP (vr 5) (ci 0)))))))
  (.seq (.drop (.mtr vt 4 (.cons (p1 lZ (vr 3)) .nil)))
  (.bc 3 (p2 bt (vr 3) (p2 ixP (vr 1) (vr 5)))))))))
  (.ret (.tup (.cons (vr 3) (.cons (.tke 4) .nil))))))))
noncomputable def rn:Fn:=bX gds [.ino,.dat] 7 vP
def Br (K:Fg):Sp:=bu rn K
noncomputable def p8 (F_turned:Fn):XS :=
 (.seq (.ifs (.tst (p2 eqP (p2 ixP (vr 1) (ci 0)) (cs "closed"))) (.seq (.rJ 2 (.lst .nil))
  (.seq (.fr 3 (.tup (p2 ixP (vr 1) (ci 1))) (.drop (.mtr KO 2 (.cons (.call ak (.cons (vr 0) (.cons (p2 bt (p1 lZ (vr 2)) (ci 1)) .nil))) (.cons (vr 3) .nil)))))
  (.ret (.tup (.cons (cs "closed") (.cons (p1 kH (vr 2)) .nil)))))) .skip)
  (.seq (.bc 4 (p1 kH (.cmp [0] (.lst (.call nZ (.cons (vr 1) .nil))) .yes (.call F_turned (.cons (vr 1) (.cons (vr 0) .nil))))))
  (.seq (.ifs (.tst (p2 eqP (p2 ixP (vr 1) (ci 0)) (cs "not"))) (.ret (p2 bt (.tup (.cons (cs "not") .nil)) (vr 4))) .skip)
  (.seq (.ifs (.tst (p2 inP (p2 ixP (vr 1) (ci 0)) (.tup (.cons (cs "many") (.cons (cs "each") .nil))))) (.ret (p2 bt (p2 GO (vr 1) (ci 4)) (vr 4))) .skip)
  (.seq (.ifs (.tst (p2 inP (p2 ixP (vr 1) (ci 0)) (.tup (.cons (cs "all") (.cons (cs "some") (.cons (cs "one") (.cons (cs "none") .nil))))))) (.ret (.tup (.cons (p2 ixP (vr 1) (ci 0)) (.cons (vr 4) .nil)))) .skip)
  (.ret (vr 1)))))))
noncomputable def dw:Nat->Fn
 | 0=>Fn.no [.ino,.dat]
 | n+1=>bX gds [.ino,.dat] 5 (p8 (dw n))
def pq (K:Fg) (n:Nat):Sp:=bu (dw n) K
noncomputable def sX (F_alike:Fn):XS :=
 (.seq (.ifs (.tst (p1 (oo "tuple") (vr 1))) (.seq (.ifs (.or (.not (.tst (p1 (oo "tuple") (vr 0)))) (.tst (p2 neP (p1 lZ (vr 0)) (p1 lZ (vr 1))))) (.ret (.cst (.b false))) .skip)
  (.ret (p2 oM (.cst (.b false)) (.CP ["_law_one", "_law_other"] [] (.zip (.cons (vr 0) (.cons (vr 1) .nil))) (.call F_alike (.cons (vr 0) (.cons (vr 1) .nil))))))) .skip)
  (.seq (.ifs (.tst (p1 (oo "str") (vr 1))) (.ret (.mw (p1 (oo "str") (vr 0)) (p2 eqP (vr 0) (vr 1)))) .skip)
  (.seq (.ifs (.tst (p2 isP (vr 1) (.cst .n))) (.ret (p2 isP (vr 0) (.cst .n))) .skip)
  (.ret (.mw (p1 (oo "int") (vr 0)) (.mw (.B0 (p1 (oo "bool") (vr 0))) (p2 eqP (vr 0) (vr 1))))))))
noncomputable def dO:Nat->Fn
 | 0=>Fn.no [.dat,.dat]
 | n+1=>bX gds [.dat,.dat] 2 (sX (dO n))
def tO (K:Fg) (n:Nat):Sp:=bu (dO n) K
noncomputable def z8:XS :=
 (.seq (.rJ 1 (.call xm (.cons (vr 0) .nil)))
  (.seq (.fr 2 (.rng1 (.cons (ci 3) .nil)) (.seq (.bc 3 (.call n4 (.cons (vr 1) (.cons (ci 6) .nil))))
  (.seq (.seq (.drop (vr 1)) (.seq (.drop (vr 3)) (.seq (.rJ 7 (.lst (.cons (p2 ixP (.lst (.cons (ci 3) (.cons (ci 12) (.cons (ci 39) .nil)))) (.call ak (.cons (vr 1) (.cons (ci 3) .nil)))) .nil))) (.bc 4 (.call (iO 8) (.cons (vr 1) (.cons (vr 3) (.cons (vr 7) (.cons (p2 ixP (.lst (.cons (ci 3) (.cons (ci 8) .nil))) (.call ak (.cons (vr 1) (.cons (ci 2) .nil)))) (.cons (.cst (.b true)) .nil))))))))))
  (.seq (.C1 [5,6] (.call rn (.cons (vr 1) (.cons (.call (cJ 8) (.cons (.call (dw 8) (.cons (vr 1) (.cons (vr 4) .nil))) .nil)) .nil))))
  (.seq (.bc 5 (p2 bt (vr 5) (p2 vv (cs " ") (.call ak (.cons (vr 1) (.cons (ci 3) .nil))))))
  (.ifs (.or (.not (.tst (.call (dO 30) (.cons (.call cR (.cons (vr 5) .nil)) (.cons (vr 4) .nil))))) (.not (.tst (.call (dO 30) (.cons (.call cR (.cons (.call (aM 8) (.cons (vr 4) .nil)) .nil)) (.cons (vr 4) .nil)))))) (.ret (.cst (.b false))) .skip))))))
  (.ret (.cst (.b true)))))
noncomputable def Ao:Fn:=bX gds [.dat] 8 z8
def wc (K:Fg):Sp:=bu Ao K
section
variable (P:Program) (w:World) (K:Fg) (mg:Str->Option Value) (base:Heap) (t:Adr)
abbrev dH:=aO P w K mg base CX0 1 (t.f 0).1 (t.f 0).2 ["thing", "fewest"] (lK K)
abbrev gH:=aO P w K mg base CX0 2 (t.f 1).1 (t.f 1).2 ["thing"] (vc K)
abbrev iJ:=aO P w K mg base CX0 1 (t.f 2).1 (t.f 2).2 ["thing"] (qO K)
abbrev oE:=aO P w K mg base CX0 2 (t.f 3).1 (t.f 3).2 ["thing"] (uo K)
abbrev pM:=aO P w K mg base CX0 1 (t.f 4).1 (t.f 4).2 ["node"] (u7 K)
abbrev kR:=aO P w K mg base CX0 2 (t.f 5).1 (t.f 5).2 ["node"] (p0 K)
abbrev j4:=aO P w K mg base CX0 1 (t.f 6).1 (t.f 6).2 ["text"] (qB K)
abbrev fj:=aO P w K mg base CX0 3 (t.f 7).1 (t.f 7).2 ["text"] (uL K)
abbrev gq:=aO P w K mg base CX0 1 (t.f 8).1 (t.f 8).2 ["word"] (pG K)
abbrev fx:=aO P w K mg base CX0 2 (t.f 9).1 (t.f 9).2 ["low", "high"] (m7 K)
abbrev d8:=aO P w K mg base CX0 1 (t.f 10).1 (t.f 10).2 ["form"] (iB K)
abbrev qG:=aO P w K mg base CX0 1 (t.f 11).1 (t.f 11).2 ["text", "at", "signs"] (uy K)
abbrev j6:=aO P w K mg base CX0 2 (t.f 12).1 (t.f 12).2 ["text", "at"] (qd K)
abbrev jZ:=aO P w K mg base CX0 3 (t.f 13).1 (t.f 13).2 ["text"] (jf K)
abbrev kJ:=aO P w K mg base CX0 1 (t.f 14).1 (t.f 14).2 ["high"] (qb K)
abbrev dX (l n:Nat):=aO P w K mg base CX0 l (t.f 15).1 (t.f 15).2 ["form"] (lI K n)
abbrev cN (l n:Nat):=aO P w K mg base CX0 l (t.f 16).1 (t.f 16).2 ["form"] (iZ K n)
abbrev gg:=aO P w K mg base CX0 3 (t.f 17).1 (t.f 17).2 ["reader"] (ql K)
abbrev jk:=aO P w K mg base CX0 4 (t.f 18).1 (t.f 18).2 ["reader"] (nu K)
abbrev g0:=aO P w K mg base CX0 4 (t.f 19).1 (t.f 19).2 ["reader"] (lF K)
abbrev mf:=aO P w K mg base CX0 4 (t.f 20).1 (t.f 20).2 ["reader"] (rY K)
abbrev kP:=aO P w K mg base CX0 4 (t.f 21).1 (t.f 21).2 ["reader", "low"] (oP K)
abbrev ll:=aO P w K mg base CX0 4 (t.f 22).1 (t.f 22).2 ["reader"] (qt K)
abbrev fc:=aO P w K mg base CX0 2 (t.f 23).1 (t.f 23).2 ["reader", "has_room"] (nW K)
abbrev ij:=aO P w K mg base CX0 3 (t.f 24).1 (t.f 24).2 ["reader"] (lX K)
abbrev iy (l n:Nat):=aO P w K mg base CX0 l (t.f 25).1 (t.f 25).2 ["reader", "depth", "walked"] (rp K n)
abbrev gs (l n:Nat):=aO P w K mg base CX0 l (t.f 26).1 (t.f 26).2 ["reader", "head", "depth", "walked"] (p4 K n)
abbrev gk (l n:Nat):=aO P w K mg base CX0 l (t.f 27).1 (t.f 27).2 ["reader", "head", "depth"] (pH K n)
abbrev j8:=aO P w K mg base CX0 2 (t.f 28).1 (t.f 28).2 ["head", "forms", "depth", "walked"] (qD K)
abbrev bQ (l n:Nat):=aO P w K mg base CX0 l (t.f 29).1 (t.f 29).2 ["reader", "depth", "walked"] (jv K n)
abbrev ly:=aO P w K mg base CX0 26 (t.f 30).1 (t.f 30).2 ["text"] (qA K)
abbrev E7:=aO P w K mg base CX0 1 (t.f 31).1 (t.f 31).2 ["_law_script"] (Dy K)
abbrev fX:=aO P w K mg base CX0 1 (t.f 32).1 (t.f 32).2 ["_law_pen_here", "_law_most"] (Ci K)
abbrev vD:=aO P w K mg base CX0 2 (t.f 33).1 (t.f 33).2 ["_law_pen_here", "_law_many"] (yw K)
abbrev nM:=aO P w K mg base CX0 2 (t.f 34).1 (t.f 34).2 ["_law_pen_here"] (wx K)
abbrev Ax:=aO P w K mg base CX0 3 (t.f 35).1 (t.f 35).2 ["_law_pen_here", "_law_things"] (CJ K)
abbrev Eo:=aO P w K mg base CX0 4 (t.f 36).1 (t.f 36).2 ["_law_pen_here", "_law_names_here", "_law_free"] (Fb K)
abbrev vJ:=aO P w K mg base CX0 2 (t.f 37).1 (t.f 37).2 ["_law_pen_here", "_law_names_here"] (zw K)
abbrev qo (l n:Nat):=aO P w K mg base CX0 l (t.f 38).1 (t.f 38).2 ["_law_pen_here", "_law_names_here", "_law_room", "_law_deep", "_law_free"] (xW K n)
abbrev vz:=aO P w K mg base CX0 1 (t.f 39).1 (t.f 39).2 ["_law_form_here"] (yL K)
abbrev gi:=aO P w K mg base CX0 1 (t.f 40).1 (t.f 40).2 ["_law_node_here"] (jc K)
abbrev nO:=aO P w K mg base CX0 1 (t.f 41).1 (t.f 41).2 ["_law_rows"] (hX K)
abbrev fM (l n:Nat):=aO P w K mg base CX0 l (t.f 42).1 (t.f 42).2 ["_law_form_here"] (fE K n)
abbrev AD:=aO P w K mg base CX0 1 (t.f 43).1 (t.f 43).2 ["_law_one", "_law_other"] (Cr K)
abbrev Ay:=aO P w K mg base CX0 2 (t.f 44).1 (t.f 44).2 ["_law_pen_here", "_law_tokens_here"] (Br K)
abbrev ig (l n:Nat):=aO P w K mg base CX0 l (t.f 45).1 (t.f 45).2 ["_law_pen_here", "_law_form_here"] (pq K n)
abbrev kA (l n:Nat):=aO P w K mg base CX0 l (t.f 46).1 (t.f 46).2 ["_law_found", "_law_due"] (tO K n)
abbrev Iz:=aO P w K mg base CX0 32 (t.f 47).1 (t.f 47).2 ["_law_script"] (wc K)
abbrev tE:=aO P w K mg base CX0 4 t.mX t.mT ["self", "text"] (wU K)
abbrev ba:=aO P w K mg base CX0 1 t.lB t.ky ["self"] (uM K)
abbrev bL:=aO P w K mg base CX0 1 t.kG t.kf ["self", "value", "fits"] (t8 K)
abbrev dJ:=aO P w K mg base CX0 2 t.nQ t.oa ["self", "token"] (vq K)
end
section
variable {P:Program} {w:World} {K:Fg} {mg:Str->Option Value} {base:Heap} {t:Adr} {n:Nat} {cdv:Value} {A:Around} {outer:List Env} {s:Shared} {H:Hp} {E:XK}
theorem lY (T:Txt w K mg t):dH P w K mg base t :=
 (T.d 0 rfl).ok lT (aJ T) fun hr=>ai (br (eW (vi (iL (eUx (eIz T.z_isinstance (eVx 0) T.z_str))) (kU (iL (r8 cV cV (eVx 1) (eBs aT T.z_len (eAx (eVx 0) ae)) (cA (v:=.int 8) rfl T.g_MOST_LETTERS ⟨_,rfl⟩ rfl) (by with_unfolding_all rfl)))))) (ax (aI eBl)) bz) (ax (aI (eBs (wW rfl) T.z_all (eAx (eKx [] (eIS (eVx 0)) eT0 (eC fun _ _ _ _=>(x9 cV cV aw (eVx 0) aw (by with_unfolding_all rfl))) (bsc (sc:=aa cE) rfl (by decide +kernel)) trivial) ae))))
theorem uF (T:Txt w K mg t) (G0:dH P w K mg base t):gH P w K mg base t :=
 (T.d 1 rfl).ok uz (aJ T) fun hr=>ax (aI (eCx G0 hr (T.d 0 rfl) (eAx (eVx 0) (eAx ah ae))))
theorem rq (T:Txt w K mg t):iJ P w K mg base t :=
 (T.d 2 rfl).ok rG (aJ T) fun hr=>ax (aI (tV (eIz T.z_isinstance (eVx 0) T.z_int) (tf (J4 (eIz T.z_isinstance (eVx 0) T.z_bool)))))
theorem uN (T:Txt w K mg t) (G0:dH P w K mg base t):oE P w K mg base t :=
 (T.d 3 rfl).ok ux (aJ T) fun hr=>ax (aI (tV (eIz T.z_isinstance (eVx 0) T.z_tuple) (tV (lD (aA hr.units) (eBs aT T.z_len (eAx (eVx 0) ae)) ah (bN _)) (tf (eCx G0 hr (T.d 0 rfl) (eAx (eIy (eVx 0) ah) (eAx ah ae)))))))
theorem uV (T:Txt w K mg t):pM P w K mg base t :=
 (T.d 4 rfl).ok u2 (aJ T) fun hr=>ai (br (eUx (eIz T.z_isinstance (eVx 0) T.z_str)) (ax (aI aw)) bz) (ai (br (eUx (eIz T.z_isinstance (eVx 0) T.z_tuple)) (ax (aI aw)) bz) (ax (aI aw)))
theorem o5 (T:Txt w K mg t) (G4:pM P w K mg base t):kR P w K mg base t :=
 (T.d 5 rfl).ok iV (aJ T) fun hr=>ai (eSx iV.nd 1 (eCx G4 hr (T.d 4 rfl) (eAx (eVx 0) ae))) (ai (br (eTx (aA hr.units) (eVx 1) aw) (ax (aI (eTs fg T.z_str (eAx (eVx 0) ae)))) bz) (ai (br (eTx (aA hr.units) (eVx 1) aw) (ax (aI (eOp ag aw (eIy (eVx 0) ah)))) bz) (ax (aI (eVx 0)))))
theorem pU (T:Txt w K mg t):j4 P w K mg base t :=
 (T.d 6 rfl).ok ft (aJ T) fun hr=>ai (eSx ft.nd 1 (eIf (eUx (eBM (eVx 0) (eAx aw ae) oQ Nt PySem.F.slot_str_startswith PySem.F.type_str_startswith rfl rfl rfl rfl rfl)) (eSl (orS ip (orS d4 g7)) (eVx 0) (eP ah) Cz) (eVx 0))) (ai (br (eW (vi (iL (r8 cV cV ah (eBs aT T.z_len (eAx (eVx 1) ae)) (cA (v:=.int 30) rfl T.g_MOST_FIGURES ⟨_,rfl⟩ rfl) (by with_unfolding_all rfl))) (kU (iL (eUx (eBs (wW rfl) T.z_all (eAx (eKx [] (eIS (eVx 1)) eT0 (eC fun _ _ _ _=>(x9 cV cV aw (eVx 0) aw (by with_unfolding_all rfl))) (bsc (sc:=aa dU) rfl (by decide +kernel)) trivial) ae))))))) (ax (aI rB)) bz) (ai (eSx ft.nd 2 (eTs nE T.z_int (eAx (eVx 0) ae))) (ax (aI (eIf (eTx (aA hr.units) (eTs fg T.z_str (eAx (eVx 2) ae)) (eVx 0)) (eVx 2) rB)))))
theorem vb (T:Txt w K mg t) (G3:oE P w K mg base t) (G1:gH P w K mg base t) (G6:j4 P w K mg base t):fj P w K mg base t :=
 (T.d 7 rfl).ok mn (aJ T) fun hr=>ai (br (iL (eUx (eIz T.z_isinstance (eVx 0) T.z_str))) (ax (aI rB)) bz) (ai (br (eUx (eBM (eVx 0) (eAx aw ae) oQ Nt PySem.F.slot_str_startswith PySem.F.type_str_startswith rfl rfl rfl rfl rfl)) (ai (eSx mn.nd 1 (eE (eAx (eSl (orS ip (orS d4 g7)) (eVx 0) (eP ah) Cz) ae))) (ax (aI (eIf (eUx (eCx G3 hr (T.d 3 rfl) (eAx (eVx 1) ae))) (eVx 1) rB)))) bz) (ax (aI (eIf (eUx (eCx G1 hr (T.d 1 rfl) (eAx (eVx 0) ae))) (eVx 0) (eCx G6 hr (T.d 6 rfl) (eAx (eVx 0) ae))))))
theorem oZ (T:Txt w K mg t):gq P w K mg base t :=
 (T.d 8 rfl).ok qf (aJ T) fun hr=>ax (aI (eKG (cA (v:=.ref t.kF) rfl T.g_LENGTHS rfl rfl) T.v8 (eVx 0) rfl rfl rfl rfl))
theorem m3 (T:Txt w K mg t) (G2:iJ P w K mg base t):fx P w K mg base t :=
 (T.d 9 rfl).ok nL (aJ T) fun hr=>ai (br (eW (vi (iL (eUx (eCx G2 hr (T.d 2 rfl) (eAx (eVx 0) ae)))) (kU (iL (r8 cV cV ah (eVx 0) (cA (v:=.int 60) rfl T.g_MOST_ENDS ⟨_,rfl⟩ rfl) (by with_unfolding_all rfl)))))) (ax (aI eBl)) bz) (ax (aI (eOr (lD oF (eVx 1) rB (bN _)) (tf (tV (eCx G2 hr (T.d 2 rfl) (eAx (eVx 1) ae)) (tf (x9 cV cV (eVx 0) (eVx 1) (cA (v:=.int 60) rfl T.g_MOST_ENDS ⟨_,rfl⟩ rfl) (by with_unfolding_all rfl))))))))
theorem iF (T:Txt w K mg t):d8 P w K mg base t :=
 (T.d 10 rfl).ok dB (aJ T) fun hr=>ai (eSx dB.nd 1 (eIy (eVx 0) ah)) (ai (br (eTx (aA hr.units) (eVx 1) aw) (ax (aI (eE (eAx (eIy (eVx 0) ah) ae)))) bz) (ai (br (cq (bp hr.units) (eVx 1) (cA (v:=.ref t.kb) rfl T.g_LISTS rfl rfl) (by with_unfolding_all rfl)) (ax (aI (eIy (eVx 0) ah))) bz) (ai (br (cq (bp hr.units) (eVx 1) (cA (v:=.ref t.eL) rfl T.g_WALKS rfl rfl) (by with_unfolding_all rfl)) (ax (aI (eE (eAx (eIy (eVx 0) ah) ae)))) bz) (ax (aI (eE ae))))))
theorem u6 (T:Txt w K mg t):qG P w K mg base t :=
 (T.d 11 rfl).ok ma (aJ T) fun hr=>ai (sN (eW (nU (eTx d6 (eVx 1) (eBs aT T.z_len (eAx (eVx 0) ae))) (iX (cq (bp hr.units) (eIy (eVx 0) (eVx 1)) (eVx 2) (by with_unfolding_all rfl))))) (ax (eSx ma.nd 1 (eOp ag (eVx 1) ah))) NP) (ax (aI (eVx 1)))
theorem qc (T:Txt w K mg t) (G11:qG P w K mg base t):j6 P w K mg base t :=
 (T.d 12 rfl).ok qp (aJ T) fun hr=>ai (br (cq (bp hr.units) (eIy (eVx 0) (eVx 1)) (cA (v:=.str "abcdefghijklmnopqrstuvwxyz") rfl T.g_LETTERS ⟨_,rfl⟩ rfl) (by with_unfolding_all rfl)) (ax (aI (eCx G11 hr (T.d 11 rfl) (eAx (eVx 0) (eAx (eVx 1) (eAx (cA (v:=.str "abcdefghijklmnopqrstuvwxyz") rfl T.g_LETTERS ⟨_,rfl⟩ rfl) ae)))))) bz) (ai (br (eTx (aA hr.units) (eIy (eVx 0) (eVx 1)) aw) (ax (aI (eCx G11 hr (T.d 11 rfl) (eAx (eVx 0) (eAx (eOp ag (eVx 1) ah) (eAx (cA (v:=.str "abcdefghijklmnopqrstuvwxyz") rfl T.g_LETTERS ⟨_,rfl⟩ rfl) ae)))))) bz) (ai (br (eW (vi (eTx (aA hr.units) (eIy (eVx 0) (eVx 1)) aw) (kU (cq (bp hr.units) (eIy (eVx 0) (eVx 1)) (cA (v:=.str "0123456789") rfl T.g_FIGURES ⟨_,rfl⟩ rfl) (by with_unfolding_all rfl))))) (ax (aI (eCx G11 hr (T.d 11 rfl) (eAx (eVx 0) (eAx (eOp ag (eVx 1) ah) (eAx (cA (v:=.str "0123456789") rfl T.g_FIGURES ⟨_,rfl⟩ rfl) ae)))))) bz) (ax (aI (eOp ag (eVx 1) ah)))))
theorem oU (T:Txt w K mg t) (G12:j6 P w K mg base t):jZ P w K mg base t :=
 (T.d 13 rfl).ok cf (aJ T) fun hr=>ai (eSx cf.nd 1 (cT ae)) (ai (eSx cf.nd 2 ah) (ai (sN (eTx d6 (eVx 2) (eBs aT T.z_len (eAx (eVx 0) ae))) (ai (eSx cf.nd 3 (eCx G12 hr (T.d 12 rfl) (eAx (eVx 0) (eAx (eVx 2) ae)))) (ai (br (eTx (mI hr.units) (eIy (eVx 0) (eVx 2)) aw) (ax (bS (eBM (eVx 1) (eAx (eE (eAx (eSl (orS ip (orS d4 g7)) (eVx 0) (eP (eVx 2)) (eP (eVx 3))) (eAx (eVx 2) ae))) ae) bK MB MJ MI rfl rfl rfl rfl rfl) rfl)) bz) (ax (eSx cf.nd 2 (eVx 3))))) NP) (ai (bS (eBM (eVx 1) (eAx (eE (eAx (cA (v:=.str "") rfl T.g_END ⟨_,rfl⟩ rfl) (eAx (eBs aT T.z_len (eAx (eVx 0) ae)) ae))) ae) bK MB MJ MI rfl rfl rfl rfl rfl) rfl) (ax (aI (eVx 1))))))
theorem pb (T:Txt w K mg t):kJ P w K mg base t :=
 (T.d 14 rfl).ok qF (aJ T) fun hr=>ax (aI (eIf (eTx oF (eVx 0) rB) aw (eTs fg T.z_str (eAx (eVx 0) ae))))
theorem fW (T:Txt w K mg t) (G14:kJ P w K mg base t) (G10:d8 P w K mg base t) (G16:cN P w K mg base t (4+2*n) n):dX P w K mg base t (5+2*n) n :=
 ((T.d 15 rfl).ok gb (aJ T) fun hr=>ai (br (eTx (aA hr.units) (eIy (eVx 0) ah) aw) (ax (aI (eBM aw (eAx (eIy (eVx 0) ah) ae) nI Nt PySem.F.slot_str_join PySem.F.type_str_join rfl rfl rfl rfl rfl))) bz) (ai (eSx gb.nd 1 (eIf (cq (bp hr.units) (eIy (eVx 0) ah) (cA (v:=.ref t.eL) rfl T.g_WALKS rfl rfl) (by with_unfolding_all rfl)) (cT (eAx (eTs fg T.z_str (eAx (eIy (eVx 0) ah) ae)) (eAx (eCx G14 hr (T.d 14 rfl) (eAx (eIx bR (eVx 0) ah (fun _ _=>rfl)) ae)) (eAx (eIx bR (eVx 0) ah (fun _ _=>rfl)) ae)))) (cT ae))) (ax (aI (eBM aw (eAx (eOp ag (eVx 1) (eKx [] (eIT (eCx G10 hr (T.d 10 rfl) (eAx (eVx 0) ae))) eT0 (eC fun _ _ _ _=>(eCx G16 hr (T.d 16 rfl) (eAx (eVx 0) ae))) (bsc (sc:=aa cH) rfl (by decide +kernel)) trivial)) ae) nI Nt PySem.F.slot_str_join PySem.F.type_str_join rfl rfl rfl rfl rfl)))):dX P w K mg base t ((4+2*n)+1) n).mono (by omega)
theorem qr (T:Txt w K mg t) (G8:gq P w K mg base t) (G5:kR P w K mg base t) (G15:dX P w K mg base t (5+2*n) n):cN P w K mg base t (4+2*(n+1)) (n+1) :=
 ((T.d 16 rfl).ok cU (aJ T) fun hr=>ai (eSx cU.nd 1 (eIy (eVx 0) ah)) (ai (br (eTx (aA hr.units) (eCx G8 hr (T.d 8 rfl) (eAx (eVx 1) ae)) ah) (ax (aI (eVx 1))) bz) (ai (br (eTx (aA hr.units) (eVx 1) aw) (ax (aI (eOp ag (eOp ag (eVx 1) aw) (eIy (eVx 0) ah)))) bz) (ai (br (cq (bp hr.units) (eVx 1) (eE (eAx aw (eAx aw (eAx aw ae)))) (by with_unfolding_all rfl)) (ax (aI (eOp ag (eOp ag (eVx 1) aw) (eCx G5 hr (T.d 5 rfl) (eAx (eIy (eVx 0) ah) ae))))) bz) (ai (eSx cU.nd 2 (eCx G15 hr (T.d 15 rfl) (eAx (eVx 0) ae))) (ax (aI (eFs (eFc (eFv (eVx 1)) (eFc aw (eFc (eFv (eVx 2)) (eFc aw eF0))))))))))):cN P w K mg base t ((5+2*n)+1) (n+1)).mono (by omega)
theorem qS (T:Txt w K mg t):cN P w K mg base t (3+1) 0 :=
 aO.no (k:=3) (T.d 16 rfl).F cU fun vs H Q E h=>by obtain ⟨G,ds,is,pr,outs,hF,_⟩:=h;cases hF
theorem qE (T:Txt w K mg t) (G49:ba P w K mg base t) (G1:gH P w K mg base t) (G50:bL P w K mg base t):gg P w K mg base t :=
 (T.d 17 rfl).ok jB (aJ T) fun hr=>ai (eSx jB.nd 1 (uh T.cl T.aU G49 hr T.aV (eVx 0))) (ax (aI (eMt T.cl T.bJ G50 hr T.bO (eVx 0) (eAx (eVx 1) (eAx (eCx G1 hr (T.d 1 rfl) (eAx (eVx 1) ae)) ae)))))
theorem nJ (T:Txt w K mg t) (G7:fj P w K mg base t) (G49:ba P w K mg base t) (G50:bL P w K mg base t):jk P w K mg base t :=
 (T.d 18 rfl).ok il (aJ T) fun hr=>ai (eSx il.nd 1 (eCx G7 hr (T.d 7 rfl) (eAx (uh T.cl T.aU G49 hr T.aV (eVx 0)) ae))) (ax (aI (eMt T.cl T.bJ G50 hr T.bO (eVx 0) (eAx (eVx 1) (eAx (lD ko (eVx 1) rB (bN _)) ae)))))
theorem lO (T:Txt w K mg t) (G7:fj P w K mg base t) (G49:ba P w K mg base t) (G2:iJ P w K mg base t) (G50:bL P w K mg base t):g0 P w K mg base t :=
 (T.d 19 rfl).ok fR (aJ T) fun hr=>ai (eSx fR.nd 1 (eCx G7 hr (T.d 7 rfl) (eAx (uh T.cl T.aU G49 hr T.aV (eVx 0)) ae))) (ax (aI (eMt T.cl T.bJ G50 hr T.bO (eVx 0) (eAx (eVx 1) (eAx (eCx G2 hr (T.d 2 rfl) (eAx (eVx 1) ae)) ae)))))
theorem qZ (T:Txt w K mg t) (G7:fj P w K mg base t) (G49:ba P w K mg base t) (G9:fx P w K mg base t) (G50:bL P w K mg base t):mf P w K mg base t :=
 (T.d 20 rfl).ok lx (aJ T) fun hr=>ai (eSx lx.nd 1 (eCx G7 hr (T.d 7 rfl) (eAx (uh T.cl T.aU G49 hr T.aV (eVx 0)) ae))) (ax (aI (eMt T.cl T.bJ G50 hr T.bO (eVx 0) (eAx (eVx 1) (eAx (eCx G9 hr (T.d 9 rfl) (eAx (eVx 1) (eA rB ae rfl))) ae)))))
theorem qe (T:Txt w K mg t) (G49:ba P w K mg base t) (G50:bL P w K mg base t) (G7:fj P w K mg base t) (G9:fx P w K mg base t):kP P w K mg base t :=
 (T.d 21 rfl).ok jb (aJ T) fun hr=>ai (br (eTx (aA hr.units) (uh T.cl T.aU G49 hr T.aV (eVx 0)) aw) (ax (aI (eMt T.cl T.bJ G50 hr T.bO (eVx 0) (eAx rB (eAx eBl ae))))) bz) (ai (eSx jb.nd 2 (eCx G7 hr (T.d 7 rfl) (eAx (uh T.cl T.aU G49 hr T.aV (eVx 0)) ae))) (ax (aI (eMt T.cl T.bJ G50 hr T.bO (eVx 0) (eAx (eVx 2) (eAx (tV (lD ko (eVx 2) rB (bN _)) (tf (eCx G9 hr (T.d 9 rfl) (eAx (eVx 1) (eAx (eVx 2) ae))))) ae))))))
theorem qw (T:Txt w K mg t) (G49:ba P w K mg base t) (G17:gg P w K mg base t) (G51:dJ P w K mg base t):ll P w K mg base t :=
 (T.d 22 rfl).ok pZ (aJ T) fun hr=>ai (br (eTx (mI hr.units) (uh T.cl T.aU G49 hr T.aV (eVx 0)) aw) (ax (aI (eCx G17 hr (T.d 17 rfl) (eAx (eVx 0) ae)))) bz) (ai (bS (eMt T.cl T.bG G51 hr T.bF (eVx 0) (eAx aw ae)) rfl) (ax (aI (eOp ag aw (eCx G17 hr (T.d 17 rfl) (eAx (eVx 0) ae))))))
theorem nk (T:Txt w K mg t) (G49:ba P w K mg base t) (G50:bL P w K mg base t):fc P w K mg base t :=
 (T.d 23 rfl).ok ny (aJ T) fun hr=>ax (bS (eMt T.cl T.bJ G50 hr T.bO (eVx 0) (eAx aw (eAx (tV (lD (aA hr.units) (uh T.cl T.aU G49 hr T.aV (eVx 0)) aw (bN _)) (tf (eVx 1))) ae))) rfl)
theorem lW (T:Txt w K mg t) (G51:dJ P w K mg base t) (G49:ba P w K mg base t) (G23:fc P w K mg base t) (G1:gH P w K mg base t) (G50:bL P w K mg base t):ij P w K mg base t :=
 (T.d 24 rfl).ok cX (aJ T) fun hr=>ai (eSx cX.nd 1 (cT ae)) (ai (bS (eMt T.cl T.bG G51 hr T.bF (eVx 0) (eAx aw ae)) rfl) (ai (sN (eTx (mI hr.units) (uh T.cl T.aU G49 hr T.aV (eVx 0)) aw) (ai (br (J6 (eVx 1) (fun _=>rfl)) (ax (bS (eCx G23 hr (T.d 23 rfl) (eAx (eVx 0) (eAx (lD d6 (eBs aT T.z_len (eAx (eVx 1) ae)) (cA (v:=.int 8) rfl T.g_MOST_BONDS ⟨_,rfl⟩ rfl) (bN _)) ae))) rfl)) bz) (ai (eSx cX.nd 2 (uh T.cl T.aU G49 hr T.aV (eVx 0))) (ax (bS (eBM (eVx 1) (eAx (eMt T.cl T.bJ G50 hr T.bO (eVx 0) (eAx (eVx 2) (eAx (tV (eCx G1 hr (T.d 1 rfl) (eAx (eVx 2) ae)) (tf (lD (o6 hr.units) (eVx 2) (eVx 1) (by with_unfolding_all rfl)))) ae))) ae) bK MB MJ MI rfl rfl rfl rfl rfl) rfl)))) NP) (ai (bS (eMt T.cl T.bG G51 hr T.bF (eVx 0) (eAx aw ae)) rfl) (ax (aI (eE (eAx aw (eAx (eTs c8 T.z_tuple (eAx (eBs mN T.z_sorted (eAx (eVx 1) ae)) ae)) ae))))))))
theorem lp (T:Txt w K mg t) (G51:dJ P w K mg base t) (G29:bQ P w K mg base t (9+2*n) n):iy P w K mg base t (10+2*n) n :=
 ((T.d 25 rfl).ok kr (aJ T) fun hr=>ai (bS (eMt T.cl T.bG G51 hr T.bF (eVx 0) (eAx aw ae)) rfl) (ai (eSx kr.nd 3 (eCx G29 hr (T.d 29 rfl) (eAx (eVx 0) (eAx (eOp ag (eVx 1) ah) (eAx (eVx 2) ae))))) (ai (bS (eMt T.cl T.bG G51 hr T.bF (eVx 0) (eAx aw ae)) rfl) (ax (aI (eE (eAx aw (eAx (eVx 3) ae))))))):iy P w K mg base t ((9+2*n)+1) n).mono (by omega)
theorem jo (T:Txt w K mg t) (G51:dJ P w K mg base t) (G49:ba P w K mg base t) (G23:fc P w K mg base t) (G29:bQ P w K mg base t (9+2*n) n):gs P w K mg base t (10+2*n) n :=
 ((T.d 26 rfl).ok i9 (aJ T) fun hr=>ai (eSx i9.nd 4 (cT ae)) (ai (bS (eMt T.cl T.bG G51 hr T.bF (eVx 0) (eAx aw ae)) rfl) (ai (sN (eTx (mI hr.units) (uh T.cl T.aU G49 hr T.aV (eVx 0)) aw) (ai (br (J6 (eVx 4) (fun _=>rfl)) (ax (bS (eCx G23 hr (T.d 23 rfl) (eAx (eVx 0) (eAx (tV (lD d6 (eBs aT T.z_len (eAx (eVx 4) ae)) (cA (v:=.int 6) rfl T.g_MOST_LISTED ⟨_,rfl⟩ rfl) (bN _)) (tf (lD d6 (eFl T.cl T.na_forms (eVx 0)) (cA (v:=.int 40) rfl T.g_MOST_FORMS ⟨_,rfl⟩ rfl) (bN _)))) ae))) rfl)) bz) (ax (bS (eBM (eVx 4) (eAx (eCx G29 hr (T.d 29 rfl) (eAx (eVx 0) (eAx (eOp ag (eVx 2) ah) (eAx (eVx 3) ae)))) ae) bK MB MJ MI rfl rfl rfl rfl rfl) rfl))) NP) (ai (bS (eMt T.cl T.bG G51 hr T.bF (eVx 0) (eAx aw ae)) rfl) (ax (aI (eE (eAx (eVx 1) (eAx (eTs c8 T.z_tuple (eAx (eVx 4) ae)) ae)))))))):gs P w K mg base t ((9+2*n)+1) n).mono (by omega)
theorem ja (T:Txt w K mg t) (G51:dJ P w K mg base t) (G20:mf P w K mg base t) (G21:kP P w K mg base t) (G22:ll P w K mg base t) (G29:bQ P w K mg base t (9+2*n) n):gk P w K mg base t (10+2*n) n :=
 ((T.d 27 rfl).ok ck (aJ T) fun hr=>ai (bS (eMt T.cl T.bG G51 hr T.bF (eVx 0) (eAx aw ae)) rfl) (ai (eSx ck.nd 3 (eCx G20 hr (T.d 20 rfl) (eAx (eVx 0) ae))) (ai (bS (eMt T.cl T.bG G51 hr T.bF (eVx 0) (eAx aw ae)) rfl) (ai (eSx ck.nd 4 (eCx G21 hr (T.d 21 rfl) (eAx (eVx 0) (eAx (eVx 3) ae)))) (ai (bS (eMt T.cl T.bG G51 hr T.bF (eVx 0) (eAx aw ae)) rfl) (ai (eSx ck.nd 5 (eCx G22 hr (T.d 22 rfl) (eAx (eVx 0) ae))) (ai (bS (eMt T.cl T.bG G51 hr T.bF (eVx 0) (eAx aw ae)) rfl) (ai (eSx ck.nd 6 (eCx G29 hr (T.d 29 rfl) (eAx (eVx 0) (eAx (eOp ag (eVx 2) ah) (eAx eBl ae))))) (ai (bS (eMt T.cl T.bG G51 hr T.bF (eVx 0) (eAx aw ae)) rfl) (ax (aI (eE (eAx (eVx 1) (eAx (eVx 3) (eAx (eVx 4) (eAx (eVx 5) (eAx (eVx 6) ae)))))))))))))))):gk P w K mg base t ((9+2*n)+1) n).mono (by omega)
theorem o8 (T:Txt w K mg t) (G8:gq P w K mg base t):j8 P w K mg base t :=
 (T.d 28 rfl).ok jD (aJ T) fun hr=>ai (br (eW (vi (eTx oF (eCx G8 hr (T.d 8 rfl) (eAx (eVx 0) ae)) rB) (kU (eW (nU (eUx (eVx 3)) (iX (eW (vi (cq (bp hr.units) (eVx 0) (cA (v:=.ref t.eL) rfl T.g_WALKS rfl rfl) (by with_unfolding_all rfl)) (kU (eTx (aA hr.units) (eVx 0) aw)))))))))) (ax (aI eBl)) bz) (ai (eSx jD.nd 4 (eIf (eW (vi (cq (bp hr.units) (eVx 0) (cA (v:=.ref t.eL) rfl T.g_WALKS rfl rfl) (by with_unfolding_all rfl)) (kU (eTx (aA hr.units) (eVx 0) aw)))) ah ah)) (ax (aI (tV (lD cV (eOp ag (eOp ag (eVx 1) ah) (eVx 4)) (cA (v:=.int 40) rfl T.g_MOST_FORMS ⟨_,rfl⟩ rfl) (bN _)) (tf (lD cV (eOp ag (eVx 2) (eVx 4)) (cA (v:=.int 8) rfl T.g_DEEPEST ⟨_,rfl⟩ rfl) (bN _)))))))
theorem oz (T:Txt w K mg t) (G49:ba P w K mg base t) (G28:j8 P w K mg base t) (G50:bL P w K mg base t) (G19:g0 P w K mg base t) (G18:jk P w K mg base t) (G17:gg P w K mg base t) (G24:ij P w K mg base t) (G25:iy P w K mg base t (10+2*n) n) (G26:gs P w K mg base t (10+2*n) n) (G27:gk P w K mg base t (10+2*n) n):bQ P w K mg base t (9+2*(n+1)) (n+1) :=
 ((T.d 29 rfl).ok fB (aJ T) fun hr=>ai (eSx fB.nd 3 (uh T.cl T.aU G49 hr T.aV (eVx 0))) (ai (bS (eMt T.cl T.bJ G50 hr T.bO (eVx 0) (eAx (eVx 3) (eAx (eCx G28 hr (T.d 28 rfl) (eAx (eVx 3) (eA (eFl T.cl T.na_forms (eVx 0)) (eA (eVx 1) (eA (eVx 2) ae rfl) rfl) rfl))) ae))) rfl) (ai (eSF T.cl T.na_forms (eVx 0) (eOp ag (eFl T.cl T.na_forms (eVx 0)) ah)) (ai (br (cq (bp hr.units) (eVx 3) (eE (eAx aw (eAx aw ae))) (by with_unfolding_all rfl)) (ax (aI (eE (eAx (eVx 3) (eAx (eCx G19 hr (T.d 19 rfl) (eAx (eVx 0) ae)) ae))))) bz) (ai (br (eTx (aA hr.units) (eVx 3) aw) (ax (aI (eE (eAx (eVx 3) (eAx (eCx G18 hr (T.d 18 rfl) (eAx (eVx 0) ae)) ae))))) bz) (ai (br (eTx (aA hr.units) (eVx 3) aw) (ax (aI (eE (eAx (eVx 3) (eAx (eCx G17 hr (T.d 17 rfl) (eAx (eVx 0) ae)) ae))))) bz) (ai (br (eTx (aA hr.units) (eVx 3) aw) (ax (aI (eCx G24 hr (T.d 24 rfl) (eAx (eVx 0) ae)))) bz) (ai (br (eTx (aA hr.units) (eVx 3) aw) (ax (aI (eCx G25 hr (T.d 25 rfl) (eAx (eVx 0) (eAx (eVx 1) (eAx (eVx 2) ae)))))) bz) (ai (br (cq (bp hr.units) (eVx 3) (cA (v:=.ref t.kb) rfl T.g_LISTS rfl rfl) (by with_unfolding_all rfl)) (ax (aI (eCx G26 hr (T.d 26 rfl) (eAx (eVx 0) (eAx (eVx 3) (eAx (eVx 1) (eAx (eVx 2) ae))))))) bz) (ai (br (cq (bp hr.units) (eVx 3) (cA (v:=.ref t.eL) rfl T.g_WALKS rfl rfl) (by with_unfolding_all rfl)) (ax (aI (eCx G27 hr (T.d 27 rfl) (eAx (eVx 0) (eAx (eVx 3) (eAx (eVx 1) ae)))))) bz) (ax (aI (eE (eAx (eVx 3) ae))))))))))))):bQ P w K mg base t ((10+2*n)+1) (n+1)).mono (by omega)
theorem rR (T:Txt w K mg t):bQ P w K mg base t (8+1) 0 :=
 aO.no (k:=8) (T.d 29 rfl).F fB fun vs H Q E h=>by obtain ⟨G,ds,is,pr,outs,hF,_⟩:=h;cases hF
theorem qi (T:Txt w K mg t) (G48:tE P w K mg base t) (G29:bQ P w K mg base t 25 8) (G51:dJ P w K mg base t):ly P w K mg base t :=
 (T.d 30 rfl).ok eQ (aJ T) fun hr=>ai (br (iL (eUx (eIz T.z_isinstance (eVx 0) T.z_str))) (ax Ap) bz) (ai (eSx eQ.nd 1 (eNw T.cmk G48 hr T.cg T.zd (eAx (eVx 0) ae))) (ai (eSx eQ.nd 2 (eCx G29 hr (T.d 29 rfl) (eAx (eVx 1) (eAx ah (eAx eBl ae))))) (ai (bS (eMt T.cl T.bG G51 hr T.bF (eVx 1) (eAx (cA (v:=.str "") rfl T.g_END ⟨_,rfl⟩ rfl) ae)) rfl) (ax (aI (eVx 2))))))
theorem F4 (T:Txt w K mg t):E7 P w K mg base t :=
 (T.d 31 rfl).ok Ej (aJ T) fun hr=>ax (aI (cT (eAx (eVx 0) (eAx ah (eA ah ae rfl)))))
theorem AX (T:Txt w K mg t):fX P w K mg base t :=
 (T.d 32 rfl).ok gj (aJ T) fun hr=>ai (br (eTx sH (eIy (eVx 0) ah) ah) (ai (eSx gj.nd 2 (eOp cM (eIy (eVx 0) ah) (eVx 1))) (ai (BJ (eOp nR (eIy (eVx 0) ah) (eVx 1)) (C0 (eVx 0) ah set_list (fun _=>rfl)) rfl rfl rfl) (ax (aI (eVx 2))))) bz) (ai (eSx gj.nd 3 (eIy (eVx 0) ah)) (ai (BJ (eOp ag (eVx 3) ah) (C0 (eVx 0) ah set_list (fun _=>rfl)) rfl rfl rfl) (ai (eSx gj.nd 4 ah) (ai (br (eTx sH (eBs aT T.z_len (eAx (eIy (eVx 0) ah) ae)) ah) (ax (eSx gj.nd 4 (eIy (eIy (eVx 0) ah) (eOp cM (eVx 3) (eBs aT T.z_len (eAx (eIy (eVx 0) ah) ae)))))) bz) (ai (br (eW (nU (eTx d6 (eVx 3) (eBs aT T.z_len (eAx (eIy (eVx 0) ah) ae))) (iX (eTx FT (eBs qU T.z_abs (eAx (eVx 4) ae)) (eOp gn ah ah))))) (ai (BJ (eOp nR (eBs qU T.z_abs (eAx (eVx 4) ae)) (eVx 1)) (C0 (eVx 0) ah set_list (fun _=>rfl)) rfl rfl rfl) (ax (aI (eOp cM (eBs qU T.z_abs (eAx (eVx 4) ae)) (eVx 1))))) bz) (ai (eSx gj.nd 5 (eOp cM (eOp cL (eOp ag (eOp ag (eOp ag (eOp cM (eVx 4) ah) (eOp cL (eOp cL ah (eVx 3)) (eVx 3))) (eOp cL ah (eVx 3))) ah) ah) ah)) (ai (eSx gj.nd 5 (eOp cM (eOp ag (eOp ag (eOp cL (eVx 5) (eVx 5)) (eOp cL ah (eVx 5))) (eVx 3)) ah)) (ax (aI (eOp cM (eOp nR (eVx 5) ah) (eVx 1)))))))))))
theorem zA (T:Txt w K mg t) (G32:fX P w K mg base t):vD P w K mg base t :=
 (T.d 33 rfl).ok bV (aJ T) fun hr=>ai (eSy bV.nd 2 aw) (ai (eSx bV.nd 3 (eBM aw (eAx (eKx ["_law_letters", "_law_pen_here"] (eR1 rfl T.z_range (eAx ah ae) rfl) eT0 (eC fun _ _ _ _=>(eIy (eVy 1) (eCl G32 hr (T.d 32 rfl).m (T.d 32 rfl).F.kp (T.d 32 rfl).b (eA (eVy 2) (eA ah ae rfl) rfl)))) (bsc (sc:=aa jW) rfl (by decide +kernel)) ⟨rfl,⟨rfl,rfl⟩,⟨rfl,⟨rfl,rfl⟩,trivial⟩⟩) ae) nI Nt PySem.F.slot_str_join PySem.F.type_str_join rfl rfl rfl rfl rfl)) (ai (eSx bV.nd 4 (cT (eAx aw (eAx aw (eAx aw (eAx aw (eA aw (eA aw (eA aw (eA aw ae rfl) rfl) rfl) rfl))))))) (ai (eSx bV.nd 5 (eCx G32 hr (T.d 32 rfl) (eAx (eVy 0) (eAx ah ae)))) (ai (eSx bV.nd 6 (eOp ag ah (eCx G32 hr (T.d 32 rfl) (eAx (eVy 0) (eAx ah ae))))) (ai (eSx bV.nd 7 (eCx G32 hr (T.d 32 rfl) (eAx (eVy 0) (eAx (eVx 6) ae)))) (ai (eSx bV.nd 8 (eCx G32 hr (T.d 32 rfl) (eAx (eVy 0) (eAx ah ae)))) (ai (eSx bV.nd 9 (cT ae)) (ai (eFx (eR1 rfl T.z_range (eAx (eVx 1) ae) rfl) (eGx bV.nd 10) (ai (eSx bV.nd 11 (eIy (eVy 2) (eOp cM (eOp ag (eVx 8) (eOp cL ah (eVx 10))) ah))) (ax (br (eW (nU (eTx (aA hr.units) (eVx 5) ah) (iX (eTx d6 (eVx 1) ah)))) (ax (bS (eBM (eVx 9) (eAx (eSl (orS ip (orS d4 g7)) (eVx 3) Cz (eP (eOp ag (eOp cM (eOp ag (eVx 8) (eOp cL ah (eVx 10))) ah) ah))) ae) bK MB MJ MI rfl rfl rfl rfl rfl) rfl)) (ax (br (eW (nU (eTx (aA hr.units) (eVx 5) ah) (iX (eTx d6 (eVx 1) ah)))) (ax (bS (eBM (eVx 9) (eAx (eIy (eVx 4) (eOp cM (eOp ag (eVx 8) (eVx 10)) ah)) ae) bK MB MJ MI rfl rfl rfl rfl rfl) rfl)) (ax (br (eTx (aA hr.units) (eVx 5) ah) (ax (bS (eBM (eVx 9) (eAx (eOp ag (eIy (eVx 4) (eOp cM (eVx 10) ah)) (eVx 11)) ae) bK MB MJ MI rfl rfl rfl rfl rfl) rfl)) (ax (bS (eBM (eVx 9) (eAx (eOp ag (eOp ag (eSl (orS ip (orS d4 g7)) (eVx 3) Cz (eP (eVx 7))) (eVx 11)) (eSl (orS ip (orS d4 g7)) (eVx 3) (eP (eOp ag (eVx 7) ah)) (eP (eVx 6)))) ae) bK MB MJ MI rfl rfl rfl rfl rfl) rfl)))))))))) (ax (aI (eVx 9)))))))))))
theorem vn (T:Txt w K mg t) (G32:fX P w K mg base t):nM P w K mg base t :=
 (T.d 34 rfl).ok dC (aJ T) fun hr=>ai (eSx dC.nd 1 (eCx G32 hr (T.d 32 rfl) (eAx (eVx 0) (eAx ah ae)))) (ai (eSx dC.nd 2 (eCx G32 hr (T.d 32 rfl) (eAx (eVx 0) (eAx ah ae)))) (ai (br (eTx (aA hr.units) (eVx 1) ah) (ax (eSx dC.nd 2 (eOp cF (eOp cF (eOp gn ah ah) ah) (eCx G32 hr (T.d 32 rfl) (eAx (eVx 0) (eAx ah ae)))))) bz) (ai (br (eTx (aA hr.units) (eVx 1) ah) (ax (eSx dC.nd 2 (eOp ag (eOp cL (eOp ag (eOp cL (eCx G32 hr (T.d 32 rfl) (eAx (eVx 0) (eAx (eOp gn ah ah) ae))) (eOp gn ah ah)) (eCx G32 hr (T.d 32 rfl) (eAx (eVx 0) (eAx (eOp gn ah ah) ae)))) (eOp gn ah ah)) (eCx G32 hr (T.d 32 rfl) (eAx (eVx 0) (eAx (eOp gn ah ah) ae)))))) bz) (ai (br (eTx (aA hr.units) (eCx G32 hr (T.d 32 rfl) (eAx (eVx 0) (eAx ah ae))) ah) (ax (eSx dC.nd 2 (eOp cF ah (eVx 2)))) bz) (ax (aI (eVx 2)))))))
theorem BY (T:Txt w K mg t) (G32:fX P w K mg base t) (G34:nM P w K mg base t):Ax P w K mg base t :=
 (T.d 35 rfl).ok kz (aJ T) fun hr=>ai (eSx kz.nd 2 (eCx G32 hr (T.d 32 rfl) (eAx (eVx 0) (eAx ah ae)))) (ai (br (eTx (aA hr.units) (eVx 2) ah) (ax (aI (eIy (eVx 1) (eCx G32 hr (T.d 32 rfl) (eAx (eVx 0) (eAx (eBs aT T.z_len (eAx (eVx 1) ae)) ae)))))) bz) (ai (br (eTx (aA hr.units) (eVx 2) ah) (ax (aI (eCx G34 hr (T.d 34 rfl) (eAx (eVx 0) ae)))) bz) (ai (eSx kz.nd 3 aw) (ai (eFx (eR1 rfl T.z_range (eAx (eIy (cT (eAx ah (eAx ah (eAx (eOp ag ah (eCx G32 hr (T.d 32 rfl) (eAx (eVx 0) (eA ah ae rfl)))) (eAx ah ae))))) (eCx G32 hr (T.d 32 rfl) (eAx (eVx 0) (eAx ah ae)))) ae) rfl) (eGx kz.nd 4) (ax (eSx kz.nd 3 (eOp ag (eVx 3) (eIy aw (eCx G32 hr (T.d 32 rfl) (eAx (eVx 0) (eAx ah ae)))))))) (ax (aI (eE (eAx (eVx 3) ae))))))))
theorem D8 (T:Txt w K mg t) (G32:fX P w K mg base t) (G34:nM P w K mg base t) (G35:Ax P w K mg base t):Eo P w K mg base t :=
 (T.d 36 rfl).ok AI (aJ T) fun hr=>ai (eSx AI.nd 3 (eIy (cT (eAx aw (eA aw (eA aw (eA aw (eA aw (eA aw (eA aw (eA aw (eA aw (eA aw ae rfl) rfl) rfl) rfl) rfl) rfl) rfl) rfl) rfl))) (eCx G32 hr (T.d 32 rfl) (eAx (eVx 0) (eA ah ae rfl))))) (ai (br (cq (bp hr.units) (eVx 3) (eE (eAx aw (eAx aw ae))) (by with_unfolding_all rfl)) (ax (aI (eE (eAx (eVx 3) (eAx (eCx G34 hr (T.d 34 rfl) (eAx (eVx 0) ae)) ae))))) bz) (ai (br (eTx (aA hr.units) (eVx 3) aw) (ax (aI (eE (eAx (eVx 3) (eAx (eCx G35 hr (T.d 35 rfl) (eAx (eVx 0) (eAx (eVx 1) ae))) ae))))) bz) (ai (br (eW (vi (eTx (aA hr.units) (eVx 3) aw) (kU (eW (nU (eTx (aA hr.units) (eVx 3) aw) (iX (iL (eUx (eVx 2))))))))) (ax (aI (eE (eAx aw (eAx (eIy (eVx 1) (eCx G32 hr (T.d 32 rfl) (eAx (eVx 0) (eAx (eBs aT T.z_len (eAx (eVx 1) ae)) ae)))) ae))))) bz) (ai (br (eTx (aA hr.units) (eVx 3) aw) (ax (aI (eE (eAx (eVx 3) (eAx (eTs c8 T.z_tuple (eAx (eBs mN T.z_sorted (eAx (eSl (orS ip (orS d4 g7)) (eVx 1) Cz (eP (eCx G32 hr (T.d 32 rfl) (eAx (eVx 0) (eAx (eOp ag (eBs aT T.z_len (eAx (eVx 1) ae)) ah) ae))))) ae)) ae)) ae))))) bz) (ax (aI (eE (eAx (eVx 3) ae))))))))
theorem zk (T:Txt w K mg t) (G32:fX P w K mg base t):vJ P w K mg base t :=
 (T.d 37 rfl).ok jM (aJ T) fun hr=>ai (eSx jM.nd 2 (eIy (cT (eAx ah (eA ah (eA ah (eA ah (eA ah (eA (eCl G32 hr (T.d 32 rfl).m (T.d 32 rfl).F.kp (T.d 32 rfl).b (eA (eVx 0) (eA ah ae rfl) rfl)) ae rfl) rfl) rfl) rfl) rfl))) (eCx G32 hr (T.d 32 rfl) (eAx (eVx 0) (eA ah ae rfl))))) (ai (eSx jM.nd 3 (eIy (cT (eAx rB (eAx (eVx 2) (eA (eOp ag (eVx 2) (eCl G32 hr (T.d 32 rfl).m (T.d 32 rfl).F.kp (T.d 32 rfl).b (eA (eVx 0) (eA (eOp cF ah (eVx 2)) ae rfl) rfl))) ae rfl)))) (eCx G32 hr (T.d 32 rfl) (eAx (eVx 0) (eAx ah ae))))) (ai (eSx jM.nd 4 (eOp ag (eIy (cT (eAx aw (eAx aw (eAx aw ae)))) (eCx G32 hr (T.d 32 rfl) (eAx (eVx 0) (eAx ah ae)))) (eIy (eVx 1) (eCx G32 hr (T.d 32 rfl) (eAx (eVx 0) (eAx (eBs aT T.z_len (eAx (eVx 1) ae)) ae)))))) (ax (aI (eE (eAx (eIy (cT (eAx aw (eAx aw ae))) (eCx G32 hr (T.d 32 rfl) (eAx (eVx 0) (eAx ah ae)))) (eAx (eVx 2) (eAx (eVx 3) (eAx (eVx 4) ae)))))))))
theorem Ce (T:Txt w K mg t) (G32:fX P w K mg base t) (G36:Eo P w K mg base t) (G38:qo P w K mg base t (5+n) n) (G37:vJ P w K mg base t):qo P w K mg base t (5+(n+1)) (n+1) :=
 ((T.d 38 rfl).ok lz (aJ T) fun hr=>ai (eSx lz.nd 5 (eCx G32 hr (T.d 32 rfl) (eAx (eVy 0) (eAx ah ae)))) (ai (br (eW (vi (eTx d6 (eVx 5) ah) (vi (eTx d6 (eVy 3) ah) (kU (eTx d6 (eIy (eVy 2) ah) ah))))) (ax (aI (eCx G36 hr (T.d 36 rfl) (eAx (eVy 0) (eAx (eVy 1) (eAx (eVy 4) ae)))))) bz) (ai (br (eTx (aA hr.units) (eVx 5) ah) (ai (BJ (eOp cF (eIy (eVy 2) ah) ah) (C0 (eVy 2) ah set_list (fun _=>rfl)) rfl rfl rfl) (ax (aI (eE (eAx aw (eAx (eCx G38 hr (T.d 38 rfl) (eAx (eVy 0) (eAx (eVy 1) (eAx (eVy 2) (eAx (eOp cF (eVy 3) ah) (eAx (eVy 4) ae)))))) ae)))))) bz) (ai (br (eW (nU (eTx d6 (eVx 5) ah) (iX (eUx (eVy 4))))) (ai (BJ (eOp cF (eIy (eVy 2) ah) ah) (C0 (eVy 2) ah set_list (fun _=>rfl)) rfl rfl rfl) (ax (aI (eOp ag (eCx G37 hr (T.d 37 rfl) (eAx (eVy 0) (eAx (eVy 1) ae))) (eE (eAx (eCx G38 hr (T.d 38 rfl) (eAx (eVy 0) (eAx (eVy 1) (eAx (eVy 2) (eAx (eOp cF (eVy 3) ah) (eAx eBl ae)))))) ae)))))) bz) (ai (eSx lz.nd 6 (eBs (Cq rfl) T.z_min (eAx (eCx G32 hr (T.d 32 rfl) (eAx (eVy 0) (eAx ah ae))) (eAx (eIy (eVy 2) ah) ae)))) (ai (BJ (eOp cF (eIy (eVy 2) ah) (eVx 6)) (C0 (eVy 2) ah set_list (fun _=>rfl)) rfl rfl rfl) (ai (Ik (i:=7) ["_law_pen_here", "_law_names_here", "_law_room", "_law_free", "_law_deep"] (eR1 rfl T.z_range (eAx (eVx 6) ae) rfl) eT0 (eC fun _ _ _ _=>(eCx G38 hr (T.d 38 rfl) (eAx (eVy 1) (eAx (eVy 2) (eAx (eVy 3) (eAx (eOp cF (eVy 5) ah) (eAx (eVy 4) ae))))))) lz.nd rfl rfl rfl rfl (bsc (sc:=aa nT) rfl (by decide +kernel)) (by decide +kernel) ⟨rfl,⟨rfl,rfl⟩,⟨rfl,⟨rfl,rfl⟩,⟨rfl,⟨rfl,rfl⟩,⟨rfl,⟨rfl,rfl⟩,⟨rfl,⟨rfl,rfl⟩,trivial⟩⟩⟩⟩⟩ (fun _=>rfl)) (ax (aI (eE (eAx (eIy (cT (eAx aw (eAx aw (eAx aw (eAx aw ae))))) (eCx G32 hr (T.d 32 rfl) (eAx (eVy 0) (eAx ah ae)))) (eAx (eTs c8 T.z_tuple (eAx (eVx 7) ae)) ae))))))))))):qo P w K mg base t ((5+n)+1) (n+1)).mono (by omega)
theorem Du (T:Txt w K mg t):qo P w K mg base t (4+1) 0 :=
 aO.no (k:=4) (T.d 38 rfl).F lz fun vs H Q E h=>by obtain ⟨G,ds,is,pr,outs,hF,_⟩:=h;cases hF
theorem yM (T:Txt w K mg t):vz P w K mg base t :=
 (T.d 39 rfl).ok yQ (aJ T) fun hr=>ai (br (eTx (aA hr.units) (eIy (eVx 0) ah) aw) (ax (aI (cT (eAx (eIy (eVx 0) ah) ae)))) bz) (ai (br (cq (bp hr.units) (eIy (eVx 0) ah) (eE (eAx aw (eAx aw ae))) (by with_unfolding_all rfl)) (ax (aI (cT (eAx (eIy (eVx 0) ah) ae)))) bz) (ai (br (cq (bp hr.units) (eIy (eVx 0) ah) (eE (eAx aw (eAx aw (eAx aw (eAx aw ae))))) (by with_unfolding_all rfl)) (ax (aI (eTs (zO rfl) T.z_list (eAx (eIy (eVx 0) ah) ae)))) bz) (ax (aI (cT ae)))))
theorem oW (T:Txt w K mg t):gi P w K mg base t :=
 (T.d 40 rfl).ok ox (aJ T) fun hr=>ai (br (eUx (eIz T.z_isinstance (eVx 0) T.z_tuple)) (ax (aI (eOp ag aw (eIy (eVx 0) ah)))) bz) (ax (aI (eTs fg T.z_str (eAx (eVx 0) ae))))
theorem wH (T:Txt w K mg t):nO P w K mg base t :=
 (T.d 41 rfl).ok kg (aJ T) fun hr=>ai (eSx kg.nd 1 (cT ae)) (ai (eFx (eIL (eVx 0)) (eGx kg.nd 2) (ai (br (eTx (mI hr.units) (eVx 1) (cT ae)) (ax (bS (eBM (eVx 1) (eAx aw ae) bK MB MJ MI rfl rfl rfl rfl rfl) rfl)) bz) (ax (bS (eBM (eVx 1) (eAx (eVx 2) ae) uZ MB PySem.F.slot_list_extend PySem.F.type_list_extend rfl rfl rfl rfl rfl) rfl)))) (ax (aI (eVx 1))))
def kI (K:Fg) (t:Adr) (n:Nat):TS :=
 (mh (om (tOp (fun x y=>ixP.r K [x,y]) (bE 0) (tC (.int 0))) (cy 1))
  (mh (wq (jL (tOp (fun x y=>eqP.r K [x,y]) (bE 1) (tC (.str "is")))) (vg (lL (ay (bE 1) (ay (gx (jc K) [] E0 (ay (tOp (fun x y=>ixP.r K [x,y]) (bE 0) (tC (.int 1))) cu)) cu)))) lg)
  (mh (wq (jL (tOp (fun x y=>inP.r K [x,y]) (bE 1) (CW (ay (tC (.str "from")) (ay (tC (.str "upto")) (ay (tC (.str "keeps")) cu)))))) (vg (lL (ay (bE 1) (ay (tCB (uO.r K) (ay (tOp (fun x y=>ixP.r K [x,y]) (bE 0) (tC (.int 1))) cu)) cu)))) lg)
  (mh (wq (jL (tOp (fun x y=>eqP.r K [x,y]) (bE 1) (tC (.str "closed")))) (vg (tOp (fun x y=>bt.r K [x,y]) (tOp (fun x y=>bt.r K [x,y]) (lL (ay (bE 1) (ay (tC (.str "(")) cu))) (gx (hX K) [] E0 (ay (pL [] (CT K (tOp (fun x y=>ixP.r K [x,y]) (bE 0) (tC (.int 1)))) EF (lL (ay (bE 0) cu))) cu))) (lL (ay (tC (.str ")")) cu)))) lg)
  (mh (wq (jL (tOp (fun x y=>eqP.r K [x,y]) (bE 1) (tC (.str "not")))) (vg (tOp (fun x y=>bt.r K [x,y]) (tOp (fun x y=>bt.r K [x,y]) (lL (ay (bE 1) (ay (tC (.str "(")) cu))) (gx (fE K n) [] E0 (ay (tOp (fun x y=>ixP.r K [x,y]) (bE 0) (tC (.int 1))) cu))) (lL (ay (tC (.str ")")) cu)))) lg)
  (mh (wq (jL (tOp (fun x y=>inP.r K [x,y]) (bE 1) (CW (ay (tC (.str "many")) (ay (tC (.str "each")) cu))))) (mh (om (tOp (fun x y=>ixP.r K [x,y]) (lL (ay (tC (.str "*")) (ay (tCB (uO.r K) (ay (tOp (fun x y=>ixP.r K [x,y]) (bE 0) (tC (.int 2))) cu)) cu))) (tCB (mS.r K) (ay (tOp (fun x y=>oJ.r K [x,y]) (tOp (fun x y=>ixP.r K [x,y]) (bE 0) (tC (.int 2))) (tC .non)) cu))) (cy 2))
  (mh (om (lL (ay (tOp (fun x y=>ixP.r K [x,y]) (bE 0) (tC (.int 3))) cu)) (cy 3))
  (mh (wq (jL (tOp (fun x y=>eqP.r K [x,y]) (tOp (fun x y=>ixP.r K [x,y]) (tOp (fun x y=>ixP.r K [x,y]) (bE 0) (tC (.int 3))) (tC (.int 0))) (tC (.str "^")))) (om (lL (ay (tC (.str "^")) (ay (tSl (DW HY (DW (HE K) (HG K))) (tOp (fun x y=>ixP.r K [x,y]) (bE 0) (tC (.int 3))) (CF (tC (.int 1))) q0) cu))) (cy 3)) lg)
  (vg (tOp (fun x y=>bt.r K [x,y]) (tOp (fun x y=>bt.r K [x,y]) (lL (ay (bE 1) (ay (tC (.str "(")) cu))) (gx (hX K) [] E0 (ay (lL (ay (lL (ay (tCB (uO.r K) (ay (tOp (fun x y=>ixP.r K [x,y]) (bE 0) (tC (.int 1))) cu)) cu)) (ay (lL (ay (bE 2) cu)) (ay (bE 3) (ay (gx (fE K n) [] E0 (ay (tOp (fun x y=>ixP.r K [x,y]) (bE 0) (tC (.int 4))) cu)) cu))))) cu))) (lL (ay (tC (.str ")")) cu))))))) lg)
  (mh (wq (jL (tOp (fun x y=>inP.r K [x,y]) (bE 1) (CW (ay (tC (.str "all")) (ay (tC (.str "some")) (ay (tC (.str "one")) (ay (tC (.str "none")) cu))))))) (vg (tOp (fun x y=>bt.r K [x,y]) (tOp (fun x y=>bt.r K [x,y]) (lL (ay (bE 1) (ay (tC (.str "(")) cu))) (gx (hX K) [] E0 (ay (pL [] (CT K (tOp (fun x y=>ixP.r K [x,y]) (bE 0) (tC (.int 1)))) EF (gx (fE K n) [] E0 (ay (bE 0) cu))) cu))) (lL (ay (tC (.str ")")) cu)))) lg)
  (vg (lL (ay (bE 1) cu))))))))))
theorem uG (T:Txt w K mg t) (G40:gi P w K mg base t) (G41:nO P w K mg base t) (G42:fM P w K mg base t (3+n) n) (hr:d7 (3+n) (A.deeper (envOfC "_law_tokens" (aa b3) s.heap.objs.size (t.f 42).1 cdv))):JSs (yj CX0 P w K mg base ["_law_form_here", "_law_word", "_law_high", "_law_step"] "_law_tokens" (aa b3) (t.f 42).1 cdv A outer s H E).nox (aZ b3) (kI K t n):=by
 unfold kI;refine ai ?_ ?_
 ·refine BI (i:=1) ?_ c6.nd rfl (Or.inl rfl) rfl (Or.inl rfl);exact (eIx bR (eVx 0) ah (fun _ _=>rfl))
 ·refine ai ?_ ?_
  ·refine br ?_ ?_ ?_
   ·exact (cq (aA hr.units) (eVx 1) aw (bN _))
   ·refine ax ?_;exact (aI (cT (eA (eVx 1) (eA (eCl G40 hr (T.d 40 rfl).m (T.d 40 rfl).F.kp (T.d 40 rfl).b (eA (eIx bR (eVx 0) ah (fun _ _=>rfl)) ae rfl)) ae rfl) rfl)))
   ·exact bz
  ·refine ai ?_ ?_
   ·refine br ?_ ?_ ?_
    ·exact (cq (bp hr.units) (eVx 1) (eE (eA aw (eA aw (eA aw ae rfl) rfl) rfl)) (by with_unfolding_all rfl))
    ·refine ax ?_;exact (aI (cT (eA (eVx 1) (eA (eTs fg T.z_str (eA (eIx bR (eVx 0) ah (fun _ _=>rfl)) ae rfl)) ae rfl) rfl)))
    ·exact bz
   ·refine ai ?_ ?_
    ·refine br ?_ ?_ ?_
     ·exact (cq (aA hr.units) (eVx 1) aw (bN _))
     ·refine ax ?_;exact (aI (eOp ag (eOp ag (cT (eA (eVx 1) (eA aw ae rfl) rfl)) (eCl G41 hr (T.d 41 rfl).m (T.d 41 rfl).F.kp (T.d 41 rfl).b (eA (B8 [] (eIT (eIx bR (eVx 0) ah (fun _ _=>rfl))) eT0 (eC fun _ _ _ _=>(cT (eA (eVx 0) ae rfl))) rfl (bsc (sc:=aa b3) rfl (by decide +kernel)) (by decide +kernel) trivial (fun _=>rfl)) ae rfl))) (cT (eA aw ae rfl))))
     ·exact bz
    ·refine ai ?_ ?_
     ·refine br ?_ ?_ ?_
      ·exact (cq (aA hr.units) (eVx 1) aw (bN _))
      ·refine ax ?_;exact (aI (eOp ag (eOp ag (cT (eA (eVx 1) (eA aw ae rfl) rfl)) (eCl G42 hr (T.d 42 rfl).m (T.d 42 rfl).F.kp (T.d 42 rfl).b (eA (eIx bR (eVx 0) ah (fun _ _=>rfl)) ae rfl))) (cT (eA aw ae rfl))))
      ·exact bz
     ·refine ai ?_ ?_
      ·refine br ?_ ?_ ?_
       ·exact (cq (bp hr.units) (eVx 1) (eE (eA aw (eA aw ae rfl) rfl)) (by with_unfolding_all rfl))
       ·refine ai ?_ ?_
        ·refine BI (i:=2) ?_ c6.nd rfl (Or.inl rfl) rfl (Or.inl rfl);exact (eIx bR (cT (eA aw (eA (eTs fg T.z_str (eA (eIx bR (eVx 0) ah (fun _ _=>rfl)) ae rfl)) ae rfl) rfl)) (eTs nE T.z_int (eA (lD ko (eIx bR (eVx 0) ah (fun _ _=>rfl)) rB (bN _)) ae rfl)) (fun _ _=>rfl))
        ·refine ai ?_ ?_
         ·refine BI (i:=3) ?_ c6.nd rfl (Or.inl rfl) rfl (Or.inl rfl);exact (cT (eA (eIx bR (eVx 0) ah (fun _ _=>rfl)) ae rfl))
         ·refine ai ?_ ?_
          ·refine br ?_ ?_ ?_
           ·exact (cq (aA hr.units) (eIx bR (eIx bR (eVx 0) ah (fun _ _=>rfl)) ah (fun _ _=>rfl)) aw (bN _))
           ·refine ax ?_;refine BI (i:=3) ?_ c6.nd rfl (Or.inl rfl) rfl (Or.inl rfl);exact (cT (eA aw (eA (eSl (orS ip (orS d4 g7)) (eIx bR (eVx 0) ah (fun _ _=>rfl)) (eP ah) Cz) ae rfl) rfl))
           ·exact bz
          ·refine ax ?_;exact (aI (eOp ag (eOp ag (cT (eA (eVx 1) (eA aw ae rfl) rfl)) (eCl G41 hr (T.d 41 rfl).m (T.d 41 rfl).F.kp (T.d 41 rfl).b (eA (cT (eA (cT (eA (eTs fg T.z_str (eA (eIx bR (eVx 0) ah (fun _ _=>rfl)) ae rfl)) ae rfl)) (eA (cT (eA (eVx 2) ae rfl)) (eA (eVx 3) (eA (eCl G42 hr (T.d 42 rfl).m (T.d 42 rfl).F.kp (T.d 42 rfl).b (eA (eIx bR (eVx 0) ah (fun _ _=>rfl)) ae rfl)) ae rfl) rfl) rfl) rfl)) ae rfl))) (cT (eA aw ae rfl))))
       ·exact bz
      ·refine ai ?_ ?_
       ·refine br ?_ ?_ ?_
        ·exact (cq (bp hr.units) (eVx 1) (eE (eA aw (eA aw (eA aw (eA aw ae rfl) rfl) rfl) rfl)) (by with_unfolding_all rfl))
        ·refine ax ?_;exact (aI (eOp ag (eOp ag (cT (eA (eVx 1) (eA aw ae rfl) rfl)) (eCl G41 hr (T.d 41 rfl).m (T.d 41 rfl).F.kp (T.d 41 rfl).b (eA (B8 [] (eIT (eIx bR (eVx 0) ah (fun _ _=>rfl))) eT0 (eC fun _ _ _ _=>(eCl G42 hr (T.d 42 rfl).m (T.d 42 rfl).F.kp (T.d 42 rfl).b (eA (eVx 0) ae rfl))) rfl (bsc (sc:=aa b3) rfl (by decide +kernel)) (by decide +kernel) trivial (fun _=>rfl)) ae rfl))) (cT (eA aw ae rfl))))
        ·exact bz
       ·refine ax ?_;exact (aI (cT (eA (eVx 1) ae rfl)))
theorem vL (T:Txt w K mg t) (G40:gi P w K mg base t) (G41:nO P w K mg base t) (G42:fM P w K mg base t (3+n) n):fM P w K mg base t (3+(n+1)) (n+1) :=
 ((T.d 42 rfl).F.okJ c6 (fun vs H Q E h=>su h) (fun cdv A outer s H vs Q E hr h=>⟨_,uG T G40 G41 G42 hr,by rw [show kI K t n=rS K (gav t) (kZ (cJ n)) from rfl];exact xC (N:=["_law_form_here", "_law_word", "_law_high", "_law_step"]) (aJ T) h (by decide)⟩):fM P w K mg base t ((3+n)+1) (n+1)).mono (by omega)
theorem zJ (T:Txt w K mg t):fM P w K mg base t (2+1) 0 :=
 aO.no (k:=2) (T.d 42 rfl).F c6 fun vs H Q E h=>by obtain ⟨G,ds,is,pr,outs,hF,_⟩:=h;cases hF
theorem BR (T:Txt w K mg t):AD P w K mg base t :=
 (T.d 43 rfl).ok qN (aJ T) fun hr=>ai (eSx qN.nd 2 aw) (ai (eSx qN.nd 3 aw) (ax (aI (eOr (tV (lD (bp hr.units) (eIy (eVx 0) (eUy ah)) (eOp ag (eVx 2) aw) (by with_unfolding_all rfl)) (tf (lD (bp hr.units) (eIy (eVx 1) ah) (eVx 2) (by with_unfolding_all rfl)))) (tf (tV (lD (bp hr.units) (eIy (eVx 0) (eUy ah)) (eOp ag (eVx 3) aw) (by with_unfolding_all rfl)) (tf (lD (bp hr.units) (eIy (eVx 1) ah) (eVx 3) (by with_unfolding_all rfl)))))))))
theorem BB (T:Txt w K mg t) (G32:fX P w K mg base t) (G43:AD P w K mg base t):Ay P w K mg base t :=
 (T.d 44 rfl).ok dR (aJ T) fun hr=>ai (eSx dR.nd 2 (eIy (cT (eAx ah (eA ah (eA ah ae rfl) rfl))) (eCx G32 hr (T.d 32 rfl) (eAx (eVx 0) (eA ah ae rfl))))) (ai (eSx dR.nd 3 (eOp ni aw (eCx G32 hr (T.d 32 rfl) (eAx (eVx 0) (eAx (eVx 2) ae))))) (ai (eSx dR.nd 4 (cT ae)) (ai (eFx (eR1 rfl T.z_range (eAx (eBs aT T.z_len (eAx (eVx 1) ae)) ae) rfl) (eGx dR.nd 5) (ai (eSx dR.nd 6 (eCx G32 hr (T.d 32 rfl) (eAx (eVx 0) (eAx (eVx 2) ae)))) (ai (br (eW (nU (eTx sH (eVx 5) ah) (nU (eTx (aA hr.units) (eVx 6) ah) (iX (eUx (eCx G43 hr (T.d 43 rfl) (eAx (eIy (eVx 1) (eOp cF (eVx 5) ah)) (eAx (eIy (eVx 1) (eVx 5)) ae)))))))) (ax (eSx dR.nd 6 ah)) bz) (ai (eSx dR.nd 3 (eOp ag (eVx 3) (eOp ni aw (eOp cL (eVx 6) (eTs nE T.z_int (eAx (lD sH (eVx 5) ah (bN _)) ae)))))) (ai (bS (eBM (eVx 4) (eAx (eBs aT T.z_len (eAx (eVx 3) ae)) ae) bK MB MJ MI rfl rfl rfl rfl rfl) rfl) (ax (eSx dR.nd 3 (eOp ag (eVx 3) (eIy (eVx 1) (eVx 5)))))))))) (ax (aI (eE (eAx (eVx 3) (eAx (eVx 4) ae))))))))
theorem ye (T:Txt w K mg t) (G32:fX P w K mg base t) (G39:vz P w K mg base t) (G45:ig P w K mg base t (2+n) n):ig P w K mg base t (2+(n+1)) (n+1) :=
 ((T.d 45 rfl).ok fD (aJ T) fun hr=>ai (br (eTx (aA hr.units) (eIy (eVx 1) ah) aw) (ai (eSx fD.nd 2 (cT ae)) (ai (eFx (eIT (eIy (eVx 1) ah)) (eGx fD.nd 3) (ax (bS (eBM (eVx 2) (eAx (eCx G32 hr (T.d 32 rfl) (eAx (eVy 0) (eAx (eOp ag (eBs aT T.z_len (eAx (eVx 2) ae)) ah) ae))) (eAx (eVx 3) ae)) wX MB PySem.F.slot_list_insert PySem.F.type_list_insert rfl rfl rfl rfl rfl) rfl))) (ax (aI (eE (eAx aw (eAx (eTs c8 T.z_tuple (eAx (eVx 2) ae)) ae))))))) bz) (ai (eSx fD.nd 4 (eTs c8 T.z_tuple (eAx (eKx ["_law_pen_here"] (eIL (eCx G39 hr (T.d 39 rfl) (eAx (eVx 1) ae))) eT0 (eC fun _ _ _ _=>(eCx G45 hr (T.d 45 rfl) (eAx (eVy 1) (eA (eVx 0) ae rfl)))) (bsc (sc:=aa iS) rfl (by decide +kernel)) ⟨rfl,⟨rfl,rfl⟩,trivial⟩) ae))) (ai (br (eTx (aA hr.units) (eIy (eVx 1) ah) aw) (ax (aI (eOp ag (eE (eAx aw ae)) (eVx 4)))) bz) (ai (br (cq (bp hr.units) (eIy (eVx 1) ah) (eE (eAx aw (eAx aw ae))) (by with_unfolding_all rfl)) (ax (aI (eOp ag (eSl (orS ip (orS d4 g7)) (eVx 1) Cz (eP ah)) (eVx 4)))) bz) (ai (br (cq (bp hr.units) (eIy (eVx 1) ah) (eE (eAx aw (eAx aw (eAx aw (eAx aw ae))))) (by with_unfolding_all rfl)) (ax (aI (eE (eAx (eIy (eVx 1) ah) (eAx (eVx 4) ae))))) bz) (ax (aI (eVx 1))))))):ig P w K mg base t ((2+n)+1) (n+1)).mono (by omega)
theorem zS (T:Txt w K mg t):ig P w K mg base t (1+1) 0 :=
 aO.no (k:=1) (T.d 45 rfl).F fD fun vs H Q E h=>by obtain ⟨G,ds,is,pr,outs,hF,_⟩:=h;cases hF
theorem zE (T:Txt w K mg t) (G46:kA P w K mg base t (1+n) n):kA P w K mg base t (1+(n+1)) (n+1) :=
 ((T.d 46 rfl).ok tT (aJ T) fun hr=>ai (br (eUx (eIz T.z_isinstance (eVx 1) T.z_tuple)) (ai (br (eW (vi (iL (eUx (eIz T.z_isinstance (eVx 0) T.z_tuple))) (kU (eTx (mI hr.units) (eBs aT T.z_len (eAx (eVx 0) ae)) (eBs aT T.z_len (eAx (eVx 1) ae)))))) (ax (aI eBl)) bz) (ax (aI (lD (o6 hr.units) eBl (EA (n:=2) (js:=[]) ["_law_one", "_law_other"] [] (eIZ T.z_zip (eAx (eVx 0) (eAx (eVx 1) ae))) (J7 (i:=0) (by decide +kernel) rfl rfl (J7 (i:=1) (by decide +kernel) rfl rfl Li)) (eC fun _ _ _ _=>(eCx G46 hr (T.d 46 rfl) (eAx (eVx 0) (eAx (eVx 1) ae)))) rfl (KZ (sc:=aa kX) rfl (by decide +kernel)) trivial (fun _=>rfl) (fun _=>rfl) (fun _=>rfl)) (by with_unfolding_all rfl))))) bz) (ai (br (eUx (eIz T.z_isinstance (eVx 1) T.z_str)) (ax (aI (tV (eIz T.z_isinstance (eVx 0) T.z_str) (tf (lD (aA hr.units) (eVx 0) (eVx 1) (bN _)))))) bz) (ai (br (eTx oF (eVx 1) rB) (ax (aI (lD oF (eVx 0) rB (bN _)))) bz) (ax (aI (tV (eIz T.z_isinstance (eVx 0) T.z_int) (tV (J4 (eIz T.z_isinstance (eVx 0) T.z_bool)) (tf (lD (aA hr.units) (eVx 0) (eVx 1) (bN _))))))))):kA P w K mg base t ((1+n)+1) (n+1)).mono (by omega)
theorem CH (T:Txt w K mg t):kA P w K mg base t (0+1) 0 :=
 aO.no (k:=0) (T.d 46 rfl).F tT fun vs H Q E h=>by obtain ⟨G,ds,is,pr,outs,hF,_⟩:=h;cases hF
theorem DY (T:Txt w K mg t) (G31:E7 P w K mg base t) (G33:vD P w K mg base t) (G38:qo P w K mg base t 13 8) (G32:fX P w K mg base t) (G44:Ay P w K mg base t) (G42:fM P w K mg base t 11 8) (G45:ig P w K mg base t 10 8) (G46:kA P w K mg base t 31 30) (G30:ly P w K mg base t) (G16:cN P w K mg base t 20 8):Iz P w K mg base t :=
 (T.d 47 rfl).ok jq (aJ T) fun hr=>ai (eSx jq.nd 1 (eCx G31 hr (T.d 31 rfl) (eAx (eVx 0) ae))) (ai (eFx (eR1 rfl T.z_range (eAx ah ae) rfl) (eGx jq.nd 2) (ai (eSx jq.nd 3 (eCx G33 hr (T.d 33 rfl) (eAx (eVx 1) (eAx ah ae)))) (ai (EL (i:=4) (i1:=1) (i2:=3) (h:=7) (g := "_gh") (f:=(iO 8)) (K:=K) (fun te he=>BI (i:=4) he jq.nd rfl (Or.inl rfl) rfl (Or.inl rfl)) (fun t ha=>BK G38 (hr.mono (by omega)) rfl (T.d 38 rfl).m (T.d 38 rfl).F.kp (T.d 38 rfl).b .nil uJ ha rfl rfl rfl) rfl (H0 rfl) (by decide) (by decide) (by decide) rfl rfl rfl (eVx 1) (eVx 3) (cT (eAx (eIy (cT (eAx ah (eAx ah (eAx ah ae)))) (eCx G32 hr (T.d 32 rfl) (eAx (eVx 1) (eAx ah ae)))) ae)) (eAx (eIy (cT (eAx ah (eAx ah ae))) (eCx G32 hr (T.d 32 rfl) (eAx (eVx 1) (eAx ah ae)))) (eAx eBl ae))) (ai (BJ (eCx G44 hr (T.d 44 rfl) (eAx (eVx 1) (eAx (eCx G42 hr (T.d 42 rfl) (eAx (eCx G45 hr (T.d 45 rfl) (eAx (eVx 1) (eAx (eVx 4) ae))) ae)) ae))) (eGT (n:=2) rfl (Kg (i:=5) jq.nd rfl (Or.inl rfl) (Or.inl rfl) (Kg (i:=6) jq.nd rfl (Or.inl rfl) (Or.inl rfl) LK)) rfl rfl) rfl rfl rfl) (ai (eSx jq.nd 5 (eOp ag (eVx 5) (eOp ni aw (eCx G32 hr (T.d 32 rfl) (eAx (eVx 1) (eAx ah ae)))))) (ax (br (eW (vi (iL (eUx (eCx G46 hr (T.d 46 rfl) (eAx (eCx G30 hr (T.d 30 rfl) (eAx (eVx 5) ae)) (eAx (eVx 4) ae))))) (kU (iL (eUx (eCx G46 hr (T.d 46 rfl) (eAx (eCx G30 hr (T.d 30 rfl) (eAx (eCx G16 hr (T.d 16 rfl) (eAx (eVx 4) ae)) ae)) (eAx (eVx 4) ae)))))))) (ax (aI eBl)) bz))))))) (ax (aI eBl)))
def qv (K:Fg) (t:Adr):TS :=
 (mh (fun D σ H=>(gx (jf K) [] E0 (ay (bE 1) cu)) σ H fun x H1=>bE 0 σ H1 fun y H2=>(ve "tokens").r K y .non x H2 (D.nx σ))
  (mh (fun D σ H=>(tC (.int 0)) σ H fun x H1=>bE 0 σ H1 fun y H2=>(ve "place").r K y .non x H2 (D.nx σ))
  (fun D σ H=>(tC (.int 0)) σ H fun x H1=>bE 0 σ H1 fun y H2=>(ve "forms").r K y .non x H2 (D.nx σ))))
theorem vS (T:Txt w K mg t) (G13:jZ P w K mg base t):tE P w K mg base t:=by
 refine T.yZ.okX x2 (aJ T) (rd:=qv K t) rfl fun hr=>?_;unfold qv;refine ai ?_ ?_
 ·exact (eSF T.cl T.na_tokens (eVx 0) (eCl G13 hr (T.d 13 rfl).m (T.d 13 rfl).F.kp (T.d 13 rfl).b (eA (eVx 1) ae rfl)))
 ·refine ai ?_ ?_
  ·exact (eSF T.cl T.na_place (eVx 0) ah)
  ·refine ax ?_;exact (eSF T.cl T.na_forms (eVx 0) ah)
def md (K:Fg) (t:Adr):TS :=
 (vg (tOp (fun x y=>ixP.r K [x,y]) (tOp (fun x y=>ixP.r K [x,y]) (tCB ((sM "tokens").r K) (ay (bE 0) cu)) (tCB ((sM "place").r K) (ay (bE 0) cu))) (tC (.int 0))))
theorem uS (T:Txt w K mg t):ba P w K mg base t:=by
 refine T.xQ.okX t9 (aJ T) (rd:=md K t) rfl fun hr=>?_;unfold md;refine ax ?_;exact (aI (eIx bR (eIx bR (eFl T.cl T.na_tokens (eVx 0)) (eFl T.cl T.na_place (eVx 0)) (fun _ _=>rfl)) ah (fun _ _=>rfl)))
def l4 (K:Fg) (t:Adr):TS :=
 (mh (wq (Gx (tB (bE 2))) wA lg)
  (mh (fun D σ H=>(tOp (fun x y=>bt.r K [x,y]) (tCB ((sM "place").r K) (ay (bE 0) cu)) (tC (.int 1))) σ H fun x H1=>bE 0 σ H1 fun y H2=>(ve "place").r K y .non x H2 (D.nx σ))
  (vg (bE 1))))
theorem uU (T:Txt w K mg t):bL P w K mg base t:=by
 refine T.wY.okX uR (aJ T) (rd:=l4 K t) rfl fun hr=>?_;unfold l4;refine ai ?_ ?_
 ·refine br ?_ ?_ ?_
  ·exact (iL (KI (eVx 2) (fun _=>rfl)))
  ·refine ax ?_;exact Ap
  ·exact bz
 ·refine ai ?_ ?_
  ·exact (eSF T.cl T.na_place (eVx 0) (eOp ag (eFl T.cl T.na_place (eVx 0)) ah))
  ·refine ax ?_;exact (aI (eVx 1))
def qC (K:Fg) (t:Adr):TS :=
 (ud (fun σ H Q=>bE 0 σ H fun x H1=>(aH "taken" aG).tq K x H1/\(ay (bE 1) (ay (tOp (fun x y=>eqP.r K [x,y]) (fun σ H Q=>bE 0 σ H fun x H1=>(aH "shown" az).tq K x H1/\cu σ H1 fun xs H2=>(aH "shown" az).r K x xs H2 Q) (bE 1)) cu)) σ H1 fun xs H2=>(aH "taken" aG).r K x xs H2 Q))
theorem xO (T:Txt w K mg t) (G49:ba P w K mg base t) (G50:bL P w K mg base t):dJ P w K mg base t:=by
 refine T.yN.okX wB (aJ T) (rd:=qC K t) rfl fun hr=>?_;unfold qC;refine ax ?_;exact (bS (eMt T.cl T.bJ G50 hr T.bO (eVx 0) (eA (eVx 1) (eA (lD (aA hr.units) (uh T.cl T.aU G49 hr T.aV (eVx 0)) (eVx 1) (bN _)) ae rfl) rfl)) rfl)
end
theorem El {P:Program} {w:World} {K:Fg} {mg:Str->Option Value} {base:Heap} {t:Adr} (T:Txt w K mg t):aO P w K mg base CX0 32 (t.f 47).1 (t.f 47).2 ["_law_script"] (wc K):=by
 have h0:=F4 (P:=P) (w:=w) (base:=base) T;have h1:=AX (P:=P) (w:=w) (base:=base) T;have h2:=zA (P:=P) (w:=w) (base:=base) T h1;have h3:=vn (P:=P) (w:=w) (base:=base) T h1;have h4:=BY (P:=P) (w:=w) (base:=base) T h1 h3;have h5:=D8 (P:=P) (w:=w) (base:=base) T h1 h3 h4;have h6:=zk (P:=P) (w:=w) (base:=base) T h1;have m_form:∀ n,aO P w K mg base CX0 (5+n) (t.f 38).1 (t.f 38).2 ["_law_pen_here", "_law_names_here", "_law_room", "_law_deep", "_law_free"] (xW K n):=by
  intro n;induction n with
  | zero=>exact (Du T).mono (by omega)
  | succ n h7 =>
   exact (Ce (n:=n) T h1 h5 h7 h6).mono (by omega)
 have h7:=m_form 8;have h8:=BR (P:=P) (w:=w) (base:=base) T;have h9:=BB (P:=P) (w:=w) (base:=base) T h1 h8;have h10:=oW (P:=P) (w:=w) (base:=base) T;have h11:=wH (P:=P) (w:=w) (base:=base) T;have m_tokens:∀ n,aO P w K mg base CX0 (3+n) (t.f 42).1 (t.f 42).2 ["_law_form_here"] (fE K n):=by
  intro n;induction n with
  | zero=>exact (zJ T).mono (by omega)
  | succ n h12 =>
   exact (vL (n:=n) T h10 h11 h12).mono (by omega)
 have h12:=m_tokens 8;have h13:=yM (P:=P) (w:=w) (base:=base) T;have m_turned:∀ n,aO P w K mg base CX0 (2+n) (t.f 45).1 (t.f 45).2 ["_law_pen_here", "_law_form_here"] (pq K n):=by
  intro n;induction n with
  | zero=>exact (zS T).mono (by omega)
  | succ n h14 =>
   exact (ye (n:=n) T h1 h13 h14).mono (by omega)
 have h14:=m_turned 8;have m_alike:∀ n,aO P w K mg base CX0 (1+n) (t.f 46).1 (t.f 46).2 ["_law_found", "_law_due"] (tO K n):=by
  intro n;induction n with
  | zero=>exact (CH T).mono (by omega)
  | succ n h15 =>
   exact (zE (n:=n) T h15).mono (by omega)
 have h15:=m_alike 30;have h16:=u6 (P:=P) (w:=w) (base:=base) T;have h17:=qc (P:=P) (w:=w) (base:=base) T h16;have h18:=oU (P:=P) (w:=w) (base:=base) T h17;have h19:=vS (P:=P) (w:=w) (base:=base) T h18;have h20:=uS (P:=P) (w:=w) (base:=base) T;have h21:=uU (P:=P) (w:=w) (base:=base) T;have h22:=xO (P:=P) (w:=w) (base:=base) T h20 h21;have h23:=nk (P:=P) (w:=w) (base:=base) T h20 h21;have h24:=lY (P:=P) (w:=w) (base:=base) T;have h25:=uN (P:=P) (w:=w) (base:=base) T h24;have h26:=uF (P:=P) (w:=w) (base:=base) T h24;have h27:=pU (P:=P) (w:=w) (base:=base) T;have h28:=vb (P:=P) (w:=w) (base:=base) T h25 h26 h27;have h29:=rq (P:=P) (w:=w) (base:=base) T;have h30:=m3 (P:=P) (w:=w) (base:=base) T h29;have h31:=qZ (P:=P) (w:=w) (base:=base) T h28 h20 h30 h21;have h32:=qe (P:=P) (w:=w) (base:=base) T h20 h21 h28 h30;have h33:=qE (P:=P) (w:=w) (base:=base) T h20 h26 h21;have h34:=qw (P:=P) (w:=w) (base:=base) T h20 h33 h22;have h35:=oZ (P:=P) (w:=w) (base:=base) T;have h36:=o8 (P:=P) (w:=w) (base:=base) T h35;have h37:=lO (P:=P) (w:=w) (base:=base) T h28 h20 h29 h21;have h38:=nJ (P:=P) (w:=w) (base:=base) T h28 h20 h21;have h39:=lW (P:=P) (w:=w) (base:=base) T h22 h20 h23 h26 h21;have m_read_part:∀ n,aO P w K mg base CX0 (9+2*n) (t.f 29).1 (t.f 29).2 ["reader", "depth", "walked"] (jv K n):=by
  intro n;induction n with
  | zero=>exact (rR T).mono (by omega)
  | succ n h43 =>
   have h40:=lp (n:=n) T h22 h43;have h41:=jo (n:=n) T h22 h20 h23 h43;have h42:=ja (n:=n) T h22 h31 h32 h34 h43;exact (oz (n:=n) T h20 h36 h21 h37 h38 h33 h39 h40 h41 h42).mono (by omega)
 have h43:=m_read_part 8;have h40:=lp (n:=8) T h22 h43;have h41:=jo (n:=8) T h22 h20 h23 h43;have h42:=ja (n:=8) T h22 h31 h32 h34 h43;have h47:=qi (P:=P) (w:=w) (base:=base) T h19 h43 h22;have h48:=pb (P:=P) (w:=w) (base:=base) T;have h49:=iF (P:=P) (w:=w) (base:=base) T;have h50:=uV (P:=P) (w:=w) (base:=base) T;have h51:=o5 (P:=P) (w:=w) (base:=base) T h50;have m_show_form:∀ n,aO P w K mg base CX0 (4+2*n) (t.f 16).1 (t.f 16).2 ["form"] (iZ K n):=by
  intro n;induction n with
  | zero=>exact (qS T).mono (by omega)
  | succ n h53 =>
   have h52:=fW (n:=n) T h48 h49 h53;exact (qr (n:=n) T h35 h51 h52).mono (by omega)
 have h53:=m_show_form 8;have h52:=fW (n:=8) T h48 h49 h53;have h55:=DY (P:=P) (w:=w) (base:=base) T h0 h2 h7 h1 h9 h12 h14 h15 h47 h53;exact h55
theorem Ff {w:World} {K:Fg} {h:Heap} {mg:Str->Option Value} (X:K.In h) (G:h.Ns mainGlobals mg) (D:CQ K mg dfs)
  {fm0:Addr} {odm0 anm0:Option Addr} {slm0:Array (Option Value)} {ocm0 kVm0 dcm0 pmm0 cdm0 ctm0:Value}
  (am0:PySem.W.findIn K (.ref (200:Addr)) "__init__" = some (some (.ref fm0))) (lm0:K.lookup fm0=some ⟨ocm0,odm0,.func (PySem.W.fnOf "__init__" "FormReader.__init__" (bT bf) (aZ bf) (aa bf) .none kVm0 dcm0 pmm0 anm0 cdm0 ctm0),slm0⟩) (cm0:PySem.W.codeIn K cdm0 "FormReader.__init__" = true) (km0:PySem.W.keepIn K (.ref fm0)=true) (im0:PySem.W.isFn K (.ref fm0)=true)
  {fm1:Addr} {odm1 anm1:Option Addr} {slm1:Array (Option Value)} {ocm1 kVm1 dcm1 pmm1 cdm1 ctm1:Value}
  (am1:PySem.W.findIn K (.ref (200:Addr)) "shown" = some (some (.ref fm1))) (lm1:K.lookup fm1=some ⟨ocm1,odm1,.func (PySem.W.fnOf "shown" "FormReader.shown" (bT aR) (aZ aR) (aa aR) .none kVm1 dcm1 pmm1 anm1 cdm1 ctm1),slm1⟩) (cm1:PySem.W.codeIn K cdm1 "FormReader.shown" = true) (km1:PySem.W.keepIn K (.ref fm1)=true) (im1:PySem.W.isFn K (.ref fm1)=true)
  {fm2:Addr} {odm2 anm2:Option Addr} {slm2:Array (Option Value)} {ocm2 kVm2 dcm2 pmm2 cdm2 ctm2:Value}
  (am2:PySem.W.findIn K (.ref (200:Addr)) "taken" = some (some (.ref fm2))) (lm2:K.lookup fm2=some ⟨ocm2,odm2,.func (PySem.W.fnOf "taken" "FormReader.taken" (bT aS) (aZ aS) (aa aS) .none kVm2 dcm2 pmm2 anm2 cdm2 ctm2),slm2⟩) (cm2:PySem.W.codeIn K cdm2 "FormReader.taken" = true) (km2:PySem.W.keepIn K (.ref fm2)=true) (im2:PySem.W.isFn K (.ref fm2)=true)
  {fm3:Addr} {odm3 anm3:Option Addr} {slm3:Array (Option Value)} {ocm3 kVm3 dcm3 pmm3 cdm3 ctm3:Value}
  (am3:PySem.W.findIn K (.ref (200:Addr)) "skip" = some (some (.ref fm3))) (lm3:K.lookup fm3=some ⟨ocm3,odm3,.func (PySem.W.fnOf "skip" "FormReader.skip" (bT bh) (aZ bh) (aa bh) .none kVm3 dcm3 pmm3 anm3 cdm3 ctm3),slm3⟩) (cm3:PySem.W.codeIn K cdm3 "FormReader.skip" = true) (km3:PySem.W.keepIn K (.ref fm3)=true) (im3:PySem.W.isFn K (.ref fm3)=true)
  (C_g:PySem.W.nsIn K mainGlobals "FormReader" = some (some (.ref (200:Addr)))) (C_pg:PySem.W.plainGet K (200:Addr) Str.empty=true) (C_hd:PySem.W.hasDictIn K (200:Addr)=true) (C_po:PySem.W.plainOver K (200:Addr)=true) (C_sa:PySem.W.findIn K (.ref (200:Addr)) "__setattr__" = some (some (.builtin "object.__setattr__"))) (C_mk:PySem.W.makesIn K (200:Addr)=true) (C_kp:PySem.W.keepIn K (.ref (200:Addr))=true)
  (na_forms:PySem.W.findIn K (.ref (200:Addr)) "forms" = some none)
  (na_place:PySem.W.findIn K (.ref (200:Addr)) "place" = some none)
  (na_tokens:PySem.W.findIn K (.ref (200:Addr)) "tokens" = some none)
  (z_abs:PySem.W.nsIn K mainGlobals "abs" = some none)
  (z_all:PySem.W.nsIn K mainGlobals "all" = some none)
  (z_bool:PySem.W.nsIn K mainGlobals "bool" = some none)
  (z_int:PySem.W.nsIn K mainGlobals "int" = some none)
  (z_isinstance:PySem.W.nsIn K mainGlobals "isinstance" = some none)
  (z_len:PySem.W.nsIn K mainGlobals "len" = some none)
  (z_list:PySem.W.nsIn K mainGlobals "list" = some none)
  (z_min:PySem.W.nsIn K mainGlobals "min" = some none)
  (z_range:PySem.W.nsIn K mainGlobals "range" = some none)
  (z_sorted:PySem.W.nsIn K mainGlobals "sorted" = some none)
  (z_str:PySem.W.nsIn K mainGlobals "str" = some none)
  (z_tuple:PySem.W.nsIn K mainGlobals "tuple" = some none)
  (z_zip:PySem.W.nsIn K mainGlobals "zip" = some none)
  {tk_DEEPEST:Tok} (g_DEEPEST:PySem.W.nsIn K mainGlobals "DEEPEST" = some (some (Value.int 8 tk_DEEPEST)))
  {tk_END:Tok} (g_END:PySem.W.nsIn K mainGlobals "END" = some (some (Value.str "" tk_END)))
  {tk_FIGURES:Tok} (g_FIGURES:PySem.W.nsIn K mainGlobals "FIGURES" = some (some (Value.str "0123456789" tk_FIGURES)))
  {tk_LETTERS:Tok} (g_LETTERS:PySem.W.nsIn K mainGlobals "LETTERS" = some (some (Value.str "abcdefghijklmnopqrstuvwxyz" tk_LETTERS)))
  {tk_MOST_BONDS:Tok} (g_MOST_BONDS:PySem.W.nsIn K mainGlobals "MOST_BONDS" = some (some (Value.int 8 tk_MOST_BONDS)))
  {tk_MOST_ENDS:Tok} (g_MOST_ENDS:PySem.W.nsIn K mainGlobals "MOST_ENDS" = some (some (Value.int 60 tk_MOST_ENDS)))
  {tk_MOST_FIGURES:Tok} (g_MOST_FIGURES:PySem.W.nsIn K mainGlobals "MOST_FIGURES" = some (some (Value.int 30 tk_MOST_FIGURES)))
  {tk_MOST_FORMS:Tok} (g_MOST_FORMS:PySem.W.nsIn K mainGlobals "MOST_FORMS" = some (some (Value.int 40 tk_MOST_FORMS)))
  {tk_MOST_LETTERS:Tok} (g_MOST_LETTERS:PySem.W.nsIn K mainGlobals "MOST_LETTERS" = some (some (Value.int 8 tk_MOST_LETTERS)))
  {tk_MOST_LISTED:Tok} (g_MOST_LISTED:PySem.W.nsIn K mainGlobals "MOST_LISTED" = some (some (Value.int 6 tk_MOST_LISTED)))
  {ca_LISTS:Addr} (g_LISTS:PySem.W.nsIn K mainGlobals "LISTS" = some (some (.ref ca_LISTS)))
  {od_LISTS:Option Addr} {sl_LISTS:Array (Option Value)} {nn_LISTS:Nat} {tt_LISTS_0:Tok} {tt_LISTS_1:Tok} {tt_LISTS_2:Tok} {tt_LISTS_3:Tok} (s_LISTS:K.lookup ca_LISTS=some ⟨.type "tuple", od_LISTS,.seq #[.str "all" tt_LISTS_0,.str "some" tt_LISTS_1,.str "one" tt_LISTS_2,.str "none" tt_LISTS_3] nn_LISTS,sl_LISTS⟩)
  {ca_WALKS:Addr} (g_WALKS:PySem.W.nsIn K mainGlobals "WALKS" = some (some (.ref ca_WALKS)))
  {od_WALKS:Option Addr} {sl_WALKS:Array (Option Value)} {nn_WALKS:Nat} {tt_WALKS_0:Tok} {tt_WALKS_1:Tok} (s_WALKS:K.lookup ca_WALKS=some ⟨.type "tuple", od_WALKS,.seq #[.str "many" tt_WALKS_0,.str "each" tt_WALKS_1] nn_WALKS,sl_WALKS⟩)
  {ca_LENGTHS:Addr} (g_LENGTHS:PySem.W.nsIn K mainGlobals "LENGTHS" = some (some (.ref ca_LENGTHS)))
  {es_LENGTHS:Array DictEntry} {dn_LENGTHS:Nat} {dt_LENGTHS_0:Tok} {dt_LENGTHS_1:Tok} {dt_LENGTHS_2:Tok} {dt_LENGTHS_3:Tok} {dt_LENGTHS_4:Tok} {dt_LENGTHS_5:Tok} {dt_LENGTHS_6:Tok} {dt_LENGTHS_7:Tok} {dt_LENGTHS_8:Tok} {dt_LENGTHS_9:Tok} {dt_LENGTHS_10:Tok} {dt_LENGTHS_11:Tok} {dt_LENGTHS_12:Tok} {dt_LENGTHS_13:Tok} {dt_LENGTHS_14:Tok} {dt_LENGTHS_15:Tok} (d_LENGTHS:K.lookup ca_LENGTHS=some ⟨.type "dict", none,.dict es_LENGTHS dn_LENGTHS,#[]⟩) (q_LENGTHS:PySem.W.KeysLit w.params es_LENGTHS.toList) (y_LENGTHS:(ca_LENGTHS==sysModules)=false) (n_LENGTHS:es_LENGTHS.toList.map CU=dr.map fun p=>some p.1) (v_LENGTHS_0:PySem.W.nsIn K ca_LENGTHS "any" = some (some (Value.int 1 dt_LENGTHS_0))) (v_LENGTHS_1:PySem.W.nsIn K ca_LENGTHS "thing" = some (some (Value.int 1 dt_LENGTHS_1))) (v_LENGTHS_2:PySem.W.nsIn K ca_LENGTHS "number" = some (some (Value.int 1 dt_LENGTHS_2))) (v_LENGTHS_3:PySem.W.nsIn K ca_LENGTHS "said" = some (some (Value.int 1 dt_LENGTHS_3))) (v_LENGTHS_4:PySem.W.nsIn K ca_LENGTHS "from" = some (some (Value.int 2 dt_LENGTHS_4))) (v_LENGTHS_5:PySem.W.nsIn K ca_LENGTHS "upto" = some (some (Value.int 2 dt_LENGTHS_5))) (v_LENGTHS_6:PySem.W.nsIn K ca_LENGTHS "is" = some (some (Value.int 2 dt_LENGTHS_6))) (v_LENGTHS_7:PySem.W.nsIn K ca_LENGTHS "keeps" = some (some (Value.int 2 dt_LENGTHS_7))) (v_LENGTHS_8:PySem.W.nsIn K ca_LENGTHS "not" = some (some (Value.int 2 dt_LENGTHS_8))) (v_LENGTHS_9:PySem.W.nsIn K ca_LENGTHS "all" = some (some (Value.int 2 dt_LENGTHS_9))) (v_LENGTHS_10:PySem.W.nsIn K ca_LENGTHS "some" = some (some (Value.int 2 dt_LENGTHS_10))) (v_LENGTHS_11:PySem.W.nsIn K ca_LENGTHS "one" = some (some (Value.int 2 dt_LENGTHS_11))) (v_LENGTHS_12:PySem.W.nsIn K ca_LENGTHS "none" = some (some (Value.int 2 dt_LENGTHS_12))) (v_LENGTHS_13:PySem.W.nsIn K ca_LENGTHS "many" = some (some (Value.int 5 dt_LENGTHS_13))) (v_LENGTHS_14:PySem.W.nsIn K ca_LENGTHS "each" = some (some (Value.int 5 dt_LENGTHS_14))) (v_LENGTHS_15:PySem.W.nsIn K ca_LENGTHS "closed" = some (some (Value.int 2 dt_LENGTHS_15)))
  : ∃ t:Adr,(∀ (s:Shared) (u:Value),BindsTo s (t.f 47).2 ⟨[u],[]⟩ [("_law_script", u)])/\Txt w K mg t:=by
 obtain ⟨f,hf⟩:=K9 D
 exact ⟨⟨f,fm0,PySem.W.fnOf "__init__" "FormReader.__init__" (bT bf) (aZ bf) (aa bf) .none kVm0 dcm0 pmm0 anm0 cdm0 ctm0,fm1,PySem.W.fnOf "shown" "FormReader.shown" (bT aR) (aZ aR) (aa aR) .none kVm1 dcm1 pmm1 anm1 cdm1 ctm1,fm2,PySem.W.fnOf "taken" "FormReader.taken" (bT aS) (aZ aS) (aa aS) .none kVm2 dcm2 pmm2 anm2 cdm2 ctm2,fm3,PySem.W.fnOf "skip" "FormReader.skip" (bT bh) (aZ bh) (aa bh) .none kVm3 dcm3 pmm3 anm3 cdm3 ctm3,ca_LISTS,ca_WALKS,ca_LENGTHS,tk_DEEPEST,tk_END,tk_FIGURES,tk_LETTERS,tk_MOST_BONDS,tk_MOST_ENDS,tk_MOST_FIGURES,tk_MOST_FORMS,tk_MOST_LETTERS,tk_MOST_LISTED⟩,fun s u=>.of_eq ((hf 47 rfl).c [u] rfl),⟨hf,
  L2.gP (st:=bf) lm0 cm0 km0,
  (L2.gP (st:=bf) lm0 cm0 km0).binds (ps:=["self", "text"]) fun _ _ _ _ _ _ us hl=>match us,hl with | [_,_],_=>rfl,
  L2.gP (st:=aR) lm1 cm1 km1,
  (L2.gP (st:=aR) lm1 cm1 km1).binds (ps:=["self"]) fun _ _ _ _ _ _ us hl=>match us,hl with | [_],_=>rfl,
  ⟨am1,im1,km1⟩,
  L2.gP (st:=aS) lm2 cm2 km2,
  (L2.gP (st:=aS) lm2 cm2 km2).binds (ps:=["self", "value", "fits"]) fun _ _ _ _ _ _ us hl=>match us,hl with | [_,_,_],_=>rfl,
  ⟨am2,im2,km2⟩,
  L2.gP (st:=bh) lm3 cm3 km3,
  (L2.gP (st:=bh) lm3 cm3 km3).binds (ps:=["self", "token"]) fun _ _ _ _ _ _ us hl=>match us,hl with | [_,_],_=>rfl,
  ⟨am3,im3,km3⟩,
  ⟨C_pg,C_hd,C_po,C_sa⟩,
  ⟨C_mk,am0,im0,C_kp⟩,
  MR X G C_g,
  na_forms,
  na_place,
  na_tokens,
  MH X G z_abs,
  MH X G z_all,
  MH X G z_bool,
  MH X G z_int,
  MH X G z_isinstance,
  MH X G z_len,
  MH X G z_list,
  MH X G z_min,
  MH X G z_range,
  MH X G z_sorted,
  MH X G z_str,
  MH X G z_tuple,
  MH X G z_zip,
  MR X G g_DEEPEST,
  MR X G g_END,
  MR X G g_FIGURES,
  MR X G g_LENGTHS,
  MR X G g_LETTERS,
  MR X G g_LISTS,
  MR X G g_MOST_BONDS,
  MR X G g_MOST_ENDS,
  MR X G g_MOST_FIGURES,
  MR X G g_MOST_FORMS,
  MR X G g_MOST_LETTERS,
  MR X G g_MOST_LISTED,
  MR X G g_WALKS,
  ⟨_,_,d_LENGTHS,q_LENGTHS,y_LENGTHS,Jf n_LENGTHS (fun p hp=>by unfold dr at hp;simp only [Mc,ML,M7] at hp;rcases hp with rfl | rfl | rfl | rfl | rfl | rfl | rfl | rfl | rfl | rfl | rfl | rfl | rfl | rfl | rfl | rfl <;> exact ⟨_,PySem.W.find_K d_LENGTHS (by assumption),_,rfl⟩)⟩,
  fun H=>Or.inr ⟨_,_,_,s_LISTS,rfl,rfl,(by show 4<=sizeLine;decide),(.cons ⟨_,rfl⟩ (.cons ⟨_,rfl⟩ (.cons ⟨_,rfl⟩ (.cons ⟨_,rfl⟩ .nil))))⟩,
  fun H=>Or.inr ⟨_,_,_,s_WALKS,rfl,rfl,(by show 2<=sizeLine;decide),(.cons ⟨_,rfl⟩ (.cons ⟨_,rfl⟩ .nil))⟩⟩⟩
local macro_rules | `(tactic| walk_at "e")=>`(tactic| (case e9=>exact rfl))
local macro_rules | `(tactic| walk_at "p")=>`(tactic| first | with_reducible refine og ?_ | walk_at "p0")
local macro_rules | `(tactic| walk_at "p0")=>`(tactic| first
 | (with_reducible first | refine D4 ?_ | refine ES ?_ | refine E5 ?_ | refine DD ?_ | refine ER ?_ | refine IP ?_ | refine DC ?_ | refine HH ?_ | refine K6 ?_ | refine HU ?_ | refine Iu ?_ | refine IJ ?_ | refine HD ?_ | refine Bu ?_ | refine vN ?_ | refine AO ?_)
 | ((with_reducible refine w_var (d:=?d9) ?e9 ?_);walk_at "e") | ((with_reducible refine DS (d:=?d9) ?e9 ?_);walk_at "e") | ((with_reducible refine Dw (d:=?d9) ?e9 ?_);walk_at "e") | ((with_reducible refine Fs (d:=?d9) ?e9 ?_);walk_at "e")
 | ((with_reducible refine JH (d:=?d9) ?e9 ?_);walk_at "e") | ((with_reducible refine Hi (d:=?d9) ?e9 ?_);walk_at "e") | ((with_reducible refine Jm (d:=?d9) ?e9 ?_);walk_at "e")
 | (with_reducible first | refine AJ ?_ | refine C3 ?_ | refine Jh ?_) | ((with_reducible refine Io (d:=?d9) ?e9 ?f9 ?_);walk_at "e"; (case f9=>exact rfl))
 | (with_reducible first | refine DT ?_ | refine Fp ?_ | refine JX ?_ | refine Ds ?_ | refine Hb ?_ | refine EU ?_ | refine E1 ?_ | refine HV ?_ | refine GY rfl ?_ | refine FV rfl ?_ | refine Hm ?_ | refine HJ ?_ | refine w_and ?_ | refine w_or ?_ | refine w_not ?_ | refine Jb ?_ | refine Ku ?_ | refine w_iD ?_ | refine LL ?_ | refine K5 ?_ | refine Ll ?_ | refine LB ?_ | refine Lc ?_)
 | walk_at "q")
local macro_rules | `(tactic| walk_at "q0")=>`(tactic| first
 | ((with_reducible refine dN ?e9 ?_);walk_at "e") | ((with_reducible refine fF ?e9 ?_);walk_at "e")
 | ((show WPr _ _ _ _);refine ⟨_,_,rfl,rfl,?_⟩) | ((show WPr _ _ _ _);(refine ⟨_,_,rfl,Me ?c9,?_⟩);(case c9=>walk_at "c")) | ((show GP _ _ _ _);refine ⟨_,_,rfl,rfl,?_⟩) | ((show zB _ _ _);refine ⟨_,rfl,?_⟩) | ((show Gy _ _ _ _ _ _ _);refine ⟨_,rfl,rfl,?_⟩) | ((show C4 _ _ _ _ _ _);refine ⟨_,_,_,rfl,rfl,rfl,?_⟩) | ((show Gj _ _ _ _ _ _);refine ⟨_,rfl,rfl,?_⟩) | ((show AM _ _ _ _ _);refine ⟨_,_,_,rfl,rfl,rfl,?_⟩) | ((show WMr _ _ _ _ _);refine ⟨_,_,_,_,rfl,rfl,rfl,?_⟩) | ((show WTp _ _ _ _);refine ⟨_,rfl,Mv rfl,?_⟩) | ((show Dh _ _ _ _);refine ⟨_,_,rfl,rfl,?_⟩) | ((show Gd _ _ _ _);refine ⟨_,rfl,rfl,?_⟩) | ((show wC _ _ _ _);refine ⟨_,rfl,rfl,?_⟩)
 | ((with_reducible refine ⟨_,rfl,?_⟩)))
local macro_rules | `(tactic| walk_at "pp")=>`(tactic| repeat walk_at "p")
local macro_rules | `(tactic| walk_at "c")=>`(tactic| first | exact rfl | assumption | (simp only [mulC,Nf,Ms,MQ] <;> omega))
local macro_rules | `(tactic| walk_at "pz")=>`(tactic| repeat walk_at "p0")
local macro_rules | `(tactic| walk_at "n=")=>`(tactic| ((try dsimp only [Cst.i,Cst.s,Cst.b,Cst.n,RV.av,au,List.replicate_succ,List.replicate_zero,dW,gz,aF,cm,aY,fQ,se,List.set_cons_zero,List.set_cons_succ,List.getElem?_cons_zero,List.getElem?_cons_succ,List.map_cons,List.map_nil,List.tail_cons,Option.getD_some,decide_true,decide_false,List.drop_succ_cons,List.drop_zero]);exact rfl))
local macro_rules | `(tactic| walk_at "n")=>`(tactic| ((with_reducible first | refine F7 (e':=?e9) ?h9 ?_ | refine BH (e':=?e9) ?h9 ?_ | refine D6 (e':=?e9) ?h9 ?_ | refine LI (e':=?e9) ?h9 ?_ | refine LN (e':=?e9) ?h9 ?_ | refine Ly (e':=?e9) ?h9 ?_ | refine K8 (e':=?e9) ?h9 ?_ | refine Lj (e':=?e9) ?h9 ?_ | refine Hn (e':=?e9) ?h9 ?_ | refine Ck (e':=?e9) ?h9 ?_ | refine Im (e':=?e9) ?h9 ?_ | refine IH (e':=?e9) ?h9 ?_ | refine GR (e':=?e9) ?h9 ?_ | refine FQ (e':=?e9) ?h9 ?_ | refine Di (e':=?e9) ?h9 ?_ | refine A7 (e':=?e9) ?h9 ?_ | refine DI (e':=?e9) ?h9 ?_ | refine Ea (e':=?e9) ?h9 ?_ | refine DO (e':=?e9) ?h9 ?_);(case h9=>walk_at "n=")))
local macro_rules | `(tactic| walk_at "soft")=>`(tactic| first | exact rN | exact gm | exact Ie | assumption)
local macro_rules | `(tactic| walk_at "l")=>`(tactic| (rename_i h9;apply ym.out h9;clear h9;dsimp only [zm];intros))
local macro_rules | `(tactic| walk_at "L1")=>`(tactic| first | exact (rfl:ym [] []) | refine ⟨_,?_,rfl⟩ | ((refine ⟨_,_,?s9,?_,rfl⟩);(case s9=>walk_at "soft")))
local macro_rules | `(tactic| walk_at "L")=>`(tactic| repeat walk_at "L1")
local macro_rules | `(tactic| walk_at "q")=>`(tactic| first | walk_at "q0" | ((show KC _ _ _ _);refine ⟨_,_,_,rfl,rfl,rfl,?_⟩) | ((show KH _ _ _ _ _);refine ⟨_,_,rfl,rfl,?_⟩) | ((show Gd _ _ _ _);(refine ⟨_,rfl,m4 rfl ?s9,?_⟩);(case s9=>walk_at "soft")) | ((show wC _ _ _ _);(refine ⟨_,rfl,m4 rfl ?s9,?_⟩);(case s9=>walk_at "soft")))
local macro_rules | `(tactic| walk_at "fT1")=>`(tactic| ((refine ug ?f9 ?_);(case f9=>((refine m4 rfl ?s9);(case s9=>walk_at "soft")))))
local macro_rules | `(tactic| walk_at "fT")=>`(tactic| ((refine Dd (e2:=?e9) ?h9 ?_);(case h9=>((repeat walk_at "fT1");exact rfl))))
local macro_rules | `(tactic| walk_at "f")=>`(tactic| ((refine y4 ?h9 ?_);(case h9=>((refine m4 rfl ?s9);(case s9=>walk_at "soft")));walk_at "n"))
local macro_rules | `(tactic| walk_at "ps1")=>`(tactic| ((fail_if_success (with_reducible refine isEq ?_));walk_at "p"))
local macro_rules | `(tactic| walk_at "ps")=>`(tactic| repeat walk_at "ps1")
noncomputable def chB (c:Nat):Bool:=decide (97<=c)&&decide (c<=122)
noncomputable def yi (d:PyData) (k:Int):Bool:=match d with
 | .str x=>decide (k<=(x.length:Int))&&(decide ((x.length:Int)<=8)&&x.cps.toList.all chB)
 | _=>false
theorem LV (c:Nat):leS (Str.ofString "a") ⟨#[c]⟩=decide (97<=c):=by
 have e:(Str.ofString "a").cps.toList=[97]:=by decide +kernel
 unfold leS;rw [e];by_cases h:97<=c
 ·rw [L7 h,Mb]
  ·rfl
  ·intro z;have:c < 97:=by simpa [MX] using z
   omega
 ·rw [Mb h,L7]
  ·rfl
  ·simp [MX];omega
theorem LJ (c:Nat):leS ⟨#[c]⟩ (Str.ofString "z")=decide (c<=122):=by
 have e:(Str.ofString "z").cps.toList=[122]:=by decide +kernel
 unfold leS;rw [e];by_cases h:c<=122
 ·rw [L7 h,Mb]
  ·rfl
  ·intro z;have:122 < c:=by simpa [MX] using z
   omega
 ·rw [Mb h,L7]
  ·rfl
  ·simp [MX];omega
theorem fU {x:Str} {k:Int} {Q:PR->List PyData->Prop} (q:Q (.dat (.bool (yi (.str x) k))) []):WF b6 [.str x,.int k] Q:=by
 refine cn rfl ?_;unfold f7;replace q:Q (.dat (.bool (decide (k<=(x.length:Int))&&(decide ((x.length:Int)<=8)&&x.cps.toList.all chB)))) []:=q;walk_at "pp";refine gc (fun c1=>?_) (fun c1=>?_)
 ·have c1:decide (k<=(x.length:Int))=true:=c1;walk_at "pp";rw [c1,M5] at q;refine gc (fun c2=>?_) (fun c2=>?_)
  ·have c2:(!decide ((x.length:Int)<=8))=true:=c2;have c2:decide ((x.length:Int)<=8)=false:=by simpa using c2
   walk_at "pp";rw [c2] at q;exact q
  ·have c2:(!decide ((x.length:Int)<=8))=false:=c2;have c2:decide ((x.length:Int)<=8)=true:=by simpa using c2
   rw [c2,M5] at q;walk_at "pp";refine dY (fun i ys ec=>ys=((x.cps.toList.take i).map chB).map .bool/\ec=[]) ⟨rfl,rfl⟩ ?_ ?_
   ·rintro i d ys ec hd ⟨rfl,rfl⟩;rw [Mm] at hd;obtain ⟨c,hc,rfl⟩:=Mt.mp hd;have e0:((x.cps.toList.take (i+1)).map chB).map PyData.bool=((x.cps.toList.take i).map chB).map PyData.bool++[.bool (chB c)]:=by rw [<- Nq hc,Mw,Mw];rfl
    refine je ?_;walk_at "pp";have e1:=LV c;have e2:=LJ c;refine gc (fun d1=>?_) (fun d1=>?_)
    ·have d1:leS (Str.ofString "a") ⟨#[c]⟩=true:=d1;walk_at "pp";refine ⟨?_,rfl⟩;rw [e0];unfold chB;rw [<- e1,d1,<-e2];rfl
    ·have d1:leS (Str.ofString "a") ⟨#[c]⟩=false:=d1;walk_at "pp";refine ⟨?_,rfl⟩;rw [e0];unfold chB;rw [<- e1,d1];rfl
   ·rintro ys ec ⟨rfl,rfl⟩;rw [LZ,M9];walk_at "n";walk_at "pp";refine w_all (bs:=x.cps.toList.map chB) rfl ?_;have e3:(x.cps.toList.map chB).all id=x.cps.toList.all chB:=by rw [List.all_map];rfl
    rw [e3];walk_at "pp";exact q
 ·have c1:decide (k<=(x.length:Int))=false:=c1;walk_at "pp";rw [c1] at q;exact q
theorem iG {x:Str} {Q:PR->List PyData->Prop} (q:Q (.dat (.bool (yi (.str x) 1))) []):WF cZ [.str x] Q:=by
 refine cn rfl ?_;unfold mK;walk_at "pp";refine ab (is:=[]) rfl rfl (fU ⟨rfl,?_⟩);walk_at "pp";exact q
noncomputable def whB:PyData->Bool
 | .int _=>true
 | _=>false
theorem dZ {d:PyData} {Q:PR->List PyData->Prop} (hd:EV d=false) (q:Q (.dat (.bool (whB d))) []):WF cD [d] Q:=by
 refine cn rfl ?_;unfold kK;cases d <;> first | (cases hd;done) | (walk_at "pp"; exact q)
noncomputable def Kz:PyData->Bool
 | .int i=>decide ((if i < 0 then -i else i)<=999999999999999999999999999999)
 | _=>false
noncomputable def u9:PyData->Bool
 | .tuple [x]=>yi x 0
 | _=>false
theorem uQ {x:Str} {Q:PR->List PyData->Prop} (q:Q (.dat (.bool (u9 (.tuple [.str x])))) []):WF iH [.tuple [.str x]] Q:=by
 refine cn rfl ?_;unfold l6;walk_at "pp";refine ab (is:=[]) rfl rfl (fU ⟨rfl,?_⟩);walk_at "pp";exact q
noncomputable def uw (d:PyData):Bool:=yi d 1||(Kz d||u9 d)
open PySem.NumText in
theorem Ke:∀ {l:List Nat},AllDigits l->(l.map Char.ofNat).map Char.toNat=l
 | [],_=>rfl
 | c :: l,h=>by
  have hc:=h.head;have e:(Char.ofNat c).toNat=c:=by
   have:∀ c,c < 58->(Char.ofNat c).toNat=c:=by decide
   exact this c (by omega)
  rw [List.map_cons,List.map_cons,e,Ke h.tail]
noncomputable def codes (m:Nat):List Nat:=(Nat.toDigits 10 m).map Char.toNat
theorem dch:∀ d,d < 10->(Nat.digitChar d).toNat=48+d:=by decide
theorem cG (q:Nat):codes q=(if 9 < q then codes (q / 10) else [])++[48+q % 10]:=by
 by_cases h:9 < q
 ·rw [Me h];have hm:q % 10 < 10:=Nat.mod_lt q (by decide);have t:Nat.toDigits 10 (q / 10)++Nat.toDigits 10 (q % 10)=Nat.toDigits 10 (10*(q / 10)+q % 10):=Nat.toDigits_append_toDigits (by decide) (by omega) hm;rw [Nat.div_add_mod] at t;unfold codes;rw [<- t,Mw,Nat.toDigits_of_lt_base hm];show _++[(Nat.digitChar (q % 10)).toNat]=_;rw [dch _ hm]
 ·rw [Mn h];have hq:q < 10:=by omega
  unfold codes;rw [Nat.toDigits_of_lt_base hq];show [(Nat.digitChar q).toNat]=[48+q % 10];rw [dch _ hq,Nat.mod_eq_of_lt hq]
theorem ow:∀ (k m:Nat),m < 10 ^ (k+1)->(codes m).length<=k+1
 | 0,m,h=>by
  have h:m < 10:=h;rw [cG,Mn (by omega)];exact Mg 1
 | k+1,m,h=>by
  rw [cG];by_cases h9:9 < m
  ·rw [Me h9,LY];have hp:10 ^ (k+1+1)=10*10 ^ (k+1):=by rw [Nat.pow_succ,Nat.mul_comm]
   have:=ow k (m / 10) (by rw [hp] at h;omega);have:[48+m % 10].length=1:=rfl;omega
  ·rw [Mn h9];show 1<=_;omega
theorem zy (m:Nat):codes m≠[]:=by rw [cG];simp
open PySem.NumText in
theorem jU (m:Nat):AllDigits (codes m):=by
 induction m using Nat.strongRecOn with
 | _ m ih =>
  intro c hc;rw [cG] at hc;rcases Nn.mp hc with h | h
  ·split at h
   ·exact ih (m / 10) (by omega) c h
   ·simp at h
  ·have:c=48+m % 10:=by simpa using h
   omega
open PySem.NumText in
theorem vQ (m:Nat):digitsVal (codes m)=m:=PySem.W.KIN.val_back m
open PySem.NumText in
theorem xa {f:List Nat} (h:AllDigits f):codes (digitsVal f)=(match f.dropWhile (·==48) with | []=>[48] | c :: r=>c :: r):=by
 unfold codes;rw [toDigits_all f h];have hs:AllDigits (f.dropWhile (·==48)):=fun c hc=>h c ((List.dropWhile_sublist _).mem hc);cases e:f.dropWhile (·==48) with
 | nil=>rfl
 | cons c r =>
  rw [e] at hs;exact Ke hs
open PySem.NumText in
theorem uq {f:List Nat} (h:AllDigits f) (hne:f≠[]):codes (digitsVal f)=f↔(f.head?=some 48->f=[48]):=by
 rw [xa h];cases f with
 | nil=>exact absurd rfl hne
 | cons c r =>
  by_cases hc:c=48
  ·subst hc;rw [List.dropWhile_cons,Me (show ((48:Nat)==48)=true from rfl)];constructor
   ·intro z _;have hl:=congrArg List.length z;have:=(List.dropWhile_sublist (l:=r) (·==48)).length_le;cases e:r.dropWhile (·==48) with
    | nil =>
     rw [e] at z;exact z.symm
    | cons c2 r2 =>
     rw [e] at hl this;have hl:(c2 :: r2).length=(48 :: r).length:=hl;rw [L3 (a:=48)] at hl;omega
   ·intro z;have z:=z rfl;injection z with _ z;rw [z];rfl
  ·rw [List.dropWhile_cons,Mn (by simpa using hc)];exact ⟨fun _ z=>absurd (by simpa using z) hc,fun _=>rfl⟩
theorem fL (m:Nat):(aj (m:Int)).cps.toList=codes m:=PySem.W.KIN.signs_num m
theorem iM {m:Nat} (h:0 < m):(aj (-(m:Int))).cps.toList=45 :: codes m:=by
 obtain ⟨k,rfl⟩:∃ k,m=k+1:=⟨m - 1,by omega⟩;unfold aj;rw [PyProof.Rows.signs_ofString];show ("-" ++ Nat.repr (k+1)).toList.map Char.toNat=_;rw [String.toList_append,Mw,Nat.toList_repr];rfl
theorem gv {x y:Str} (h:x.cps.toList=y.cps.toList):x=y:=by
 obtain ⟨⟨a⟩⟩:=x;obtain ⟨⟨b⟩⟩:=y;have h:a=b:=h;rw [h]
noncomputable def ix (x:Str):List Nat:=match x.cps.toList with | 45 :: r=>r | l=>l
noncomputable def isNeg (x:Str):Bool:=decide (x.cps.toList.head?=some 45)
noncomputable def cP (c:Nat):Bool:=decide (48<=c)&&decide (c<=57)
open PySem.NumText in
noncomputable def xR (x:Str):Int:=if isNeg x=true then -(digitsVal (ix x):Int) else (digitsVal (ix x):Int)
noncomputable def eU (x:Str):Bool:=decide (1<=(ix x).length)&&(decide ((ix x).length<=30)&&(ix x).all cP)
noncomputable def uf (x:Str):PyData:=if eU x=true/\((ix x).head?=some 48->x.cps.toList=[48]) then .int (xR x) else .none
theorem nh {x:Str} {r:List Nat} (h:x.cps.toList=45 :: r):ix x=r:=by unfold ix;rw [h];rfl
theorem qy {x:Str} {r:List Nat} (h:x.cps.toList=45 :: r):isNeg x=true:=by unfold isNeg;rw [h];rfl
theorem da (x:Str):(∃ r,x.cps.toList=45 :: r/\ix x=r/\isNeg x=true)\/(ix x=x.cps.toList/\isNeg x=false):=by
 cases e:x.cps.toList with
 | nil=>exact .inr ⟨by unfold ix;rw [e],by unfold isNeg;rw [e];rfl⟩
 | cons c r =>
  by_cases hc:c=45
  ·subst hc;exact .inl ⟨r,rfl,nh e,qy e⟩
  ·refine .inr ⟨?_,?_⟩
   ·unfold ix;rw [e];split
    ·rename_i r2 z;injection z with z _;exact absurd z hc
    ·rfl
   ·unfold isNeg;rw [e];exact Mb (by simpa using hc)
open PySem.NumText in
theorem gD {x:Str} (h:eU x=true):AllDigits (ix x)/\ix x≠[]/\(ix x).length<=30:=by
 unfold eU at h;simp only [Ms,MQ,M0] at h;refine ⟨fun c hc=>?_,fun z=>by rw [z] at h;simp at h,h.2.1⟩;have:=h.2.2 c hc;unfold cP at this;simpa using this
theorem Gb {x:Str} (h:(ix x).length<=30):x.length<=31:=by
 rw [<- aq];rcases da x with ⟨r,e,f,_⟩ | ⟨f,_⟩
 ·rw [e,L3,<-f];omega
 ·rw [<- f];omega
open PySem.NumText in
theorem wK {x:Str} (h:eU x=true):PySem.intText? x=some (xR x):=by
 obtain ⟨h1,h2,h3⟩:=gD h;have hl:=Gb h3;unfold xR;rcases da x with ⟨r,e,f,g⟩ | ⟨f,g⟩
 ·rw [g,Me rfl,f];rw [f] at h1 h2;exact intText_neg e h1 h2 (by omega)
 ·rw [g,Mn (by decide),f];rw [f] at h1 h2;exact intText_digits h1 h2 (by omega)
open PySem.NumText in
theorem AE:∀ (n:Nat) (f:List Nat),f.length=n->AllDigits f->digitsVal f < 10 ^ n
 | 0,[],_,_=>by decide
 | n+1,f,hl,h=>by
  have hne:f≠[]:=by intro e;rw [e] at hl;simp at hl
  have e:=List.dropLast_concat_getLast hne;generalize f.dropLast=l at e;generalize f.getLast hne=c at e;subst e;have h1:AllDigits l:=fun d hd=>h d (NB _ hd);have hc:48<=c/\c<=57:=h c (Ml _ (L9.mpr rfl));have:=AE n l (by rw [LY,Mz] at hl;omega) h1;rw [digitsVal_snoc,Nat.pow_succ];omega
theorem AN {x:Str} (h:eU x=true):(xR x).natAbs < 10 ^ 30:=by
 obtain ⟨h1,h2,h3⟩:=gD h;have h4:=Md (AE _ _ rfl h1) (NA (by decide) h3);unfold xR;split <;> omega
open PySem.NumText in
theorem oe {x:Str} (h:eU x=true):aj (xR x)=x↔((ix x).head?=some 48->x.cps.toList=[48]):=by
 obtain ⟨h1,h2,h3⟩:=gD h;have cb:=uq h1 h2;unfold xR;rcases da x with ⟨r,e,f,g⟩ | ⟨f,g⟩
 ·rw [g,Me rfl];rw [f] at cb ⊢;by_cases h0:digitsVal r=0
  ·rw [h0];constructor
   ·intro z;have z:=congrArg (fun z:Str=>z.cps.toList) z;have z:(aj ((0:Nat):Int)).cps.toList=x.cps.toList:=z;rw [fL,e,cG] at z;injection z with z _;exact absurd z (by decide)
   ·intro z;have hh:r.head?=some 48:=by
     rw [f] at h2 h1;cases r with
     | nil=>exact absurd rfl h2
     | cons c r =>
      have hc:=h1.head;by_cases h49:49<=c
      ·have:=digitsVal_pos (cs:=r) h49;omega
      ·rw [List.head?_cons,show c=48 by omega]
    rw [e] at z;exact absurd (z hh) (by simp)
  ·constructor
   ·intro z;have z:=congrArg (fun z:Str=>z.cps.toList) z;have z:(aj (-(digitsVal r:Int))).cps.toList=x.cps.toList:=z;rw [iM (by omega),e] at z;injection z with _ z;intro hh;have z2:=cb.mp z hh;rw [z2] at h0;exact absurd rfl h0
   ·intro z;refine gv ?_;rw [iM (by omega),e];congr 1;refine cb.mpr fun hh=>?_;rw [e] at z;exact absurd (z hh) (by simp)
 ·rw [g,Mn (by decide)];rw [f] at cb ⊢;constructor
  ·intro z;have z:=congrArg (fun z:Str=>z.cps.toList) z;have z:(aj (digitsVal x.cps.toList:Int)).cps.toList=x.cps.toList:=z;rw [fL] at z;exact cb.mp z
  ·intro z;refine gv ?_;rw [fL];exact cb.mpr z
noncomputable def jV (x:Str):PyData:=match x.cps.toList with
 | []=>.none
 | c :: r=>if c=39 then (if r.length<=8/\r.all chB=true then .tuple [.str ⟨r.toArray⟩] else .none)
  else if chB c=true then (if r.length<=7/\r.all chB=true then .str x else .none) else uf x
theorem nG (x y:Str) (c:Nat) (hy:y.cps=#[c]):(decide (y.length<=x.length)&&Builtin.Str.subAt x y 0)=decide (x.cps.toList.head?=some c):=by
 obtain ⟨⟨l⟩⟩:=x;obtain ⟨yc⟩:=y;have hy:yc=#[c]:=hy;subst hy;cases l with
 | nil=>rfl
 | cons a l =>
  unfold Builtin.Str.subAt;have e1:decide ((⟨#[c]⟩:Str).length<=(⟨⟨a :: l⟩⟩:Str).length)=true:=L7 (by show 1<=(a :: l).length;simp);rw [e1,M5];have e2:((⟨⟨a :: l⟩⟩:Str).cps.extract 0 (0+(⟨#[c]⟩:Str).length))=#[a]:=by
   show (⟨a :: l⟩:Array Nat).extract 0 1=#[a];simp
  rw [e2];show ((#[a]:Array Nat)==#[c])=decide (some a=some c);by_cases h:a=c
  ·subst h;simp
  ·rw [Mb (by simpa using h)];simp [h]
theorem Cd {x:Str} {k:Int} (h:0<=k):(jG x (some k) none).cps.toList=x.cps.toList.drop k.toNat:=by
 unfold jG;show List.take (x.length - HT.sIx x.length 0 (some k)) (List.drop (HT.sIx x.length 0 (some k)) x.cps.toList)=_;have e:HT.sIx x.length 0 (some k)=min k.toNat x.length:=by
  show (if k < 0 then (k+(x.length:Int)).toNat else min k.toNat x.length)=_;rw [Mn (by omega)]
 rw [e,Nu (by rw [MZ,aq];exact Mg _)];by_cases hk:k.toNat<=x.length
 ·rw [Nat.min_eq_left hk]
 ·rw [Nat.min_eq_right (by omega),List.drop_of_length_le (by rw [aq];exact Mg _),List.drop_of_length_le (by rw [aq];omega)]
theorem le_0 (c:Nat):leS (Str.ofString "0") ⟨#[c]⟩=decide (48<=c):=by
 have e:(Str.ofString "0").cps.toList=[48]:=by decide +kernel
 unfold leS;rw [e];by_cases h:48<=c
 ·rw [L7 h,Mb]
  ·rfl
  ·intro z;have:c < 48:=by simpa [MX] using z
   omega
 ·rw [Mb h,L7]
  ·rfl
  ·simp [MX];omega
theorem KY (c:Nat):leS ⟨#[c]⟩ (Str.ofString "9")=decide (c<=57):=by
 have e:(Str.ofString "9").cps.toList=[57]:=by decide +kernel
 unfold leS;rw [e];by_cases h:c<=57
 ·rw [L7 h,Mb]
  ·rfl
  ·intro z;have:57 < c:=by simpa [MX] using z
   omega
 ·rw [Mb h,L7]
  ·rfl
  ·simp [MX];omega
theorem Dk {e:En} {a:AV} {x:Str} {n:Int} {Q:RV->En->Prop} (h1:aK e [a]=some [.str x]) (h2:x.length<=640) (h3:PySem.intText? x=some n) (q:Q (.dat (.int n)) e):WPr mS [a] e Q :=
 ⟨_,.dat (.int n),h1,by show zc (.str x)=_;unfold zc;simp only [h2,Nz,h3,NQ],q⟩
theorem pj {x:Str} {Q:PR->List PyData->Prop} (hx:x.length<=100) (q:Q (.dat (uf x)) []):WF eV [.str x] Q:=by
 refine cn rfl ?_;unfold fi;walk_at "pz";with_reducible refine cc fun N eN=>?_
 have rest:∀ f:Str,f.cps.toList=ix x->N ([.dat (.str x),.dat (.str f),.un]:En):=by
  intro f hf;rw [eN];have hfl:(f.length:Int)=((ix x).length:Nat):=by rw [<- hf,aq]
  have no:eU x=false->Q (.dat .none) []:=fun z=>by
   have:uf x=.none:=by unfold uf;rw [Mn (by rw [z];simp)]
   rw [this] at q;exact q
  walk_at "pp";refine gc (fun c1=>?_) (fun c1=>?_)
  ·have c1:(1:Int)<=(f.length:Int):=MP c1;walk_at "pp";refine gc (fun c2=>?_) (fun c2=>?_)
   ·have c2:(!decide ((f.length:Int)<=30))=true:=c2;have c2:¬(f.length:Int)<=30:=by simpa using c2
    walk_at "pp";refine no ?_;unfold eU;rw [Mb (p:=(ix x).length<=30) (by omega)];simp
   ·have c2:(!decide ((f.length:Int)<=30))=false:=c2;have c2:(f.length:Int)<=30:=by simpa using c2
    walk_at "pp";refine dY (fun i ys ec=>ys=((f.cps.toList.take i).map cP).map .bool/\ec=[]) ⟨rfl,rfl⟩ ?_ ?_
    ·rintro i d ys ec hd ⟨rfl,rfl⟩;rw [Mm] at hd;obtain ⟨c,hc,rfl⟩:=Mt.mp hd;have e0:((f.cps.toList.take (i+1)).map cP).map PyData.bool=((f.cps.toList.take i).map cP).map PyData.bool++[.bool (cP c)]:=by rw [<- Nq hc,Mw,Mw];rfl
     refine je ?_;walk_at "pp";have e1:=le_0 c;have e2:=KY c;refine gc (fun d1=>?_) (fun d1=>?_)
     ·have d1:leS (Str.ofString "0") ⟨#[c]⟩=true:=d1;walk_at "pp";refine ⟨?_,rfl⟩;rw [e0];unfold cP;rw [<- e1,d1,<-e2];rfl
     ·have d1:leS (Str.ofString "0") ⟨#[c]⟩=false:=d1;walk_at "pp";refine ⟨?_,rfl⟩;rw [e0];unfold cP;rw [<- e1,d1];rfl
    ·rintro ys ec ⟨rfl,rfl⟩;rw [LZ,M9];walk_at "n";walk_at "pp";refine w_all (bs:=f.cps.toList.map cP) rfl ?_;have e3:(f.cps.toList.map cP).all id=(ix x).all cP:=by rw [List.all_map,hf];rfl
     rw [e3];have fk:eU x=(ix x).all cP:=by
      unfold eU;rw [L7 (p:=1<=(ix x).length) (by omega),L7 (p:=(ix x).length<=30) (by omega),M5,M5]
     rw [<- fk];walk_at "pp";refine gc (fun c3=>?_) (fun c3=>?_)
     ·have c3:(!eU x)=true:=c3;walk_at "pp";exact no (by simpa using c3)
     ·have c3:(!eU x)=false:=c3;have c3:eU x=true:=by simpa using c3
      walk_at "pp";refine Dk rfl (by omega) (wK c3) ?_;walk_at "pp";refine jA rfl (Md (AN c3) (NA (by decide) (by decide))) ?_;walk_at "pp";rw [Cy];by_cases hs:aj (xR x)=x
      ·refine dN (L7 hs) ?_;walk_at "pp";have:uf x=.int (xR x):=by unfold uf;rw [Me ⟨c3,(oe c3).mp hs⟩]
       rw [this] at q;exact q
      ·refine fF (Mb hs) ?_;walk_at "pp";have:uf x=.none:=by unfold uf;rw [Mn fun z=>hs ((oe c3).mpr z.2)]
       rw [this] at q;exact q
  ·have c1:¬(1:Int)<=(f.length:Int):=Na c1;walk_at "pp";refine no ?_;unfold eU;rw [Mb (p:=1<=(ix x).length) (by omega)];rfl
 walk_at "pp";refine gc (fun c1=>?_) (fun c1=>?_)
 ·have c1:=(nG x (Str.ofString "-") 45 rfl).symm.trans c1;have c1:x.cps.toList.head?=some 45:=MP c1;walk_at "pp";refine rest _ ?_;rw [Cd (by decide)];cases e:x.cps.toList with
  | nil=>rw [e] at c1;cases c1
  | cons a r =>
   rw [e] at c1;cases c1;rw [nh e];rfl
 ·have c1:=(nG x (Str.ofString "-") 45 rfl).symm.trans c1;have c1:¬x.cps.toList.head?=some 45:=Na c1;walk_at "pp";refine rest _ ?_;rcases da x with ⟨r,e,_⟩ | ⟨f,_⟩
  ·rw [e] at c1;exact absurd rfl c1
  ·exact f.symm
theorem l5 {x:Str} {r:List Nat} (h:x.cps.toList=39 :: r):jV x=if r.length<=8/\r.all chB=true then .tuple [.str ⟨r.toArray⟩] else .none:=by
 unfold jV;rw [h];show (if (39:Nat)=39 then _ else _)=_;rw [Me rfl]
theorem BP {x:Str} {c:Nat} {r:List Nat} (h:x.cps.toList=c :: r) (hc:chB c=true):uf x=.none:=by
 have hc:97<=c/\c<=122:=by unfold chB at hc;simpa using hc
 unfold uf;refine Mn fun z=>?_;obtain ⟨h1,_,_⟩:=gD z.1;rcases da x with ⟨r2,e,_⟩ | ⟨f,_⟩
 ·rw [h] at e;injection e with e _;omega
 ·have:=h1 c (by rw [f,h];exact Mj);omega
theorem qk {x:Str} (h:yi (.str x) 1=true):jV x=.str x:=by
 have h:(decide ((1:Int)<=(x.length:Int))&&(decide ((x.length:Int)<=8)&&x.cps.toList.all chB))=true:=h;simp only [Ms,MQ] at h;obtain ⟨h1,h2,h3⟩:=h;have hl:=aq x;cases e:x.cps.toList with
 | nil=>rw [e] at hl;simp at hl;omega
 | cons c r =>
  rw [e] at hl h3;rw [List.all_cons,Ms] at h3;rw [L3] at hl;have hc:97<=c/\c<=122:=by have:=h3.1;unfold chB at this;simpa using this
  unfold jV;rw [e];show (if c=39 then _ else if chB c=true then _ else _)=_;rw [Mn (by omega),Me h3.1,Me ⟨by omega,h3.2⟩]
theorem qz {x:Str} (h0:x.cps.toList.head?≠some 39) (h:yi (.str x) 1=false):jV x=uf x:=by
 have h:(decide ((1:Int)<=(x.length:Int))&&(decide ((x.length:Int)<=8)&&x.cps.toList.all chB))=false:=h;have hl:=aq x;cases e:x.cps.toList with
 | nil =>
  have f0:ix x=[]:=by unfold ix;rw [e]
  unfold jV uf eU;rw [e,f0];rfl
 | cons c r =>
  rw [e] at hl h h0;rw [L3] at hl;have hne:c≠39:=fun z=>h0 (by rw [z];rfl);by_cases hc:chB c=true
  ·rw [BP e hc];unfold jV;rw [e];show (if c=39 then _ else if chB c=true then _ else _)=_;rw [Mn hne,Me hc];refine Mn fun z=>?_;rw [List.all_cons,hc,z.2,L7 (by omega),L7 (by omega)] at h;exact absurd h (by decide)
  ·unfold jV;rw [e];show (if c=39 then _ else if chB c=true then _ else _)=_;rw [Mn hne,Mn hc]
theorem fK {x:Str} {Q:PR->List PyData->Prop} (hx:x.length<=100) (q:Q (.dat (jV x)) []):WF cC [.str x] Q:=by
 refine cn rfl ?_;unfold mF;walk_at "pp";refine gc (fun c1=>?_) (fun c1=>?_)
 ·have c1:=(nG x (Str.ofString "'") 39 rfl).symm.trans c1;have c1:x.cps.toList.head?=some 39:=MP c1;obtain ⟨r,e⟩:∃ r,x.cps.toList=39 :: r:=by
   cases e:x.cps.toList with
   | nil=>rw [e] at c1;cases c1
   | cons a r=>rw [e] at c1;cases c1;exact ⟨r,rfl⟩
  have ec:(jG x (some 1) none).cps.toList=r:=by
   rw [Cd (by decide),e];rfl
  have ec2:jG x (some 1) none=⟨r.toArray⟩:=gv ec;rw [l5 e] at q;walk_at "pp";rw [ec2];refine ab (ds:=[.tuple [.str ⟨r.toArray⟩]]) (is:=[]) rfl rfl (uQ ⟨rfl,?_⟩);have eb:u9 (.tuple [.str ⟨r.toArray⟩])=decide (r.length<=8/\r.all chB=true):=by
   have e0:u9 (.tuple [.str ⟨r.toArray⟩])=(decide ((0:Int)<=((⟨r.toArray⟩:Str).length:Int))&&(decide (((⟨r.toArray⟩:Str).length:Int)<=8)&&(⟨r.toArray⟩:Str).cps.toList.all chB)):=rfl;have l1:(⟨r.toArray⟩:Str).length=r.length:=by rw [<- aq]
   rw [e0,l1,L7 (p:=(0:Int)<=(r.length:Int)) (by omega),M5];show (decide ((r.length:Int)<=8)&&r.all chB)=_;by_cases h8:r.length<=8
   ·rw [L7 (by omega),M5];cases h9:r.all chB <;> simp [h8]
   ·rw [Mb (by omega),Mb (fun z=>h8 z.1)];rfl
  rw [eb];walk_at "pp";refine gc (fun c2=>?_) (fun c2=>?_)
  ·walk_at "pp";rw [Me (MP c2)] at q;exact q
  ·walk_at "pp";rw [Mn (Na c2)] at q;exact q
 ·have c1:=(nG x (Str.ofString "'") 39 rfl).symm.trans c1;have c1:¬x.cps.toList.head?=some 39:=Na c1;walk_at "pp";refine ab (ds:=[.str x]) (is:=[]) rfl rfl (iG ⟨rfl,?_⟩);walk_at "pp";refine gc (fun c2=>?_) (fun c2=>?_)
  ·walk_at "pp";rw [qk c2] at q;exact q
  ·walk_at "pp";rw [qz c1 c2] at q;refine ab (ds:=[.str x]) (is:=[]) rfl rfl (pj hx ⟨rfl,?_⟩);walk_at "pp";exact q
theorem nq {a b:Int} (h:PyData.eqv (.int a) (.int b)=true):a=b:=by simpa [PyData.eqv] using h
noncomputable def B2 (cs:List Int) (p l:Int):PyData:=.list [.list (cs.map .int),.int p,.int l]
theorem KU {cs:List Int} {p:Int} (h:0 < cs.length):∃ c,atI (cs.map PyData.int) (p % (((cs.map PyData.int).length:Nat):Int))=some (.int c):=by
 have hn:(((cs.map PyData.int).length:Nat):Int)=cs.length:=by rw [LZ]
 rw [hn];have hj0:=Int.emod_nonneg p (by omega:(cs.length:Int)≠0);have hj1:=Int.emod_lt_of_pos p (by omega:(0:Int) < cs.length);obtain ⟨v,hv,ev⟩:=atV (xs:=cs.map PyData.int) hj0 (by rw [LZ];exact hj1);obtain ⟨c,_,rfl⟩:=MK.mp hv;exact ⟨c,ev⟩
theorem Fd {ns:List Int} {Q:PR->List PyData->Prop} (q:Q (.frs (B2 ns 0 0)) []):WF xm [.list (ns.map .int)] Q:=⟨_,_,rfl,q⟩
theorem Cs {cs:List Int} {p l m:Int} {Q:PR->List PyData->Prop} (hp:0<=p) (hb:p < 2 ^ 60) (hl:0<=l) (h0:0 < m) (hm:m < 2 ^ 200) (q:∀ v p' l',0<=v->v < m->0<=p'->p'<=p+1->0<=l'->Q (.dat (.int v)) [B2 cs p' l']):WF ak [B2 cs p l,.int m] Q:=by
 refine cn rfl ?_;have m0:∀ x:Int,0<=x % m/\x % m < m:=fun x=>⟨Int.emod_nonneg _ (by omega),Int.emod_lt_of_pos _ h0⟩;have d0:∀ x:Int,0<=x->0<=x / m:=fun x h=>Int.ediv_nonneg h (Int.le_of_lt h0);have fin:∀ c:Int,0<=(if c < 0 then -c else c):=fun c=>by split <;> omega
 unfold vp;walk_at "pp";refine gc (fun e0=>?_) (fun e0=>?_)
 ·walk_at "pp";exact q _ _ _ (m0 l).1 (m0 l).2 hp (by omega) (d0 l hl)
 ·walk_at "pp";refine gc (fun e1=>?_) (fun e1=>?_)
  ·have h1:(0:Int) < (((cs.map PyData.int).length:Nat):Int):=MP e1;obtain ⟨c,hc⟩:=KU (cs:=cs) (p:=p) (by rw [LZ] at h1;omega);walk_at "pp";refine lN rfl hc ?_;clear hc;walk_at "pp";refine gc (fun e2=>?_) (fun e2=>?_)
   ·walk_at "pp";refine gc (fun e3=>?_) (fun e3=>?_)
    ·walk_at "pp";exact q _ _ _ (m0 _).1 (m0 _).2 (by omega) (by omega) (d0 _ (fin c))
    ·walk_at "pp";exact q _ _ _ (m0 _).1 (m0 _).2 (by omega) (by omega) hl
   ·walk_at "pp";exact q _ _ _ (m0 _).1 (m0 _).2 (by omega) (by omega) hl
  ·walk_at "pp";refine gc (fun e2=>?_) (fun e2=>?_)
   ·walk_at "pp";exact q _ _ _ (m0 _).1 (m0 _).2 (by omega) (by omega) hl
   ·walk_at "pp";exact q _ _ _ (m0 _).1 (m0 _).2 (by omega) (by omega) hl
def bw (cs:List Int) (B:Nat) (d:PyData):Prop:=∃ p l:Int,d=B2 cs p l/\0<=p/\p<=B/\0<=l
theorem bw.mono {cs:List Int} {B C:Nat} {d:PyData} (h:bw cs B d) (hb:B<=C):bw cs C d:=by
 obtain ⟨p,l,e,a,b,c⟩:=h;exact ⟨p,l,e,a,by omega,c⟩
theorem jE {cs:List Int} {B:Nat} {pn:PyData} {m:Int} {e1:En} {Q:RV->En->Prop} {i:Nat} (hi:aQ e1 i=some pn) (hP:bw cs B pn) (hb:B < 2 ^ 60) (h0:0 < m) (hm:m < 2 ^ 200) (q:∀ v pn',bw cs (B+1) pn'->0<=v->v < m->Q (.dat (.int v)) (gz e1 i pn')):nK ak [.bor i,.dat (.int m)] e1 Q:=by
 obtain ⟨p,l,rfl,hp,hb',hl⟩:=hP;refine ab (ds:=[B2 cs p l,.int m]) (is:=[i]) ?_ rfl (Cs hp (by omega) hl h0 hm fun v p' l' a b c d e=>⟨?_,q v _ ⟨p',l',rfl,c,by omega,e⟩ a b⟩)
 ·show kN e1 [.ino,.dat] _=_;simp only [kN,Jq,hi]
 ·rfl
local macro_rules | `(tactic| walk_at "d")=>`(tactic| ((repeat walk_at "p");(refine jE (cs:=?c9) (B:=?b9) (pn:=?n9) (m:=?m9) (hi:=?hi9) (hP:=?hP9) ?hb9 ?h09 ?hm9 ?_);(case hi9=>exact rfl);(case hP9=>assumption);(case hb9=>omega);(case h09=>first | decide | omega);(case hm9=>first | decide | omega)))
abbrev abc:Str := "abcdefghijklmnopqrstuvwxyz"
abbrev wds:List PyData:=[.str "any", .str "all", .str "keeps", .str "is", .str "many", .str "each", .str "not", .str "closed"]
abbrev wdS:List Str:=["any", "all", "keeps", "is", "many", "each", "not", "closed"]
def Ltr (x:Str):Prop:=∀ c∈x.cps.toList,97<=c/\c<=122
theorem aB (x y:Str):(x++y).length=x.length+y.length:=kn x y
theorem bo (x y:Str):(x++y).cps.toList=x.cps.toList++y.cps.toList:=by
 show (x.cps++y.cps).toList=_;simp
theorem bZ (c:Nat):(⟨#[c]⟩:Str).length=1:=rfl
theorem nY {x y:Str} (hx:Ltr x) (hy:Ltr y):Ltr (x++y):=fun c hc=>by
 rw [bo] at hc;rcases Nn.mp hc with h | h
 ·exact hx c h
 ·exact hy c h
theorem Dl:∀ n < 26,abc.cps.toList[n]?=some (97+n):=by decide +kernel
theorem x3 {r:Int} (h0:0<=r) (h1:r < 26):atI abc.cps.toList r=some (97+r.toNat):=by
 have:=fo (xs:=abc.cps.toList) (j:=r.toNat) (Dl r.toNat (by omega))
 rwa [Int.toNat_of_nonneg h0] at this
theorem Gu {r:Int} (h0:0<=r) (h1:r < 26):Ltr ⟨#[97+r.toNat]⟩:=fun c hc=>by
 have:c=97+r.toNat:=by simpa using hc
 omega
theorem xU {x:Str} {k:Int} (h:Ltr x) (h1:k<=x.length) (h2:x.length<=8):yi (.str x) k=true:=by
 show (decide (k<=(x.length:Int))&&(decide ((x.length:Int)<=8)&&x.cps.toList.all chB))=true;rw [L7 h1,L7 (by omega),M5,M5,M0];intro c hc;have:=h c hc;unfold chB;rw [L7 this.1,L7 this.2];rfl
theorem yU {x:Str} {k:Int} (h:0<=k):(jG x none (some k)).cps.toList=x.cps.toList.take k.toNat:=by
 have:=sy (xs:=x.cps.toList) h;unfold L2.cutD at this;rw [aq] at this;unfold jG;simpa using this
theorem EM {x:Str} {j k:Int} (hj:0<=j) (hk:0<=k):(jG x (some j) (some k)).cps.toList=(x.cps.toList.take k.toNat).drop j.toNat:=by
 unfold jG;have e1:HT.sIx x.length 0 (some j)=min j.toNat x.length:=by
  simp only [HT.sIx];rw [Mn (by omega)]
 have e2:HT.sIx x.length x.length (some k)=min k.toNat x.length:=by
  simp only [HT.sIx];rw [Mn (by omega)]
 rw [e1,e2];show (((x.cps.toList.drop (min j.toNat x.length)).take (min k.toNat x.length - min j.toNat x.length)).toArray).toList=_;apply List.ext_getElem?;intro i;have hn:=aq x;simp only [List.getElem?_take,NI];by_cases h1:i < min k.toNat x.length - min j.toNat x.length
 ·rw [Me h1,Me (by omega)];congr 1;omega
 ·rw [Mn h1];by_cases h2:j.toNat+i < k.toNat
  ·rw [Me h2,Nw (by rw [hn];omega)]
  ·rw [Mn h2]
theorem rD {x y:Str} (h:Ltr x) (hs:∀ c∈y.cps.toList,c∈x.cps.toList):Ltr y:=fun c hc=>h c (hs c hc)
theorem xj:∀ w∈wdS,2<=w.length/\w.length<=6/\Ltr w:=by unfold Ltr;decide +kernel
theorem E6 {k:Int} (h0:0<=k) (h1:k < 8):∃ w,wdS[k.toNat]?=some w/\atI wds k=some (.str w):=by
 have hk:k.toNat < wdS.length:=by show k.toNat < 8;omega
 refine ⟨wdS[k.toNat],L6 hk,?_⟩;have:wds[k.toNat]?=some (.str wdS[k.toNat]):=by
  show (wdS.map PyData.str)[k.toNat]?=_;rw [Mm,L6 hk];rfl
 have:=fo this
 rwa [Int.toNat_of_nonneg h0] at this
theorem As:∀ i < 8,∀ j < 8,wdS[i]?=wdS[j]?->i=j:=by decide +kernel
def NmK (bs:Str) (wy tn at_ sz:Int) (k:Nat) (x:Str):Prop :=
 (wy=0/\x=jG bs none (some ((tn+3*k) % 8+1)))\/(wy=1/\wdS[((tn+k) % 8).toNat]?=some x) \/
 (wy=2/\∃ w,wdS[k % 8]?=some w/\x=w++⟨#[97+((tn+5*k) % 26).toNat]⟩) \/
 (x=jG bs none (some at_)++⟨#[97+((tn+5*k) % 26).toNat]⟩++jG bs (some (at_+1)) (some sz)/\wy≠0/\wy≠1/\wy≠2)
theorem Cm {bs:Str} {wy tn at_ sz:Int} {k:Nat} {x:Str} (h:NmK bs wy tn at_ sz k x) (hb:Ltr bs) (hl:bs.length=8) (ha:0<=at_) (has:at_ < sz) (hz:sz<=8):Ltr x/\1<=x.length/\x.length<=8:=by
 have hn:=aq bs;rcases h with ⟨_,rfl⟩ | ⟨_,h⟩ | ⟨_,w,h,rfl⟩ | ⟨rfl,_⟩
 ·have e:=yU (x:=bs) (k:=(tn+3*k) % 8+1) (by omega);have el:(jG bs none (some ((tn+3*k) % 8+1))).length=min ((tn+3*k) % 8+1).toNat 8:=by rw [<- aq,e,MN,hn,hl]
  exact ⟨rD hb fun c hc=>by rw [e] at hc;exact Ni hc,by rw [el];omega,by rw [el];omega⟩
 ·obtain ⟨a,b,c⟩:=xj x (My h);exact ⟨c,by omega,by omega⟩
 ·obtain ⟨a,b,c⟩:=xj w (My h);exact ⟨nY c (Gu (by omega) (by omega)),by rw [aB,bZ];omega,by rw [aB,bZ];omega⟩
 ·have e1:=yU (x:=bs) ha;have e2:=EM (x:=bs) (j:=at_+1) (k:=sz) (by omega) (by omega);have l1:(jG bs none (some at_)).length=at_.toNat:=by rw [<- aq,e1,MN,hn,hl];omega
  have l2:(jG bs (some (at_+1)) (some sz)).length=sz.toNat - (at_+1).toNat:=by rw [<- aq,e2,MZ,MN,hn,hl];omega
  refine ⟨nY (nY (rD hb fun c hc=>?_) (Gu (by omega) (by omega))) (rD hb fun c hc=>?_),?_,?_⟩
  ·rw [e1] at hc;exact Ni hc
  ·rw [e2] at hc;exact Ni (List.mem_of_mem_drop hc)
  ·rw [aB,aB,bZ];omega
  ·rw [aB,aB,bZ,l1,l2];omega
theorem qR {x y a b:Str} (h:x++a=y++b) (hl:a.length=b.length):x=y/\a=b:=by
 have e:x.cps.toList++a.cps.toList=y.cps.toList++b.cps.toList:=by rw [<- bo,<-bo,h]
 have hll:a.cps.toList.length=b.cps.toList.length:=by rw [aq,aq,hl]
 obtain ⟨e1,e2⟩:=List.append_inj' e hll;constructor
 ·cases x;cases y;simp only [Str.mk.injEq];exact Array.toList_inj.mp e1
 ·cases a;cases b;simp only [Str.mk.injEq];exact Array.toList_inj.mp e2
theorem one_inj {a b:Nat} (h:(⟨#[a]⟩:Str)=⟨#[b]⟩):a=b:=by
 injection h with h;simpa using h
theorem B5 {bs:Str} {wy tn at_ sz:Int} {i j:Nat} {x:Str} (h:NmK bs wy tn at_ sz i x) (h':NmK bs wy tn at_ sz j x) (hl:bs.length=8) (hi:i < 12) (hj:j < 12) (hs:wy=0\/wy=1->i < 8/\j < 8):i=j:=by
 have hn:=aq bs;rcases h with ⟨z1,rfl⟩ | ⟨z1,h⟩ | ⟨z1,w,h,rfl⟩ | ⟨rfl,y0,y1,y2⟩
 ·rcases h' with ⟨_,h'⟩ | ⟨z,_⟩ | ⟨z,_⟩ | ⟨_,z,_⟩
  ·have e:=congrArg (fun s:Str=>s.cps.toList.length) h';rw [yU (by omega),yU (by omega),MN,MN,hn,hl] at e;have:=hs (.inl z1);omega
  ·omega
  ·omega
  ·exact absurd z1 z
 ·rcases h' with ⟨z,_⟩ | ⟨_,h'⟩ | ⟨z,_⟩ | ⟨_,_,z,_⟩
  ·omega
  ·have:=As _ (by omega) _ (by omega) (h.trans h'.symm);have:=hs (.inr z1);omega
  ·omega
  ·exact absurd z1 z
 ·rcases h' with ⟨z,_⟩ | ⟨z,_⟩ | ⟨_,w',h',e⟩ | ⟨_,_,_,z⟩
  ·omega
  ·omega
  ·obtain ⟨e1,e2⟩:=qR e rfl;subst e1;have a1:=As _ (by omega) _ (by omega) (h.trans h'.symm);have a2:=one_inj e2;omega
  ·exact absurd z1 z
 ·rcases h' with ⟨z,_⟩ | ⟨z,_⟩ | ⟨z,_⟩ | ⟨e,_⟩
  ·exact absurd z y0
  ·exact absurd z y1
  ·exact absurd z y2
  ·obtain ⟨e1,_⟩:=qR e rfl;obtain ⟨_,e2⟩:=qR e1 rfl;have a2:=one_inj e2;omega
theorem foldl_nil:∀ (ps:List Str) (acc:Array Nat),(ps.foldl (fun acc p=>acc++(Str.ofString "").cps++p.cps) acc).toList=acc.toList++ps.flatMap fun s=>s.cps.toList
 | [],acc=>by simp
 | p :: ps,acc=>by
  rw [NR,foldl_nil ps,List.flatMap_cons];have e:(Str.ofString "").cps=#[]:=by decide +kernel
  rw [e];simp
theorem qj (ss:List Str):(PySem.Txt.join "" ss).cps.toList=ss.flatMap fun s=>s.cps.toList:=by
 cases ss with
 | nil=>rfl
 | cons x r =>
  show (r.foldl (fun acc p=>acc++(Str.ofString "").cps++p.cps) x.cps).toList=_;rw [foldl_nil,List.flatMap_cons]
def Nm (x:Str):Prop:=yi (.str x) 1=true/\x.length<=8
noncomputable def ef (wy m:Int):Int:=if (wy=0\/wy=1)/\9<=m then 3 else wy
theorem zq {cs:List Int} {B:Nat} {pn:PyData} {m:Int} {Q:PR->List PyData->Prop} (hP:bw cs B pn) (hb:B < 2 ^ 59) (h0:0<=m) (hm:m<=12) (q:∀ (xs:List Str) pn',bw cs (B+40) pn'->(xs.length:Int)=m->xs.Nodup->(∀ x∈xs,Nm x)->Q (.frs (.list (xs.map .str))) [pn']):WF n4 [pn,.int m] Q:=by
 refine cn rfl ?_;unfold tm;walk_at "pp";refine ⟨⟨by omega,by omega⟩,?_⟩;refine dY (fun i ys ec=>∃ (ss:List Str) (pn':PyData),ys=ss.map .str/\ss.length=i/\(∀ s∈ss,s.length=1/\Ltr s)/\bw cs (B+i) pn'/\ec=[.dat (.str abc),.ino pn']) ⟨[],pn,rfl,rfl,fun s h=>(by cases h),hP,rfl⟩ ?_ ?_
 ·rintro i d ys ec hd ⟨ss,pn',rfl,hsl,h1,hP',rfl⟩;obtain ⟨rfl,hi⟩:=iI hd;have hi:i < 8:=hi;refine je ?_;walk_at "d";intro v pn4 hP4 v0 v1;walk_at "n";walk_at "pp";refine fP rfl (x3 v0 v1) ?_;exact ⟨_,rfl,ss++[⟨#[97+v.toNat]⟩],pn4,by simp,by rw [LY,hsl];rfl,zL h1 ⟨rfl,Gu v0 v1⟩,hP4,rfl⟩
 rintro ys ec ⟨ss,pn1,rfl,hsl,h1,hP1,rfl⟩;rw [k6] at hsl hP1;replace hsl:ss.length=8:=hsl;replace hP1:bw cs (B+8) pn1:=hP1;walk_at "n";walk_at "pp";have hs:=Ai (k:=1) (ss:=ss) fun s h=>by have:=(h1 s h).1;omega
 have hjo:eg "" ss=true:=by simp only [eg,MQ];have e0:(Str.ofString "").length=0:=(by decide);rw [e0];omega
 refine Av (ss:=ss) rfl rfl hjo ?_;have hj:(Txt.join "" ss).cps.toList=ss.flatMap fun s=>s.cps.toList:=qj ss;have hjl:(Txt.join "" ss).length=8:=by
  rw [<- aq,hj,<-hsl];clear hj hjo hs hsl hP1;induction ss with
  | nil=>rfl
  | cons s r ih =>
   rw [List.flatMap_cons,LY,ih fun x hx=>h1 x (L8 _ hx),aq,(h1 s Mj).1,L3];omega
 have hjL:Ltr (Txt.join "" ss):=fun c hc=>by
  rw [hj] at hc;obtain ⟨s,hs,hc⟩:=List.mem_flatMap.mp hc;exact (h1 s hs).2 c hc
 clear hj;generalize Txt.join "" ss=bs at hjl hjL;walk_at "n";walk_at "d";intro wy pn2 hP2 wy0 wy1;walk_at "n";walk_at "d";intro sz pn3 hP3 sz0 sz1;walk_at "n";walk_at "d";intro at_ pn4 hP4 at0' at1;walk_at "n";walk_at "d";intro tn pn5 hP5 tn0 tn1;walk_at "n";walk_at "pp";refine ⟨⟨by omega,by omega⟩,?_⟩;have fins:∀ (xs:List Str),(xs.length:Int)=m->(∀ k x,xs[k]?=some x->NmK bs (ef wy m) tn at_ (1+sz) k x)->xs.Nodup/\∀ x∈xs,Nm x:=by
  intro xs hxl hx;constructor
  ·refine List.pairwise_iff_getElem.mpr fun i j hi hj hij e=>?_;have a:=hx i _ (L6 hi);have b:=hx j _ (L6 hj);rw [e] at a;have:=B5 a b hjl (by omega) (by omega) fun z=>by unfold ef at z;split at z <;> omega
   omega
  ·intro x hm';obtain ⟨k,hk⟩:=List.mem_iff_getElem?.mp hm';obtain ⟨a,b,c⟩:=Cm (hx k x hk) hjL hjl at0' at1 (by omega);exact ⟨xU a (by omega) c,c⟩
 refine iQ (fun i e=>∃ (xs:List Str),xs.length=i/\(∀ k x,xs[k]?=some x->NmK bs (ef wy m) tn at_ (1+sz) k x)/\ym [some (.ino pn5),some (.dat (.int m)),some (.dat (.str abc)),some (.dat (.str bs)),some (.dat (.list wds)),some (.dat (.int wy)),some (.dat (.int (1+sz))),some (.dat (.int at_)),some (.dat (.int tn)),some (.own (.list (xs.map .str))),none,none] e) ⟨[],rfl,fun k x h=>by simp at h,by walk_at "L"⟩ ?_ ?_
 ·rintro i d e hd ⟨xs,hxl,hx,_⟩;walk_at "l";obtain ⟨rfl,hi⟩:=iI hd;walk_at "f";walk_at "pp";refine fP rfl (x3 (r:=(tn+5*i) % 26) (by omega) (by omega)) ?_;walk_at "n";have hxz:(xs.map PyData.str).length < sizeLine:=by rw [LZ,hxl];show i < 2 ^ 24;omega
  have snoc:∀ y:Str,NmK bs (ef wy m) tn at_ (1+sz) i y->∀ k x,(xs++[y])[k]?=some x->NmK bs (ef wy m) tn at_ (1+sz) k x:=by
   intro y hy k x h;rcases Nat.lt_or_ge k xs.length with z | z
   ·rw [MC z] at h;exact hx k x h
   ·rw [Mi z] at h;have hk:k - xs.length=0:=by
     rcases Nat.eq_zero_or_pos (k - xs.length) with y | y
     ·exact y
     ·rw [Nw (by simp;omega)] at h;cases h
    rw [hk] at h;have hk2:k=i:=by omega
    subst hk2;cases h;exact hy
  have fin:∀ (y:Str) (x11:Sl),soft x11->NmK bs (ef wy m) tn at_ (1+sz) i y->∃ (zs:List Str),zs.length=i+1/\(∀ k x,zs[k]?=some x->NmK bs (ef wy m) tn at_ (1+sz) k x)/\ym [some (.ino pn5),some (.dat (.int m)),some (.dat (.str abc)),some (.dat (.str bs)),some (.dat (.list wds)),some (.dat (.int wy)),some (.dat (.int (1+sz))),some (.dat (.int at_)),some (.dat (.int tn)),some (.own (.list (zs.map .str))),none,none] ([.ino pn5,.dat (.int m),.dat (.str abc),.dat (.str bs),.dat (.list wds),.dat (.int wy),.dat (.int (1+sz)),.dat (.int at_),.dat (.int tn),.own (.list (xs.map .str++[.str y])),.dat (.int i),x11]:En) :=
   fun y x11 s11 hy=>⟨xs++[y],by rw [LY,hxl];rfl,snoc y hy,by rw [Mw];walk_at "L"⟩
  have w2:(wy=2->wdS[i % 8]?=wdS[i % 8]?):=fun _=>rfl;walk_at "pp";have last:wy≠0/\wy≠1\/¬m < 9->True:=fun _=>trivial;clear last w2;have c1':=dG bs none (some at_);have c2':=dG bs (some (at_+1)) (some (1+sz));refine gc (fun a1=>?_) (fun a1=>?_)
  ·have a1:wy=0:=nq a1;walk_at "pp";refine gc (fun a2=>?_) (fun a2=>?_)
   ·have a2:m < 9:=MP a2;walk_at "pp";refine jK rfl hxz rfl ?_;exact fin (jG bs none (some ((tn+3*(i:Int)) % 8+1))) _ gm (.inl ⟨by unfold ef;rw [Mn (by omega)];exact a1,rfl⟩)
   ·have a2:¬m < 9:=Na a2;subst a1;walk_at "pp";refine cv rfl (by rw [bZ];show _<=2 ^ 24;omega) ?_;walk_at "pp";refine ⟨_,_,rfl,rfl,?_⟩;walk_at "pp";refine cv rfl (by rw [aB,bZ];show _<=2 ^ 24;omega) ?_;walk_at "pp";refine jK rfl hxz rfl ?_;exact fin _ _ gm (.inr (.inr (.inr ⟨rfl,by unfold ef;rw [Me (by omega)];omega⟩)))
  ·have a1:wy≠0:=fun z=>by subst z;cases a1
   walk_at "pp";refine gc (fun a2=>?_) (fun a2=>?_)
   ·have a2:wy=1:=nq a2;walk_at "pp";refine gc (fun a3=>?_) (fun a3=>?_)
    ·have a3:m < 9:=MP a3;walk_at "pp";obtain ⟨w,hw,ew⟩:=E6 (k:=(tn+i) % 8) (by omega) (by omega);refine lN rfl ew ?_;walk_at "pp";refine jK rfl hxz rfl ?_;exact fin w _ gm (.inr (.inl ⟨by unfold ef;rw [Mn (by omega)];exact a2,hw⟩))
    ·have a3:¬m < 9:=Na a3;subst a2;walk_at "pp";refine cv rfl (by rw [bZ];show _<=2 ^ 24;omega) ?_;walk_at "pp";refine ⟨_,_,rfl,rfl,?_⟩;walk_at "pp";refine cv rfl (by rw [aB,bZ];show _<=2 ^ 24;omega) ?_;walk_at "pp";refine jK rfl hxz rfl ?_;exact fin _ _ gm (.inr (.inr (.inr ⟨rfl,by unfold ef;rw [Me (by omega)];omega⟩)))
   ·have a2:wy≠1:=fun z=>by subst z;cases a2
    walk_at "pp";refine gc (fun a3=>?_) (fun a3=>?_)
    ·have a3:wy=2:=nq a3;walk_at "pp";obtain ⟨w,hw,ew⟩:=E6 (k:=(i:Int) % 8) (by omega) (by omega);have hw2:=(xj w (My hw)).2.1;refine lN rfl ew ?_;walk_at "pp";refine cv rfl (by rw [bZ];show _<=2 ^ 24;omega) ?_;walk_at "pp";refine jK rfl hxz rfl ?_;exact fin _ _ gm (.inr (.inr (.inl ⟨by unfold ef;rw [Mn (by omega)];exact a3,w,by rw [<- hw];congr 1,rfl⟩)))
    ·have a3:wy≠2:=fun z=>by subst z;cases a3
     walk_at "pp";refine cv rfl (by rw [bZ];show _<=2 ^ 24;omega) ?_;walk_at "pp";refine ⟨_,_,rfl,rfl,?_⟩;walk_at "pp";refine cv rfl (by rw [aB,bZ];show _<=2 ^ 24;omega) ?_;walk_at "pp";refine jK rfl hxz rfl ?_;exact fin _ _ gm (.inr (.inr (.inr ⟨rfl,by unfold ef;split <;> omega⟩)))
 ·rintro e ⟨xs,hxl,hx,_⟩;walk_at "l";rw [k6] at hxl;obtain ⟨f1,f2⟩:=fins xs (by omega) hx;walk_at "pp";exact q xs pn5 (hP5.mono (by omega)) (by omega) f1 f2
local macro_rules | `(tactic| walk_at "d")=>`(tactic| ((repeat walk_at "p");(refine jE (cs:=?c9) (B:=?b9) (pn:=?n9) (m:=?m9) (hi:=?hi9) (hP:=?hP9) ?hb9 ?h09 ?hm9 ?_);(case hi9=>exact rfl);(case hP9=>assumption);(case hb9=>omega);(case h09=>first | decide | omega);(case hm9=>first | decide | omega)))
theorem FN {v:Int} (h:v.natAbs < 10 ^ 30):Kz (.int v)=true:=by
 show decide ((if v < 0 then -v else v)<=999999999999999999999999999999)=true;rw [L7];split <;> omega
theorem oA {cs:List Int} {B:Nat} {pn:PyData} {Q:PR->List PyData->Prop} (hP:bw cs B pn) (hb:B < 2 ^ 59) (q:∀ (v:Int) pn',bw cs (B+10) pn'->v.natAbs < 10 ^ 30->Q (.dat (.int v)) [pn']):WF hG [pn] Q:=by
 refine cn rfl ?_;unfold qq;walk_at "d";intro w pn1 hP1 w0 w1;walk_at "n";walk_at "d";intro v pn2 hP2 v0 v1;walk_at "n";walk_at "q";with_reducible refine cc fun N eN=>?_
 have rest:∀ (v:Int) (pn':PyData),0<=v->v < 10 ^ 30->bw cs (B+6) pn'->N ([.ino pn',.dat (.int w),.dat (.int v)]:En):=by
  intro v pn' v0 v1 hP';rw [eN];clear eN N;with_reducible refine cc fun N eN=>?_
  have rest:∀ (v:Int) (pn':PyData),0<=v->v < 10 ^ 30->bw cs (B+9) pn'->N ([.ino pn',.dat (.int w),.dat (.int v)]:En):=by
   intro v pn' v0 v1 hP';rw [eN];walk_at "d";intro u pn2 hP2 u0 u1;walk_at "n";walk_at "pp";refine gc (fun e5=>?_) (fun e5=>?_)
   ·walk_at "pp";exact q _ _ (hP2.mono (by omega)) (by omega)
   ·walk_at "pp";exact q _ _ (hP2.mono (by omega)) (by omega)
  walk_at "pp";refine gc (fun e5=>?_) (fun e5=>?_)
  ·walk_at "pp";refine jE (hi:=rfl) (hP:=hP') (m:=1000000000) (by omega) (by decide) (by decide) ?_;intro u pn2 hP2 u0 u1;walk_at "n";walk_at "pp";refine jE (hi:=rfl) (hP:=hP2) (m:=1000000000) (by omega) (by decide) (by decide) ?_;intro u' pn3 hP3 u0' u1';walk_at "n";walk_at "pp";refine AF (i:=u*1000000000+u') (j:=1000000000000) rfl (by decide) (by decide) ?_;walk_at "pp";refine jE (hi:=rfl) (hP:=hP3) (m:=1000000000000) (by omega) (by decide) (by decide) ?_;intro u'' pn4 hP4 u0'' u1'';walk_at "n";walk_at "pp";exact rest ((u*1000000000+u')*1000000000000+u'') pn4 (by omega) (by omega) (hP4.mono (by omega))
  ·walk_at "pp";exact rest _ _ v0 v1 (hP'.mono (by omega))
 walk_at "pp";refine gc (fun e5=>?_) (fun e5=>?_)
 ·walk_at "d";intro u pn3 hP3 u0 u1;walk_at "n";walk_at "pp";exact rest (10 ^ 30 - 1 - u) pn3 (by omega) (by omega) (hP3.mono (by omega))
 ·walk_at "pp";exact rest _ _ v0 (by omega) (hP2.mono (by omega))
theorem Bx {cs:List Int} {B:Nat} {pn:PyData} {ns:List Str} {Q:PR->List PyData->Prop} (hP:bw cs B pn) (hb:B < 2 ^ 58) (hn:0 < ns.length) (hn2:ns.length<=12) (hs:∀ x∈ns,Nm x) (q:∀ d pn',bw cs (B+30) pn'->uw d=true->Q (.dat d) [pn']):WF rM [pn,.list (ns.map .str)] Q:=by
 refine cn rfl ?_;unfold wF;walk_at "d";intro w pn1 hP1 w0 w1;walk_at "n";walk_at "pp";refine gc (fun e5=>?_) (fun e5=>?_)
 ·walk_at "pp";refine jE (hi:=rfl) (hP:=hP1) (m:=((ns.map PyData.str).length:Nat)) (by omega) (by rw [LZ];omega) (by rw [LZ];omega) ?_;intro v pn2 hP2 v0 v1;walk_at "n";walk_at "pp";obtain ⟨d,hd,ed⟩:=atV (xs:=ns.map PyData.str) v0 v1;obtain ⟨x,hx,rfl⟩:=MK.mp hd;refine lN rfl ed ?_;walk_at "pp";exact q _ _ (hP2.mono (by omega)) (by unfold uw;rw [(hs x hx).1];rfl)
 ·walk_at "pp";refine gc (fun e6=>?_) (fun e6=>?_)
  ·walk_at "pp";refine ab (is:=[0]) rfl rfl (oA hP1 (by omega) fun v pn2 hP2 hv=>⟨rfl,?_⟩);walk_at "n";walk_at "pp";exact q _ _ (hP2.mono (by omega)) (by unfold uw;rw [FN hv];rfl)
  ·walk_at "d";intro u pn2 hP2 u0 u1;walk_at "n";walk_at "d";intro z pn3 hP3 z0 z1;walk_at "n";walk_at "pp";obtain ⟨d,hd,ed⟩:=atV (xs:=([.int 0,.int 8,.int (1+u),.int 3]:List PyData)) z0 z1;have hc:∃ i:Int,d=.int i/\0<=i/\i<=8:=by
    simp only [Mc,ML,M7] at hd;rcases hd with rfl | rfl | rfl | rfl <;> exact ⟨_,rfl,by omega,by omega⟩
   obtain ⟨m,rfl,hm0,hm1⟩:=hc;refine lN rfl ed ?_;walk_at "pp";refine ⟨⟨by omega,by omega⟩,?_⟩;refine iQ (fun i e=>∃ (wd:Str) (pn':PyData),wd.length=i/\Ltr wd/\bw cs (B+3+i) pn'/\ym [some (.ino pn'),some (.dat (.list (ns.map .str))),some (.dat (.int w)),some (.dat (.str wd)),none] e)
    ⟨"", pn3,rfl,by unfold Ltr;decide,hP3,by walk_at "L"⟩ ?_ ?_
   ·rintro i d e hd ⟨wd,pn',hw,hL,hP',_⟩;walk_at "l";obtain ⟨rfl,hi⟩:=iI hd;walk_at "f";walk_at "d";intro v pn4 hP4 v0 v1;walk_at "n";walk_at "pp";refine fP rfl (x3 v0 v1) ?_;walk_at "pp";refine cv rfl (by rw [hw,bZ];show _<=2 ^ 24;omega) ?_;walk_at "pp";exact ⟨_,pn4,by rw [aB,hw,bZ],nY hL (Gu v0 v1),hP4,by walk_at "L"⟩
   ·rintro e ⟨wd,pn',hw,hL,hP',_⟩;walk_at "l";rw [k6] at hw hP';walk_at "pp";refine q _ _ (hP'.mono (by omega)) ?_;unfold uw;have:u9 (.tuple [.str wd])=true:=xU (k:=0) hL (by omega) (by omega);rw [this];simp
def Sh (x:Str):Prop:=Ltr x/\1<=x.length/\x.length<=8
def Sa (x:Str):Prop:=Ltr x/\x.length<=8
def lM (d:PyData) (T:Str):Prop:=(∃ x,d=.str x/\Sh x/\T=x)\/(∃ i:Int,d=.int i/\i.natAbs < 10 ^ 30/\T=aj i)\/∃ x,d=.tuple [.str x]/\Sa x/\T=("'" : Str)++x
theorem fO {i:Int} (h:i.natAbs < 10 ^ 30):(aj i).length<=61:=by
 show (Str.ofString (toString i)).length<=_;rw [PySem.ofString_length];exact Mr (int_text_length_le10 (k:=30) (by decide) h) (by decide)
theorem mW {d:PyData} {T:Str} (h:lM d T):T.length<=61:=by
 rcases h with ⟨x,_,h,rfl⟩ | ⟨i,_,h,rfl⟩ | ⟨x,_,h,rfl⟩
 ·have:=h.2.2;omega
 ·exact fO h
 ·rw [aB];have:("'" : Str).length=1:=by decide
  have:=h.2;omega
theorem yf {x:Str} {k:Int} (h:yi (.str x) k=true):Ltr x/\k<=x.length/\x.length<=8:=by
 have h:(decide (k<=(x.length:Int))&&(decide ((x.length:Int)<=8)&&x.cps.toList.all chB))=true:=h;rw [Ms,Ms] at h;have h1:=MP h.1;have h2:=MP h.2.1;refine ⟨fun c hc=>?_,h1,by omega⟩;have:=M0.mp h.2.2 c hc;unfold chB at this;rw [Ms] at this;exact ⟨MP this.1,MP this.2⟩
theorem BN {x:Str} (h:Sh x):Nm x:=⟨xU h.1 (by have:=h.2.1;omega) h.2.2,h.2.2⟩
theorem yX {x:Str} (h:Nm x):Sh x:=by
 have:=yf h.1;exact ⟨this.1,by omega,this.2.2⟩
theorem Jc {cs:List Int} {p l:Int} (hp:0<=p) (hl:0<=l):bw cs p.toNat (B2 cs p l):=⟨p,l,rfl,hp,by omega,hl⟩
theorem A6 {d:PyData} (h:uw d=true):∃ T,lM d T:=by
 unfold uw at h;rw [Nf,Nf] at h;rcases h with h | h | h
 ·cases d with
  | str x=>have:=yf h;exact ⟨x,.inl ⟨x,rfl,⟨this.1,by omega,this.2.2⟩,rfl⟩⟩
  | _=>cases h
 ·cases d with
  | int i =>
   have h:decide ((if i < 0 then -i else i)<=999999999999999999999999999999)=true:=h;have h:=MP h;refine ⟨_,.inr (.inl ⟨i,rfl,?_,rfl⟩)⟩;split at h <;> omega
  | _=>cases h
 ·unfold u9 at h;split at h
  ·rename_i x;cases x with
   | str x=>have:=yf h;exact ⟨_,.inr (.inr ⟨x,rfl,⟨this.1,this.2.2⟩,rfl⟩)⟩
   | _=>cases h
  ·cases h
theorem xg {i:Int} (h:i.natAbs < 10 ^ 30):i.natAbs < 10 ^ 400:=Md h (NA (by decide) (by decide))
theorem pA {x y:Str} (h:decide (x=y)=false):PyData.eqv (.str x) (.str y)=false:=by simpa [PyData.eqv] using h
theorem jQ {x:Str}:PyData.eqv (.str x) (.str x)=true:=by simp [PyData.eqv]
theorem oh {z:Str}:∀ (ss:List Str),wo (ss.map .str) (.str z)=ss.any fun s=>decide (s=z)
 | []=>rfl
 | s :: ss=>by
  have:=oh (z:=z) ss;unfold wo at this ⊢;rw [List.map_cons,List.any_cons,List.any_cons,this];have:PyData.eqv (.str s) (.str z)=decide (s=z):=by
   simp only [PyData.eqv];rfl
  rw [this]
theorem nC:∀ (ss:List Str),gZ (ss.map .str)=true
 | []=>by simp [gZ]
 | s :: ss=>by simp [gZ,noD,nC ss]
theorem w_inS {e:En} {x y:AV} {z:Str} (ss:List Str) {Q:RV->En->Prop} (h1:aK e [x,y]=some [.str z,.tuple (ss.map .str)]) (q:Q (.dat (.bool (ss.any fun s=>decide (s=z)))) e):WPr inP [x,y] e Q:=by
 refine ⟨_,.dat (.bool (ss.any fun s=>decide (s=z))),h1,?_,q⟩;show (if wJ (.str z)=true/\gZ (ss.map .str)=true then some (PR.dat (.bool (ngB false (wo (ss.map .str) (.str z))))) else none)=_;rw [Me ⟨by simp [wJ,noD,PyData.depth],nC ss⟩,oh];rfl
theorem jz {d:PyData} {T:Str} {Q:PR->List PyData->Prop} (h:lM d T) (q:Q (.dat (.str T)) []):WF eZ [d] Q:=by
 refine cn rfl ?_;unfold ju;rcases h with ⟨x,rfl,hx,rfl⟩ | ⟨i,rfl,hi,rfl⟩ | ⟨x,rfl,hx,rfl⟩
 ·walk_at "pp";refine ab rfl rfl ⟨_,_,rfl,rfl,?_⟩;walk_at "pp";exact q
 ·walk_at "pp";refine ab rfl rfl ⟨_,_,rfl,rfl,?_⟩;walk_at "pp";refine jA rfl (Md hi (NA (by decide) (by decide))) ?_;walk_at "pp";exact q
 ·walk_at "pp";refine ab rfl rfl ⟨_,_,rfl,rfl,?_⟩;walk_at "pp";refine cv rfl (by have:(Str.ofString "'").length=1:=(by decide);rw [this];have:=hx.2;show _<=2 ^ 24;omega) ?_;walk_at "pp";exact q
theorem pe {d:PyData} {T:Str} {Q:PR->List PyData->Prop} (h:lM d T) (q:Q (.dat (.str T)) []):WF e7 [d] Q:=by
 refine cn rfl ?_;unfold i4;rcases h with ⟨x,rfl,hx,rfl⟩ | ⟨i,rfl,hi,rfl⟩ | ⟨x,rfl,hx,rfl⟩
 ·walk_at "pp";exact q
 ·walk_at "pp";refine jA rfl (Md hi (NA (by decide) (by decide))) ?_;walk_at "pp";exact q
 ·walk_at "pp";refine cv rfl (by have:(Str.ofString "'").length=1:=(by decide);rw [this];have:=hx.2;show _<=2 ^ 24;omega) ?_;walk_at "pp";exact q
theorem bI {f:Fn} {e1:En} {avs:List AV} {ds:List PyData} {is:List Nat} {ms:List PM} {Q:RV->En->Prop} (hm:f.ms=ms) (h1:kN e1 ms avs=some ds) (h2:c7 ms avs=is) (h:WF f ds fun pr outs=>ckA is (vh ms avs) outs.length=true/\Q pr.rv (dW e1 is outs)):nK f avs e1 Q:=by
 subst hm;exact ab h1 h2 h
def Rest (Z:Str) (a:Nat) (L:List Nat):Prop:=a<=Z.length/\Z.length<=99000/\Z.cps.toList.drop a=L
theorem Rest.skip {Z:Str} {a:Nat} {W L:List Nat} (h:Rest Z a (W++L)):Rest Z (a+W.length) L:=by
 obtain ⟨h1,h2,h3⟩:=h;have e:=congrArg List.length h3;rw [MZ,aq,LY] at e;refine ⟨by omega,h2,?_⟩;rw [<- List.drop_drop,h3,List.drop_left]
theorem Rest.len {Z:Str} {a:Nat} {L:List Nat} (h:Rest Z a L):a+L.length=Z.length:=by
 have e:=congrArg List.length h.2.2;rw [MZ,aq] at e;have:=h.1;omega
theorem Rest.at {Z:Str} {a:Nat} {L:List Nat} (h:Rest Z a L) {j c:Nat} (hc:L[j]?=some c):atI Z.cps.toList ((a+j:Nat):Int)=some c:=by
 refine fo ?_;rw [<- NI,h.2.2];exact hc
theorem Rest.cut {Z:Str} {a:Nat} {W L:List Nat} (h:Rest Z a (W++L)):jG Z (some (a:Int)) (some ((a+W.length:Nat):Int))=⟨W.toArray⟩:=by
 refine gv ?_;rw [EM (by omega) (by omega)];show (Z.cps.toList.take (a+W.length)).drop a=W;rw [List.drop_take,h.2.2,show a+W.length - a=W.length by omega,List.take_left]
def Nx (p:Nat->Bool) (L:List Nat):Prop:=∀ c r,L=c :: r->p c=false
theorem p7 {e:En} {x y:AV} {c:Nat} {z:Str} {p:Nat->Bool} {Q:RV->En->Prop} (hp:∀ c,decide (c∈z.cps.toList)=p c) (h1:aK e [x,y]=some [.str ⟨#[c]⟩,.str z]) (q:Q (.dat (.bool (p c))) e):WPr inP [x,y] e Q :=
 ⟨_,.dat (.bool (p c)),h1,by rw [<- hp c,<-PySem.StrLaws.found_one z c];rfl,q⟩
theorem zT {b:Bool} {avs:List AV} {e:En} {Q:RV->En->Prop} (h:WPr (Gg b) avs e Q):WPr (Gg b) avs e Q:=h
theorem zz {m:Str} {f:Fn} {i:Nat} {avs:List AV} {e:En} {Q:RV->En->Prop} (h:WMr (aH m f) i avs e Q):WMr (aH m f) i avs e Q:=h
abbrev dgs:Str := "0123456789"
theorem lr (c:Nat):decide (c∈abc.cps.toList)=chB c:=by
 by_cases h:c < 123
 ·have:∀ c < 123,decide (c∈abc.cps.toList)=chB c:=by decide +kernel
  exact this c h
 ·have h2:∀ d∈abc.cps.toList,d < 123:=by decide +kernel
  rw [Mb fun z=>h (h2 c z)];unfold chB;rw [Mb (p:=c<=122) (by omega),Bool.and_false]
theorem kE (c:Nat):decide (c∈dgs.cps.toList)=cP c:=by
 by_cases h:c < 58
 ·have:∀ c < 58,decide (c∈dgs.cps.toList)=cP c:=by decide +kernel
  exact this c h
 ·have h2:∀ d∈dgs.cps.toList,d < 58:=by decide +kernel
  rw [Mb fun z=>h (h2 c z)];unfold cP;rw [Mb (p:=c<=57) (by omega),Bool.and_false]
local macro_rules | `(tactic| walk_at "pm1")=>`(tactic| ((fail_if_success (with_reducible refine zz ?_));(fail_if_success (with_reducible refine zT ?_));walk_at "p"))
local macro_rules | `(tactic| walk_at "pm")=>`(tactic| repeat walk_at "pm1")
local macro_rules | `(tactic| walk_at "pz1")=>`(tactic| ((fail_if_success (with_reducible refine zz ?_));(fail_if_success (with_reducible refine zT ?_));walk_at "p0"))
local macro_rules | `(tactic| walk_at "pmz")=>`(tactic| repeat walk_at "pz1")
theorem fI {Z SG:Str} {a:Nat} {W L:List Nat} {p:Nat->Bool} {Q:PR->List PyData->Prop} (hp:∀ c,decide (c∈SG.cps.toList)=p c) (h:Rest Z a (W++L)) (hW:∀ c∈W,p c=true) (hL:Nx p L) (q:Q (.dat (.int ((a+W.length:Nat):Int))) []):WF de [.str Z,.int (a:Int),.str SG] Q:=by
 have hl:=h.len;have hz:=h.2.1;rw [LY] at hl;refine cn rfl ?_;unfold mH;with_reducible refine cc fun N eN=>?_
 have rest:N ([.dat (.str Z),.dat (.int ((a+W.length:Nat):Int)),.dat (.str SG)]:En):=by
  rw [eN];walk_at "pm";exact q
 refine GK (fun k e=>∃ j,j+k=W.length/\e=([.dat (.str Z),.dat (.int ((a+j:Nat):Int)),.dat (.str SG)]:En)) W.length (by omega) ⟨0,by omega,rfl⟩ ?_;rintro k e hk ⟨j,hj,rfl⟩;walk_at "pm";by_cases k0:k=0
 ·obtain rfl:j=W.length:=by omega
  cases L with
  | nil =>
   rw [Mo] at hl;refine fF (Mb (by omega)) ?_;exact rest
  | cons c r =>
   rw [L3] at hl;refine dN (L7 (by omega)) ?_;walk_at "pm";refine fP rfl (h.at (j:=W.length) (c:=c) (by simp)) ?_;walk_at "pm";refine p7 hp rfl ?_;rw [hL c r rfl];walk_at "pm";exact rest
 ·have hjl:j < W.length:=by omega
  have hc:(W++L)[j]?=some W[j]:=by rw [MC hjl,L6 hjl]
  refine dN (L7 (by omega)) ?_;walk_at "pm";refine fP rfl (h.at hc) ?_;walk_at "pm";refine p7 hp rfl ?_;rw [hW _ (List.getElem_mem hjl)];walk_at "pm";exact ⟨k - 1,by omega,j+1,by omega,rfl⟩
def AG (t L:List Nat):Prop:=∃ c r,t=c :: r/\((chB c=true/\(∀ x∈r,chB x=true)/\Nx chB L)\/(c=39/\(∀ x∈r,chB x=true)/\Nx chB L)\/((c=45\/cP c=true)/\(∀ x∈r,cP x=true)/\Nx cP L)\/(chB c=false/\c≠39/\c≠45/\cP c=false/\r=[]))
theorem eq1 (c d:Nat):PyData.eqv (.str ⟨#[c]⟩) (.str ⟨#[d]⟩)=decide (c=d):=by
 by_cases h:c=d
 ·rw [h,L7 rfl];exact jQ
 ·rw [Mb h];exact pA (Mb fun z=>h (one_inj z))
theorem qa {Z:Str} {a:Nat} {t L:List Nat} {Q:PR->List PyData->Prop} (h:Rest Z a (t++L)) (ht:AG t L) (q:Q (.dat (.int ((a+t.length:Nat):Int))) []):WF fe [.str Z,.int (a:Int)] Q:=by
 obtain ⟨c,r,rfl,ht⟩:=ht;have hl:=h.len;have hz:=h.2.1;have h0:atI Z.cps.toList (a:Int)=some c:=h.at (j:=0) rfl;have h1:Rest Z (a+1) (r++L):=h.skip (W:=[c]);have el:a+(c :: r).length=a+1+r.length:=by rw [L3];omega
 have e39:("'" : Str)=⟨#[39]⟩:=by decide +kernel
 have e45:("-" : Str)=⟨#[45]⟩:=by decide +kernel
 refine cn rfl ?_;unfold jy;walk_at "pm";refine fP rfl h0 ?_;walk_at "pm";refine p7 lr rfl ?_;by_cases hc:chB c=true
 ·rw [hc];walk_at "pm";have:(∀ x∈r,chB x=true)/\Nx chB L:=by
   rcases ht with h | h | h | h
   ·exact h.2
   ·exact h.2
   ·rcases h.1 with rfl | h
    ·cases hc
    ·unfold chB at hc;unfold cP at h;simp only [Ms,MQ] at hc h;omega
   ·rw [h.1] at hc;cases hc
  refine ab (is:=[]) rfl rfl (fI lr h (fun x hx=>?_) this.2 ⟨rfl,?_⟩)
  ·rcases Mc.mp hx with rfl | hx
   ·exact hc
   ·exact this.1 x hx
  ·walk_at "pm";exact q
 ·rw [Bool.not_eq_true] at hc;rw [hc];walk_at "pm";refine fP rfl h0 ?_;walk_at "pm";have q39:PyData.eqv (.str ⟨#[c]⟩) (.str "'")=decide (c=39):=by rw [e39];exact eq1 c 39
  have q45:PyData.eqv (.str ⟨#[c]⟩) (.str "-")=decide (c=45):=by rw [e45];exact eq1 c 45
  by_cases h39:c=39
  ·refine dN (q39.trans (L7 h39)) ?_;have:(∀ x∈r,chB x=true)/\Nx chB L:=by
    rcases ht with h | h | h | h
    ·exact h.2
    ·exact h.2
    ·rcases h.1 with z | z
     ·omega
     ·rw [h39] at z;cases z
    ·exact absurd h39 h.2.1
   walk_at "pm";refine ab (is:=[]) rfl rfl (fI lr h1 this.1 this.2 ⟨rfl,?_⟩);walk_at "pm";rw [<- el];exact q
  ·refine fF (q39.trans (Mb h39)) ?_;walk_at "pm";refine fP rfl h0 ?_;walk_at "pm";have ht:((c=45\/cP c=true)/\(∀ x∈r,cP x=true)/\Nx cP L)\/(chB c=false/\c≠39/\c≠45/\cP c=false/\r=[]):=by
    rcases ht with h | h | h | h
    ·rw [h.1] at hc;cases hc
    ·exact absurd h.1 h39
    ·exact .inl h
    ·exact .inr h
   have fin:(c=45\/cP c=true)->(∀ x∈r,cP x=true)/\Nx cP L:=fun z=>by
    rcases ht with h | h
    ·exact h.2
    ·rcases z with z | z
     ·exact absurd z h.2.2.1
     ·rw [h.2.2.2.1] at z;cases z
   by_cases h45:c=45
   ·refine dN (q45.trans (L7 h45)) ?_;walk_at "pm";refine ab (is:=[]) rfl rfl (fI kE h1 (fin (.inl h45)).1 (fin (.inl h45)).2 ⟨rfl,?_⟩);walk_at "pm";rw [<- el];exact q
   ·refine fF (q45.trans (Mb h45)) ?_;walk_at "pm";refine fP rfl h0 ?_;walk_at "pm";refine p7 kE rfl ?_;by_cases hd:cP c=true
    ·rw [hd];walk_at "pm";refine ab (is:=[]) rfl rfl (fI kE h1 (fin (.inr hd)).1 (fin (.inr hd)).2 ⟨rfl,?_⟩);walk_at "pm";rw [<- el];exact q
    ·rw [Bool.not_eq_true] at hd;rw [hd];obtain rfl:r=[]:=by
      rcases ht with h | h
      ·rcases h.1 with z | z
       ·exact absurd z h45
       ·rw [hd] at z;cases z
      ·exact h.2.2.2.2
     walk_at "pm";exact q
def Pcs:List (List Nat)->Prop
 | []=>True
 | t :: ts=>AG t ts.flatten/\Pcs ts
noncomputable def toks (a:Nat):List (List Nat)->List PyData
 | []=>[]
 | t :: ts=>(if t=[32] then [] else [.tuple [.str ⟨t.toArray⟩,.int (a:Int)]])++toks (a+t.length) ts
theorem qW:∀ {ts:List (List Nat)},Pcs ts->ts.length<=ts.flatten.length
 | [],_=>Mg _
 | t :: ts,h=>by
  have:=qW h.2;obtain ⟨c,r,rfl,_⟩:=h.1;rw [List.flatten_cons,LY,L3,L3];omega
theorem jS:∀ (ts:List (List Nat)) (a:Nat),(toks a ts).length<=ts.length
 | [],_=>Mg _
 | t :: ts,a=>by
  have:=jS ts (a+t.length);show ((if t=[32] then [] else [PyData.tuple [.str ⟨t.toArray⟩,.int (a:Int)]])++toks (a+t.length) ts).length<=_;rw [LY,L3];split
  ·rw [Mo];omega
  ·rw [Mz];omega
theorem EJ {t L:List Nat} (h:AG t L):∃ c r,t=c :: r/\(c=32↔t=[32]):=by
 obtain ⟨c,r,rfl,h⟩:=h;refine ⟨c,r,rfl,fun e=>?_,fun e=>by injection e⟩;subst e;rcases h with h | h | h | h
 ·cases h.1
 ·exact absurd h.1 (by decide)
 ·rcases h.1 with z | z
  ·exact absurd z (by decide)
  ·cases z
 ·rw [h.2.2.2.2]
theorem qh {Z:Str} {ts:List (List Nat)} {Q:PR->List PyData->Prop} (hz:Z.length<=99000) (h:Pcs ts) (hZ:Z.cps.toList=ts.flatten) (q:Q (.frs (.list (toks 0 ts++[.tuple [.str "", .int (Z.length:Int)]]))) []):WF eY [.str Z] Q:=by
 have pl:=qW h;have zl:Z.length=ts.flatten.length:=by rw [<- aq,hZ]
 have hR:Rest Z 0 ts.flatten:=⟨MV _,hz,by simpa using hZ⟩;have e32:(" " : Str)=⟨#[32]⟩:=by decide +kernel
 refine cn rfl ?_;unfold i7;with_reducible refine og ?_
 walk_at "pmz";with_reducible refine og ?_
 walk_at "pmz";with_reducible refine cc fun N eN=>?_
 have rest:∀ x:Sl,soft x->N ([.dat (.str Z),.own (.list (toks 0 ts)),.dat (.int (Z.length:Int)),x]:En):=by
  intro x hx;rw [eN];walk_at "pm";have t1:=jS ts 0;refine jK rfl (by show _ < 2 ^ 24;omega) rfl ?_;walk_at "pm";exact q
 refine GK (fun k e=>∃ (ts2:List (List Nat)) (F:List PyData) (a:Nat) (x:Sl),ts2.length=k/\F++toks a ts2=toks 0 ts/\F.length<=a/\Pcs ts2/\Rest Z a ts2.flatten/\soft x/\e=([.dat (.str Z),.own (.list F),.dat (.int (a:Int)),x]:En)) ts.length (by omega) ⟨ts,[],0,.un,rfl,rfl,Mg _,h,hR,rN,rfl⟩ ?_;rintro k e hk ⟨ts2,F,a,x,rfl,hF,hFa,hP,hr,hx,rfl⟩;have hl:=hr.len;have t1:=jS ts 0;walk_at "pm"
 match ts2,hF,hP,hr,hl with
 | [],hF,hP,hr,hl =>
  have hl:a=Z.length:=hl;have hF:F++[]=toks 0 ts:=hF;rw [MS] at hF;subst hF;subst hl;refine fF (Mb (by omega)) ?_;exact rest x hx
 | t :: ts',hF,hP,hr,hl =>
  obtain ⟨c,r,et,h32⟩:=EJ hP.1;have hr:Rest Z a (t++ts'.flatten):=hr;have h0:atI Z.cps.toList (a:Int)=some c:=hr.at (j:=0) (by rw [et];rfl);have tl:1<=t.length:=by rw [et,L3];omega
  have hF:F++((if t=[32] then [] else [.tuple [.str ⟨t.toArray⟩,.int (a:Int)]])++toks (a+t.length) ts')=toks 0 ts:=hF;rw [List.flatten_cons,LY] at hl;refine dN (L7 (by omega)) ?_;walk_at "pm";refine ab (is:=[]) rfl rfl (qa hr hP.1 ⟨rfl,?_⟩);walk_at "n";walk_at "pm";refine fP rfl h0 ?_;walk_at "pm";have q32:PyData.eqv (.str ⟨#[c]⟩) (.str " ")=decide (c=32):=by rw [e32];exact eq1 c 32
  by_cases hc:c=32
  ·refine fF (by show (!PyData.eqv (.str ⟨#[c]⟩) (.str " "))=false;rw [q32,L7 hc];rfl) ?_;rw [Me (h32.mp hc),Nb] at hF;walk_at "pm";exact ⟨ts'.length,M8 _,ts',F,a+t.length,_,rfl,hF,by omega,hP.2,hr.skip,gm,rfl⟩
  ·refine dN (by show (!PyData.eqv (.str ⟨#[c]⟩) (.str " "))=true;rw [q32,Mb hc];rfl) ?_;rw [Mn fun z=>hc (h32.mpr z),<-MM] at hF;have fl:=congrArg List.length hF;rw [LY,LY,Mz] at fl;walk_at "pm";refine ⟨_,.dat (.str ⟨t.toArray⟩),rfl,?_,?_⟩
   ·rw [<- hr.cut];rfl
   ·walk_at "pm";refine jK rfl (by show _ < 2 ^ 24;omega) rfl ?_;walk_at "pm";exact ⟨ts'.length,M8 _,ts',_,a+t.length,_,rfl,hF,by rw [LY,Mz];omega,hP.2,hr.skip,gm,rfl⟩
abbrev rdr (L:List PyData) (pl fm:Nat):PyData:=.dict [(.str "tokens", .list L),(.str "place", .int (pl:Int)),(.str "forms", .int (fm:Int))]
section
variable {L:List PyData} {pl fm:Nat} {e:En} {x:AV} {Q:RV->En->Prop}
theorem KP (h:aK e [x]=some [rdr L pl fm]) (q:Q (.dat (.list L)) e):WPr (sM "tokens") [x] e Q:=⟨_,.dat (.list L),h,rfl,q⟩
theorem J5 (h:aK e [x]=some [rdr L pl fm]) (q:Q (.dat (.int (pl:Int))) e):WPr (sM "place") [x] e Q:=⟨_,.dat (.int (pl:Int)),h,rfl,q⟩
theorem Kk (h:aK e [x]=some [rdr L pl fm]) (q:Q (.dat (.int (fm:Int))) e):WPr (sM "forms") [x] e Q:=⟨_,.dat (.int (fm:Int)),h,rfl,q⟩
end
theorem B4 {m:Str} {f:Fn} {ms:List PM} {i:Nat} {avs:List AV} {e:En} {d:PyData} {as:List (Bool×PyData)} {Q:RV->En->Prop} (hm:f.ms=.ino :: ms) (h1:aQ e i=some d) (h2:b4 e avs=some as) {ds:List PyData} (h3:qQ ms as=true) (h4:d :: as.map Prod.snd=ds) (h:WF f ds fun pr outs=>∃ x d',pr=.dat x/\outs=[d']/\Q (.dat x) (gz e i d')):WMr (aH m f) i avs e Q:=by
 subst h4;obtain ⟨pr,outs,hF,x,d',rfl,rfl,q⟩:=h;refine ⟨d,as,d',x,h1,h2,?_,q⟩;show (match f.ms with | .ino :: ms=>if qQ ms as=true then (match f.F (d :: as.map Prod.snd) with | some (.dat x,[d'])=>some (d',x) | _=>none) else none | _=>none)=_;rw [hm];show (if qQ ms as=true then (match f.F (d :: as.map Prod.snd) with | some (.dat x,[d'])=>some (d',x) | _=>none) else none)=_;rw [Me h3,hF]
theorem gR {f:Str} {i:Nat} {v k:PyData} {rk:RV} {e:En} {kvs kvs':List (PyData×PyData)} {N:En->Prop} (h1:aQ e i=some (.dict kvs)) (hk:rk.view e=some k) (h3:f.length<=sizeLine/\PyData.strOk f=true/\kvs.length < 1000) (h2:u3 f v kvs=some kvs') (q:N (gz e i (.dict kvs'))):C4 (ve f) i v rk e N :=
 ⟨_,_,.dict kvs',hk,h1,by show (if f.length<=sizeLine/\PyData.strOk f=true/\kvs.length < 1000 then (u3 f v kvs).map PyData.dict else none)=_;rw [Me h3,h2];rfl,q⟩
theorem qM (i:Int):(aj i).cps.toList=(if i < 0 then [45] else [])++codes i.natAbs:=by
 by_cases h:i < 0
 ·rw [Me h];have:=iM (m:=i.natAbs) (by omega);rw [show (-(i.natAbs:Int))=i by omega] at this;exact this
 ·rw [Mn h];have:=fL i.natAbs;rw [show ((i.natAbs:Nat):Int)=i by omega] at this;exact this
theorem iD (m:Nat):∃ c r,codes m=c :: r/\48<=c/\c<=57:=by
 cases e:codes m with
 | nil=>exact absurd e (zy m)
 | cons c r =>
  have:=jU m c (by rw [e];exact Mj);exact ⟨c,r,rfl,this⟩
theorem gT {i:Int} (h:i.natAbs < 10 ^ 30):jV (aj i)=.int i:=by
 obtain ⟨c,r,ec,c0,c1⟩:=iD i.natAbs;have ei:=qM i;have hd:(aj i).cps.toList.head?≠some 39/\∃ k s,(aj i).cps.toList=k :: s/\chB k=false:=by
  rw [ei,ec];split
  ·exact ⟨fun z=>(by have z:some 45=some 39:=z;cases z),45,c :: r,rfl,by decide⟩
  ·refine ⟨fun z=>?_,c,r,rfl,?_⟩
   ·have z:some c=some 39:=z;injection z with z;omega
   ·unfold chB;rw [Mb (p:=97<=c) (by omega)];rfl
 obtain ⟨h0,k,s,es,hk⟩:=hd;have hl:yi (.str (aj i)) 1=false:=by
  show (decide _&&(decide _&&(aj i).cps.toList.all chB))=false;rw [es,List.all_cons,hk];simp
 rw [qz h0 hl];have hf:ix (aj i)=codes i.natAbs/\isNeg (aj i)=decide (i < 0):=by
  by_cases hi:i < 0
  ·rw [Me hi] at ei;exact ⟨nh ei,(qy ei).trans (L7 hi).symm⟩
  ·rw [Mn hi,Nb] at ei;rw [Mb hi];rcases da (aj i) with ⟨r2,e2,_,_⟩ | ⟨f,g⟩
   ·rw [ei,ec] at e2;injection e2 with e2 _;omega
   ·exact ⟨f.trans ei,g⟩
 have fk:eU (aj i)=true:=by
  unfold eU;rw [hf.1];have l1:=ow 29 i.natAbs h;have l2:1<=(codes i.natAbs).length:=by rw [ec];simp
  rw [L7 l2,L7 (p:=(codes i.natAbs).length<=30) (by omega),M5,M5,M0];intro d hd;have:=jU _ d hd;unfold cP;rw [L7 this.1,L7 this.2];rfl
 have nv:xR (aj i)=i:=by
  unfold xR;rw [hf.1,hf.2,vQ];by_cases hi:i < 0
  ·rw [L7 hi,Me rfl];omega
  ·rw [Mb hi,Mn (by decide)];omega
 have cnd:=(oe fk).mp (by rw [nv]);unfold uf;rw [Me ⟨fk,cnd⟩,nv]
local macro_rules | `(tactic| walk_at "pm1")=>`(tactic| ((fail_if_success (with_reducible refine zz ?_));(fail_if_success (with_reducible refine zT ?_));first | ((with_reducible refine KP ?e9 ?_);(case e9=>exact rfl)) | ((with_reducible refine J5 ?e9 ?_);(case e9=>exact rfl)) | ((with_reducible refine Kk ?e9 ?_);(case e9=>exact rfl)) | walk_at "p"))
local macro_rules | `(tactic| walk_at "pr")=>`(tactic| repeat walk_at "pm1")
local macro_rules | `(tactic| walk_at "pz1")=>`(tactic| ((fail_if_success (with_reducible refine zz ?_));(fail_if_success (with_reducible refine zT ?_));first | ((with_reducible refine KP ?e9 ?_);(case e9=>exact rfl)) | ((with_reducible refine J5 ?e9 ?_);(case e9=>exact rfl)) | ((with_reducible refine Kk ?e9 ?_);(case e9=>exact rfl)) | walk_at "p0"))
local macro_rules | `(tactic| walk_at "prz")=>`(tactic| repeat walk_at "pz1")
def TkL:List PyData->List Str->Prop
 | [],[]=>True
 | d :: ds,t :: ts=>(∃ p:Int,d=.tuple [.str t,.int p])/\TkL ds ts
 | _,_=>False
def At (L:List PyData) (pl:Nat) (TK:List Str):Prop:=pl<=L.length/\L.length<=99001/\TkL (L.drop pl) TK
theorem At.one {L:List PyData} {pl:Nat} {t:Str} {TK:List Str} (h:At L pl (t :: TK)):(∃ p:Int,atI L (pl:Int)=some (.tuple [.str t,.int p]))/\At L (pl+1) TK/\pl < L.length:=by
 obtain ⟨h1,h2,h3⟩:=h;cases e:L.drop pl with
 | nil=>rw [e] at h3;exact h3.elim
 | cons d ds =>
  rw [e] at h3;obtain ⟨⟨p,rfl⟩,h4⟩:=h3;have hl:pl < L.length:=by
   have:=congrArg List.length e;rw [MZ,L3] at this;omega
  refine ⟨⟨p,fo ?_⟩,⟨hl,h2,?_⟩,hl⟩
  ·have:=congrArg (fun l=>l[0]?) e;rw [NI] at this;simpa using this
  ·rw [<- List.drop_drop,e];exact h4
theorem yT {L:List PyData} {pl fm:Nat} {t:Str} {TK:List Str} {Q:PR->List PyData->Prop} (h:At L pl (t :: TK)) (q:Q (.dat (.str t)) [rdr L pl fm]):WF az [rdr L pl fm] Q:=by
 obtain ⟨⟨p,ep⟩,_,_⟩:=h.one;refine cn rfl ?_;unfold l7;walk_at "pr";refine lN rfl ep ?_;walk_at "pr";exact q
theorem yR {L:List PyData} {pl fm:Nat} {v:PyData} {Q:PR->List PyData->Prop} (hl:L.length<=99001) (h:pl < L.length) (q:Q (.dat v) [rdr L (pl+1) fm]):WF aG [rdr L pl fm,v,.bool true] Q:=by
 refine cn rfl ?_;unfold mO;walk_at "pr";refine gR rfl rfl ⟨by decide +kernel,by decide +kernel,Mv rfl⟩ rfl ?_;walk_at "pr";exact q
section
variable {L:List PyData} {pl fm i:Nat} {b c:Bool} {v:PyData} {t:Str} {TK:List Str} {avs:List AV} {e:En} {Q:RV->En->Prop}
theorem aN (h1:aQ e i=some (rdr L pl fm)) (h2:b4 e avs=some []) (h:At L pl (t :: TK)) (q:Q (.dat (.str t)) (gz e i (rdr L pl fm))):WMr (aH "shown" az) i avs e Q :=
 B4 rfl h1 h2 rfl rfl (yT h ⟨_,_,rfl,rfl,q⟩)
theorem bB (h1:aQ e i=some (rdr L pl fm)) (h2:b4 e avs=some [(b,v),(c,.bool true)]) (hv:CK v=true) (h:At L pl (t :: TK)) (q:Q (.dat v) (gz e i (rdr L (pl+1) fm))):WMr (aH "taken" aG) i avs e Q :=
 B4 rfl h1 h2 (by show ((b||CK v)&&((c||CK (.bool true))&&true))=true;rw [hv];cases b <;> cases c <;> rfl) rfl (yR h.2.1 h.one.2.2 ⟨_,_,rfl,rfl,q⟩)
end
theorem BZ {L:List PyData} {pl fm:Nat} {t:Str} {TK:List Str} {Q:PR->List PyData->Prop} (h:At L pl (t :: TK)) (q:Q (.dat .none) [rdr L (pl+1) fm]):WF aL [rdr L pl fm,.str t] Q:=by
 refine cn rfl ?_;unfold oX;walk_at "pr";refine aN rfl rfl h ?_;walk_at "n";walk_at "pr";show WMr _ _ [_,(PR.dat (.bool (PyData.eqv (.str t) (.str t)))).rv.av] _ _;rw [jQ];refine bB rfl rfl rfl h ?_;walk_at "pr";exact q
theorem dg {L:List PyData} {pl fm i:Nat} {b:Bool} {t:Str} {TK:List Str} {avs:List AV} {e:En} {Q:RV->En->Prop} (h1:aQ e i=some (rdr L pl fm)) (h2:b4 e avs=some [(b,.str t)]) (h:At L pl (t :: TK)) (q:Q (.dat .none) (gz e i (rdr L (pl+1) fm))):WMr (aH "skip" aL) i avs e Q :=
 B4 rfl h1 h2 (by cases b <;> rfl) rfl (BZ h ⟨_,_,rfl,rfl,q⟩)
theorem Bw {d:PyData} {T:Str} (h:lM d T):jV T=d/\CK d=true/\EV d=false/\m6 d=false:=by
 rcases h with ⟨x,rfl,h,rfl⟩ | ⟨i,rfl,h,rfl⟩ | ⟨x,rfl,h,rfl⟩
 ·exact ⟨qk (BN h).1,rfl,rfl,rfl⟩
 ·exact ⟨gT h,rfl,rfl,rfl⟩
 ·have e:(("'" : Str)++x).cps.toList=39 :: x.cps.toList:=by rw [bo];rfl
  refine ⟨?_,rfl,rfl,rfl⟩;rw [l5 e,Me];refine ⟨by rw [aq];exact h.2,M0.mpr fun c hc=>?_⟩;have:=h.1 c hc;unfold chB;rw [L7 this.1,L7 this.2];rfl
section
variable {L:List PyData} {pl fm:Nat} {TK:List Str} {Q:PR->List PyData->Prop}
theorem fq {t:Str} (h:At L pl (t :: TK)) (ht:Sh t) (q:Q (.dat (.str t)) [rdr L (pl+1) fm]):WF b8 [rdr L pl fm] Q:=by
 refine cn rfl ?_;unfold iT;walk_at "pr";refine aN rfl rfl h ?_;walk_at "n";walk_at "pr";refine ab (is:=[]) rfl rfl (iG ⟨rfl,?_⟩);rw [(BN ht).1];walk_at "n";walk_at "pr";refine bB rfl rfl rfl h ?_;walk_at "pr";exact q
theorem m8 {x:PyData} {T:Str} (h:At L pl (T :: TK)) (hx:lM x T) (q:Q (.dat x) [rdr L (pl+1) fm]):WF dM [rdr L pl fm] Q:=by
 have nr:=Bw hx;refine cn rfl ?_;unfold gO;walk_at "pr";refine aN rfl rfl h ?_;walk_at "n";walk_at "pr";refine ab (is:=[]) rfl rfl (fK (Mr (mW hx) (by decide)) ⟨rfl,?_⟩);rw [nr.1];walk_at "n";walk_at "pr";rcases hx with ⟨s,rfl,_⟩ | ⟨s,rfl,_⟩ | ⟨s,rfl,_⟩
 all_goals
  walk_at "pr";refine bB rfl rfl rfl h ?_;walk_at "pr";exact q
theorem lU {i:Int} (h:At L pl (aj i :: TK)) (hi:i.natAbs < 10 ^ 30) (q:Q (.dat (.int i)) [rdr L (pl+1) fm]):WF cY [rdr L pl fm] Q:=by
 refine cn rfl ?_;unfold fT;walk_at "pr";refine aN rfl rfl h ?_;walk_at "n";walk_at "pr";refine ab (is:=[]) rfl rfl (fK (Mr (fO hi) (by decide)) ⟨rfl,?_⟩);rw [gT hi];walk_at "n";walk_at "pr";refine ab (is:=[]) rfl rfl (dZ rfl ⟨rfl,?_⟩);walk_at "n";walk_at "pr";refine bB rfl rfl rfl h ?_;walk_at "pr";exact q
end
noncomputable def hiD:Option Int->PyData
 | none=>.none
 | some h=>.int h
def yC (lo:Int):Option Int->Prop
 | none=>True
 | some h=>lo<=h/\h<=60
theorem ph {lo:Int} {hi:Option Int} {Q:PR->List PyData->Prop} (h0:0<=lo) (h1:lo<=60) (hh:yC lo hi) (q:Q (.dat (.bool true)) []):WF cx [.int lo,hiD hi] Q:=by
 refine cn rfl ?_;unfold gQ;cases hi with
 | none =>
  walk_at "pp";refine ab (is:=[]) rfl rfl (dZ rfl ⟨rfl,?_⟩);walk_at "pp";refine dN (L7 h0) ?_;walk_at "pp";refine fF (by show (!decide (lo<=60))=false;rw [L7 h1];rfl) ?_;walk_at "pp";exact q
 | some h =>
  obtain ⟨g1,g2⟩:=(show lo<=h/\h<=60 from hh);walk_at "pp";refine ab (is:=[]) rfl rfl (dZ rfl ⟨rfl,?_⟩);walk_at "pp";refine dN (L7 h0) ?_;walk_at "pp";refine fF (by show (!decide (lo<=60))=false;rw [L7 h1];rfl) ?_;walk_at "pp";refine ab (is:=[]) rfl rfl (dZ rfl ⟨rfl,?_⟩);walk_at "pp";refine dN (L7 g1) ?_;walk_at "pp";show Q (.dat (.bool (decide (h<=60)))) [];rw [L7 g2];exact q
section
variable {L:List PyData} {pl fm:Nat} {TK:List Str} {Q:PR->List PyData->Prop}
theorem cp {i:Int} (h0:0<=i) (h1:i<=60):i.natAbs < 10 ^ 30:=Nat.lt_of_le_of_lt (show i.natAbs<=60 by omega) (by decide)
theorem qP {lo:Int} (h:At L pl (aj lo :: TK)) (h0:0<=lo) (h1:lo<=60) (q:Q (.dat (.int lo)) [rdr L (pl+1) fm]):WF gu [rdr L pl fm] Q:=by
 refine cn rfl ?_;unfold ke;walk_at "pr";refine aN rfl rfl h ?_;walk_at "n";walk_at "pr";refine ab (is:=[]) rfl rfl (fK (Mr (fO (cp h0 h1)) (by decide)) ⟨rfl,?_⟩);rw [gT (cp h0 h1)];walk_at "n";walk_at "pr";refine ab (is:=[]) rfl rfl (ph (hi:=none) h0 h1 trivial ⟨rfl,?_⟩);walk_at "n";walk_at "pr";refine bB rfl rfl rfl h ?_;walk_at "pr";exact q
noncomputable def hiT:Option Int->Str
 | none => "*"
 | some h=>aj h
theorem zp {i:Int}:aj i≠("*" : Str):=fun z=>by
 have z:=congrArg (fun x:Str=>x.cps.toList) z;have z:(aj i).cps.toList=[42]:=z;obtain ⟨c,r,ec,c0,c1⟩:=iD i.natAbs;rw [qM,ec] at z;split at z
 ·cases z
 ·injection z with z _;omega
theorem pI {lo:Int} {hi:Option Int} (h:At L pl (hiT hi :: TK)) (h0:0<=lo) (h1:lo<=60) (hh:yC lo hi) (q:Q (.dat (hiD hi)) [rdr L (pl+1) fm]):WF eR [rdr L pl fm,.int lo] Q:=by
 refine cn rfl ?_;unfold iW;walk_at "pr";refine aN rfl rfl h ?_;walk_at "n";walk_at "pr";cases hi with
 | none =>
  refine dN jQ ?_;walk_at "pr";refine bB rfl rfl rfl h ?_;walk_at "pr";exact q
 | some g =>
  obtain ⟨g1,g2⟩:=(show lo<=g/\g<=60 from hh);refine fF (pA (Mb zp)) ?_;walk_at "pr";refine aN rfl rfl h ?_;walk_at "n";walk_at "pr";refine ab (ds:=[.str (aj g)]) (is:=[]) rfl rfl (fK (Mr (fO (cp (by omega) g2)) (by decide)) ⟨rfl,?_⟩);rw [gT (cp (by omega) g2)];walk_at "n";walk_at "pr";refine ab (is:=[]) rfl rfl (ph (hi:=some g) h0 h1 hh ⟨rfl,?_⟩);walk_at "n";walk_at "pr";refine bB rfl rfl rfl h ?_;walk_at "pr";exact q
theorem g5 (h:At L pl ((Str.ofString ",") :: TK)) (q:Q (.dat .none) [rdr L (pl+1) fm]):WF cz [rdr L pl fm,.bool true] Q:=by
 refine cn rfl ?_;unfold gF;walk_at "pr";refine aN rfl rfl h ?_;walk_at "n";walk_at "pr";refine bB rfl rfl rfl h ?_;walk_at "pr";exact q
end
noncomputable def stT (up:Bool) (s:Str):List Str:=if up then ["^", s] else [s]
noncomputable def stS (up:Bool) (s:Str):Str:=if up then ("^" : Str)++s else s
theorem Eu {s:Str} (h:Sh s):s≠("^" : Str):=fun z=>by
 have:=h.1 94 (by rw [z];decide +kernel);omega
section
variable {L:List PyData} {pl fm:Nat} {TK:List Str} {Q:PR->List PyData->Prop}
theorem pW {up:Bool} {s:Str} (h:At L pl (stT up s++TK)) (hs:Sh s) (q:Q (.dat (.str (stS up s))) [rdr L (pl+(stT up s).length) fm]):WF eM [rdr L pl fm] Q:=by
 refine cn rfl ?_;unfold i5;walk_at "pr";cases up with
 | false =>
  have h:At L pl (s :: TK):=h;refine aN rfl rfl h ?_;try walk_at "n"
  walk_at "pr";refine dN (congrArg not (pA (Mb (Eu hs)))) ?_;walk_at "pr";refine ab (is:=[0]) rfl rfl (fq h hs ⟨rfl,?_⟩);walk_at "pr";exact q
 | true =>
  have h:At L pl (Str.ofString "^" :: s :: TK):=h;refine aN rfl rfl h ?_;try walk_at "n"
  walk_at "pr";refine dg rfl rfl h ?_;try walk_at "n"
  walk_at "pr";refine ab (is:=[0]) rfl rfl (fq h.one.2.1 hs ⟨rfl,?_⟩);try walk_at "n"
  walk_at "pr";refine cv rfl (by have:=hs.2.2;have e:(Str.ofString "^").length=1:=(by decide);rw [e];show _<=2 ^ 24;omega) ?_;walk_at "pr";exact q
end
def Lf (w:Str):Prop:=w = "any" \/ w = "thing" \/ w = "number" \/ w = "said"
def Lst (w:Str):Prop:=w = "all" \/ w = "some" \/ w = "one" \/ w = "none"
def Wlk (w:Str):Prop:=w = "many" \/ w = "each"
theorem bW {w:Str} {Q:PR->List PyData->Prop} (q:Q (.dat (kgD dr w)) []):WF cS [.str w] Q:=by
 refine cn rfl ?_;unfold ji;walk_at "pp";exact q
theorem tw {w:Str} {fm dep j:Nat} {wk a b:Bool} {i:Int} {Q:PR->List PyData->Prop} (hL:kgD dr w=.int i) (hW:((["many", "each"]:List Str).any fun s=>decide (s=w))=a) (hC:wk=true->a=false/\PyData.eqv (.str w) (.str "closed")=false) (hN:PyData.eqv (.str w) (.str "not")=b) (hj:j=if a||b then 1 else 0) (h1:fm+1+j<=40) (h2:dep+j<=8) (q:Q (.dat (.bool true)) []):WF bx [.str w,.int (fm:Int),.int (dep:Int),.bool wk] Q:=by
 refine cn rfl ?_;unfold iU;with_reducible refine cc fun N eN=>?_
 have rest:N ([.dat (.str w),.dat (.int (fm:Int)),.dat (.int (dep:Int)),.dat (.bool wk),.un]:En):=by
  rw [eN];clear eN N;with_reducible refine cc fun N eN=>?_
  have rest:N ([.dat (.str w),.dat (.int (fm:Int)),.dat (.int (dep:Int)),.dat (.bool wk),.dat (.int (j:Int))]:En):=by
   rw [eN];walk_at "pr";refine dN (L7 (by omega)) ?_;walk_at "pr";show Q (.dat (.bool (decide _))) [];rw [L7 (by omega)];exact q
  walk_at "pr";refine w_inS ["many", "each"] rfl ?_;rw [hW];cases a with
  | true =>
   subst hj;walk_at "pr";exact rest
  | false =>
   walk_at "pr";cases b with
   | true =>
    subst hj;refine dN hN ?_;walk_at "pr";exact rest
   | false =>
    subst hj;refine fF hN ?_;walk_at "pr";exact rest
 walk_at "pr";refine ab (is:=[]) rfl rfl (bW ⟨rfl,?_⟩);rw [hL];cases wk with
 | false =>
  walk_at "pr";exact rest
 | true =>
  walk_at "pr";refine w_inS ["many", "each"] rfl ?_;rw [hW,(hC rfl).1];walk_at "pr";refine fF (hC rfl).2 ?_;walk_at "pr";exact rest
theorem E3 {w:Str} {fm dep:Nat} {wk:Bool} {Q:PR->List PyData->Prop} (hw:Lf w\/Lst w\/w = "from" \/ w = "upto" \/ w = "is" \/ w = "keeps") (h1:fm+1<=40) (h2:dep+0<=8) (q:Q (.dat (.bool true)) []):WF bx [.str w,.int (fm:Int),.int (dep:Int),.bool wk] Q:=by
 rcases hw with (rfl | rfl | rfl | rfl) | (rfl | rfl | rfl | rfl) | rfl | rfl | rfl | rfl <;> exact tw (j:=0) rfl rfl (fun _=>⟨rfl,rfl⟩) rfl rfl h1 h2 q
theorem LO {w:Str} {fm dep:Nat} {Q:PR->List PyData->Prop} (hw:w = "closed" \/ w = "closed") (h1:fm+1<=40) (h2:dep+0<=8) (q:Q (.dat (.bool true)) []):WF bx [.str w,.int (fm:Int),.int (dep:Int),.bool false] Q:=by
 rcases hw with rfl | rfl <;> exact tw (j:=0) rfl rfl (fun z=>by cases z) rfl rfl h1 h2 q
theorem LF {w:Str} {fm dep:Nat} {wk:Bool} {Q:PR->List PyData->Prop} (hw:w = "not" \/ w = "not") (h1:fm+2<=40) (h2:dep+1<=8) (q:Q (.dat (.bool true)) []):WF bx [.str w,.int (fm:Int),.int (dep:Int),.bool wk] Q:=by
 rcases hw with rfl | rfl <;> exact tw (j:=1) rfl rfl (fun _=>⟨rfl,rfl⟩) rfl rfl h1 h2 q
theorem Ld {w:Str} {fm dep:Nat} {Q:PR->List PyData->Prop} (hw:Wlk w) (h1:fm+2<=40) (h2:dep+1<=8) (q:Q (.dat (.bool true)) []):WF bx [.str w,.int (fm:Int),.int (dep:Int),.bool false] Q:=by
 rcases hw with rfl | rfl <;> exact tw (j:=1) rfl rfl (fun z=>by cases z) rfl rfl h1 h2 q
abbrev kO:Str := "("
abbrev kC:Str := ")"
abbrev kM:Str := ","
noncomputable def aP (f:Bool):List (List Str)->List Str
 | []=>[]
 | l :: ls=>(if f then [] else [kM])++(l++aP false ls)
def kY (P:PyData->PyData->List Str->Nat->Prop):List PyData->List PyData->List (List Str)->Nat->Prop
 | [],[],[],k=>k=0
 | u :: us,v :: vs,T :: Ts,k=>∃ j m,P u v T j/\kY P us vs Ts m/\k=j+m
 | _,_,_,_=>False
def Bnd (bs:List Str):Prop:=(∀ b∈bs,Sh b)/\bs.Nodup/\bs.length<=6/\r9 bs=bs
def Fr:Nat->Bool->PyData->PyData->List Str->Nat->Prop
 | 0,_,_,_,_,_=>False
 | n+1,fr,d,d',TK,k =>
   (k=1/\d'=d/\∃ w,Lf w/\d=.tuple [.str w]/\TK=[w])
  \/ (k=1/\d'=d/\∃ (w:Str) (i:Int),(w = "from" \/ w = "upto")/\i.natAbs < 10 ^ 30/\d=.tuple [.str w,.int i]/\TK=[w,aj i])
  \/ (k=1/\d'=d/\∃ x T,lM x T/\d=.tuple [.str "is", x]/\TK=[("is" : Str),T])
  \/ (k=1/\d'=d/\∃ s,Sh s/\d=.tuple [.str "keeps", .str s]/\TK=[("keeps" : Str),s])
  \/ (k=1/\fr=true/\∃ bs bs':List Str,Bnd bs/\bs'.Perm bs/\d=.tuple [.str "closed", .tuple (bs.map .str)]/\d'=.tuple [.str "closed", .tuple (bs'.map .str)]/\TK=[("closed" : Str),kO]++(aP true (bs'.map fun b=>[b])++[kC]))
  \/ (∃ u u' T j,Fr n fr u u' T j/\k=j+1/\d=.tuple [.str "not", u]/\d'=.tuple [.str "not", u']/\TK=[("not" : Str),kO]++(T++[kC]))
  \/ (∃ w us us' Ts j,Lst w/\kY (Fr n fr) us us' Ts j/\us.length<=6/\k=j+1/\d=.tuple [.str w,.tuple us]/\d'=.tuple [.str w,.tuple us']/\TK=[w,kO]++(aP true Ts++[kC]))
  \/ (fr=true/\∃ (w:Str) (lo:Int) (hi:Option Int) (up:Bool) (s:Str) (u u':PyData) (T:List Str) (j:Nat),Wlk w/\0<=lo/\lo<=60/\yC lo hi/\Sh s/\Fr n false u u' T j/\k=j+1/\d=.tuple [.str w,.int lo,hiD hi,.str (stS up s),u]/\d'=.tuple [.str w,.int lo,hiD hi,.str (stS up s),u']/\TK=[w,kO,aj lo,kM,hiT hi,kM]++(stT up s++(kM :: (T++[kC]))))
theorem mJ {n:Nat} {fr:Bool} {d d':PyData} {TK:List Str} {k:Nat} (h:Fr n fr d d' TK k):1<=k/\1<=n:=by
 cases n with
 | zero=>exact h.elim
 | succ n =>
  refine ⟨?_,by omega⟩;rcases h with ⟨rfl,_⟩ | ⟨rfl,_⟩ | ⟨rfl,_⟩ | ⟨rfl,_⟩ | ⟨rfl,_⟩ | ⟨_,_,_,_,_,rfl,_⟩ | ⟨_,_,_,_,_,_,_,_,rfl,_⟩ | ⟨_,_,_,_,_,_,_,_,_,_,_,_,_,_,_,_,rfl,_⟩ <;> omega
theorem CD (n:Nat):(aC n).ms=[.ino,.dat,.dat]:=by cases n <;> rfl
theorem At.skip {L:List PyData}:∀ {A B:List Str} {pl:Nat},At L pl (A++B)->At L (pl+A.length) B
 | [],_,_,h=>h
 | a :: A,B,pl,h=>by
  have:=At.skip (A:=A) (B:=B) h.one.2.1;rw [L3,show pl+(A.length+1)=pl+1+A.length by omega];exact this
def xu (n:Nat):Prop:=∀ {fr:Bool} {d d':PyData} {TK R:List Str} {k pl fm dep:Nat} {L:List PyData} {Q:PR->List PyData->Prop},Fr n fr d d' TK k->At L pl (TK++R)->fm+k<=40->dep+n<=9->Q (.dat d) [rdr L (pl+TK.length) (fm+k)]->WF (aC n) [rdr L pl fm,.int (dep:Int),.bool (!fr)] Q
theorem Ed {n:Nat} (ih:xu n) {fr:Bool} {d d':PyData} {T R:List Str} {k pl fm dep:Nat} {L:List PyData} {Q:PR->List PyData->Prop} (h:Fr n fr d d' T k) (ha:At L pl ([kO]++(T++([kC]++R)))) (hk:fm+k<=40) (hd:dep+1+n<=9) (q:Q (.dat (.tuple [.str "not", d])) [rdr L (pl+1+T.length+1) (fm+k)]):WF (gw (aC n)) [rdr L pl fm,.int (dep:Int),.bool (!fr)] Q:=by
 have a1:=ha.skip;have a2:=a1.skip;refine cn rfl ?_;unfold jX;walk_at "pr";refine dg rfl rfl ha ?_;walk_at "n";walk_at "pr";refine bI (is:=[0]) (CD n) rfl rfl (ih (dep:=dep+1) h a1 hk hd ⟨rfl,?_⟩);walk_at "n";walk_at "pr";refine dg rfl rfl a2 ?_;walk_at "n";walk_at "pr";exact q
theorem BU {n:Nat} (ih:xu n) {w:Str} {lo:Int} {hi:Option Int} {up:Bool} {s:Str} {d d':PyData} {T R:List Str} {k pl fm dep:Nat} {L:List PyData} {Q:PR->List PyData->Prop} (h0:0<=lo) (h1:lo<=60) (hh:yC lo hi) (hs:Sh s) (h:Fr n false d d' T k) (ha:At L pl ([kO]++([aj lo]++([kM]++([hiT hi]++([kM]++(stT up s++([kM]++(T++([kC]++R)))))))))) (hk:fm+k<=40) (hd:dep+1+n<=9) (q:Q (.dat (.tuple [.str w,.int lo,hiD hi,.str (stS up s),d])) [rdr L (pl+1+1+1+1+1+(stT up s).length+1+T.length+1) (fm+k)]):WF (eK (aC n)) [rdr L pl fm,.str w,.int (dep:Int)] Q:=by
 have a1:=ha.skip;have a2:=a1.skip;have a3:=a2.skip;have a4:=a3.skip;have a5:=a4.skip;have a6:=a5.skip;have a7:=a6.skip;have a8:=a7.skip;refine cn rfl ?_;unfold jC;walk_at "pr";refine dg rfl rfl ha ?_;walk_at "n";walk_at "pr";refine ab (is:=[0]) rfl rfl (qP a1 h0 h1 ⟨rfl,?_⟩);walk_at "n";walk_at "pr";refine dg rfl rfl a2 ?_;walk_at "n";walk_at "pr";refine ab (is:=[0]) rfl rfl (pI a3 h0 h1 hh ⟨rfl,?_⟩);walk_at "n";walk_at "pr";refine dg rfl rfl a4 ?_;walk_at "n";walk_at "pr";refine ab (is:=[0]) rfl rfl (pW a5 hs ⟨rfl,?_⟩);walk_at "n";walk_at "pr";refine dg rfl rfl a6 ?_;walk_at "n";walk_at "pr";refine bI (is:=[0]) (CD n) rfl rfl (ih (fr:=false) (dep:=dep+1) h a7 hk hd ⟨rfl,?_⟩);walk_at "n";walk_at "pr";refine dg rfl rfl a8 ?_;walk_at "n";walk_at "pr";exact q
theorem nS {n:Nat} {fr:Bool} {d d':PyData} {TK:List Str} {k:Nat} (h:Fr n fr d d' TK k):∃ w T,TK=w :: T/\w≠kC:=by
 cases n with
 | zero=>exact h.elim
 | succ n =>
  rcases h with ⟨_,_,w,(rfl | rfl | rfl | rfl),_,rfl⟩ | ⟨_,_,w,_,(rfl | rfl),_,_,rfl⟩ | ⟨_,_,_,_,_,_,rfl⟩ | ⟨_,_,_,_,_,rfl⟩ | ⟨_,_,_,_,_,_,_,_,rfl⟩ | ⟨_,_,_,_,_,_,_,_,rfl⟩ | ⟨w,_,_,_,_,(rfl | rfl | rfl | rfl),_,_,_,_,_,rfl⟩ | ⟨_,w,_,_,_,_,_,_,_,_,(rfl | rfl),_,_,_,_,_,_,_,_,rfl⟩ <;> exact ⟨_,_,rfl,by decide +kernel⟩
theorem CI {n:Nat} (ih:xu n) {fr:Bool} {w:Str} {us us':List PyData} {Ts:List (List Str)} {R:List Str} {k pl fm dep:Nat} {L:List PyData} {Q:PR->List PyData->Prop} (h:kY (Fr n fr) us us' Ts k) (hu:us.length<=6) (ha:At L pl ([kO]++(aP true Ts++([kC]++R)))) (hk:fm+k<=40) (hd:dep+1+n<=9) (q:Q (.dat (.tuple [.str w,.tuple us])) [rdr L (pl+1+(aP true Ts).length+1) (fm+k)]):WF (fw (aC n)) [rdr L pl fm,.str w,.int (dep:Int),.bool (!fr)] Q:=by
 have a1:=ha.skip;have a2:=a1.skip;refine cn rfl ?_;unfold jl;walk_at "pr";refine dg rfl rfl ha ?_;walk_at "n";with_reducible refine cc fun N eN=>?_
 have rest:N ([.ino (rdr L (pl+1+(aP true Ts).length) (fm+k)),.dat (.str w),.dat (.int (dep:Int)),.dat (.bool (!fr)),.own (.list us)]:En):=by
  rw [eN];walk_at "pr";refine dg rfl rfl a2 ?_;walk_at "n";walk_at "pr";exact q
 refine GK (fun m e=>∃ (us1 us2 us2':List PyData) (Ts2:List (List Str)) (k2 b fb:Nat),us=us1++us2/\us2.length=m/\kY (Fr n fr) us2 us2' Ts2 k2/\At L b (aP us1.isEmpty Ts2++([kC]++R))/\b+(aP us1.isEmpty Ts2).length=pl+1+(aP true Ts).length/\fb+k2=fm+k/\e=([.ino (rdr L b fb),.dat (.str w),.dat (.int (dep:Int)),.dat (.bool (!fr)),.own (.list us1)]:En)) us.length (by omega) ⟨[],us,us',Ts,k,pl+1,fm,rfl,rfl,h,a1,rfl,rfl,rfl⟩ ?_;rintro m e hm ⟨us1,us2,us2',Ts2,k2,b,fb,rfl,rfl,hA2,hr2,hb,hf,rfl⟩;rw [LY] at hu
 match us2,us2',Ts2,hA2 with
 | [],[],[],hA2 =>
  have hr2:At L b (kC :: R):=hr2;have hb:b=pl+1+(aP true Ts).length:=hb;obtain rfl:k2=0:=hA2;walk_at "pr";refine aN rfl rfl hr2 ?_;walk_at "pr";rw [MS,<-hb,<-hf] at rest;exact rest
 | u :: us',v :: vs',T :: Ts',hA2 =>
  obtain ⟨j,m2,hu2,hA3,rfl⟩:=hA2;obtain ⟨w0,T0,eT,hw0⟩:=nS hu2;have jp:=(mJ hu2).1;rw [L3] at hu;have hsh:∃ t TK,aP us1.isEmpty (T :: Ts')++([kC]++R)=t :: TK/\t≠kC:=by
   cases us1 with
   | nil=>exact ⟨w0,_,by show ([]++(T++aP false Ts'))++_=_;rw [eT];rfl,hw0⟩
   | cons _ _=>exact ⟨kM,_,rfl,by decide +kernel⟩
  obtain ⟨t,TK,et,ht⟩:=hsh;have hr3:=hr2;rw [et] at hr3;walk_at "pr";refine aN rfl rfl hr3 ?_;walk_at "pr";refine dN (congrArg not (pA (Mb ht))) ?_;walk_at "prz";with_reducible refine cc fun N2 eN2=>?_
  have go:∀ (b':Nat),At L b' (T++(aP false Ts'++([kC]++R)))->b'+T.length+(aP false Ts').length=pl+1+(aP true Ts).length->N2 ([.ino (rdr L b' fb),.dat (.str w),.dat (.int (dep:Int)),.dat (.bool (!fr)),.own (.list us1)]:En):=by
   intro b' hr4 hb4;rw [eN2];walk_at "pr";refine bI (is:=[0]) (CD n) rfl rfl (ih (dep:=dep+1) hu2 hr4 (by omega) hd ⟨rfl,?_⟩);walk_at "n";walk_at "pr";refine jK rfl (by show _ < 2 ^ 24;omega) rfl ?_;walk_at "pr";refine ⟨us'.length,M8 _,us1++[u],us',vs',Ts',m2,b'+T.length,fb+j,by simp,rfl,hA3,?_,?_,by omega,rfl⟩
   ·rw [show (us1++[u]).isEmpty=false by cases us1 <;> rfl];exact hr4.skip
   ·rw [show (us1++[u]).isEmpty=false by cases us1 <;> rfl];exact hb4
  cases us1 with
  | nil =>
   walk_at "pr";refine ⟨rfl,?_⟩;walk_at "pr";refine go b ?_ ?_
   ·have:At L b (([]++(T++aP false Ts'))++([kC]++R)):=hr2
    rwa [Nb,MM] at this
   ·have:b+([]++(T++aP false Ts')).length=_:=hb;rw [Nb,LY] at this;omega
  | cons v0 vs0 =>
   have hr2:At L b (([kM]++(T++aP false Ts'))++([kC]++R)):=hr2;rw [MM,MM] at hr2;have hb:b+([kM]++(T++aP false Ts')).length=_:=hb;rw [LY,LY,Mz] at hb;rw [L3] at hu;walk_at "pr";refine ⟨rfl,?_⟩;walk_at "pr";refine dN (L7 (by rw [L3];omega)) ?_;walk_at "pr";have e40:decide ((fb:Int) < 40)=true:=L7 (by omega);show nK _ [_,(PR.dat (.bool (decide ((fb:Int) < 40)))).rv.av] _ _;rw [e40];refine ab (is:=[0]) rfl rfl (g5 hr2 ⟨rfl,?_⟩);walk_at "pr";exact go (b+1) hr2.skip (by omega)
theorem sQ (bs:List Str):∀ (f:Bool),(aP f (bs.map fun b=>[b])).length<=2*bs.length:=by
 induction bs with
 | nil=>intro f;exact Mg _
 | cons b bs ih =>
  intro f;have:=ih false;show ((if f then [] else [kM])++([b]++aP false (bs.map fun b=>[b]))).length<=_;rw [LY,LY,Mz,L3];have:(if f then [] else [kM]).length<=1:=by split <;> simp
  omega
theorem Jz {b:Str} (h:Sh b):b≠kC:=fun z=>by
 have:=h.1 41 (by rw [z];decide +kernel);omega
theorem Eh {e:En} {x y:AV} {z:Str} (ss:List Str) {Q:RV->En->Prop} (h1:aK e [x,y]=some [.str z,.list (ss.map .str)]) (h2:z ∉ ss) (q:Q (.dat (.bool true)) e):WPr oM [x,y] e Q:=by
 refine ⟨_,.dat (.bool true),h1,?_,q⟩;show (if wJ (.str z)=true/\gZ (ss.map .str)=true then some (PR.dat (.bool (ngB true (wo (ss.map .str) (.str z))))) else none)=_;rw [Me ⟨by simp [wJ,noD,PyData.depth],nC ss⟩,oh];have:(ss.any fun s=>decide (s=z))=false:=by
  rw [List.any_eq_false];intro s hs;rw [Bool.not_eq_true];exact Mb fun e=>h2 (by rw [<- e];exact hs)
 rw [this];rfl
theorem yW {a b:List Str} (h:a.Perm b) (hb:r9 b=b):r9 a=b:=by
 rw [<- hb];exact List.Perm.eq_of_pairwise (fun _ _ _ _ p q=>nj p q) (iE _) (iE _) ((cj _).trans (h.trans (cj _).symm))
theorem vH {bs bs':List Str} {R:List Str} {pl fm:Nat} {L:List PyData} {Q:PR->List PyData->Prop} (h:Bnd bs) (hp:bs'.Perm bs) (ha:At L pl ([kO]++(aP true (bs'.map fun b=>[b])++([kC]++R)))) (q:Q (.dat (.tuple [.str "closed", .tuple (bs.map .str)])) [rdr L (pl+1+(aP true (bs'.map fun b=>[b])).length+1) fm]):WF cW [rdr L pl fm] Q:=by
 have a1:=ha.skip;have a2:=a1.skip;have hl:bs'.length<=6:=by rw [hp.length_eq];exact h.2.2.1
 have hn:bs'.Nodup:=hp.nodup_iff.mpr h.2.1;have hs:∀ b∈bs',Sh b:=fun b hb=>h.1 b (hp.mem_iff.mp hb);refine cn rfl ?_;unfold fS;walk_at "pr";refine dg rfl rfl ha ?_;walk_at "n";with_reducible refine cc fun N eN=>?_
 have rest:∀ x:Sl,soft x->N ([.ino (rdr L (pl+1+(aP true (bs'.map fun b=>[b])).length) fm),.own (.list (bs'.map .str)),x]:En):=by
  intro x hx;rw [eN];walk_at "pr";refine dg rfl rfl a2 ?_;walk_at "n";walk_at "pr";refine z5 rfl (by omega) ?_;rw [yW hp h.2.2.2];walk_at "pr";exact q
 refine GK (fun m e=>∃ (b1 b2:List Str) (b:Nat) (x:Sl),bs'=b1++b2/\b2.length=m/\At L b (aP b1.isEmpty (b2.map fun b=>[b])++([kC]++R))/\b+(aP b1.isEmpty (b2.map fun b=>[b])).length=pl+1+(aP true (bs'.map fun b=>[b])).length/\soft x/\e=([.ino (rdr L b fm),.own (.list (b1.map .str)),x]:En)) bs'.length (by omega) ⟨[],bs',pl+1,.un,rfl,rfl,a1,rfl,rN,rfl⟩ ?_;rintro m e hm ⟨b1,b2,b,x,eb,rfl,hr2,hb,hx,rfl⟩;have hl2:=congrArg List.length eb;rw [LY] at hl2
 match b2,eb,hr2,hb,hl2 with
 | [],eb,hr2,hb,hl2 =>
  have hr2:At L b (kC :: R):=hr2;have hb:b=pl+1+(aP true (bs'.map fun b=>[b])).length:=hb;walk_at "pr";refine aN rfl rfl hr2 ?_;walk_at "pr";rw [eb,MS] at rest hb;rw [<- hb] at rest;exact rest x hx
 | c :: cs',eb,hr2,hb,hl2 =>
  rw [L3] at hl2;have hc:Sh c:=hs c (by rw [eb];simp);have hc1:c ∉ b1:=fun z=>by
   rw [eb] at hn;exact (List.nodup_append.mp hn).2.2 c z c Mj rfl
  have hsh:∃ t TK,aP b1.isEmpty ((c :: cs').map fun b=>[b])++([kC]++R)=t :: TK/\t≠kC:=by
   cases b1 with
   | nil=>exact ⟨c,_,rfl,Jz hc⟩
   | cons _ _=>exact ⟨kM,_,rfl,by decide +kernel⟩
  obtain ⟨t,TK,et,ht⟩:=hsh;have hr3:=hr2;rw [et] at hr3;walk_at "pr";refine aN rfl rfl hr3 ?_;walk_at "pr";refine dN (congrArg not (pA (Mb ht))) ?_;walk_at "prz";with_reducible refine cc fun N2 eN2=>?_
  have go:∀ (b':Nat),At L b' (c :: (aP false (cs'.map fun b=>[b])++([kC]++R)))->b'+1+(aP false (cs'.map fun b=>[b])).length=pl+1+(aP true (bs'.map fun b=>[b])).length->N2 ([.ino (rdr L b' fm),.own (.list (b1.map .str)),x]:En):=by
   intro b' hr4 hb4;rw [eN2];walk_at "pr";refine aN rfl rfl hr4 ?_;walk_at "n";walk_at "pr";refine ab (is:=[]) rfl rfl (iG ⟨rfl,?_⟩);rw [(BN hc).1];walk_at "pr";refine Eh b1 rfl hc1 ?_;walk_at "pr";refine bB rfl rfl rfl hr4 ?_;walk_at "pr";refine jK rfl (by rw [LZ];show _ < 2 ^ 24;omega) rfl ?_;walk_at "pr";refine ⟨cs'.length,M8 _,b1++[c],cs',b'+1,.dat (.str c),by rw [eb];simp,rfl,?_,?_,gm,by rw [Mw];rfl⟩
   ·rw [show (b1++[c]).isEmpty=false by cases b1 <;> rfl];exact hr4.one.2.1
   ·rw [show (b1++[c]).isEmpty=false by cases b1 <;> rfl];exact hb4
  cases b1 with
  | nil =>
   walk_at "pr";refine ⟨rfl,?_⟩;walk_at "pr";refine go b hr2 ?_;have:b+(c :: aP false (cs'.map fun b=>[b])).length=_:=hb;rw [L3] at this;omega
  | cons v0 vs0 =>
   have hr2:At L b (kM :: c :: (aP false (cs'.map fun b=>[b])++([kC]++R))):=hr2;have hb:b+(kM :: c :: aP false (cs'.map fun b=>[b])).length=_:=hb;rw [L3,L3] at hb;rw [L3] at hl2;walk_at "pr";refine ⟨rfl,?_⟩;walk_at "pr";have e8:decide ((((v0 :: vs0).map PyData.str).length:Int) < 8)=true:=L7 (by rw [LZ,L3];omega);show nK _ [_,(PR.dat (.bool (decide ((((v0 :: vs0).map PyData.str).length:Int) < 8)))).rv.av] _ _;rw [e8];refine ab (is:=[0]) rfl rfl (g5 hr2 ⟨rfl,?_⟩);walk_at "pr";exact go (b+1) hr2.one.2.1 (by omega)
theorem jj:∀ n,xu n
 | 0=>fun h=>False.elim h
 | n+1=>by
  rename_i fr d d' TK R k pl fm dep L Q;intro h ha hk hd q;have ih:xu n:=jj n;have kp:=(mJ h).1;refine cn rfl ?_;unfold jm;rcases h with ⟨rfl,rfl,w,hw,rfl,rfl⟩ | ⟨rfl,rfl,w,i,hw,hi,rfl,rfl⟩ | ⟨rfl,rfl,x,T,hx,rfl,rfl⟩ | ⟨rfl,rfl,s,hs,rfl,rfl⟩ | ⟨rfl,rfl,bs,bs',hb,hp,rfl,rfl,rfl⟩ | ⟨u,u',T,j,hu,rfl,rfl,rfl,rfl⟩ | ⟨w,us,us',Ts,j,hw,hA,hl,rfl,rfl,rfl,rfl⟩ | ⟨rfl,w,lo,hi,up,s,u,u',T,j,hw,h0,h1,hh,hs,hu,rfl,rfl,rfl,rfl⟩
  ·have ha:At L pl (w :: R):=ha;walk_at "pr";refine aN rfl rfl ha ?_;walk_at "n";walk_at "pr";refine ab (is:=[]) rfl rfl (E3 (.inl hw) hk (by omega) ⟨rfl,?_⟩);walk_at "n";walk_at "pr";refine bB rfl rfl rfl ha ?_;walk_at "n";walk_at "pr";refine gR rfl rfl ⟨by decide +kernel,by decide +kernel,Mv rfl⟩ rfl ?_;rcases hw with rfl | rfl | rfl | rfl
   all_goals
    walk_at "pp";exact q
  ·have ha:At L pl (w :: aj i :: R):=ha;walk_at "pr";refine aN rfl rfl ha ?_;walk_at "n";walk_at "pr";refine ab (is:=[]) rfl rfl (E3 (.inr (.inr (hw.elim .inl fun z=>.inr (.inl z)))) hk (by omega) ⟨rfl,?_⟩);walk_at "n";walk_at "pr";refine bB rfl rfl rfl ha ?_;walk_at "n";walk_at "pr";refine gR rfl rfl ⟨by decide +kernel,by decide +kernel,Mv rfl⟩ rfl ?_;rcases hw with rfl | rfl
   all_goals
    walk_at "pp";refine ab (is:=[0]) rfl rfl (lU ha.one.2.1 hi ⟨rfl,?_⟩);walk_at "pp";exact q
  ·have ha:At L pl (("is" : Str) :: T :: R):=ha;walk_at "pr";refine aN rfl rfl ha ?_;walk_at "n";walk_at "pr";refine ab (is:=[]) rfl rfl (E3 (.inr (.inr (.inr (.inr (.inl rfl))))) hk (by omega) ⟨rfl,?_⟩);walk_at "n";walk_at "pr";refine bB rfl rfl rfl ha ?_;walk_at "n";walk_at "pr";refine gR rfl rfl ⟨by decide +kernel,by decide +kernel,Mv rfl⟩ rfl ?_;walk_at "pp";refine ab (is:=[0]) rfl rfl (m8 ha.one.2.1 hx ⟨rfl,?_⟩);walk_at "pp";exact q
  ·have ha:At L pl (("keeps" : Str) :: s :: R):=ha;walk_at "pr";refine aN rfl rfl ha ?_;walk_at "n";walk_at "pr";refine ab (is:=[]) rfl rfl (E3 (.inr (.inr (.inr (.inr (.inr rfl))))) hk (by omega) ⟨rfl,?_⟩);walk_at "n";walk_at "pr";refine bB rfl rfl rfl ha ?_;walk_at "n";walk_at "pr";refine gR rfl rfl ⟨by decide +kernel,by decide +kernel,Mv rfl⟩ rfl ?_;walk_at "pp";refine ab (is:=[0]) rfl rfl (fq ha.one.2.1 hs ⟨rfl,?_⟩);walk_at "pp";exact q
  ·have ha:At L pl (("closed" : Str) :: ([kO]++(aP true (bs'.map fun b=>[b])++([kC]++R)))):=by simpa using ha
   walk_at "pr";refine aN rfl rfl ha ?_;walk_at "n";walk_at "pr";refine ab (is:=[]) rfl rfl (LO (.inl rfl) hk (by omega) ⟨rfl,?_⟩);walk_at "n";walk_at "pr";refine bB rfl rfl rfl ha ?_;walk_at "n";walk_at "pr";refine gR rfl rfl ⟨by decide +kernel,by decide +kernel,Mv rfl⟩ rfl ?_;have el:pl+([("closed" : Str),kO]++(aP true (bs'.map fun b=>[b])++[kC])).length=pl+1+1+(aP true (bs'.map fun b=>[b])).length+1:=by
    simp only [LY,L3,Mo];omega
   rw [el] at q;walk_at "pp";refine ab (is:=[0]) rfl rfl (vH hb hp ha.one.2.1 ⟨rfl,?_⟩);walk_at "pp";exact q
  ·have ha:At L pl (("not" : Str) :: ([kO]++(T++([kC]++R)))):=by simpa using ha
   walk_at "pr";refine aN rfl rfl ha ?_;walk_at "n";walk_at "pr";refine ab (is:=[]) rfl rfl (LF (.inl rfl) (by have:=mJ hu;omega) (by have:=mJ hu;omega) ⟨rfl,?_⟩);walk_at "n";walk_at "pr";refine bB rfl rfl rfl ha ?_;walk_at "n";walk_at "pr";refine gR rfl rfl ⟨by decide +kernel,by decide +kernel,Mv rfl⟩ rfl ?_;have el:pl+([("not" : Str),kO]++(T++[kC])).length=pl+1+1+T.length+1:=by
    simp only [LY,L3,Mo];omega
   rw [el,show fm+(j+1)=fm+1+j by omega] at q;walk_at "pp";refine ab (is:=[0]) rfl rfl (Ed (fm:=fm+1) ih hu ha.one.2.1 (by omega) (by omega) ⟨rfl,?_⟩);walk_at "pp";exact q
  ·have ha:At L pl (w :: ([kO]++(aP true Ts++([kC]++R)))):=by simpa using ha
   walk_at "pr";refine aN rfl rfl ha ?_;walk_at "n";walk_at "pr";refine ab (is:=[]) rfl rfl (E3 (.inr (.inl hw)) (by omega) (by omega) ⟨rfl,?_⟩);walk_at "n";walk_at "pr";refine bB rfl rfl rfl ha ?_;walk_at "n";walk_at "pr";refine gR rfl rfl ⟨by decide +kernel,by decide +kernel,Mv rfl⟩ rfl ?_;have el:pl+([w,kO]++(aP true Ts++[kC])).length=pl+1+1+(aP true Ts).length+1:=by
    simp only [LY,L3,Mo];omega
   rw [el,show fm+(j+1)=fm+1+j by omega] at q;rcases hw with rfl | rfl | rfl | rfl
   all_goals
    walk_at "pp";refine ab (is:=[0]) rfl rfl (CI (fm:=fm+1) ih hA hl ha.one.2.1 (by omega) (by omega) ⟨rfl,?_⟩);walk_at "pp";exact q
  ·have ha:At L pl (w :: ([kO]++([aj lo]++([kM]++([hiT hi]++([kM]++(stT up s++([kM]++(T++([kC]++R)))))))))):=by simpa using ha
   walk_at "pr";refine aN rfl rfl ha ?_;walk_at "n";walk_at "pr";refine ab (is:=[]) rfl rfl (Ld hw (by have:=mJ hu;omega) (by have:=mJ hu;omega) ⟨rfl,?_⟩);walk_at "n";walk_at "pr";refine bB rfl rfl rfl ha ?_;walk_at "n";walk_at "pr";refine gR rfl rfl ⟨by decide +kernel,by decide +kernel,Mv rfl⟩ rfl ?_;have el:pl+([w,kO,aj lo,kM,hiT hi,kM]++(stT up s++(kM :: (T++[kC])))).length=pl+1+1+1+1+1+1+(stT up s).length+1+T.length+1:=by
    simp only [LY,L3,Mo];omega
   rw [el,show fm+(j+1)=fm+1+j by omega] at q;rcases hw with rfl | rfl
   all_goals
    walk_at "pp";refine ab (is:=[0]) rfl rfl (BU (fm:=fm+1) ih h0 h1 hh hs hu ha.one.2.1 (by omega) (by omega) ⟨rfl,?_⟩);walk_at "pp";exact q
noncomputable def tkS (ts:List (List Nat)):List Str:=(ts.filter fun t=>decide (t≠[32])).map fun t=>⟨t.toArray⟩
theorem xM:∀ (ts:List (List Nat)) (a:Nat),TkL (toks a ts) (tkS ts)
 | [],_=>trivial
 | t :: ts,a=>by
  have ih:=xM ts (a+t.length);show TkL ((if t=[32] then [] else [PyData.tuple [.str ⟨t.toArray⟩,.int (a:Int)]])++toks (a+t.length) ts) ((List.filter (fun t=>decide (t≠[32])) (t :: ts)).map fun t=>⟨t.toArray⟩);by_cases h:t=[32]
  ·rw [Me h,List.filter_cons_of_neg (by simp [h]),Nb];exact ih
  ·rw [Mn h,List.filter_cons_of_pos (by simp [h])];exact ⟨⟨_,rfl⟩,ih⟩
theorem w6:∀ {A B:List PyData} {S T:List Str},TkL A S->TkL B T->TkL (A++B) (S++T)
 | [],_,[],_,_,h=>h
 | a :: A,B,s :: S,T,h,g=>⟨h.1,w6 h.2 g⟩
theorem Bj {Z:Str} {ts:List (List Nat)} {Q:PR->List PyData->Prop} (hz:Z.length<=99000) (h:Pcs ts) (hZ:Z.cps.toList=ts.flatten) (q:∀ L,At L 0 (tkS ts++[Str.ofString ""])->Q (.dat .none) [rdr L 0 0]):WF lq [.dict [],.str Z] Q:=by
 have hA:At (toks 0 ts++[.tuple [.str "", .int (Z.length:Int)]]) 0 (tkS ts++[Str.ofString ""]):=by
  refine ⟨MV _,?_,w6 (xM ts 0) ⟨⟨_,rfl⟩,trivial⟩⟩;have:=jS ts 0;have:=qW h;have e:Z.length=ts.flatten.length:=by rw [<- aq,hZ]
  rw [LY,Mz];omega
 have q:=q _ hA;refine cn rfl ?_;unfold oY;walk_at "pr";refine ab (is:=[]) rfl rfl (qh hz h hZ ⟨rfl,?_⟩);walk_at "pr";refine gR rfl rfl ⟨by decide +kernel,by decide +kernel,Mv rfl⟩ rfl ?_;walk_at "pr";refine gR rfl rfl ⟨by decide +kernel,by decide +kernel,Mv rfl⟩ rfl ?_;walk_at "pr";refine gR rfl rfl ⟨by decide +kernel,by decide +kernel,Mv rfl⟩ rfl ?_;walk_at "pr";exact q
theorem Ku {gd:List PyData} {as:XA} {env:En} {QI:List PyData->Option Nat->En->Prop} (h:WA gd as env fun avs e=>∃ xs ys,avs=[.dat (.tuple xs),.dat (.tuple ys)]/\xs.length=ys.length/\QI ((xs.zip ys).map fun p=>.tuple [p.1,p.2]) none e):WI gd (.zip as) env QI:=by
 obtain ⟨avs,e',h1,xs,ys,rfl,h3,h2⟩:=h;exact ⟨_,_,_,by simp only [dI,h1,h3,Nz],h2⟩
def Alk:Nat->PyData->Prop
 | 0,_=>False
 | n+1,.tuple ds=>∀ x∈ds,Alk n x
 | _+1,.str _=>True
 | _+1,.int _=>True
 | _+1,.none=>True
 | _+1,_=>False
theorem Ha (n:Nat):(dO n).ms=[.dat,.dat]:=by cases n <;> rfl
theorem Bh (n:Nat):wo (List.replicate n (.bool true)) (.bool false)=false:=by
 unfold wo;rw [List.any_eq_false];intro x hx;rw [List.eq_of_mem_replicate hx];decide
theorem Cj (n:Nat):gZ (List.replicate n (.bool true))=true:=mZ.mpr fun d hd=>by rw [List.eq_of_mem_replicate hd];rfl
theorem DU {e:En} {x y:AV} {n:Nat} {Q:RV->En->Prop} (h1:aK e [x,y]=some [.bool false,.list (List.replicate n (.bool true))]) (q:Q (.dat (.bool true)) e):WPr oM [x,y] e Q:=by
 refine ⟨_,.dat (.bool true),h1,?_,q⟩;show (if wJ (.bool false)=true/\gZ (List.replicate n (.bool true))=true then some (PR.dat (.bool (ngB true (wo (List.replicate n (.bool true)) (.bool false))))) else none)=_;rw [Me ⟨by simp [wJ,noD,PyData.depth],Cj n⟩,Bh];rfl
theorem sP:∀ (n:Nat) {d:PyData} {Q:PR->List PyData->Prop},Alk n d->Q (.dat (.bool true)) []->WF (dO n) [d,d] Q
 | 0,_,_,h,_=>False.elim h
 | n+1,d,Q,h,q=>by
  refine cn rfl ?_;unfold sX;cases d with
  | tuple ds =>
   have e0:(!PyData.eqv (.int (ds.length:Int)) (.int (ds.length:Int)))=false:=by simp [PyData.eqv]
   walk_at "pp";refine fF e0 ?_;walk_at "pp";refine Ku ?_;walk_at "pp";refine ⟨_,_,rfl,rfl,?_⟩;refine dY (fun i ys ec=>ys=List.replicate i (.bool true)/\ec=[]) ⟨rfl,rfl⟩ ?_ ?_
   ·rintro i d ys ec hd ⟨rfl,rfl⟩;rw [Mm] at hd;obtain ⟨⟨x,y⟩,hp,rfl⟩:=Mt.mp hd;obtain ⟨h1,h2⟩:=List.getElem?_zip_eq_some.mp hp;obtain rfl:x=y:=MF (h1.symm.trans h2);refine AQ rfl ?_;walk_at "pp";refine bI (is:=[]) (Ha n) rfl rfl (sP n (h x (My h1)) ⟨rfl,?_⟩);walk_at "pp";exact ⟨by rw [List.replicate_succ'];rfl,rfl⟩
   ·rintro ys ec ⟨rfl,rfl⟩;walk_at "pm";refine DU rfl ?_;walk_at "pp";exact q
  | str x =>
   walk_at "pp";show Q (.dat (.bool (PyData.eqv (.str x) (.str x)))) [];rw [jQ];exact q
  | int i =>
   walk_at "pp";show Q (.dat (.bool (PyData.eqv (.int i) (.int i)))) [];rw [show PyData.eqv (.int i) (.int i)=true by simp [PyData.eqv]];exact q
  | none =>
   walk_at "pp";exact q
  | _=>exact False.elim h
theorem gG:∀ {n m:Nat} {d:PyData},Alk n d->n<=m->Alk m d
 | 0,_,_,h,_=>h.elim
 | n+1,m,d,h,hm=>by
  obtain ⟨m,rfl⟩:∃ k,m=k+1:=⟨m - 1,by omega⟩;cases d with
  | tuple ds=>exact fun x hx=>gG (h x hx) (by omega)
  | str x=>trivial
  | int x=>trivial
  | none=>trivial
  | _=>exact h.elim
theorem zG {d:PyData} {T:Str} (h:lM d T):Alk 2 d:=by
 rcases h with ⟨x,rfl,_⟩ | ⟨i,rfl,_⟩ | ⟨x,rfl,_⟩
 ·trivial
 ·trivial
 ·intro y hy;rw [L9.mp hy];trivial
theorem yG {m:Nat} (bs:List Str):Alk (m+2) (.tuple (bs.map .str)):=fun x hx=>by
 obtain ⟨b,_,rfl⟩:=MK.mp hx;trivial
theorem CZ {m:Nat} {a b:PyData} (ha:Alk m a) (hb:Alk m b):Alk (m+1) (.tuple [a,b]):=fun x hx=>by
 simp only [Mc,ML,M7] at hx;rcases hx with rfl | rfl
 ·exact ha
 ·exact hb
theorem wj {P:PyData->PyData->List Str->Nat->Prop} {m:Nat} (hP:∀ u v T j,P u v T j->Alk m u):∀ {us vs:List PyData} {Ts:List (List Str)} {k:Nat},kY P us vs Ts k->∀ u∈us,Alk m u
 | [],[],[],_,_=>fun S h=>by cases h
 | u :: us,v :: vs,T :: Ts,k,⟨j,_,hu,hA,_⟩=>fun w hw=>by
  rcases Mc.mp hw with rfl | hw
  ·exact hP _ _ _ _ hu
  ·exact wj hP hA w hw
theorem C7 {m:Nat} (hi:Option Int):Alk (m+1) (hiD hi):=by cases hi <;> trivial
theorem Al:∀ (n:Nat) (fr:Bool) (d d':PyData) (TK:List Str) (k:Nat),Fr n fr d d' TK k->Alk (2*n+1) d
 | 0,_,_,_,_,_,h=>h.elim
 | n+1,fr,d,d',TK,k,h=>by
  have ih:=Al n;show Alk ((2*n+2)+1) d;rcases h with ⟨rfl,rfl,w,hw,rfl,rfl⟩ | ⟨rfl,rfl,w,i,hw,hi,rfl,rfl⟩ | ⟨rfl,rfl,x,T,hx,rfl,rfl⟩ | ⟨rfl,rfl,s,hs,rfl,rfl⟩ | ⟨rfl,rfl,bs,bs',hb,hp,rfl,rfl,rfl⟩ | ⟨u,u',T,j,hu,rfl,rfl,rfl,rfl⟩ | ⟨w,us,us',Ts,j,hw,hA,hl,rfl,rfl,rfl,rfl⟩ | ⟨rfl,w,lo,hi,up,s,u,u',T,j,hw,h0,h1,hh,hs,hu,rfl,rfl,rfl,rfl⟩
  ·intro y hy;rw [L9.mp hy];trivial
  ·exact CZ trivial trivial
  ·exact CZ trivial (gG (zG hx) (by omega))
  ·exact CZ trivial trivial
  ·exact CZ trivial (yG bs)
  ·exact CZ trivial (gG (ih _ _ _ _ _ hu) (by omega))
  ·exact CZ trivial (show Alk ((2*n+1)+1) (.tuple us) from wj (fun u v T j h=>ih _ _ _ _ _ h) hA)
  ·intro y hy;simp only [Mc,ML,M7] at hy;rcases hy with rfl | rfl | rfl | rfl | rfl
   ·trivial
   ·trivial
   ·exact C7 hi
   ·trivial
   ·exact gG (ih _ _ _ _ _ hu) (by omega)
def Tk (t:List Nat):Prop:=t.length<=61/\∃ c r,t=c :: r/\((chB c=true/\∀ x∈r,chB x=true)\/(c=39/\∀ x∈r,chB x=true)\/((c=45\/cP c=true)/\(∀ x∈r,cP x=true)/\(c=45->r≠[]))\/(chB c=false/\c≠39/\c≠45/\cP c=false/\c≠32/\r=[]))
noncomputable def lV (l f:Nat):Bool:=((chB l||decide (l=39))&&chB f)||((cP l||decide (l=45))&&cP f)
theorem sd {c:Nat} {r:List Nat} {p:Nat->Bool} (hc:p c=true) (hr:∀ x∈r,p x=true):p ((c :: r).getLast (by simp))=true:=by
 rcases Mc.mp (List.getLast_mem (l:=c :: r) (by simp)) with h | h
 ·rw [h];exact hc
 ·exact hr _ h
theorem tD {t L:List Nat} (h:Tk t) (hn:∀ f R,L=f :: R->lV (t.getLast?.getD 0) f=false):AG t L:=by
 obtain ⟨_,c,r,rfl,h⟩:=h;have el:(c :: r).getLast?.getD 0=(c :: r).getLast (by simp):=by rw [List.getLast?_eq_some_getLast (by simp)];rfl
 rw [el] at hn;refine ⟨c,r,rfl,?_⟩;rcases h with ⟨h1,h2⟩ | ⟨h1,h2⟩ | ⟨h1,h2,h3⟩ | h
 ·refine .inl ⟨h1,h2,fun f R e=>?_⟩;have l:=sd (p:=chB) h1 h2;have g:=hn f R e;unfold lV at g;rw [l] at g;cases z:chB f with
  | false=>rfl
  | true=>rw [z] at g;simp at g
 ·refine .inr (.inl ⟨h1,h2,fun f R e=>?_⟩);have l:=sd (p:=fun x=>chB x||decide (x=39)) (c:=c) (r:=r) (by rw [h1];rfl) (fun x hx=>by rw [h2 x hx];rfl);have g:=hn f R e;unfold lV at g;have l:(chB ((c :: r).getLast (by simp))||decide ((c :: r).getLast (by simp)=39))=true:=l;rw [l] at g;cases z:chB f with
  | false=>rfl
  | true=>rw [z] at g;simp at g
 ·refine .inr (.inr (.inl ⟨h1,h2,fun f R e=>?_⟩));have l:=sd (p:=fun x=>cP x||decide (x=45)) (c:=c) (r:=r) (by rcases h1 with h | h <;> rw [h] <;> rfl) (fun x hx=>by rw [h2 x hx];rfl);have g:=hn f R e;unfold lV at g;have l:(cP ((c :: r).getLast (by simp))||decide ((c :: r).getLast (by simp)=45))=true:=l;rw [l] at g;cases z:cP f with
  | false=>rfl
  | true=>rw [z] at g;simp at g
 ·exact .inr (.inr (.inr ⟨h.1,h.2.1,h.2.2.1,h.2.2.2.1,h.2.2.2.2.2⟩))
theorem Ag {L:List Nat}:AG [32] L:=⟨32,[],rfl,.inr (.inr (.inr ⟨by decide,by decide,by decide,by decide,rfl⟩))⟩
theorem lR {s:Str} (h:Sh s):Tk s.cps.toList:=by
 refine ⟨by rw [aq];have:=h.2.2;omega,?_⟩;cases e:s.cps.toList with
 | nil=>have:=aq s;rw [e,Mo] at this;have:=h.2.1;omega
 | cons c r =>
  have hl:∀ x∈s.cps.toList,chB x=true:=fun x hx=>by
   have:=h.1 x hx;unfold chB;rw [L7 this.1,L7 this.2];rfl
  rw [e] at hl;exact ⟨c,r,rfl,.inl ⟨hl c Mj,fun x hx=>hl x (L8 _ hx)⟩⟩
theorem k7 {i:Int} (hi:i.natAbs < 10 ^ 30):Tk (aj i).cps.toList:=by
 refine ⟨by rw [aq];exact fO hi,?_⟩;obtain ⟨c,r,ec,c0,c1⟩:=iD i.natAbs;have hd:∀ x∈codes i.natAbs,cP x=true:=fun x hx=>by
  have:=jU _ x hx;unfold cP;rw [L7 this.1,L7 this.2];rfl
 rw [qM];rw [ec] at hd ⊢;split
 ·exact ⟨45,c :: r,rfl,.inr (.inr (.inl ⟨.inl rfl,hd,fun _=>by simp⟩))⟩
 ·exact ⟨c,r,rfl,.inr (.inr (.inl ⟨.inr (hd c Mj),fun x hx=>hd x (L8 _ hx),fun e=>by omega⟩))⟩
theorem vA {d:PyData} {T:Str} (h:lM d T):Tk T.cps.toList:=by
 have hl:=mW h;rcases h with ⟨x,rfl,h,rfl⟩ | ⟨i,rfl,h,rfl⟩ | ⟨x,rfl,h,rfl⟩
 ·exact lR h
 ·exact k7 h
 ·have e:(("'" : Str)++x).cps.toList=39 :: x.cps.toList:=by rw [bo];rfl
  refine ⟨by rw [aq];exact hl,?_⟩;rw [e];refine ⟨39,_,rfl,.inr (.inl ⟨rfl,fun c hc=>?_⟩)⟩;have:=h.1 c hc;unfold chB;rw [L7 this.1,L7 this.2];rfl
theorem u5 {s:Str} (h:s=kO\/s=kC\/s=kM\/s=("*" : Str)\/s=("^" : Str)):Tk s.cps.toList:=by
 rcases h with rfl | rfl | rfl | rfl | rfl <;> exact ⟨by decide,_,_,rfl,.inr (.inr (.inr ⟨by decide,by decide,by decide,by decide,by decide,rfl⟩))⟩
def TkA (TK:List Str):Prop:=∀ t∈TK,Tk t.cps.toList
theorem cK {A B:List Str} (a:TkA A) (b:TkA B):TkA (A++B):=fun t h=>(Nn.mp h).elim (a t) (b t)
theorem ar {t:Str} {A:List Str} (h:Tk t.cps.toList) (a:TkA A):TkA (t :: A):=fun x hx=>by
 rcases Mc.mp hx with rfl | hx
 ·exact h
 ·exact a x hx
theorem bj:TkA []:=fun t h=>by cases h
theorem Gk:Tk kO.cps.toList:=u5 (.inl rfl)
theorem Gq:Tk kC.cps.toList:=u5 (.inr (.inl rfl))
theorem Gm:Tk kM.cps.toList:=u5 (.inr (.inr (.inl rfl)))
theorem rC:∀ {Ts:List (List Str)} {f:Bool},(∀ T∈Ts,TkA T)->TkA (aP f Ts)
 | [],_,_=>bj
 | T :: Ts,f,h=>by
  refine cK ?_ (cK (h T Mj) (rC fun S hS=>h S (L8 _ hS)));split
  ·exact bj
  ·exact ar Gm bj
theorem cw {w:Str} (h:w = "any" \/ w = "thing" \/ w = "number" \/ w = "said" \/ w = "all" \/ w = "some" \/ w = "one" \/ w = "none" \/ w = "many" \/ w = "each" \/ w = "from" \/ w = "upto" \/ w = "is" \/ w = "keeps" \/ w = "not" \/ w = "closed"):Tk w.cps.toList:=by
 rcases h with rfl | rfl | rfl | rfl | rfl | rfl | rfl | rfl | rfl | rfl | rfl | rfl | rfl | rfl | rfl | rfl <;> exact ⟨by decide,_,_,rfl,.inl ⟨by decide,by decide⟩⟩
theorem Ar {P:PyData->PyData->List Str->Nat->Prop} (hP:∀ u v T j,P u v T j->TkA T):∀ {us vs:List PyData} {Ts:List (List Str)} {k:Nat},kY P us vs Ts k->∀ T∈Ts,TkA T
 | [],[],[],_,_=>fun S h=>by cases h
 | u :: us,v :: vs,T :: Ts,k,⟨j,_,hu,hA,_⟩=>fun w hw=>by
  rcases Mc.mp hw with rfl | hw
  ·exact hP _ _ _ _ hu
  ·exact Ar hP hA w hw
theorem D7:∀ (n:Nat) (fr:Bool) (d d':PyData) (TK:List Str) (k:Nat),Fr n fr d d' TK k->TkA TK
 | 0,_,_,_,_,_,h=>h.elim
 | n+1,fr,d,d',TK,k,h=>by
  have ih:=D7 n;rcases h with ⟨rfl,rfl,w,hw,rfl,rfl⟩ | ⟨rfl,rfl,w,i,hw,hi,rfl,rfl⟩ | ⟨rfl,rfl,x,T,hx,rfl,rfl⟩ | ⟨rfl,rfl,s,hs,rfl,rfl⟩ | ⟨rfl,rfl,bs,bs',hb,hp,rfl,rfl,rfl⟩ | ⟨u,u',T,j,hu,rfl,rfl,rfl,rfl⟩ | ⟨w,us,us',Ts,j,hw,hA,hl,rfl,rfl,rfl,rfl⟩ | ⟨rfl,w,lo,hi,up,s,u,u',T,j,hw,h0,h1,hh,hs,hu,rfl,rfl,rfl,rfl⟩
  ·exact ar (cw (by rcases hw with h | h | h | h <;> simp [h])) bj
  ·exact ar (cw (by rcases hw with h | h <;> simp [h])) (ar (k7 hi) bj)
  ·exact ar (cw (by simp)) (ar (vA hx) bj)
  ·exact ar (cw (by simp)) (ar (lR hs) bj)
  ·refine cK (ar (cw (by simp)) (ar Gk bj)) (cK (rC fun T hT=>?_) (ar Gq bj));obtain ⟨b,hb',rfl⟩:=MK.mp hT;exact ar (lR (hb.1 b (hp.mem_iff.mp hb'))) bj
  ·exact cK (ar (cw (by simp)) (ar Gk bj)) (cK (ih _ _ _ _ _ hu) (ar Gq bj))
  ·exact cK (ar (cw (by rcases hw with h | h | h | h <;> simp [h])) (ar Gk bj)) (cK (rC (Ar (fun u v T j h=>ih _ _ _ _ _ h) hA)) (ar Gq bj))
  ·refine cK (ar (cw (by rcases hw with h | h <;> simp [h])) (ar Gk (ar (k7 (cp h0 h1)) (ar Gm (ar ?_ (ar Gm bj)))))) (cK ?_ (ar Gm (cK (ih _ _ _ _ _ hu) (ar Gq bj))))
   ·cases hi with
    | none=>exact u5 (.inr (.inr (.inr (.inl rfl))))
    | some g=>exact k7 (cp (Int.le_trans h0 hh.1) hh.2)
   ·cases up with
    | false=>exact ar (lR hs) bj
    | true=>exact ar (u5 (.inr (.inr (.inr (.inr rfl))))) (ar (lR hs) bj)
theorem okL {ds:List PyData} (h:∀ d∈ds,noD d=true/\d.depth<=20):oT (.list ds)=true:=B6 (by show gZ ds=true;exact mZ.mpr fun d hd=>(h d hd).1) (Mr (uC fun d hd=>(h d hd).2) (by decide))
theorem Cw (ds:List PyData):PyData.eqv (.list ds) (.list [])=ds.isEmpty:=by cases ds <;> simp [PyData.eqv,PyData.eqvAll]
theorem Ir {e:En} {x y:AV} {ds:List PyData} {Q:RV->En->Prop} (h1:aK e [x,y]=some [.list ds,.list []]) (h:∀ d∈ds,noD d=true/\d.depth<=20) (q:Q (.dat (.bool (!ds.isEmpty))) e):WPr neP [x,y] e Q:=Lz h1 (okL h) rfl (by rw [Cw];exact q)
theorem vC:∀ (Ts:List (List Str)) (f:Bool) (i:Nat),(aP f (Ts.take i)).length<=(aP f Ts).length
 | [],f,i=>by simp
 | T :: Ts,f,0=>MV _
 | T :: Ts,f,i+1=>by
  have:=vC Ts false i;show ((if f then [] else [kM])++(T++aP false (Ts.take i))).length<=((if f then [] else [kM])++(T++aP false Ts)).length;simp only [LY];omega
theorem sD:∀ (Ts:List (List Str)) (f:Bool) (T:List Str),aP f (Ts++[T])=aP f Ts++((if f&&Ts.isEmpty then [] else [kM])++T)
 | [],f,T=>by cases f <;> simp [aP]
 | S :: Ts,f,T=>by
  show (if f then [] else [kM])++(S++aP false (Ts++[T]))=((if f then [] else [kM])++(S++aP false Ts))++_;rw [sD Ts false T];simp
theorem Bb {Ts:List (List Str)} (h:∀ T∈Ts,T≠[]):(aP true Ts).isEmpty=Ts.isEmpty:=by
 cases Ts with
 | nil=>rfl
 | cons T Ts =>
  have:=h T Mj;show ([]++(T++aP false Ts)).isEmpty=false;cases T with
  | nil=>exact absurd rfl this
  | cons _ _=>rfl
theorem j7 {Ts:List (List Str)} {Q:PR->List PyData->Prop} (hne:∀ T∈Ts,T≠[]) (hl:(aP true Ts).length<=100000) (q:Q (.frs (.list ((aP true Ts).map .str))) []):WF c5 [.list (Ts.map fun T=>.list (T.map .str))] Q:=by
 refine cn rfl ?_;unfold qm;walk_at "pp";refine pP rfl (iQ (fun i e=>∃ x:Sl,soft x/\e=([.dat (.list (Ts.map fun T=>.list (T.map .str))),.own (.list ((aP true (Ts.take i)).map .str)),x]:En)) ⟨.un,rN,rfl⟩ ?_ ?_)
 ·rintro i d e hd ⟨x,hx,rfl⟩;rw [Mm] at hd;obtain ⟨T,hT,rfl⟩:=Mt.mp hd;refine y4 (m4 rfl hx) ?_;have e1:aP true (Ts.take (i+1))=aP true (Ts.take i)++((if true&&(Ts.take i).isEmpty then [] else [kM])++T):=by rw [<- Nq hT,sD]
  have l1:=vC Ts true (i+1);rw [e1,LY,LY] at l1;rw [e1,M5] at *;have hE:((aP true (Ts.take i)).map PyData.str).isEmpty=(Ts.take i).isEmpty:=by
   rw [<- Bb (Ts:=Ts.take i) fun S hS=>hne S (Ni hS)];cases aP true (Ts.take i) <;> rfl
  walk_at "pp";refine Ir rfl (fun d hd=>?_) ?_
  ·obtain ⟨z,_,rfl⟩:=MK.mp hd;exact ⟨rfl,by simp [PyData.depth]⟩
  rw [hE];cases z:(Ts.take i).isEmpty with
  | true =>
   rw [z] at l1;walk_at "pp";refine Ef rfl (by rw [LZ,LZ];show _<=2 ^ 24;omega) rfl ?_;exact ⟨_,gm,by rw [Me rfl,Nb,Mw];rfl⟩
  | false =>
   rw [z,Mn (by decide),Mz] at l1;walk_at "pp";refine jK rfl (by rw [LZ];show _ < 2 ^ 24;omega) rfl ?_;walk_at "pp";refine Ef rfl (by rw [LY,LZ,LZ,Mz];show _<=2 ^ 24;omega) rfl ?_;exact ⟨_,gm,by rw [Mn (by decide),Mw,Mw,MM];rfl⟩
 ·rintro e ⟨x,hx,rfl⟩;rw [LZ,M9];walk_at "pp";exact q
theorem vX {P:PyData->PyData->List Str->Nat->Prop} (hP:∀ u v T j,P u v T j->T.length+1<=16*j):∀ {us vs:List PyData} {Ts:List (List Str)} {k:Nat} (f:Bool),kY P us vs Ts k->(aP f Ts).length<=16*k
 | [],[],[],_,_,_=>MV _
 | u :: us,v :: vs,T :: Ts,k,f,⟨j,m,hu,hA,e⟩=>by
  have h1:=hP _ _ _ _ hu;have h2:=vX hP false hA;show ((if f then [] else [kM])++(T++aP false Ts)).length<=_;rw [LY,LY];have:(if f then [] else [kM]).length<=1:=by split <;> simp
  omega
theorem pR:∀ (n:Nat) (fr:Bool) (d d':PyData) (TK:List Str) (k:Nat),Fr n fr d d' TK k->TK.length+1<=16*k
 | 0,_,_,_,_,_,h=>h.elim
 | n+1,fr,d,d',TK,k,h=>by
  have ih:=pR n;rcases h with ⟨rfl,rfl,w,hw,rfl,rfl⟩ | ⟨rfl,rfl,w,i,hw,hi,rfl,rfl⟩ | ⟨rfl,rfl,x,T,hx,rfl,rfl⟩ | ⟨rfl,rfl,s,hs,rfl,rfl⟩ | ⟨rfl,rfl,bs,bs',hb,hp,rfl,rfl,rfl⟩ | ⟨u,u',T,j,hu,rfl,rfl,rfl,rfl⟩ | ⟨w,us,us',Ts,j,hw,hA,hl,rfl,rfl,rfl,rfl⟩ | ⟨rfl,w,lo,hi,up,s,u,u',T,j,hw,h0,h1,hh,hs,hu,rfl,rfl,rfl,rfl⟩
  ·simp
  ·simp
  ·simp
  ·simp
  ·have:=sQ bs' true;have e:=hp.length_eq;have:=hb.2.2.1;simp only [LY,L3,Mo];omega
  ·have:=ih _ _ _ _ _ hu;simp only [LY,L3,Mo];omega
  ·have:=vX (fun u v T j h=>ih _ _ _ _ _ h) true hA;simp only [LY,L3,Mo];omega
  ·have:=ih _ _ _ _ _ hu;have:(stT up s).length<=2:=by cases up <;> simp [stT]
   simp only [LY,L3,Mo];omega
theorem D5 (ss:List Str):r9 (r9 ss)=r9 ss:=List.Perm.eq_of_pairwise (fun _ _ _ _ p q=>nj p q) (iE _) (iE _) (cj _)
theorem kB {P:PyData->PyData->List Str->Nat->Prop} {u v:PyData} {T:List Str} {j:Nat} (hu:P u v T j):∀ {us vs:List PyData} {Ts:List (List Str)} {k:Nat},kY P us vs Ts k->kY P (us++[u]) (vs++[v]) (Ts++[T]) (k+j)
 | [],[],[],k,h=>⟨j,0,hu,rfl,by have:k=0:=h;omega⟩
 | a :: us,b :: vs,c :: Ts,k,⟨i,m,h1,h2,e⟩=>⟨i,m+j,h1,kB hu h2,by omega⟩
theorem Fj {n:Nat} {fr:Bool} {w:Str} (h:Lf w):Fr (n+1) fr (.tuple [.str w]) (.tuple [.str w]) [w] 1:=.inl ⟨rfl,rfl,w,h,rfl,rfl⟩
theorem Ab {n:Nat} {fr:Bool} {w:Str} {v:Int} (h:w = "from" \/ w = "upto") (hv:v.natAbs < 10 ^ 30):Fr (n+1) fr (.tuple [.str w,.int v]) (.tuple [.str w,.int v]) [w,aj v] 1:=.inr (.inl ⟨rfl,rfl,w,v,h,hv,rfl,rfl⟩)
theorem DQ {n:Nat} {fr:Bool} {x:PyData} {T:Str} (h:lM x T):Fr (n+1) fr (.tuple [.str "is", x]) (.tuple [.str "is", x]) [("is" : Str),T] 1:=.inr (.inr (.inl ⟨rfl,rfl,x,T,h,rfl,rfl⟩))
theorem Ct {n:Nat} {fr:Bool} {s:Str} (h:Sh s):Fr (n+1) fr (.tuple [.str "keeps", .str s]) (.tuple [.str "keeps", .str s]) [("keeps" : Str),s] 1:=.inr (.inr (.inr (.inl ⟨rfl,rfl,s,h,rfl,rfl⟩)))
theorem IF {n:Nat} {bs:List Str} (h:Bnd bs):Fr (n+1) true (.tuple [.str "closed", .tuple (bs.map .str)]) (.tuple [.str "closed", .tuple (bs.map .str)]) ([("closed" : Str),kO]++(aP true (bs.map fun b=>[b])++[kC])) 1:=.inr (.inr (.inr (.inr (.inl ⟨rfl,rfl,bs,bs,h,List.Perm.refl _,rfl,rfl,rfl⟩))))
theorem xZ {cs:List Int} {B n:Nat} {pn:PyData} {ns:List Str} {fr:Bool} {Q:PR->List PyData->Prop} (hP:bw cs B pn) (hb:B < 2 ^ 57) (s0:0 < ns.length) (s1:ns.length<=6) (sn:ns.Nodup) (hs:∀ x∈ns,Nm x) (q:∀ d TK pn',bw cs (B+40) pn'->Fr (n+1) fr d d TK 1->Q (.dat d) [pn']):WF vU [pn,.list (ns.map .str),.bool fr] Q:=by
 refine cn rfl ?_;unfold Aj;walk_at "d";intro k pn2 hP2 k0 k1;walk_at "n";walk_at "pp";obtain ⟨d,hd,ed⟩:=atV (xs:=([.str "any", .str "thing", .str "number", .str "said", .str "from", .str "upto", .str "is", .str "keeps", .str "keeps", .str "closed"]:List PyData)) k0 k1;refine lN rfl ed ?_;clear ed;simp only [Mc,ML,M7] at hd;rcases hd with rfl | rfl | rfl | rfl | rfl | rfl | rfl | rfl | rfl | rfl
 iterate 4
  ·walk_at "pp";exact q _ _ _ (hP2.mono (by omega)) (Fj (by unfold Lf;simp))
 iterate 2
  ·walk_at "pp";refine ab (is:=[0]) rfl rfl (oA hP2 (by omega) fun v pn3 hP3 hv=>⟨rfl,?_⟩);walk_at "n";walk_at "pp";exact q _ _ _ (hP3.mono (by omega)) (Ab (by simp) hv)
 ·walk_at "pp";refine ab (is:=[0]) rfl rfl (Bx hP2 (by omega) s0 (by omega) hs fun v pn3 hP3 hv=>⟨rfl,?_⟩);obtain ⟨T,hT⟩:=A6 hv;walk_at "n";walk_at "pp";exact q _ _ _ (hP3.mono (by omega)) (DQ hT)
 iterate 2
  ·walk_at "pp";refine jE (hi:=rfl) (hP:=hP2) (m:=((ns.map PyData.str).length:Nat)) (by omega) (by rw [LZ];omega) (by rw [LZ];omega) ?_;intro j pn3 hP3 j0 j1;walk_at "n";walk_at "pp";obtain ⟨d,hd,ed⟩:=atV (xs:=ns.map PyData.str) j0 j1;obtain ⟨x,hxm,rfl⟩:=MK.mp hd;refine lN rfl ed ?_;walk_at "pp";exact q _ _ _ (hP3.mono (by omega)) (Ct (yX (hs x hxm)))
 ·cases fr with
  | false =>
   walk_at "pp";refine jE (hi:=rfl) (hP:=hP2) (m:=((ns.map PyData.str).length:Nat)) (by omega) (by rw [LZ];omega) (by rw [LZ];omega) ?_;intro j pn3 hP3 j0 j1;walk_at "n";walk_at "pp";obtain ⟨d,hd,ed⟩:=atV (xs:=ns.map PyData.str) j0 j1;obtain ⟨x,hxm,rfl⟩:=MK.mp hd;refine lN rfl ed ?_;walk_at "pp";exact q _ _ _ (hP3.mono (by omega)) (Ct (yX (hs x hxm)))
  | true =>
   walk_at "pp";refine jE (hi:=rfl) (hP:=hP2) (m:=((ns.map PyData.str).length:Nat)+1) (by omega) (by omega) (by rw [LZ];omega) ?_;intro j pn3 hP3 j0 j1;rw [LZ] at j1;walk_at "n";walk_at "pp";have ec:L2.cutD (ns.map PyData.str) none (some j)=(ns.take j.toNat).map .str:=by rw [sy j0,List.map_take]
   rw [ec];refine z5 (ss:=ns.take j.toNat) rfl (by rw [MN];omega) ?_;walk_at "pp";have pm:=cj (ns.take j.toNat);exact q _ _ _ (hP3.mono (by omega)) (IF ⟨fun b hb=>yX (hs b (Ni (pm.mem_iff.mp hb))),pm.nodup_iff.mpr (sn.sublist (List.take_sublist _ _)),by rw [pm.length_eq,MN];omega,D5 _⟩)
theorem Ii (x:Str):("" : Str)++x=x:=gv (by rw [bo];rfl)
theorem yO {cs:List Int} {B:Nat} {pn:PyData} {ns:List Str} {Q:PR->List PyData->Prop} (hP:bw cs B pn) (hb:B < 2 ^ 57) (s0:0 < ns.length) (s1:ns.length<=6) (hs:∀ x∈ns,Nm x) (q:∀ (w:Str) (lo:Int) (hi:Option Int) (up:Bool) (s:Str) pn',bw cs (B+40) pn'->Wlk w->0<=lo->lo<=60->yC lo hi->Sh s->Q (.dat (.tuple [.str w,.int lo,hiD hi,.str (stS up s)])) [pn']):WF m5 [pn,.list (ns.map .str)] Q:=by
 refine cn rfl ?_;unfold tj;walk_at "d";intro k1 pn1 hP1 k10 k11;walk_at "n";walk_at "d";intro k2 pn2 hP2 k20 k21;walk_at "n";walk_at "pp";obtain ⟨d,hd,ed⟩:=atV (xs:=([.int 0,.int 0,.int 1,.int 2,.int 60,.int k1]:List PyData)) k20 k21;have hc:∃ l:Int,d=.int l/\0<=l/\l<=60:=by
  simp only [Mc,ML,M7] at hd;rcases hd with rfl | rfl | rfl | rfl | rfl | rfl <;> exact ⟨_,rfl,by omega,by omega⟩
 obtain ⟨l,rfl,l0,l1⟩:=hc;refine lN rfl ed ?_;clear ed hd;walk_at "pp";refine jE (hi:=rfl) (hP:=hP2) (m:=61 - l) (by omega) (by omega) (by omega) ?_;intro k3 pn3 hP3 k30 k31;walk_at "n";walk_at "d";intro k4 pn4 hP4 k40 k41;walk_at "n";walk_at "pp";obtain ⟨hi,hh,eh⟩:=atV (xs:=([.none,.int l,.int (l+k3)]:List PyData)) k40 k41;have hc:∃ h:Option Int,hi=hiD h/\yC l h:=by
  simp only [Mc,ML,M7] at hh;rcases hh with rfl | rfl | rfl
  ·exact ⟨none,rfl,trivial⟩
  ·exact ⟨some l,rfl,by omega,by omega⟩
  ·exact ⟨some (l+k3),rfl,by omega,by omega⟩
 obtain ⟨h,rfl,hh2⟩:=hc;refine lN rfl eh ?_;clear eh hh;walk_at "d";intro k5 pn5 hP5 k50 k51;walk_at "n";walk_at "pp";obtain ⟨z,hz,ez⟩:=atV (xs:=([.str "", .str "", .str "^"]:List PyData)) k50 k51;have hc:∃ y:Str,z=.str y/\(y = "" \/ y = "^")/\y.length<=1:=by
  simp only [Mc,ML,M7] at hz;rcases hz with rfl | rfl | rfl
  ·exact ⟨_,rfl,.inl rfl,by decide⟩
  ·exact ⟨_,rfl,.inl rfl,by decide⟩
  ·exact ⟨_,rfl,.inr rfl,by decide +kernel⟩
 obtain ⟨y,rfl,hy,hyl⟩:=hc;refine lN rfl ez ?_;clear ez hz;walk_at "pp";refine jE (hi:=rfl) (hP:=hP5) (m:=((ns.map PyData.str).length:Nat)) (by omega) (by rw [LZ];omega) (by rw [LZ];omega) ?_;intro j pn6 hP6 j0 j1;walk_at "n";walk_at "pp";obtain ⟨d,hd,ed⟩:=atV (xs:=ns.map PyData.str) j0 j1;obtain ⟨x,hxm,rfl⟩:=MK.mp hd;have hxn:=hs x hxm;refine lN rfl ed ?_;walk_at "pp";refine cv rfl (by have:=hxn.2;show _<=2 ^ 24;omega) ?_;have hst:∃ up,y++x=stS up x:=by
  rcases hy with rfl | rfl
  ·exact ⟨false,Ii x⟩
  ·exact ⟨true,rfl⟩
 obtain ⟨up,hst⟩:=hst;rw [hst];walk_at "d";intro t pn7 hP7 t0 t1;walk_at "n";walk_at "pp";obtain ⟨d,hd,ed⟩:=atV (xs:=([.str "many", .str "each"]:List PyData)) t0 t1;refine lN rfl ed ?_;simp only [Mc,ML,M7] at hd;have hc:∃ w:Str,d=.str w/\Wlk w:=by
  rcases hd with rfl | rfl
  ·exact ⟨_,rfl,.inl rfl⟩
  ·exact ⟨_,rfl,.inr rfl⟩
 obtain ⟨w,rfl,hw⟩:=hc;walk_at "pp";exact q w l h up x _ (hP7.mono (by omega)) hw l0 l1 hh2 (yX hxn)
theorem zt (n:Nat):(iO n).ms=[.ino,.dat,.ino,.dat,.dat]:=by cases n <;> rfl
theorem C6 {n:Nat} {fr:Bool} {u u':PyData} {T:List Str} {j:Nat} (h:Fr n fr u u' T j):Fr (n+1) fr (.tuple [.str "not", u]) (.tuple [.str "not", u']) ([("not" : Str),kO]++(T++[kC])) (j+1):=.inr (.inr (.inr (.inr (.inr (.inl ⟨u,u',T,j,h,rfl,rfl,rfl,rfl⟩)))))
theorem EW {n:Nat} {fr:Bool} {w:Str} {us us':List PyData} {Ts:List (List Str)} {j:Nat} (hw:Lst w) (h:kY (Fr n fr) us us' Ts j) (hl:us.length<=6):Fr (n+1) fr (.tuple [.str w,.tuple us]) (.tuple [.str w,.tuple us']) ([w,kO]++(aP true Ts++[kC])) (j+1):=.inr (.inr (.inr (.inr (.inr (.inr (.inl ⟨w,us,us',Ts,j,hw,h,hl,rfl,rfl,rfl,rfl⟩))))))
theorem FD {n:Nat} {w:Str} {lo:Int} {hi:Option Int} {up:Bool} {s:Str} {u u':PyData} {T:List Str} {j:Nat} (hw:Wlk w) (h0:0<=lo) (h1:lo<=60) (hh:yC lo hi) (hs:Sh s) (h:Fr n false u u' T j):Fr (n+1) true (.tuple [.str w,.int lo,hiD hi,.str (stS up s),u]) (.tuple [.str w,.int lo,hiD hi,.str (stS up s),u']) ([w,kO,aj lo,kM,hiT hi,kM]++(stT up s++(kM :: (T++[kC])))) (j+1):=.inr (.inr (.inr (.inr (.inr (.inr (.inr ⟨rfl,w,lo,hi,up,s,u,u',T,j,hw,h0,h1,hh,hs,h,rfl,rfl,rfl,rfl⟩))))))
def Ge (n:Nat):Prop:=∀ {cs:List Int} {B dp:Nat} {pn:PyData} {R:Int} {ns:List Str} {fr:Bool} {Q:PR->List PyData->Prop},n<=9->1<=dp->dp<=n->bw cs B pn->B+100000*n < 2 ^ 56->0<=R->R<=39->0 < ns.length->ns.length<=6->ns.Nodup->(∀ x∈ns,Nm x) ->
 (∀ v TK k R' pn',Fr n fr v v TK k->0<=R'->(k:Int)+R'<=1+R->bw cs (B+100*k) pn'->Q (.dat v) [pn',.list [.int R']]) ->
 WF (iO n) [pn,.list (ns.map .str),.list [.int R],.int dp,.bool fr] Q
theorem xK:∀ n,Ge n
 | 0=>by
  rename_i cs B dp pn R ns fr Q;intro _ h h2;omega
 | n+1=>by
  rename_i cs B dp pn R ns fr Q;intro hn hd hd2 hP hb hR hR2 s0 s1 sn hs q;have ih:Ge n:=xK n;obtain ⟨dq,rfl⟩:∃ dq,dp=dq+1:=⟨dp - 1,by omega⟩;have ed:(((dq+1:Nat):Int) - 1)=(dq:Int):=by omega
  refine cn rfl ?_;unfold w8;walk_at "d";intro way pn1 hP1 way0 way1;walk_at "n";walk_at "q";with_reducible refine cc fun N eN=>?_
  have rest:1<=dq->1<=R->N ([.ino pn1,.dat (.list (ns.map .str)),.ino (.list [.int R]),.dat (.int ((dq+1:Nat):Int)),.dat (.bool fr),.dat (.int way),.un,.un]:En):=by
   intro d2 r1;rw [eN];clear eN N;with_reducible refine cc fun N eN=>?_
   have rest:N ([.ino pn1,.dat (.list (ns.map .str)),.ino (.list [.int R]),.dat (.int ((dq+1:Nat):Int)),.dat (.bool fr),.dat (.int way),.un,.un]:En):=by
    rw [eN];clear eN N;with_reducible refine cc fun N eN=>?_
    have rest:N ([.ino pn1,.dat (.list (ns.map .str)),.ino (.list [.int R]),.dat (.int ((dq+1:Nat):Int)),.dat (.bool fr),.dat (.int way),.un,.un]:En):=by
     rw [eN];clear eN N;walk_at "d";intro t pn2 hP2 t0 t1;walk_at "n";walk_at "pp";have hm:(if R < t then R else t)<=6/\0<=(if R < t then R else t)/\(if R < t then R else t)<=R:=by split <;> omega
     show (_/\_)/\CC _ _ _ none ([.ino pn2,.dat (.list (ns.map .str)),.ino (.list [.int (R - (if R < t then R else t))]),.dat (.int ((dq+1:Nat):Int)),.dat (.bool fr),.dat (.int way),.dat (.int (if R < t then R else t)),.un]:En) _;generalize (if R < t then R else t)=m at hm ⊢;obtain ⟨hm1,hm2,hm3⟩:=hm;refine ⟨⟨by omega,by omega⟩,?_⟩;refine dY (fun i ys ec=>∃ (Ts:List (List Str)) (j:Nat) (R':Int) (pn':PyData),ys.length=i/\kY (Fr n fr) ys ys Ts j/\0<=R'/\(j:Int)+R'<=R - m+i/\bw cs (B+2+100*j) pn'/\ec=[.ino pn',.dat (.list (ns.map .str)),.ino (.list [.int R']),.dat (.bool fr),.dat (.int ((dq+1:Nat):Int))])
      ⟨[],0,R - m,pn2,rfl,rfl,by omega,by omega,hP2,rfl⟩ ?_ ?_
     ·rintro i dd ys ec hd' ⟨Ts,j,R',pn',hu,ha,hr,hk,hP',rfl⟩;obtain ⟨rfl,hi⟩:=iI hd';refine je ?_;walk_at "pp";refine bI (zt n) (is:=[1,3]) (ds:=[pn',.list (ns.map .str),.list [.int R'],.int (dq:Int),.bool fr]) (by rw [<- ed];rfl) rfl (ih (R:=R') (by omega) d2 (by omega) hP' (by omega) hr (by omega) s0 s1 sn hs fun v2 T2 k2 R2 pn3 hv2 r2 hk2 hP3=>⟨rfl,?_⟩);exact ⟨_,rfl,Ts++[T2],j+k2,R2,pn3,by rw [LY,hu];rfl,kB hv2 ha,r2,by omega,hP3.mono (by omega),rfl⟩
     ·rintro ys ec ⟨Ts,j,R',pn',hu,ha,hr,hk,hP',rfl⟩;rw [k6] at hu hk;walk_at "n";walk_at "d";intro k pn4 hP4 k0 k1;walk_at "n";walk_at "pp";obtain ⟨d,hd,ed⟩:=atV (xs:=([.str "all", .str "some", .str "one", .str "none"]:List PyData)) k0 k1;refine lN rfl ed ?_;simp only [Mc,ML,M7] at hd;have hc:∃ w:Str,d=.str w/\Lst w:=by
       unfold Lst;rcases hd with rfl | rfl | rfl | rfl <;> exact ⟨_,rfl,by simp⟩
      obtain ⟨w,rfl,hw⟩:=hc;walk_at "pp";exact q _ _ (j+1) R' pn4 (EW hw ha (by omega)) hr (by omega) (hP4.mono (by omega))
    walk_at "pp";refine gc (fun e4=>?_) (fun e4=>?_)
    ·cases fr with
     | false =>
      walk_at "pp";exact rest
     | true =>
      clear rest;walk_at "pp";refine ab (is:=[0]) rfl rfl (yO hP1 (by omega) s0 s1 hs fun w lo hi up s pn3 hP3 hw h0 h1 hh hs'=>⟨rfl,?_⟩);walk_at "n";walk_at "pp";refine bI (zt n) (is:=[0,2]) (ds:=[pn3,.list (ns.map .str),.list [.int (R - 1)],.int (dq:Int),.bool false]) (by rw [<- ed];rfl) rfl (ih (R:=R - 1) (by omega) d2 (by omega) hP3 (by omega) (by omega) (by omega) s0 s1 sn hs fun v2 T2 k2 R2 pn4 hv2 r2 hk2 hP4=>⟨rfl,?_⟩);walk_at "n";walk_at "pp";exact q _ _ (k2+1) R2 pn4 (FD hw h0 h1 hh hs' hv2) r2 (by omega) (hP4.mono (by omega))
    ·walk_at "pp";exact rest
   walk_at "pp";refine gc (fun e4=>?_) (fun e4=>?_)
   ·clear rest;walk_at "pp";refine bI (zt n) (is:=[0,2]) (ds:=[pn1,.list (ns.map .str),.list [.int (R - 1)],.int (dq:Int),.bool fr]) (by rw [<- ed];rfl) rfl (ih (R:=R - 1) (by omega) d2 (by omega) hP1 (by omega) (by omega) (by omega) s0 s1 sn hs fun v2 T2 k2 R2 pn4 hv2 r2 hk2 hP4=>⟨rfl,?_⟩);walk_at "n";walk_at "pp";exact q _ _ (k2+1) R2 pn4 (C6 hv2) r2 (by omega) (hP4.mono (by omega))
   ·walk_at "pp";exact rest
  have leaf:∀ {v pn':PyData} {TK:List Str},bw cs (B+1+40) pn'->Fr (n+1) fr v v TK 1->Q (.dat v) [pn',.list [.int R]]:=fun {v pn' TK} hP' ht =>
   q v TK 1 R pn' ht hR (by omega) (hP'.mono (by omega))
  walk_at "pp";refine gc (fun e1=>?_) (fun e1=>?_)
  ·clear rest;walk_at "pp";refine ab (is:=[0]) rfl rfl (xZ (n:=n) hP1 (by omega) s0 s1 sn hs fun v TK pn2 hP2 ht=>⟨rfl,?_⟩);walk_at "n";walk_at "pp";exact leaf hP2 ht
  ·walk_at "pp";refine gc (fun e2=>?_) (fun e2=>?_)
   ·clear rest;walk_at "pp";refine ab (is:=[0]) rfl rfl (xZ (n:=n) hP1 (by omega) s0 s1 sn hs fun v TK pn2 hP2 ht=>⟨rfl,?_⟩);walk_at "n";walk_at "pp";exact leaf hP2 ht
   ·walk_at "pp";refine gc (fun e3=>?_) (fun e3=>?_)
    ·clear rest;walk_at "pp";refine ab (is:=[0]) rfl rfl (xZ (n:=n) hP1 (by omega) s0 s1 sn hs fun v TK pn2 hP2 ht=>⟨rfl,?_⟩);walk_at "n";walk_at "pp";exact leaf hP2 ht
    ·walk_at "pp";have e2:=Na e2;have e3:=Na e3;exact rest (by omega) (by omega)
theorem IV {f:Fn} {ms:List PM} {avs:List AV} {ds:List PyData} {e:En} {Q:RV->En->Prop} (hm:f.ms=.ino :: ms) (h1:aK e avs=some ds) (h3:AZ ms ds=true) (h:WF f (.dict [] :: ds) fun pr outs=>∃ d',pr=.dat .none/\outs=[d']/\Q (.frs d') e):WPr (Gz f) avs e Q:=by
 obtain ⟨pr,outs,hF,d',rfl,rfl,q⟩:=h;refine ⟨ds,.frs d',h1,?_,q⟩;show (match f.ms with | .ino :: ms=>if AZ ms ds=true then (match f.F (.dict [] :: ds) with | some (.dat .none,[d])=>some (PR.frs d) | _=>none) else none | _=>none)=_;rw [hm];show (if AZ ms ds=true then (match f.F (.dict [] :: ds) with | some (.dat .none,[d])=>some (PR.frs d) | _=>none) else none)=_;rw [Me h3,hF]
theorem jw {Z:Str} {ts:List (List Nat)} {d d':PyData} {k:Nat} {Q:PR->List PyData->Prop} (hz:Z.length<=99000) (h:Pcs ts) (hZ:Z.cps.toList=ts.flatten) (hf:Fr 8 true d d' (tkS ts) k) (hk:k<=40) (q:Q (.dat d) []):WF cR [.str Z] Q:=by
 refine cn rfl ?_;unfold jt;walk_at "pr";refine IV rfl rfl rfl (Bj hz h hZ fun L hL=>⟨_,rfl,rfl,?_⟩);walk_at "pr";refine ab (is:=[1]) rfl rfl (jj 8 (fr:=true) (fm:=0) (pl:=0) (dep:=1) hf hL (by omega) (by decide) ⟨rfl,?_⟩);walk_at "n";walk_at "pr";refine dg rfl rfl hL.skip ?_;walk_at "n";walk_at "pr";exact q
theorem C9 (n:Nat):(dw n).ms=[.ino,.dat]:=by cases n <;> rfl
theorem xy {α:Type} (xs:List α) (x:α) (i:Nat):(sY xs i x).Perm (x :: xs):=by
 have:=List.perm_middle (a:=x) (l₁:=xs.take i) (l₂:=xs.drop i)
 rwa [List.take_append_drop] at this
def B9 (n:Nat):Prop:=∀ {cs:List Int} {B:Nat} {pn:PyData} {fr:Bool} {d:PyData} {TK:List Str} {k:Nat} {Q:PR->List PyData->Prop},Fr n fr d d TK k->bw cs B pn->B+6 ^ (n+1) < 2 ^ 58->(∀ d' TK' pn',Fr n fr d d' TK' k->bw cs (B+6 ^ (n+1)) pn'->Q (.dat d') [pn'])->WF (dw n) [pn,d] Q
theorem gy {n:Nat} (ih:B9 n) {cs:List Int} {B:Nat} {pn:PyData} {fr:Bool} {us:List PyData} {Ts:List (List Str)} {j:Nat} {lk:Option Nat} {e1:En} {Q:RV->En->Prop} (hA:kY (Fr n fr) us us Ts j) (hl:us.length<=6) (hP:bw cs B pn) (hb:B+6 ^ (n+2) < 2 ^ 58) (hc:fQ e1 lk [0]=[.ino pn]) (q:∀ us' Ts' pn',kY (Fr n fr) us us' Ts' j->bw cs (B+6 ^ (n+2)) pn'->Q (.frs (.list us')) (aY e1 [0] [.ino pn'])):CC (fy (dT gds XT.yes) (dE gds (XE.call (dw n) (XA.cons (vr 1) (XA.cons (vr 0) XA.nil))))) [0] us lk e1 Q:=by
 have p6:6 ^ (n+2)=6*6 ^ (n+1):=by rw [Nat.pow_succ,Nat.mul_comm]
 refine dY (fun i ys ec=>∃ (Ts1 Ts2:List (List Str)) (m m2:Nat) (pn':PyData),kY (Fr n fr) (us.take i) ys Ts1 m/\kY (Fr n fr) (us.drop i) (us.drop i) Ts2 m2/\m+m2=j/\bw cs (B+i*6 ^ (n+1)) pn'/\ec=[.ino pn']) ⟨[],Ts,0,j,pn,rfl,hA,by omega,by rw [Nat.zero_mul];exact hP,hc⟩ ?_ ?_
 ·rintro i d ys ec hd ⟨Ts1,Ts2,m,m2,pn',h1,h2,hm,hP',rfl⟩;have hi:i < us.length:=(L5.mp hd).1;have ed:us.drop i=d :: us.drop (i+1):=by rw [Nj hi,(L5.mp hd).2]
  rw [ed] at h2;cases Ts2 with
  | nil=>exact h2.elim
  | cons T Ts2 =>
   obtain ⟨a,b,ha,hr,eab⟩:=h2;have hm6:(i+1)*6 ^ (n+1)<=6*6 ^ (n+1):=Nat.mul_le_mul_right _ (by omega);rw [Nat.add_mul,Nat.one_mul] at hm6;refine je ?_;walk_at "pp";refine bI (C9 n) (is:=[1]) (ds:=[pn',d]) rfl rfl (ih ha hP' (by omega) fun d' T' pn2 hd' hP2=>⟨rfl,?_⟩);exact ⟨d',rfl,Ts1++[T'],Ts2,m+a,b,pn2,by rw [<- Nq hd];exact kB hd' h1,hr,by omega,by rw [Nat.add_mul,Nat.one_mul,<-Nat.add_assoc];exact hP2,rfl⟩
 ·rintro ys ec ⟨Ts1,Ts2,m,m2,pn',h1,h2,hm,hP',rfl⟩;rw [M9] at h1;rw [List.drop_length] at h2;have hm6:us.length*6 ^ (n+1)<=6*6 ^ (n+1):=Nat.mul_le_mul_right _ hl;have m0:m2=0:=by
   cases Ts2 with
   | nil=>exact h2
   | cons _ _=>exact h2.elim
  have:m=j:=by omega
  subst this;exact q ys Ts1 pn' h1 (hP'.mono (by omega))
theorem sf {P:PyData->PyData->List Str->Nat->Prop} {u:PyData} {us':List PyData} {Ts':List (List Str)} {j:Nat} (h:kY P [u] us' Ts' j):∃ u' T',us'=[u']/\Ts'=[T']/\P u u' T' j:=by
 cases us' with
 | nil=>cases Ts' <;> exact h.elim
 | cons a as =>
  cases Ts' with
  | nil=>exact h.elim
  | cons T Ts =>
   obtain ⟨i,m,h1,h2,e⟩:=h;cases as with
   | cons _ _=>cases Ts <;> exact h2.elim
   | nil =>
    cases Ts with
    | cons _ _=>exact h2.elim
    | nil =>
     have h2:m=0:=h2;obtain rfl:j=i:=by omega
     exact ⟨a,T,rfl,rfl,h1⟩
theorem zr {w:Str} {us:List PyData} {Q:PR->List PyData->Prop} (hw:Lst w) (hl:us.length<=6) (q:Q (.frs (.list us)) []):WF nZ [.tuple [.str w,.tuple us]] Q:=by
 refine cn rfl ?_;unfold sg;rcases hw with rfl | rfl | rfl | rfl
 all_goals
  walk_at "pp";exact q
theorem qx:∀ n,B9 n
 | 0=>fun h=>False.elim h
 | n+1=>by
  rename_i cs B pn fr d TK k Q;intro h hP hb q;have ih:B9 n:=qx n;have p1:6<=6 ^ (n+2):=by rw [Nat.pow_succ];have:=Nat.one_le_pow (n+1) 6 (by decide);omega
  refine cn rfl ?_;unfold p8;rcases h with ⟨rfl,_,w,hw,rfl,rfl⟩ | ⟨rfl,_,w,i,hw,hi,rfl,rfl⟩ | ⟨rfl,_,x,T,hx,rfl,rfl⟩ | ⟨rfl,_,s,hs,rfl,rfl⟩ | ⟨rfl,rfl,bs,bs',hB,hp,rfl,e,rfl⟩ | ⟨u,u',T,j,hu,rfl,rfl,e,rfl⟩ | ⟨w,us,us',Ts,j,hw,hA,hl,rfl,rfl,e,rfl⟩ | ⟨rfl,w,lo,hi,up,s,u,u',T,j,hw,h0,h1,hh,hs,hu,rfl,rfl,e,rfl⟩
  ·rcases hw with rfl | rfl | rfl | rfl
   all_goals
    walk_at "pp";refine ab (is:=[]) rfl rfl ⟨_,_,rfl,rfl,?_⟩;refine pP rfl (gy (fr:=fr) (Ts:=[]) (j:=0) ih rfl (by decide) hP hb rfl fun us' Ts' pn' hA hP'=>?_);walk_at "n";walk_at "pp";exact q _ _ _ (Fj (by unfold Lf;simp)) hP'
  ·rcases hw with rfl | rfl
   all_goals
    walk_at "pp";refine ab (is:=[]) rfl rfl ⟨_,_,rfl,rfl,?_⟩;refine pP rfl (gy (fr:=fr) (Ts:=[]) (j:=0) ih rfl (by decide) hP hb rfl fun us' Ts' pn' hA hP'=>?_);walk_at "n";walk_at "pp";exact q _ _ _ (Ab (by simp) hi) hP'
  ·walk_at "pp";refine ab (is:=[]) rfl rfl ⟨_,_,rfl,rfl,?_⟩;refine pP rfl (gy (fr:=fr) (Ts:=[]) (j:=0) ih rfl (by decide) hP hb rfl fun us' Ts' pn' hA hP'=>?_);walk_at "n";walk_at "pp";exact q _ _ _ (DQ hx) hP'
  ·walk_at "pp";refine ab (is:=[]) rfl rfl ⟨_,_,rfl,rfl,?_⟩;refine pP rfl (gy (fr:=fr) (Ts:=[]) (j:=0) ih rfl (by decide) hP hb rfl fun us' Ts' pn' hA hP'=>?_);walk_at "n";walk_at "pp";exact q _ _ _ (Ct hs) hP'
  ·walk_at "pp";have hl:=hB.2.2.1;have b58:B < 2 ^ 58:=Nat.lt_of_le_of_lt (NL _ _) hb;refine iQ (fun i e=>∃ (xs:List Str) (pn':PyData) (x:Sl),xs.Perm (bs.take i)/\bw cs (B+i) pn'/\soft x/\e=([.ino pn',.dat (.tuple [.str "closed", .tuple (bs.map .str)]),.own (.list (xs.map .str)),x,.un]:En)) ⟨[],pn,.un,List.Perm.refl _,hP,rN,rfl⟩ ?_ ?_
   ·rintro i d e hd ⟨xs,pn',x,hpm,hP',hx,rfl⟩;rw [Mm] at hd;obtain ⟨b,hb',rfl⟩:=Mt.mp hd;have hi:i < bs.length:=(L5.mp hb').1;have xl:=hpm.length_eq;rw [MN] at xl;refine y4 (m4 rfl hx) ?_;walk_at "pp";refine jE (hi:=rfl) (hP:=hP') (m:=((xs.map PyData.str).length:Nat)+1) (by omega) (by omega) (by rw [LZ];omega) ?_;intro j pn2 hP2 j0 j1;walk_at "n";walk_at "pp";refine Hy rfl (by rw [LZ];show _ < 2 ^ 24;omega) rfl j0 (by omega) ?_;refine ⟨sY xs j.toNat b,pn2,.dat (.str b),?_,hP2,gm,?_⟩
    ·rw [<- Nq hb'];exact (xy xs b j.toNat).trans ((hpm.cons b).trans (List.perm_append_singleton b _).symm)
    ·rw [show (sY xs j.toNat b).map PyData.str=sY (xs.map .str) j.toNat (.str b) by simp [sY,List.map_take,List.map_drop]];rfl
   ·rintro e ⟨xs,pn',x,hpm,hP',hx,rfl⟩;rw [LZ] at hpm hP';rw [M9] at hpm;walk_at "pp";exact q _ _ _ (.inr (.inr (.inr (.inr (.inl ⟨rfl,rfl,bs,xs,hB,hpm,rfl,rfl,rfl⟩))))) (hP'.mono (by show _<=B+6 ^ (n+2);omega))
  ·obtain rfl:u=u':=by injection e with e;injection e with _ e;injection e
   walk_at "pp";refine ab (is:=[]) rfl rfl ⟨_,_,rfl,rfl,?_⟩;refine pP rfl (gy (fr:=fr) (us:=[u]) (Ts:=[T]) (j:=j) ih ⟨j,0,hu,rfl,rfl⟩ (by simp) hP hb rfl fun us' Ts' pn' hA hP'=>?_);obtain ⟨u',T',rfl,rfl,hu'⟩:=sf hA;walk_at "n";walk_at "pp";exact q _ _ _ (C6 hu') hP'
  ·obtain rfl:us=us':=by injection e with e;injection e with _ e;injection e with e;injection e
   rcases hw with rfl | rfl | rfl | rfl
   all_goals
    walk_at "pp";refine ab (is:=[]) rfl rfl (zr (by unfold Lst;simp) hl ⟨rfl,?_⟩);refine pP rfl (gy ih hA hl hP hb rfl fun us' Ts' pn' hA' hP'=>?_);walk_at "n";walk_at "pp";exact q _ _ _ (EW (by unfold Lst;simp) hA' hl) hP'
  ·obtain rfl:u=u':=by injection e with e;injection e with _ e;injection e with _ e;injection e with _ e;injection e with _ e;injection e
   rcases hw with rfl | rfl
   all_goals
    walk_at "pp";refine ab (is:=[]) rfl rfl ⟨_,_,rfl,rfl,?_⟩;refine pP rfl (gy (fr:=false) (us:=[u]) (Ts:=[T]) (j:=j) ih ⟨j,0,hu,rfl,rfl⟩ (by simp) hP hb rfl fun us' Ts' pn' hA hP'=>?_);obtain ⟨u',T',rfl,rfl,hu'⟩:=sf hA;walk_at "n";walk_at "pp";exact q _ _ _ (FD (by unfold Wlk;simp) h0 h1 hh hs hu') hP'
theorem yK (n:Nat):(cJ n).ms=[.dat]:=by cases n <;> rfl
def I0 (n:Nat):Prop:=∀ {fr:Bool} {d0 d:PyData} {TK:List Str} {k:Nat} {Q:PR->List PyData->Prop},Fr n fr d0 d TK k->k<=40->Q (.frs (.list (TK.map .str))) []->WF (cJ n) [d] Q
theorem z9 {n:Nat} {fr:Bool}:∀ {us vs:List PyData} {Ts:List (List Str)} {k:Nat},kY (Fr n fr) us vs Ts k->∀ T∈Ts,T≠[]
 | [],[],[],_,_=>fun S h=>by cases h
 | u :: us,v :: vs,T :: Ts,k,⟨j,_,hu,hA,_⟩=>fun w hw=>by
  rcases Mc.mp hw with rfl | hw
  ·obtain ⟨_,_,e,_⟩:=nS hu;rw [e];exact MT _ _
  ·exact z9 hA w hw
theorem xP {P:PyData->PyData->List Str->Nat->Prop}:∀ {us vs:List PyData} {Ts:List (List Str)} {k i:Nat} {v:PyData},kY P us vs Ts k->vs[i]?=some v->∃ u T j,P u v T j/\Ts[i]?=some T/\j<=k
 | [],[],[],_,_,_,_,h=>by cases h
 | u :: us,v :: vs,T :: Ts,k,0,x,⟨j,m,hu,hA,e⟩,h=>by
  cases h;exact ⟨u,T,j,hu,rfl,by omega⟩
 | u :: us,v :: vs,T :: Ts,k,i+1,x,⟨j,m,hu,hA,e⟩,h=>by
  obtain ⟨a,S,b,h1,h2,h3⟩:=xP hA (i:=i) h;exact ⟨a,S,b,h1,h2,by omega⟩
theorem rg {P:PyData->PyData->List Str->Nat->Prop}:∀ {us vs:List PyData} {Ts:List (List Str)} {k:Nat},kY P us vs Ts k->vs.length=Ts.length
 | [],[],[],_,_=>rfl
 | u :: us,v :: vs,T :: Ts,k,⟨j,m,hu,hA,e⟩=>congrArg (·+1) (rg hA)
theorem Bl {n:Nat} (ih:I0 n) {fr:Bool} {us us':List PyData} {Ts:List (List Str)} {j:Nat} {lk:Option Nat} {e1:En} {Q:RV->En->Prop} (hA:kY (Fr n fr) us us' Ts j) (hj:j<=40) (q:Q (.frs (.list (Ts.map fun T=>.list (T.map .str)))) e1):CC (fy (dT gds XT.yes) (dE gds (XE.call (cJ n) (XA.cons (vr 0) XA.nil)))) [] us' lk e1 Q:=by
 refine dY (fun i ys ec=>ys=(Ts.take i).map (fun T=>.list (T.map .str))/\ec=[]) ⟨rfl,rfl⟩ ?_ ?_
 ·rintro i d ys ec hd ⟨rfl,rfl⟩;obtain ⟨u,T,a,h1,h2,h3⟩:=xP hA hd;refine je ?_;walk_at "pp";refine bI (yK n) (is:=[]) rfl rfl (ih h1 (by omega) ⟨rfl,?_⟩);exact ⟨_,rfl,by rw [<- Nq h2,Mw];rfl,rfl⟩
 ·rintro ys ec ⟨rfl,rfl⟩;rw [rg hA,M9];exact q
theorem atz {c:Nat} {r:List Nat}:atI (c :: r) 0=some c:=fo (j:=0) rfl
theorem yF {s:Str} (h:Sh s):∃ c r,s.cps.toList=c :: r/\c≠94:=by
 cases e:s.cps.toList with
 | nil=>have:=aq s;rw [e,Mo] at this;have:=h.2.1;omega
 | cons c r=>have:=h.1 c (by rw [e];exact Mj);exact ⟨c,r,rfl,by omega⟩
theorem qT (s:Str):(("^" : Str)++s).cps.toList=94 :: s.cps.toList:=by rw [bo];rfl
theorem By (s:Str):jG (stS true s) (some 1) none=s:=gv (by rw [Cd (by decide)];show (("^" : Str)++s).cps.toList.drop 1=_;rw [qT];rfl)
theorem Bf {A B:Str} {S T:List Str} {Q:PR->List PyData->Prop} (hS:S≠[]) (hT:T≠[]) (hl:(aP true [[A],[B],S,T]).length<=100000) (q:Q (.frs (.list ((aP true [[A],[B],S,T]).map .str))) []):WF c5 [.list [.list [.str A],.list [.str B],.list (S.map .str),.list (T.map .str)]] Q :=
 j7 (Ts:=[[A],[B],S,T]) (fun R hR=>by
  simp only [Mc,ML,M7] at hR;rcases hR with rfl | rfl | rfl | rfl
  ·exact MT _ _
  ·exact MT _ _
  ·exact hS
  ·exact hT) hl q
theorem oR:∀ n,I0 n
 | 0=>fun h=>False.elim h
 | n+1=>by
  rename_i fr d0 d TK k Q;intro h hk q;have ih:I0 n:=oR n;have ln:=pR _ _ _ _ _ _ h;refine cn rfl ?_;unfold kZ;rcases h with ⟨rfl,rfl,w,hw,rfl,rfl⟩ | ⟨rfl,rfl,w,i,hw,hi,rfl,rfl⟩ | ⟨rfl,rfl,x,T,hx,rfl,rfl⟩ | ⟨rfl,rfl,s,hs,rfl,rfl⟩ | ⟨rfl,rfl,bs,bs',hB,hp,rfl,rfl,rfl⟩ | ⟨u,u',T,j,hu,rfl,rfl,rfl,rfl⟩ | ⟨w,us,us',Ts,j,hw,hA,hl,rfl,rfl,rfl,rfl⟩ | ⟨rfl,w,lo,hi,up,s,u,u',T,j,hw,h0,h1,hh,hs,hu,rfl,rfl,rfl,rfl⟩
  ·rcases hw with rfl | rfl | rfl | rfl
   all_goals
    walk_at "pp";exact q
  ·rcases hw with rfl | rfl
   all_goals
    walk_at "pp";refine jA rfl (xg hi) ?_;walk_at "pp";exact q
  ·walk_at "pp";refine ab (is:=[]) rfl rfl (pe hx ⟨rfl,?_⟩);walk_at "pp";exact q
  ·walk_at "pp";exact q
  ·rw [Mw,Mw] at q;simp only [LY,L3,Mo] at ln;walk_at "pp";refine dY (fun i ys ec=>ys=(bs'.take i).map (fun b=>.list [.str b])/\ec=[]) ⟨rfl,rfl⟩ ?_ ?_
   ·rintro i d ys ec hd ⟨rfl,rfl⟩;rw [Mm] at hd;obtain ⟨b,hb,rfl⟩:=Mt.mp hd;refine je ?_;walk_at "pp";exact ⟨by rw [<- Nq hb,Mw];rfl,rfl⟩
   ·rintro ys ec ⟨rfl,rfl⟩;rw [LZ,M9];walk_at "pp";refine ab (ds:=[.list ((bs'.map fun b=>[b]).map fun T=>.list (T.map .str))]) (is:=[]) (by rw [List.map_map];rfl) rfl (j7 (fun T hT=>?_) (by omega) ⟨rfl,?_⟩)
    ·obtain ⟨b,_,rfl⟩:=MK.mp hT;exact MT _ _
    walk_at "pp";refine eS rfl (by rw [LZ];show _<=2 ^ 24;simp only [L3,Mo];omega) ?_;walk_at "pp";refine eS rfl (by rw [LY,LZ];show _<=2 ^ 24;simp only [L3,Mo];omega) ?_;walk_at "pp";rw [MM];exact q
  ·rw [Mw,Mw] at q;simp only [LY,L3,Mo] at ln;walk_at "pp";refine bI (yK n) (is:=[]) rfl rfl (ih hu (by omega) ⟨rfl,?_⟩);walk_at "pp";refine eS rfl (by rw [LZ];show _<=2 ^ 24;simp only [L3,Mo];omega) ?_;walk_at "pp";refine eS rfl (by rw [LY,LZ];show _<=2 ^ 24;simp only [L3,Mo];omega) ?_;walk_at "pp";rw [MM];exact q
  ·rw [Mw,Mw] at q;simp only [LY,L3,Mo] at ln;have hne:∀ T∈Ts,T≠[]:=z9 hA;rcases hw with rfl | rfl | rfl | rfl
   all_goals
    walk_at "pp";refine Bl ih hA (by omega) ?_;walk_at "pp";refine ab (is:=[]) rfl rfl (j7 hne (by omega) ⟨rfl,?_⟩);walk_at "pp";refine eS rfl (by rw [LZ];show _<=2 ^ 24;simp only [L3,Mo];omega) ?_;walk_at "pp";refine eS rfl (by rw [LY,LZ];show _<=2 ^ 24;simp only [L3,Mo];omega) ?_;walk_at "pp";rw [MM];exact q
  ·have er:[aj lo,kM,hiT hi,kM]++(stT up s++(kM :: T))=aP true [[aj lo],[hiT hi],stT up s,T]:=by simp [aP]
   have q2:Q (.frs (.list ([.str w,.str kO]++((aP true [[aj lo],[hiT hi],stT up s,T]).map .str++[.str kC])))) []:=by
    rw [<- er];simpa using q
   have ln2:=congrArg List.length er;simp only [LY,L3,Mo] at ln ln2;have hT:T≠[]:=by obtain ⟨_,_,e,_⟩:=nS hu;rw [e];exact MT _ _
   have hS:stT up s≠[]:=by cases up <;> exact MT _ _
   obtain ⟨w',ew⟩:∃ w',w=w':=⟨w,rfl⟩;rw [ew] at q2;rcases hw with rfl | rfl
   all_goals
    iterate 6 (walk_at "pz"; with_reducible refine og ?_)
    walk_at "pz";rw [ew];with_reducible refine cc fun N eN=>?_
    have rest:N ([.dat (.tuple [.str w',.int lo,hiD hi,.str (stS up s),u']),.dat (.str w'),.dat (.str (hiT hi)),.un]:En):=by
     rw [eN];clear eN N;walk_at "pz";with_reducible refine og ?_
     walk_at "pz";with_reducible refine cc fun N eN=>?_
     have rest:N ([.dat (.tuple [.str w',.int lo,hiD hi,.str (stS up s),u']),.dat (.str w'),.dat (.str (hiT hi)),.dat (.list ((stT up s).map .str))]:En):=by
      rw [eN];walk_at "pp";refine jA rfl (xg (cp h0 h1)) ?_;walk_at "pp";refine bI (yK n) (is:=[]) rfl rfl (ih hu (by omega) ⟨rfl,?_⟩);walk_at "pp";refine ab (is:=[]) (ds:=[.list [.list [.str (aj lo)],.list [.str (hiT hi)],.list ((stT up s).map .str),.list (T.map .str)]]) rfl rfl (Bf hS hT (by omega) ⟨rfl,?_⟩);walk_at "pp";refine eS rfl (by rw [LZ];show _<=2 ^ 24;simp only [L3,Mo];omega) ?_;walk_at "pp";refine eS rfl (by rw [LY,LZ];show _<=2 ^ 24;simp only [L3,Mo];omega) ?_;walk_at "pp";rw [MM];exact q2
     cases up with
     | false =>
      obtain ⟨c,r,ec,hc⟩:=yF hs;walk_at "pp";refine fP rfl (show atI s.cps.toList 0=some c by rw [ec];exact atz) ?_;walk_at "pp";refine fF (show PyData.eqv (.str ⟨#[c]⟩) (.str "^")=false from (eq1 c 94).trans (Mb hc)) ?_;walk_at "pp";exact rest
     | true =>
      walk_at "pp";refine fP rfl (show atI (("^" : Str)++s).cps.toList 0=some 94 by rw [qT];exact atz) ?_;walk_at "pp";rw [By];exact rest
    cases hi with
    | none =>
     walk_at "pp";exact rest
    | some g =>
     walk_at "pp";refine jA rfl (xg (cp (Int.le_trans h0 hh.1) hh.2)) ?_;walk_at "pp";exact rest
def PcL:List (List Nat)->List Nat->Prop
 | [],_=>True
 | t :: ts,L=>AG t (ts.flatten++L)/\PcL ts L
theorem rL:∀ {ts:List (List Nat)},PcL ts []->Pcs ts
 | [],_=>trivial
 | t :: ts,h=>⟨by have:=h.1;rwa [MS] at this,rL h.2⟩
theorem gr:∀ {A B:List (List Nat)} {L:List Nat},PcL A (B.flatten++L)->PcL B L->PcL (A++B) L
 | [],_,_,_,h=>h
 | t :: A,B,L,h,g=>⟨by show AG t ((A++B).flatten++L);rw [List.flatten_append,MM];exact h.1,gr h.2 g⟩
theorem sr:∀ (n:Nat) (L:List Nat),PcL (List.replicate n [32]) L
 | 0,_=>trivial
 | n+1,L=>⟨Ag,sr n L⟩
theorem dQ (A B:List (List Nat)):tkS (A++B)=tkS A++tkS B:=by unfold tkS;rw [List.filter_append,Mw]
theorem sZ:∀ n,tkS (List.replicate n [32])=[]
 | 0=>rfl
 | n+1=>sZ n
theorem Jx {t:List Nat} (h:Tk t):t≠[32]:=fun e=>by
 obtain ⟨_,c,r,rfl,h⟩:=h;injection e with e1 e2;subst e1;rcases h with h | h | h | h
 ·exact absurd h.1 (by decide)
 ·exact absurd h.1 (by decide)
 ·rcases h.1 with z | z <;> exact absurd z (by decide)
 ·exact h.2.2.2.2.1 rfl
theorem nP {s:Str} (h:Tk s.cps.toList):tkS [s.cps.toList]=[s]:=by
 unfold tkS;rw [List.filter_cons_of_pos (by simp [Jx h])];rfl
theorem gh:∀ n,(List.replicate n [32]).flatten=List.replicate n 32
 | 0=>rfl
 | n+1=>by rw [List.replicate_succ,List.flatten_cons,gh n];rfl
theorem nN (n:Nat):(oq " " n).cps.toList=List.replicate n 32:=gh n
theorem mY (n:Nat):(oq " " n).length=n:=by rw [<- aq,nN,Nv]
def Aft (p:Option Str) (L:List Nat):Prop:=∀ t,p=some t->∀ f R,L=f :: R->lV (t.cps.toList.getLast?.getD 0) f=false
def Cut (Z:Str) (ts:List (List Nat)) (TK:List Str):Prop:=Z.cps.toList=ts.flatten/\tkS ts=TK/\∀ L,Aft TK.getLast? L->PcL ts L
theorem Af {p:Option Str} {L:List Nat} {n:Nat} (h:n=0->Aft p L):Aft p (List.replicate n 32++L):=by
 cases n with
 | zero=>exact h rfl
 | succ n =>
  intro t _ f R e;injection e with e _;subst e;unfold lV;rw [show chB 32=false by decide,show cP 32=false by decide];simp
theorem LC (n:Nat):Cut (oq " " n) (List.replicate n [32]) []:=⟨by rw [nN,gh],sZ n,fun L _=>sr n L⟩
theorem Cut.add {Z:Str} {ts:List (List Nat)} {TK:List Str} {t:Str} {n:Nat} (h:Cut Z ts TK) (ht:Tk t.cps.toList) (hg:n=0->∀ L,Aft TK.getLast? (t.cps.toList++L)):Cut (Z++oq " " n++t) (ts++(List.replicate n [32]++[t.cps.toList])) (TK++[t]):=by
 refine ⟨?_,?_,fun L hL=>?_⟩
 ·rw [bo,bo,nN,h.1];simp [gh]
 ·rw [dQ,dQ,sZ,h.2.1,nP ht];rfl
 ·rw [List.getLast?_concat] at hL;refine gr ?_ (gr (sr _ _) ⟨?_,trivial⟩)
  ·rw [List.flatten_append,gh,MM];refine h.2.2 _ (Af fun e=>?_);have:=hg e L;simpa using this
  ·rw [List.flatten_nil,Nb];exact tD ht (hL t rfl)
theorem Cut.fin {Z:Str} {ts:List (List Nat)} {TK:List Str} (h:Cut Z ts TK) (n:Nat):Pcs (ts++List.replicate n [32]):=by
 refine rL (gr (h.2.2 _ ?_) (sr _ _));rw [gh];exact Af fun _ t _ f R e=>by cases e
theorem Cut.read {Z:Str} {ts:List (List Nat)} {TK:List Str} (h:Cut Z ts TK) (n:Nat):(Z++oq " " n).cps.toList=(ts++List.replicate n [32]).flatten/\tkS (ts++List.replicate n [32])=TK:=⟨by rw [bo,nN,h.1,List.flatten_append,gh],by rw [dQ,sZ,MS,h.2.1]⟩
abbrev q39:Str := "'"
abbrev q45:Str := "-"
theorem LP (c:Nat):decide (c∈(abc++q39).cps.toList)=(chB c||decide (c=39)):=by
 rw [bo,<-lr c,show q39.cps.toList=[39] from rfl];by_cases h:c∈abc.cps.toList <;> simp [h]
theorem LH (c:Nat):decide (c∈(dgs++q45).cps.toList)=(cP c||decide (c=45)):=by
 rw [bo,<-kE c,show q45.cps.toList=[45] from rfl];by_cases h:c∈dgs.cps.toList <;> simp [h]
theorem wN {l:List Nat} (h:l≠[]):atI l (-1)=some (l.getLast?.getD 0):=by
 have hl:=List.length_pos_iff.mpr h;unfold atI ixN;rw [Mn (by decide),Me (by omega),show ((-1:Int)+l.length).toNat=l.length - 1 by omega];show l[l.length - 1]?=_;rw [<- List.getLast?_eq_getElem?,List.getLast?_eq_some_getLast h];rfl
theorem Bn {a b:Str} {f:Nat} {r:List Nat} {Q:PR->List PyData->Prop} (ha:a.cps.toList≠[]) (hb:b.cps.toList=f :: r) (q:Q (.dat (.bool (lV (a.cps.toList.getLast?.getD 0) f))) []):WF rh [.str a,.str b] Q:=by
 have h1:=wN ha;have h2:atI b.cps.toList 0=some f:=by rw [hb];exact atz
 generalize a.cps.toList.getLast?.getD 0=l at h1 q;unfold lV at q;refine cn rfl ?_;unfold xr;with_reducible refine og ?_
 walk_at "pmz";with_reducible refine og ?_
 walk_at "pm";refine fP rfl h1 ?_;walk_at "pm";refine p7 LP rfl ?_;have tail:∀ {e:En} {P:RV->En->Prop},e=([.dat (.str a),.dat (.str b),.dat (.str abc),.dat (.str dgs)]:En)->P (.dat (.bool ((cP l||decide (l=45))&&cP f))) e->WE gds (.mw (p2 inP (p2 ixP (vr 0) (p1 Gw (ci 1))) (p2 bt (vr 3) (L2.cs "-" fi._proof_1))) (p2 inP (p2 ixP (vr 1) (ci 0)) (vr 3))) e P:=by
  intro e P ee hP;subst ee;walk_at "pm";refine fP rfl h1 ?_;walk_at "pm";refine p7 LH rfl ?_;cases z:(cP l||decide (l=45)) with
  | false =>
   rw [z] at hP;walk_at "pm";exact hP
  | true =>
   rw [z] at hP;walk_at "pm";refine fP rfl h2 ?_;walk_at "pm";refine p7 kE rfl ?_;exact hP
 cases z:(chB l||decide (l=39)) with
 | false =>
  rw [z] at q;refine ⟨_,rfl,?_⟩;refine fF rfl ?_;refine ⟨_,rfl,?_⟩;refine fF rfl ?_;refine tail rfl ?_;walk_at "pm";exact q
 | true =>
  rw [z] at q;walk_at "pm";refine fP rfl h2 ?_;walk_at "pm";refine p7 lr rfl ?_;cases y:chB f with
  | true =>
   rw [y] at q;walk_at "pm";exact q
  | false =>
   rw [y] at q;refine ⟨_,rfl,?_⟩;refine fF rfl ?_;refine tail rfl ?_;walk_at "pm";exact q
theorem EZ {avs:List AV} {e:En} {Q:RV->En->Prop} (h:WPr mS avs e Q):WPr mS avs e Q:=h
theorem EN {e:En} {a:AV} {b:Bool} {Q:RV->En->Prop} (h1:aK e [a]=some [.bool b]) (q:∀ w:Int,0<=w->w<=1->(b=true->w=1)->Q (.dat (.int w)) e):WPr mS [a] e Q:=by
 cases b
 ·exact ⟨_,.dat (.int 0),h1,rfl,q 0 (by decide) (by decide) fun z=>by cases z⟩
 ·exact ⟨_,.dat (.int 1),h1,rfl,q 1 (by decide) (by decide) fun _=>rfl⟩
theorem xE {TK:List Str} {i:Nat} {t:Str} (h:TK[i]?=some t):(TK.take (i+1)).getLast?=some t:=by rw [<- Nq h,List.getLast?_concat]
theorem FK {t:List Nat} (h:Tk t):∃ f r,t=f :: r:=by
 obtain ⟨_,c,r,e,_⟩:=h;exact ⟨c,r,e⟩
theorem BV {cs:List Int} {B:Nat} {pn:PyData} {TK:List Str} {Q:PR->List PyData->Prop} (hP:bw cs B pn) (hb:B < 2 ^ 57) (hT:TkA TK) (hl:TK.length<=640) (q:∀ Z ts ps pn',bw cs (B+2+TK.length) pn'->Cut Z ts TK->Z.length<=66*TK.length+3->Q (.dat (.tuple [.str Z,.list ps])) [pn']):WF rn [pn,.list (TK.map .str)] Q:=by
 refine cn rfl ?_;unfold vP;walk_at "d";intro v pn1 hP1 v0 v1;walk_at "n";walk_at "pp";obtain ⟨d,hd,ed⟩:=atV (xs:=([.int 1,.int 2,.int 4]:List PyData)) v0 v1;have hc:∃ m:Int,d=.int m/\1<=m/\m<=4:=by
  simp only [Mc,ML,M7] at hd;rcases hd with rfl | rfl | rfl <;> exact ⟨_,rfl,by omega,by omega⟩
 obtain ⟨m,rfl,m0,m1⟩:=hc;refine lN rfl ed ?_;clear ed hd;walk_at "d";intro u pn2 hP2 u0 u1;walk_at "n";walk_at "pp";refine xA rfl u0 (by omega) (by decide) ?_;walk_at "pp";refine ⟨⟨by omega,by rw [LZ];omega⟩,?_⟩;refine iQ (fun i e=>∃ (Z:Str) (ts:List (List Nat)) (ps:List PyData) (pn':PyData) (x y:Sl),Cut Z ts (TK.take i)/\Z.length<=66*i+3/\ps.length=i/\bw cs (B+2+i) pn'/\soft x/\soft y/\e=([.ino pn',.dat (.list (TK.map .str)),.dat (.int m),.dat (.str Z),.own (.list ps),x,y]:En)) ⟨_,_,[],pn2,.un,.un,LC u.toNat,by rw [mY];omega,rfl,hP2,rN,rN,rfl⟩ ?_ ?_
 ·rintro i d e hd ⟨Z,ts,ps,pn',x,y,hC,hz,hps,hP',hx,hy,rfl⟩;obtain ⟨rfl,hi⟩:=iI hd;have hi:i < TK.length:=by rw [LZ] at hi;omega
  have ht:TK[i]?=some TK[i]:=L6 hi;generalize TK[i]=t at ht;have hk:=hT t (My ht);have atm:atI (TK.map PyData.str) (i:Int)=some (.str t):=fo (by rw [Mm,ht];rfl);have tl:t.length<=61:=by rw [<- aq];exact hk.1
  refine y4 (m4 rfl hx) ?_;walk_at "d";intro n pn3 hP3 n0 n1;walk_at "n";walk_at "q";with_reducible refine cc fun N eN=>?_
  have rest:∀ j:Nat,j<=4->(0 < i->j=0->∀ L,Aft (TK.take i).getLast? (t.cps.toList++L))->N ([.ino pn3,.dat (.list (TK.map .str)),.dat (.int m),.dat (.str Z),.own (.list ps),.dat (.int (i:Int)),.dat (.int (j:Int))]:En):=by
   intro j hj hg;rw [eN];with_reducible refine og ?_
   repeat ((fail_if_success (with_reducible refine EZ ?_));walk_at "p")
   refine EN rfl fun w w0 w1 hw=>?_;walk_at "p";refine AF rfl (by omega) (by omega) ?_;obtain ⟨r,hr,r4,rj⟩:∃ r:Nat,(j:Int)*w=r/\r<=4/\(0 < i->r=j):=by
    rcases (by omega:w=0\/w=1) with rfl | rfl
    ·exact ⟨0,by simp,by omega,fun z=>by have:=hw (L7 (by omega));omega⟩
    ·exact ⟨j,by simp,hj,fun _=>rfl⟩
   rw [hr];have hg2:r=0->∀ L,Aft (TK.take i).getLast? (t.cps.toList++L):=fun z=>by
    rcases Nat.eq_zero_or_pos i with z2 | z2
    ·subst z2;intro L t' e;cases e
    ·exact hg z2 (by rw [<- rj z2];exact z)
   walk_at "pp";refine xA rfl (by omega) (by omega) (by decide) ?_;walk_at "pp";refine cv rfl (by rw [sv];show _+_*1<=2 ^ 24;omega) ?_;walk_at "pp";refine jK rfl (by show _ < 2 ^ 24;omega) rfl ?_;walk_at "pp";refine lN rfl atm ?_;walk_at "pp";have ml:(oq " " (r:Int).toNat).length=r:=mY r;refine cv rfl (by rw [aB];show _<=2 ^ 24;omega) ?_;walk_at "pp";have C2:=Cut.add hC hk hg2;rw [Nq ht] at C2;exact ⟨_,_,_,pn3,_,_,C2,by rw [aB,aB,mY];omega,by rw [LY,hps];rfl,hP3,gm,gm,rfl⟩
  have blank:n≠0->N ([.ino pn3,.dat (.list (TK.map .str)),.dat (.int m),.dat (.str Z),.own (.list ps),.dat (.int (i:Int)),.dat (.int n)]:En):=fun z=>by
   obtain ⟨j,rfl⟩:∃ j:Nat,n=j:=⟨n.toNat,by omega⟩;exact rest j (by omega) fun _ z2=>absurd z2 (by omega)
  cases i with
  | zero =>
   obtain ⟨j,rfl⟩:∃ j:Nat,n=j:=⟨n.toNat,by omega⟩;walk_at "pp";exact rest j (by omega) fun z=>absurd z (by omega)
  | succ i =>
   obtain ⟨t0,ht0⟩:∃ t0,TK[i]?=some t0:=⟨TK[i],L6 (by omega)⟩;have hk0:=hT t0 (My ht0);have at0:atI (TK.map PyData.str) (((i+1:Nat):Int) - 1)=some (.str t0):=by
    rw [show (((i+1:Nat):Int) - 1)=(i:Int) by omega];exact fo (by rw [Mm,ht0];rfl)
   obtain ⟨f,r,ef⟩:=FK hk;obtain ⟨f0,r0,ef0⟩:=FK hk0;walk_at "pp";refine dN (L7 (by omega)) ?_;walk_at "pp";refine gc (fun e1=>?_) (fun e1=>?_)
   ·have e1:n=0:=nq e1;subst e1;walk_at "pp";refine lN rfl at0 ?_;walk_at "pp";refine lN rfl atm ?_;walk_at "pp";refine ab (is:=[]) rfl rfl (Bn (by rw [ef0];exact MT _ _) ef ⟨rfl,?_⟩);cases g:lV (t0.cps.toList.getLast?.getD 0) f with
    | true =>
     walk_at "pp";exact rest 1 (by omega) fun _ z=>absurd z (by omega)
    | false =>
     walk_at "pp";refine rest 0 (by omega) fun _ _ L=>?_;rw [xE ht0];intro t' e f' R e';injection e with e;subst e;rw [ef] at e';injection e' with e' _;rw [<- e'];exact g
   ·walk_at "pp";exact blank fun z=>by subst z;cases e1
 ·rintro e ⟨Z,ts,ps,pn',x,y,hC,hz,hps,hP',hx,hy,rfl⟩;rw [k6,LZ] at hC hz hP';have e1:((TK.length:Nat):Int).toNat=TK.length:=NK _;rw [e1] at hC hz hP';rw [M9] at hC;walk_at "pp";exact q Z ts ps pn' hP' hC hz
theorem wO:(", " : Str).length=2:=by decide
theorem br1:("(" : Str).length=1:=by decide
theorem br2:(")" : Str).length=1:=by decide
theorem emp (x:Str):Str.empty++x=x:=gv (by rw [bo];rfl)
def Pl (f:Nat):Prop:=chB f=false/\cP f=false
theorem xf {p:Option Str} {f:Nat} {R:List Nat} (h:Pl f):Aft p (f :: R):=fun t _ g S e=>by
 injection e with e _;subst e;unfold lV;rw [h.1,h.2];simp
theorem K0:Pl 40:=⟨by decide,by decide⟩
theorem Lx:Pl 41:=⟨by decide,by decide⟩
theorem Lp:Pl 44:=⟨by decide,by decide⟩
theorem sR {c:Nat} {L:List Nat} (h:c=40\/c=41\/c=44\/c=94):AG [c] L:=by
 rcases h with rfl | rfl | rfl | rfl <;> exact ⟨_,[],rfl,.inr (.inr (.inr ⟨by decide,by decide,by decide,by decide,rfl⟩))⟩
def Ki (l:List Nat) (ts:List (List Nat)) (TK:List Str):Prop:=l=ts.flatten/\tkS ts=TK/\∀ L,Aft TK.getLast? L->PcL ts L
def Sn (Z:Str) (TK:List Str):Prop:=(∃ ts,Cut Z ts TK)/\Z.length<=62*TK.length
theorem i8 {t:Str} (h:Tk t.cps.toList):Sn t [t]:=⟨⟨[t.cps.toList],by simp,nP h,fun L hL=>⟨tD h (hL t rfl),trivial⟩⟩,by have:=h.1;rw [aq] at this;show _<=62*1;omega⟩
theorem B7 {A t:Str} {TA:List Str} (h:Sn A TA) (ht:Tk t.cps.toList):Sn (A ++ " " ++ t) (TA++[t]):=by
 obtain ⟨⟨ts,hC⟩,hl⟩:=h;refine ⟨⟨_,Cut.add (n:=1) hC ht fun z=>by cases z⟩,?_⟩;have:=ht.1;rw [aq] at this;rw [aB,aB,LY,Mz,show (" " : Str).length=1 by decide];omega
theorem Jd {up:Bool} {s:Str} (h:Sh s):Sn (stS up s) (stT up s):=by
 cases up with
 | false=>exact i8 (lR h)
 | true =>
  refine ⟨⟨[[94],s.cps.toList],?_,?_,fun L hL=>⟨sR (by simp),tD (lR h) (hL s rfl),trivial⟩⟩,?_⟩
  ·show (("^" : Str)++s).cps.toList=_;rw [qT];simp
  ·show tkS ([[94]]++[s.cps.toList])=[("^" : Str)]++[s];rw [dQ,nP (lR h)];rfl
  ·show (("^" : Str)++s).length<=62*2;rw [aB,show ("^" : Str).length=1 by decide];have:=h.2.2;omega
theorem sV {w J:Str} {TJ:List Str} (hw:Tk w.cps.toList) (h:Sn J TJ):Sn (w++("(" : Str)++J++(")" : Str)) ([w,kO]++(TJ++[kC])):=by
 obtain ⟨⟨ts,hC⟩,hl⟩:=h;refine ⟨⟨[w.cps.toList,[40]]++(ts++[[41]]),?_,?_,fun L hL=>?_⟩,?_⟩
 ·rw [bo,bo,bo,hC.1,show ("(" : Str).cps.toList=[40] from rfl,show (")" : Str).cps.toList=[41] from rfl];simp
 ·rw [show ([w.cps.toList,[40]]:List (List Nat))=[w.cps.toList]++[[40]] from rfl,dQ,dQ,dQ,nP hw,hC.2.1];rfl
 ·refine ⟨tD hw fun f R e=>xf (p:=some w) K0 w rfl f R e,sR (by simp),?_⟩;exact gr (A:=ts) (B:=[[41]]) (show PcL ts (41 :: L) from hC.2.2 _ (xf Lx)) ⟨sR (by simp),trivial⟩
 ·have:=hw.1;rw [aq] at this;rw [aB,aB,aB,br1,br2,LY,LY];show _<=62*(2+(TJ.length+1));omega
noncomputable def u4 (sp:List Nat) (f:Bool):List Str->List Nat
 | []=>[]
 | S :: Ss=>(if f then [] else sp)++(S.cps.toList++u4 sp false Ss)
theorem tW (s:Str):∀ (ps:List Str) (acc:Array Nat),(ps.foldl (fun acc p=>acc++s.cps++p.cps) acc).toList=acc.toList++u4 s.cps.toList false ps
 | [],acc=>by simp [u4]
 | p :: ps,acc=>by
  rw [NR,tW s ps];simp [u4]
theorem zf (s:Str) (Ss:List Str):(Txt.join s Ss).cps.toList=u4 s.cps.toList true Ss:=by
 cases Ss with
 | nil=>rfl
 | cons x r =>
  show (r.foldl (fun acc p=>acc++s.cps++p.cps) x.cps).toList=_;rw [tW];rfl
def SnL:List Str->List (List Str)->Prop
 | [],[]=>True
 | Z :: Zs,T :: Ts=>Sn Z T/\T≠[]/\SnL Zs Ts
 | _,_=>False
theorem sJ {Z:Str} {T:List Str} (h:Sn Z T) (hT:T≠[]):∀ {Zs:List Str} {Ts:List (List Str)},SnL Zs Ts->SnL (Zs++[Z]) (Ts++[T])
 | [],[],_=>⟨h,hT,trivial⟩
 | _ :: _,_ :: _,⟨a,b,c⟩=>⟨a,b,sJ h hT c⟩
theorem zX {α:Type} {A B:List α} (h:B≠[]):(A++B).getLast?=B.getLast?:=by
 rw [List.getLast?_append,List.getLast?_eq_some_getLast h];rfl
theorem FR {T:List Str} {Ts:List (List Str)}:aP false (T :: Ts)≠[]:=by simp [aP]
theorem x8:∀ (Zs:List Str) (Ts:List (List Str)) (f:Bool),SnL Zs Ts->∃ ts,Ki (u4 [44,32] f Zs) ts (aP f Ts)
 | [],[],f,_=>⟨[],rfl,rfl,fun _ _=>trivial⟩
 | Z :: Zs,T :: Ts,f,⟨⟨⟨tz,hz⟩,_⟩,hT,h⟩=>by
  obtain ⟨ts,hr⟩:=x8 Zs Ts false h;have key:∃ ts',Ki (Z.cps.toList++u4 [44,32] false Zs) ts' (T++aP false Ts):=by
   refine ⟨tz++ts,?_,by rw [dQ,hz.2.1,hr.2.1],fun L hL=>?_⟩
   ·rw [hz.1,hr.1,List.flatten_append]
   ·match Zs,Ts,h,hr,hL with
    | [],[],_,hr,hL =>
     have hL:Aft (T++[]).getLast? L:=hL;rw [MS] at hL;have e0:[]=ts.flatten:=hr.1;refine gr ?_ (hr.2.2 L fun t e=>by cases e);rw [<- e0];exact hz.2.2 L hL
    | A :: Zs,S :: Ts,_,hr,hL =>
     rw [zX FR] at hL;refine gr (hz.2.2 _ ?_) (hr.2.2 L hL);rw [<- hr.1];exact xf Lp
  obtain ⟨ts',k1,k2,k3⟩:=key;have ne:T++aP false Ts≠[]:=fun z=>hT (List.append_eq_nil_iff.mp z).1;cases f with
  | true=>exact ⟨ts',k1,k2,k3⟩
  | false =>
   refine ⟨[44] :: [32] :: ts',?_,?_,fun L hL=>⟨sR (by simp),Ag,k3 L ?_⟩⟩
   ·show [44,32]++(Z.cps.toList++u4 [44,32] false Zs)=_;rw [k1];rfl
   ·show tkS ([[44],[32]]++ts')=[kM]++(T++aP false Ts);rw [dQ,k2];rfl
   ·have hL:Aft ([kM]++(T++aP false Ts)).getLast? L:=hL
    rwa [zX ne] at hL
theorem iP:∀ (Zs:List Str) (Ts:List (List Str)) (f:Bool),SnL Zs Ts->(Zs.map (·.length)).sum+2*Zs.length<=62*(aP f Ts).length+(if f then 2 else 0)
 | [],[],f,_=>by simp
 | Z :: Zs,T :: Ts,f,⟨⟨_,hl⟩,hT,h⟩=>by
  have ih:=iP Zs Ts false h;rw [Mn (by decide)] at ih;show ((Z.length :: Zs.map (·.length)).sum+2*(Zs.length+1))<=62*((if f then [] else [kM])++(T++aP false Ts)).length+(if f then 2 else 0);rw [List.sum_cons,LY,LY];cases f
  ·rw [Mn (by decide),Mn (by decide),Mz];omega
  ·rw [Me rfl,Me rfl,Mo];omega
theorem xh:∀ (Zs:List Str) (f:Bool),(u4 [44,32] f Zs).length+(if f then 2 else 0)<=(Zs.map (·.length)).sum+2*Zs.length+(if f then 2 else 0)
 | [],f=>by simp [u4]
 | Z :: Zs,f=>by
  have ih:=xh Zs false;rw [Mn (by decide)] at ih;show ((if f then [] else [44,32])++(Z.cps.toList++u4 [44,32] false Zs)).length+_<=(Z.length :: Zs.map (·.length)).sum+2*(Zs.length+1)+_;rw [List.sum_cons,LY,LY,aq];cases f
  ·show 2+(Z.length+_)+_<=_;simp only [Mn (show ¬(false=true) by decide)];omega
  ·show 0+(Z.length+_)+_<=_;simp only [Me];omega
theorem nt {Zs:List Str} {Ts:List (List Str)} (h:SnL Zs Ts):Sn (Txt.join ", " Zs) (aP true Ts):=by
 obtain ⟨ts,hC⟩:=x8 Zs Ts true h;have e:(Txt.join ", " Zs).cps.toList=u4 [44,32] true Zs:=zf ", " Zs;refine ⟨⟨ts,by rw [e];exact hC.1,hC.2.1,hC.2.2⟩,?_⟩;rw [<- aq,e];cases Zs with
 | nil=>exact MV _
 | cons Z Zs =>
  cases Ts with
  | nil=>exact h.elim
  | cons T Ts =>
   have h1:=iP Zs Ts false h.2.2;have h2:=xh Zs false;rw [Mn (by decide)] at h1 h2;have h3:=h.1.2;show ([]++(Z.cps.toList++u4 [44,32] false Zs)).length<=62*([]++(T++aP false Ts)).length;rw [Nb,Nb,LY,LY,aq];omega
theorem Dv (n:Nat):(aM n).ms=[.dat]:=by cases n <;> rfl
theorem w_j {r:RV} {avs:List AV} {e:En} {ss:List Str} {Q:RV->En->Prop} (h1:r.view e=some (.str ", ")) (h2:aK e avs=some [.list (ss.map .str)]) (h3:(ss.map (·.length)).sum+2*ss.length<=16777216) (q:Q (.dat (.str (Txt.join ", " ss))) e):AM joinM r avs e Q :=
 Av h1 h2 (by simp only [eg,MQ];rw [wO];omega) q
theorem La {r:RV} {avs:List AV} {e:En} {ss:List Str} {Q:RV->En->Prop} (h1:r.view e=some (.str ", ")) (h2:aK e avs=some [.tuple (ss.map .str)]) (h3:(ss.map (·.length)).sum+2*ss.length<=16777216) (q:Q (.dat (.str (Txt.join ", " ss))) e):AM joinM r avs e Q:=by
 have h3:eg ", " ss=true:=by simp only [eg,MQ];rw [wO];omega
 refine ⟨_,_,.dat (.str (Txt.join ", " ss)),h1,h2,?_,q⟩;show (match strsOf (ss.map .str) with | some ss=>if eg ", " ss=true then some (PR.dat (.str (Txt.join ", " ss))) else none | none=>none)=_;rw [gf];simp only;rw [Me h3]
theorem xk {e:En} {x y:AV} {w z:Str} {Q:RV->En->Prop} (h1:aK e [x,y]=some [.str (w ++ " "),.str z]) (hw:w.length<=100) (hz:z.length<=100) (q:Q (.dat (.str (w ++ " " ++ z))) e):WPr bt [x,y] e Q :=
 cv h1 (by rw [aB,show (" " : Str).length=1 by decide];show _<=2 ^ 24;omega) q
theorem zi {w J:Str} {e:En} {R:RV->En->Prop} {h1:(Str.ofString "(").length<=sizeLine} {h2:(Str.ofString ")").length<=sizeLine} (e1:e[1]?=some (.dat (.str w))) (e2:e[2]?=some (.dat (.str J))) (hw:w.length<=100) (hJ:J.length<=99000) (r:R (.dat (.str (w++("(" : Str)++J++(")" : Str)))) e):WE gds (.fst (.cons (p1 fvP (vr 1)) (.cons (L2.cs "(" h1) (.cons (p1 fvP (vr 2)) (.cons (L2.cs ")" h2) .nil))))) e R:=by
 refine Lr (zU (AJ (vN (w_var e1 (Bu ⟨_,_,rfl,rfl,_,rfl,?_,?_⟩)))))
 ·rw [emp];show _<=2 ^ 24;omega
 rw [emp];refine zU (AO ⟨_,rfl,?_,?_⟩)
 ·show (w++("(" : Str)).length<=2 ^ 24;rw [aB,br1];omega
 refine zU (AJ (vN (w_var e2 (Bu ⟨_,_,rfl,rfl,_,rfl,?_,?_⟩))))
 ·show (w++("(" : Str)++J).length<=2 ^ 24;rw [aB,aB,br1];omega
 refine zU (AO ⟨_,rfl,?_,?_⟩)
 ·show (w++("(" : Str)++J++(")" : Str)).length<=2 ^ 24;rw [aB,aB,aB,br1,br2];omega
 refine JD ?_ r;show (w++("(" : Str)++J++(")" : Str)).length<=2 ^ 24;rw [aB,aB,aB,br1,br2];omega
def uk (n:Nat):Prop:=∀ {fr:Bool} {d:PyData} {TK:List Str} {k:Nat} {Q:PR->List PyData->Prop},Fr n fr d d TK k->k<=40->(∀ Z,Sn Z TK->Q (.dat (.str Z)) [])->WF (aM n) [d] Q
theorem o7 {P:PyData->PyData->List Str->Nat->Prop}:∀ {us vs:List PyData} {Ts:List (List Str)} {k i:Nat} {u v:PyData},kY P us vs Ts k->us[i]?=some u->vs[i]?=some v->∃ T j,P u v T j/\Ts[i]?=some T/\j<=k
 | [],[],[],_,_,_,_,_,h,_=>by cases h
 | u :: us,v :: vs,T :: Ts,k,0,x,y,⟨j,m,hu,hA,e⟩,h,h2=>by
  cases h;cases h2;exact ⟨T,j,hu,rfl,by omega⟩
 | u :: us,v :: vs,T :: Ts,k,i+1,x,y,⟨j,m,hu,hA,e⟩,h,h2=>by
  obtain ⟨S,b,h1,h2,h3⟩:=o7 hA (i:=i) h h2;exact ⟨S,b,h1,h2,by omega⟩
theorem qY {n:Nat} (ih:uk n) {fr:Bool} {us:List PyData} {Ts:List (List Str)} {j:Nat} {lk:Option Nat} {e1:En} {Q:RV->En->Prop} (hA:kY (Fr n fr) us us Ts j) (hj:j<=40) (q:∀ Zs,SnL Zs Ts->Q (.frs (.list (Zs.map .str))) e1):CC (fy (dT gds XT.yes) (dE gds (XE.call (aM n) (XA.cons (vr 0) XA.nil)))) [] us lk e1 Q:=by
 refine dY (fun i ys ec=>∃ Zs:List Str,ys=Zs.map .str/\SnL Zs (Ts.take i)/\ec=[]) ⟨[],rfl,trivial,rfl⟩ ?_ ?_
 ·rintro i d ys ec hd ⟨Zs,rfl,hZ,rfl⟩;obtain ⟨T,a,h1,h2,h3⟩:=o7 hA hd hd;refine je ?_;walk_at "pp";refine bI (Dv n) (is:=[]) rfl rfl (ih h1 (by omega) fun Z hZ'=>⟨rfl,?_⟩);obtain ⟨_,_,e,_⟩:=nS h1;exact ⟨_,rfl,Zs++[Z],by rw [Mw];rfl,by rw [<- Nq h2];exact sJ hZ' (by rw [e];exact MT _ _) hZ,rfl⟩
 ·rintro ys ec ⟨Zs,rfl,hZ,rfl⟩;rw [rg hA,M9] at hZ;exact q Zs hZ
theorem An:∀ (bs:List Str),(∀ b∈bs,Sh b)->SnL bs (bs.map fun b=>[b])
 | [],_=>trivial
 | b :: bs,h=>⟨i8 (lR (h b Mj)),MT _ _,An bs fun x hx=>h x (L8 _ hx)⟩
theorem Jw {F:Fn} {bs:List Str} {Q:PR->List PyData->Prop} (hB:Bnd bs) (q:∀ J,Sn J (aP true (bs.map fun b=>[b]))->Q (.dat (.str J)) []):WF (bg F) [.tuple [.str "closed", .tuple (bs.map .str)]] Q:=by
 have hS:=An bs hB.1;have h1:=iP _ _ true hS;have h2:=sQ bs true;have h3:=hB.2.2.1;rw [Me rfl] at h1;refine cn rfl ?_;unfold bM;walk_at "pp";refine La rfl rfl (by omega) ?_;walk_at "pp";exact q _ (nt hS)
theorem Ip {n:Nat} (ih:uk n) {fr:Bool} {w:Str} {us:List PyData} {Ts:List (List Str)} {j:Nat} {Q:PR->List PyData->Prop} (hw:Lst w) (hA:kY (Fr n fr) us us Ts j) (hj:j<=40) (hl:us.length<=6) (hr:(aP true Ts).length<=700) (q:∀ J,Sn J (aP true Ts)->Q (.dat (.str J)) []):WF (bg (aM n)) [.tuple [.str w,.tuple us]] Q:=by
 refine cn rfl ?_;unfold bM;rcases hw with rfl | rfl | rfl | rfl
 all_goals
  walk_at "pp";refine ab (is:=[]) rfl rfl ⟨_,_,rfl,rfl,?_⟩;refine ⟨us,rfl,?_⟩;refine qY ih hA hj fun Zs hZ=>?_;have h1:=iP _ _ true hZ;rw [Me rfl] at h1;walk_at "pp";refine eS rfl (by rw [LZ];show 0+_<=2 ^ 24;omega) ?_;walk_at "pp";refine w_j (ss:=Zs) rfl rfl (by omega) ?_;walk_at "pp";exact q _ (nt hZ)
theorem IC {n:Nat} (ih:uk n) {fr:Bool} {u:PyData} {T:List Str} {j:Nat} {Q:PR->List PyData->Prop} (hu:Fr n fr u u T j) (hj:j<=40) (hr:T.length<=700) (q:∀ J,Sn J T->Q (.dat (.str J)) []):WF (bg (aM n)) [.tuple [.str "not", u]] Q:=by
 have eT:aP true [T]=T:=by simp [aP]
 refine cn rfl ?_;unfold bM;walk_at "pp";refine ab (is:=[]) rfl rfl ⟨_,_,rfl,rfl,?_⟩;refine ⟨[u],rfl,?_⟩;refine qY (us:=[u]) (Ts:=[T]) (j:=j) ih ⟨j,0,hu,rfl,rfl⟩ hj fun Zs hZ=>?_;have h1:=iP _ _ true hZ;rw [Me rfl,eT] at h1;walk_at "pp";refine eS rfl (by rw [LZ];show 0+_<=2 ^ 24;omega) ?_;walk_at "pp";refine w_j (ss:=Zs) rfl rfl (by omega) ?_;walk_at "pp";exact q _ (by have:=nt hZ;rwa [eT] at this)
theorem CB {lo:Int} {hi:Option Int} {Q:PR->List PyData->Prop} (h0:0<=lo) (hh:yC lo hi) (q:Q (.dat (.str (hiT hi))) []):WF fA [hiD hi] Q:=by
 refine cn rfl ?_;unfold jh;cases hi with
 | none =>
  walk_at "pp";exact q
 | some g =>
  walk_at "pp";refine jA rfl (xg (cp (Int.le_trans h0 hh.1) hh.2)) ?_;walk_at "pp";exact q
theorem Hx {n:Nat} (ih:uk n) {w:Str} {lo:Int} {hi:Option Int} {up:Bool} {s:Str} {u:PyData} {T:List Str} {j:Nat} {Q:PR->List PyData->Prop} (hw:Wlk w) (h0:0<=lo) (h1:lo<=60) (hh:yC lo hi) (hs:Sh s) (hu:Fr n false u u T j) (hj:j<=40) (hr:(aP true [[aj lo],[hiT hi],stT up s,T]).length<=700) (q:∀ J,Sn J (aP true [[aj lo],[hiT hi],stT up s,T])->Q (.dat (.str J)) []):WF (bg (aM n)) [.tuple [.str w,.int lo,hiD hi,.str (stS up s),u]] Q:=by
 have kt:Tk (hiT hi).cps.toList:=by
  cases hi with
  | none=>exact u5 (.inr (.inr (.inr (.inl rfl))))
  | some g=>exact k7 (cp (Int.le_trans h0 hh.1) hh.2)
 have hS:stT up s≠[]:=by cases up <;> exact MT _ _
 refine cn rfl ?_;unfold bM;rcases hw with rfl | rfl
 all_goals
  walk_at "pp";refine jA rfl (xg (cp h0 h1)) ?_;walk_at "pp";refine ab (is:=[]) rfl rfl (CB h0 hh ⟨rfl,?_⟩);walk_at "pp";refine ab (is:=[]) rfl rfl ⟨_,_,rfl,rfl,?_⟩;refine ⟨[u],rfl,?_⟩;refine qY (us:=[u]) (Ts:=[T]) (j:=j) ih ⟨j,0,hu,rfl,rfl⟩ hj fun Zs hZ=>?_;have hZ2:SnL ([aj lo,hiT hi,stS up s]++Zs) [[aj lo],[hiT hi],stT up s,T]:=⟨i8 (k7 (cp h0 h1)),MT _ _,i8 kt,MT _ _,Jd hs,hS,hZ⟩;have h9:=iP _ _ true hZ2;rw [Me rfl] at h9;have h8:2*([aj lo,hiT hi,stS up s]++Zs).length<=62*700+2:=by omega
  rw [LY] at h8;walk_at "pp";refine eS rfl (by rw [LZ];show 3+_<=2 ^ 24;omega) ?_;walk_at "pp";refine w_j (ss:=[aj lo,hiT hi,stS up s]++Zs) rfl rfl (by omega) ?_;walk_at "pp";exact q _ (nt hZ2)
theorem iY:∀ n,uk n
 | 0=>fun h=>False.elim h
 | n+1=>by
  rename_i fr d TK k Q;intro h hk q;have ih:uk n:=iY n;have ln:=pR _ _ _ _ _ _ h;refine cn rfl ?_;unfold jd;rcases h with ⟨rfl,_,w,hw,rfl,rfl⟩ | ⟨rfl,_,w,i,hw,hi,rfl,rfl⟩ | ⟨rfl,_,x,T,hx,rfl,rfl⟩ | ⟨rfl,_,s,hs,rfl,rfl⟩ | ⟨rfl,rfl,bs,bs',hB,hp,rfl,e,rfl⟩ | ⟨u,u',T,j,hu,rfl,rfl,e,rfl⟩ | ⟨w,us,us',Ts,j,hw,hA,hl,rfl,rfl,e,rfl⟩ | ⟨rfl,w,lo,hi,up,s,u,u',T,j,hw,h0,h1,hh,hs,hu,rfl,rfl,e,rfl⟩
  ·rcases hw with rfl | rfl | rfl | rfl
   all_goals
    walk_at "pp";refine ab (is:=[]) rfl rfl (bW ⟨rfl,?_⟩);walk_at "pp";exact q _ (i8 (cw (by simp)))
  ·rcases hw with rfl | rfl
   all_goals
    walk_at "pp";refine ab (is:=[]) rfl rfl (bW ⟨rfl,?_⟩);walk_at "pp";refine ab (is:=[]) rfl rfl (jz (.inr (.inl ⟨i,rfl,hi,rfl⟩)) ⟨rfl,?_⟩);walk_at "pp";refine xk rfl (by decide) (by have:=fO hi;omega) ?_;walk_at "pp";exact q _ (B7 (i8 (cw (by simp))) (k7 hi))
  ·walk_at "pp";refine ab (is:=[]) rfl rfl (bW ⟨rfl,?_⟩);walk_at "pp";refine ab (is:=[]) rfl rfl (jz hx ⟨rfl,?_⟩);walk_at "pp";refine xk rfl (by decide) (by have:=mW hx;omega) ?_;walk_at "pp";exact q _ (B7 (i8 (cw (by simp))) (vA hx))
  ·walk_at "pp";refine ab (is:=[]) rfl rfl (bW ⟨rfl,?_⟩);walk_at "pp";refine xk rfl (by decide) (by have:=hs.2.2;omega) ?_;walk_at "pp";exact q _ (B7 (i8 (cw (by simp))) (lR hs))
  ·obtain rfl:bs=bs':=by
    injection e with e;injection e with _ e;injection e with e _;injection e with e;exact List.map_inj_right (fun _ _ z=>by injection z) |>.mp e
   simp only [LY,L3,Mo] at ln;walk_at "pp";refine ab (is:=[]) rfl rfl (bW ⟨rfl,?_⟩);walk_at "pp";refine ab (is:=[]) rfl rfl (Jw hB fun J hJ=>⟨rfl,?_⟩);have hl:=hJ.2;walk_at "pp";refine zi rfl rfl (by decide) (by omega) ?_;walk_at "pp";exact q _ (sV (cw (by simp)) hJ)
  ·obtain rfl:u=u':=by injection e with e;injection e with _ e;injection e
   simp only [LY,L3,Mo] at ln;walk_at "pp";refine ab (is:=[]) rfl rfl (bW ⟨rfl,?_⟩);walk_at "pp";refine ab (is:=[]) rfl rfl (IC ih hu (by omega) (by omega) fun J hJ=>⟨rfl,?_⟩);have hl:=hJ.2;walk_at "pp";refine zi rfl rfl (by decide) (by omega) ?_;walk_at "pp";exact q _ (sV (cw (by simp)) hJ)
  ·obtain rfl:us=us':=by injection e with e;injection e with _ e;injection e with e;injection e
   simp only [LY,L3,Mo] at ln;have hw':=hw;rcases hw with rfl | rfl | rfl | rfl
   all_goals
    walk_at "pp";refine ab (is:=[]) rfl rfl (bW ⟨rfl,?_⟩);walk_at "pp";refine ab (is:=[]) rfl rfl (Ip ih hw' hA (by omega) hl (by omega) fun J hJ=>⟨rfl,?_⟩);have hl2:=hJ.2;walk_at "pp";refine zi rfl rfl (by decide) (by omega) ?_;walk_at "pp";exact q _ (sV (cw (by simp)) hJ)
  ·obtain rfl:u=u':=by injection e with e;injection e with _ e;injection e with _ e;injection e with _ e;injection e with _ e;injection e
   have er:[aj lo,kM,hiT hi,kM]++(stT up s++(kM :: T))=aP true [[aj lo],[hiT hi],stT up s,T]:=by simp [aP]
   have eq2:[w,kO,aj lo,kM,hiT hi,kM]++(stT up s++(kM :: (T++[kC])))=[w,kO]++(aP true [[aj lo],[hiT hi],stT up s,T]++[kC]):=by
    rw [<- er];simp
   rw [eq2] at q ln;simp only [LY,L3,Mo] at ln;have hw':=hw;rcases hw with rfl | rfl
   all_goals
    walk_at "pp";refine ab (is:=[]) rfl rfl (bW ⟨rfl,?_⟩);walk_at "pp";refine ab (is:=[]) rfl rfl (Hx ih hw' h0 h1 hh hs hu (by omega) (by omega) fun J hJ=>⟨rfl,?_⟩);have hl2:=hJ.2;walk_at "pp";refine zi rfl rfl (by decide) (by omega) ?_;walk_at "pp";exact q _ (sV (cw (by simp)) hJ)
theorem BS {Z:Str} {ts:List (List Nat)} {TK:List Str} (h:Cut Z ts TK):Pcs ts:=rL (h.2.2 [] fun t _ f R e=>by cases e)
theorem HQ {i j:Nat} {r:RV} {e:En} {a b:PyData} {N:En->Prop} (hr:r.av=.dat (.tuple [a,b])) {s t:Sl} (h1:e[i]?=some s) (s1:soft s) (h2:(e.set i (.dat a))[j]?=some t) (s2:soft t) (q:N ((e.set i (.dat a)).set j (.dat b))):Dh [i,j] r e N:=by
 refine ⟨_,_,hr,?_,q⟩;show (if free e i=true then (if free (e.set i (.dat a)) j=true then some _ else none) else none)=_;rw [Me (m4 h1 s1),Me (m4 h2 s2)]
theorem zu {ns:List Int} (hl:ns.length<=63):WF Ao [.list (ns.map .int)] fun pr outs=>pr=.dat (.bool true)/\outs=[]:=by
 refine cn rfl ?_;unfold z8;walk_at "pp";refine ab (ds:=[.list (ns.map .int)]) (is:=[]) rfl rfl (Fd ⟨rfl,?_⟩);walk_at "n";walk_at "pp";refine ⟨⟨by decide,by decide⟩,?_⟩;refine iQ (fun i e=>∃ pn,bw ns (20000000*i) pn/\ym [some (.dat (.list (ns.map .int))),some (.own pn),none,none,none,none,none,none] e) ⟨B2 ns 0 0,Jc (by decide) (by decide),by walk_at "L"⟩ ?_ ?_
 ·rintro i d e hd ⟨pn,hP,_⟩;walk_at "l";obtain ⟨rfl,hi⟩:=iI hd;have hi:i < 3:=hi;walk_at "f";walk_at "pp";refine ab (is:=[1]) rfl rfl (zq hP (by omega) (by decide) (by decide) fun xs pn1 hP1 xl xn hx=>⟨rfl,?_⟩);walk_at "n";walk_at "d";intro c pn2 hP2 c0 c1;walk_at "n";walk_at "pp";obtain ⟨e,he,ee⟩:=atV (xs:=([.int 3,.int 12,.int 39]:List PyData)) c0 c1;have hc:∃ R:Int,e=.int R/\0<=R/\R<=39:=by
   simp only [Mc,ML,M7] at he;rcases he with rfl | rfl | rfl <;> exact ⟨_,rfl,by omega,by omega⟩
  obtain ⟨R,rfl,R0,R1⟩:=hc;refine lN rfl ee ?_;clear ee he;walk_at "d";intro c2 pn3 hP3 c20 c21;walk_at "n";walk_at "pp";obtain ⟨e,he,ee⟩:=atV (xs:=([.int 3,.int 8]:List PyData)) c20 c21;have hc:∃ D:Nat,e=.int (D:Int)/\1<=D/\D<=8:=by
   simp only [Mc,ML,M7] at he;rcases he with rfl | rfl
   ·exact ⟨3,rfl,by decide,by decide⟩
   ·exact ⟨8,rfl,by decide,by decide⟩
  obtain ⟨D,rfl,D0,D1⟩:=hc;refine lN rfl ee ?_;clear ee he;walk_at "pp";refine bI (zt 8) (is:=[1,7]) (ds:=[pn3,.list (xs.map .str),.list [.int R],.int (D:Int),.bool true]) rfl rfl (xK 8 (R:=R) (by decide) D0 D1 hP3 (by omega) R0 R1 (by omega) (by omega) xn hx fun v TK k R' pn4 hv hr' hk hP4=>⟨rfl,?_⟩);have k40:k<=40:=by omega
  walk_at "n";walk_at "pp";refine bI (C9 8) (is:=[1]) (ds:=[pn4,v]) rfl rfl (qx 8 hv hP4 (by omega) fun v' TK' pn5 hv' hP5=>⟨rfl,?_⟩);walk_at "n";walk_at "pp";refine bI (yK 8) (is:=[]) (ds:=[v']) rfl rfl (oR 8 hv' k40 ⟨rfl,?_⟩);have tl:=pR _ _ _ _ _ _ hv';walk_at "pp";refine ab (is:=[1]) (ds:=[pn5,.list (TK'.map .str)]) rfl rfl (BV hP5 (by omega) (D7 _ _ _ _ _ _ hv') (by omega) fun Z ts ps pn6 hP6 hC hZ=>⟨rfl,?_⟩);walk_at "n";walk_at "pp";refine HQ rfl rfl (by assumption) rfl (by assumption) ?_;walk_at "d";intro b pn7 hP7 b0 b1;walk_at "n";walk_at "pp";refine xA rfl b0 (by omega) (by decide) ?_;have ml:(oq " " b.toNat).length=b.toNat:=mY b.toNat;walk_at "pp";refine cv rfl (by show _<=2 ^ 24;omega) ?_;obtain ⟨c1,c2⟩:=hC.read b.toNat;have al:∀ {Q:PR->List PyData->Prop},Q (.dat (.bool true)) []->WF (dO 30) [v,v] Q:=fun q=>sP 30 (gG (Al _ _ _ _ _ _ hv) (by decide)) q;walk_at "pp";refine ab (is:=[]) rfl rfl (jw (by rw [aB];omega) (hC.fin b.toNat) c1 (by rw [c2];exact hv') k40 ⟨rfl,?_⟩);walk_at "pp";refine ab (is:=[]) rfl rfl (al ⟨rfl,?_⟩);walk_at "pp";refine bI (Dv 8) (is:=[]) (ds:=[v]) rfl rfl (iY 8 hv k40 fun Y hY=>⟨rfl,?_⟩);obtain ⟨⟨us,hU⟩,hYl⟩:=hY;have tl2:=pR _ _ _ _ _ _ hv;walk_at "pp";refine ab (is:=[]) rfl rfl (jw (by omega) (BS hU) hU.1 (by rw [hU.2.1];exact hv) k40 ⟨rfl,?_⟩);walk_at "pp";refine ab (is:=[]) rfl rfl (al ⟨rfl,?_⟩);walk_at "pp";exact ⟨pn7,hP7.mono (by omega),by walk_at "L"⟩
 ·rintro e ⟨pn,hP,_⟩;walk_at "l";walk_at "pp";exact ⟨rfl,rfl⟩
end K19
end
namespace PySem.W.Fast
noncomputable def tw9949372762484513254:=()
noncomputable def tw14499965106370908304:=()
noncomputable def tw8454141070859175963:=()
noncomputable def tw3716189449618162924:=()
noncomputable def tw2165841070039107429:=()
noncomputable def tw11079597377201878789:=()
noncomputable def tw8997951465180822505:=()
noncomputable def tw11028685071380426614:=()
noncomputable def tw7786162134044257464:=()
noncomputable def tw2780897602742964697:=()
noncomputable def tw10525697255346273352:=()
noncomputable def tw9795056925027853530:=()
noncomputable def tw18366287144557017300:=()
noncomputable def tw4546161706293967159:=()
noncomputable def tw9162936628123434773:=()
noncomputable def tw7166782410599266864:=()
noncomputable def tw17269659852965695663:=()
noncomputable def tw2623794230207089730:=()
noncomputable def tw11924604941182541020:=()
noncomputable def tw1086503948471266306:=()
noncomputable def tw9231866047431301991:=()
noncomputable def tw9934878940059363443:=()
noncomputable def tw5378365365225199686:=()
noncomputable def tw2954039086242835534:=()
noncomputable def tw18142516786665411220:=()
noncomputable def tw7037115353466228987:=()
noncomputable def tw7814846835915954292:=()
noncomputable def tw1575830224794550556:=()
noncomputable def tw2255996354579126458:=()
noncomputable def tw919742169448369991:=()
noncomputable def tw4137715901331848734:=()
noncomputable def tw115144136149911240:=()
noncomputable def tw6292433456582236845:=()
noncomputable def tw11865364530879864110:=()
noncomputable def tw5109724659416927965:=()
noncomputable def tw12220662264040044876:=()
noncomputable def tw9690382116852980947:=()
noncomputable def tw9468688453527121535:=()
noncomputable def tw1684154810648676429:=()
noncomputable def tw13504871784141662109:=()
noncomputable def tw2182505032784573784:=()
noncomputable def tw263126017238631384:=()
noncomputable def tw10638678645208960074:=()
noncomputable def tw3008910987488581948:=()
noncomputable def tw10813486856276300119:=()
noncomputable def tw2997956397210322347:=()
noncomputable def tw14996524427530265044:=()
noncomputable def tw7786738830145785424:=()
noncomputable def tw8971455373335197987:=()
noncomputable def tw2297912100675151959:=()
noncomputable def tw3801110917764073632:=()
noncomputable def tw259463694564584374:=()
noncomputable def tw7319614710119641598:=()
noncomputable def tw666993618611092174:=()
noncomputable def tw7468191627432044630:=()
noncomputable def tw12653531841334845900:=()
noncomputable def tw400368317171656619:=()
noncomputable def tw3749512745289811122:=()
noncomputable def tw12655991188360862502:=()
noncomputable def tw5840148461513433857:=()
noncomputable def tw11065288367395565636:=()
noncomputable def tw9078788685823065152:=()
noncomputable def tw7137731379171636912:=()
noncomputable def tw13068994346719594742:=()
noncomputable def tw14924383047458437197:=()
noncomputable def tw591588063327835501:=()
noncomputable def tw17989339888657679481:=()
noncomputable def tw17068269333490296712:=()
noncomputable def tw4751258089005015864:=()
noncomputable def tw1381654606174232156:=()
noncomputable def tw7074956064236421804:=()
noncomputable def tw14327096248446001882:=()
noncomputable def tw526369751068756981:=()
noncomputable def tw13738100196123942600:=()
noncomputable def tw16042379817937176458:=()
noncomputable def tw4499430117054326795:=()
noncomputable def tw9988370576840377420:=()
noncomputable def tw11055857135469389176:=()
noncomputable def tw994584376532236824:=()
noncomputable def tw17513734003540554397:=()
noncomputable def tw1449955790324967721:=()
noncomputable def tw5259841992575156380:=()
noncomputable def tw6379091539383102693:=()
noncomputable def tw2680548565472350410:=()
noncomputable def tw5539597578862233055:=()
noncomputable def tw14914705528120953659:=()
noncomputable def tw4963417953386327684:=()
noncomputable def tw3518857070702175547:=()
noncomputable def tw235273818482529170:=()
noncomputable def tw16372542455788811873:=()
noncomputable def tw15721410888987155053:=()
noncomputable def tw2473247062271036961:=()
noncomputable def tw10842194602112519655:=()
noncomputable def tw5470538830812699770:=()
noncomputable def tw13576894728938871400:=()
noncomputable def tw6802240132125283658:=()
noncomputable def tw5181769818201041817:=()
noncomputable def tw8678724817818879171:=()
noncomputable def tw11840898233433739460:=()
noncomputable def tw1649350668051582416:=()
noncomputable def tw6756577309169219133:=()
noncomputable def tw16665699654550625217:=()
noncomputable def tw6739210995313570867:=()
noncomputable def tw16924376176395013448:=()
noncomputable def tw10376840535503013989:=()
noncomputable def tw8244658205463476695:=()
noncomputable def tw11457559885022346076:=()
noncomputable def tw15465185355479572352:=()
noncomputable def tw15927423014336111983:=()
noncomputable def tw3975656656765927816:=()
noncomputable def tw13419874824868116747:=()
noncomputable def tw10392913604094947675:=()
noncomputable def tw17948874350347548324:=()
noncomputable def tw16612506396584703557:=()
noncomputable def tw10605813225862609813:=()
noncomputable def tw5195067552636112527:=()
noncomputable def tw8206108964480628848:=()
noncomputable def tw17085600967905830049:=()
noncomputable def tw15853904362153115511:=()
noncomputable def tw11116874941793420341:=()
noncomputable def tw3873994638335131875:=()
noncomputable def tw16598824650070712196:=()
noncomputable def tw16479483108066838252:=()
noncomputable def tw5919719315019398327:=()
noncomputable def tw5771637536587431070:=()
noncomputable def tw5482702350038122041:=()
noncomputable def tw6879942421111781895:=()
noncomputable def tw13517431125278624933:=()
noncomputable def tw2877944758651100581:=()
noncomputable def tw5278495237930920153:=()
noncomputable def tw2842098927815036001:=()
noncomputable def tw384134098881243410:=()
noncomputable def tw11897207539806934186:=()
noncomputable def tw6809764077399535244:=()
noncomputable def tw13661321576121330669:=()
noncomputable def tw733821546909834500:=()
noncomputable def tw8518751358001453998:=()
noncomputable def tw7651405682113440501:=()
noncomputable def tw3331387325108779895:=()
noncomputable def tw9895755046123087199:=()
noncomputable def tw4599181438414010449:=()
noncomputable def tw15506383954862790523:=()
noncomputable def tw12777379538458072598:=()
noncomputable def tw1175786881586053241:=()
noncomputable def tw14004867985066999633:=()
noncomputable def tw2808502484782205497:=()
noncomputable def tw10612680558905610525:=()
noncomputable def tw10503297891811806348:=()
noncomputable def tw74621476535787863:=()
noncomputable def tw12483391178201647413:=()
noncomputable def tw4879867507852280031:=()
noncomputable def tw15763170605998613874:=()
noncomputable def tw4919536885268017305:=()
noncomputable def tw7591041428938475916:=()
noncomputable def tw16597911473837302957:=()
noncomputable def tw14085787502296703080:=()
noncomputable def tw10596355854099723733:=()
noncomputable def tw4589436019719976957:=()
noncomputable def tw7641199787866280354:=()
noncomputable def tw690306653309473709:=()
noncomputable def tw8639668045241899748:=()
noncomputable def tw4893118791912097764:=()
noncomputable def tw18170068133541165244:=()
noncomputable def tw9915199983532830905:=()
noncomputable def tw10915531490034637981:=()
noncomputable def tw4778129014857495281:=()
noncomputable def tw10817493647694290959:=()
noncomputable def tw14706877212230917877:=()
noncomputable def tw16436283354732375769:=()
noncomputable def tw4849604376001515949:=()
noncomputable def tw7448698480812221711:=()
noncomputable def tw10210887045958056798:=()
noncomputable def tw13469500851778712333:=()
noncomputable def tw8896225260903252822:=()
noncomputable def tw13293658279513003869:=()
noncomputable def tw1380232317356168370:=()
noncomputable def tw14301816344599308862:=()
noncomputable def tw854594821672393050:=()
noncomputable def tw635789735039547842:=()
noncomputable def tw205010141916473807:=()
noncomputable def tw10129488418300115368:=()
noncomputable def tw9304695110385886320:=()
noncomputable def tw7058898915086964371:=()
noncomputable def tw8772659430960004714:=()
noncomputable def tw5847895545669108982:=()
noncomputable def tw17034258395009583661:=()
noncomputable def tw3963338272100818329:=()
noncomputable def tw16493412145719142452:=()
noncomputable def tw5814915237290031139:=()
noncomputable def tw5268045240649553724:=()
noncomputable def tw625950535870231664:=()
noncomputable def tw12846524470914387429:=()
noncomputable def tw18137448256374861924:=()
noncomputable def tw5395706020818308592:=()
noncomputable def tw1881407571070028951:=()
noncomputable def tw10903738610113949105:=()
noncomputable def tw10659326246072452476:=()
noncomputable def tw550580524887285555:=()
noncomputable def tw4439724910535781921:=()
noncomputable def tw17591865218065734071:=()
noncomputable def tw14895964194128127972:=()
noncomputable def tw13695698298361259757:=()
noncomputable def tw14583567822318749954:=()
noncomputable def tw16416359671693715332:=()
noncomputable def tw14574835395956916064:=()
noncomputable def tw3017101169964840105:=()
noncomputable def tw142663921410865598:=()
noncomputable def tw4511410840493957424:=()
noncomputable def tw15742256044639562613:=()
noncomputable def tw15691680948191651190:=()
noncomputable def tw1797950405334119939:=()
noncomputable def tw11038112472999191792:=()
noncomputable def tw12561113969651520623:=()
noncomputable def tw755316647924496248:=()
noncomputable def tw12226080674119788285:=()
noncomputable def tw3041779056588142064:=()
noncomputable def tw742944047773019981:=()
noncomputable def tw14221730840498606533:=()
noncomputable def tw1928287691778111626:=()
noncomputable def tw5297569818079669990:=()
noncomputable def tw17258032510953365150:=()
noncomputable def tw16159343733895119626:=()
noncomputable def tw12259578262133488379:=()
noncomputable def tw10963022034923333246:=()
noncomputable def tw13503810111222891389:=()
noncomputable def tw1308925388567768842:=()
noncomputable def tw59768890208648309:=()
noncomputable def tw6638257243840450390:=()
noncomputable def tw1599106578338256813:=()
noncomputable def tw5087258879831950026:=()
noncomputable def tw17170664615924074762:=()
noncomputable def tw11161093328947468166:=()
noncomputable def tw11471242558825612989:=()
noncomputable def tw13724930291995703610:=()
noncomputable def tw6663011967996046642:=()
end PySem.W.Fast
open PySem PySem.W PyProof.Rows
set_option maxRecDepth 100000 in
set_option maxHeartbeats 0 in
theorem PySem.Challenge.cw_webshapes_k19_forms_read_holds : PySem.Challenge.rw_webshapes_k19_forms_read.Holds := by
  w_on; (refine holds_law L2.ws fun said => ?_); k_head; (case hw => w_witness2)
  k_fill
  refine L2.zv (l := PySem.Challenge.rw_webshapes_k19_forms_read) (n := 63) (k := 32) (x := "_law_script") (CX := L2.CX0) (sp := K19.wc) rfl (by decide) rfl ⟨rfl, by decide, by decide, rfl⟩ (fun w h Y => PySem.W.kIn_of Y) ?F ?S ?C
  case F =>
    intro w mg fa h KX G hmg;have TT : ∃ t : K19.Adr, (∀ (s : Shared) (u : Value), BindsTo s (t.f 47).2 ⟨[u], []⟩ [("_law_script", u)]) ∧ K19.Txt w (L2.KOf KX) mg t := by
      dsimp only [L2.KOf];refine' K19.Ff KX G ?D ?am0 ?lm0 ?cm0 ?km0 ?im0 ?am1 ?lm1 ?cm1 ?km1 ?im1 ?am2 ?lm2 ?cm2 ?km2 ?im2 ?am3 ?lm3 ?cm3 ?km3 ?im3 ?C_g ?C_pg ?C_hd ?C_po ?C_sa ?C_mk ?C_kp ?na_forms ?na_place ?na_tokens ?z_abs ?z_all ?z_bool ?z_int ?z_isinstance ?z_len ?z_list ?z_min ?z_range ?z_sorted ?z_str ?z_tuple ?z_zip ?g_DEEPEST ?g_END ?g_FIGURES ?g_LETTERS ?g_MOST_BONDS ?g_MOST_ENDS ?g_MOST_FIGURES ?g_MOST_FORMS ?g_MOST_LETTERS ?g_MOST_LISTED ?g_LISTS ?s_LISTS ?g_WALKS ?s_WALKS ?g_LENGTHS ?d_LENGTHS ?q_LENGTHS ?y_LENGTHS ?n_LENGTHS ?v_LENGTHS_0 ?v_LENGTHS_1 ?v_LENGTHS_2 ?v_LENGTHS_3 ?v_LENGTHS_4 ?v_LENGTHS_5 ?v_LENGTHS_6 ?v_LENGTHS_7 ?v_LENGTHS_8 ?v_LENGTHS_9 ?v_LENGTHS_10 ?v_LENGTHS_11 ?v_LENGTHS_12 ?v_LENGTHS_13 ?v_LENGTHS_14 ?v_LENGTHS_15
      (case D => (iterate 48 refine L2.Hs KX G (by k_is) (by k_is) (by k_is) (by k_is) (by first | exact fun _ _ _ _ _ _ => L2.us1 fun _ => rfl | exact fun _ _ _ _ _ _ => L2.us2 fun _ _ => rfl | exact fun _ _ _ _ _ _ => L2.us3 fun _ _ _ => rfl | exact fun _ _ _ _ _ _ => L2.us4 fun _ _ _ _ => rfl | exact fun _ _ _ _ _ _ => L2.us5 fun _ _ _ _ _ => rfl) ?_); exact True.intro)
      (case am0 => k_is)
      (case lm0 => k_is)
      (case cm0 => k_is)
      (case km0 => k_is)
      (case im0 => k_is)
      (case am1 => k_is)
      (case lm1 => k_is)
      (case cm1 => k_is)
      (case km1 => k_is)
      (case im1 => k_is)
      (case am2 => k_is)
      (case lm2 => k_is)
      (case cm2 => k_is)
      (case km2 => k_is)
      (case im2 => k_is)
      (case am3 => k_is)
      (case lm3 => k_is)
      (case cm3 => k_is)
      (case km3 => k_is)
      (case im3 => k_is)
      (case C_g => k_is)
      (case C_pg => k_is)
      (case C_hd => k_is)
      (case C_po => k_is)
      (case C_sa => k_is)
      (case C_mk => k_is)
      (case C_kp => k_is)
      (case na_forms => k_is)
      (case na_place => k_is)
      (case na_tokens => k_is)
      (case z_abs => k_is)
      (case z_all => k_is)
      (case z_bool => k_is)
      (case z_int => k_is)
      (case z_isinstance => k_is)
      (case z_len => k_is)
      (case z_list => k_is)
      (case z_min => k_is)
      (case z_range => k_is)
      (case z_sorted => k_is)
      (case z_str => k_is)
      (case z_tuple => k_is)
      (case z_zip => k_is)
      (case g_DEEPEST => k_is)
      (case g_END => k_is)
      (case g_FIGURES => k_is)
      (case g_LETTERS => k_is)
      (case g_MOST_BONDS => k_is)
      (case g_MOST_ENDS => k_is)
      (case g_MOST_FIGURES => k_is)
      (case g_MOST_FORMS => k_is)
      (case g_MOST_LETTERS => k_is)
      (case g_MOST_LISTED => k_is)
      (case g_LISTS => k_is)
      (case s_LISTS => k_is)
      (case g_WALKS => k_is)
      (case s_WALKS => k_is)
      (case g_LENGTHS => k_is)
      (case d_LENGTHS => k_is)
      (case q_LENGTHS => exact ⟨⟨_, _, rfl, rfl⟩, ⟨⟨_, _, rfl, rfl⟩, ⟨⟨_, _, rfl, rfl⟩, ⟨⟨_, _, rfl, rfl⟩, ⟨⟨_, _, rfl, rfl⟩, ⟨⟨_, _, rfl, rfl⟩, ⟨⟨_, _, rfl, rfl⟩, ⟨⟨_, _, rfl, rfl⟩, ⟨⟨_, _, rfl, rfl⟩, ⟨⟨_, _, rfl, rfl⟩, ⟨⟨_, _, rfl, rfl⟩, ⟨⟨_, _, rfl, rfl⟩, ⟨⟨_, _, rfl, rfl⟩, ⟨⟨_, _, rfl, rfl⟩, ⟨⟨_, _, rfl, rfl⟩, ⟨⟨_, _, rfl, rfl⟩, trivial⟩⟩⟩⟩⟩⟩⟩⟩⟩⟩⟩⟩⟩⟩⟩⟩)
      (case y_LENGTHS => decide)
      (case n_LENGTHS => exact rfl)
      (case v_LENGTHS_0 => k_is)
      (case v_LENGTHS_1 => k_is)
      (case v_LENGTHS_2 => k_is)
      (case v_LENGTHS_3 => k_is)
      (case v_LENGTHS_4 => k_is)
      (case v_LENGTHS_5 => k_is)
      (case v_LENGTHS_6 => k_is)
      (case v_LENGTHS_7 => k_is)
      (case v_LENGTHS_8 => k_is)
      (case v_LENGTHS_9 => k_is)
      (case v_LENGTHS_10 => k_is)
      (case v_LENGTHS_11 => k_is)
      (case v_LENGTHS_12 => k_is)
      (case v_LENGTHS_13 => k_is)
      (case v_LENGTHS_14 => k_is)
      (case v_LENGTHS_15 => k_is)
    obtain ⟨t, hb, T⟩ := TT;have e : some (Value.ref fa) = some (Value.ref (t.f 47).1) := hmg.symm.trans (T.d 47 rfl).m;have e' : fa = (t.f 47).1 := by injection e with e; injection e
    subst e';exact ⟨(t.f 47).2, hb, fun base _ _ => K19.El T⟩
  case S => exact fun K H a ns hl _ hS => L2.E9 rfl hl hS (by obtain ⟨pr, outs, h, rfl, rfl⟩ := K19.zu hl; exact h)
  case C => exact fun _ _ _ _ z => z

