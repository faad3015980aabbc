import PyProof.Rows.All
import Wide.All
import OpenK.AllK
import Wide.FinOn
import Lean
import PyProof.EqAt
import PyProof.EqKinds
import PyProof.TupleCall
import PyProof.ConsumeWalk
import PyProof.EqLayable
import PyProof.ReprRoads
import PyProof.StrWalks
import PyProof.SliceStr2
import PyProof.StrLawsIn
import PyProof.StrLawsRepr
import PyProof.SliceList
import PyProof.Rows.FStr
import PyProof.CallStr
import PyProof.Rows.SeqMore
import PyProof.ListStr
import PyProof.Claim2Refuses
import PyProof.ZipIter
import PyProof.Rows.ZipGen
import PyProof.EnumIter
import PyProof.EnumFor
import PyProof.EnumMake
import PyProof.Rows.SetFrom
import PyProof.Rows.StrMeet
import PyProof.WalksMore
import PyProof.StrCalls
import PyProof.ListMulRoad
import PyProof.MaxThree
import PyProof.Rows.SumAny
import PyProof.AutoSeq1
import PyProof.StrBlock2
import KE.KIntText
import PyProof.StrCalls2
import PyProof.Rows.StrSplitMax
import PySem.Challenge.RW_webshapes_k51_papers_read
set_option compiler.extract_closed false
set_option bootstrap.genMatcherCode false
set_option Elab.async false
set_option linter.all false
set_option maxRecDepth 100000
set_option maxHeartbeats 4000000
section
open PySem PySem.Spec PyProof.Rows PySem.W
theorem J4:type_of% @List.getElem?_set_ne:=@List.getElem?_set_ne
theorem J5:type_of% @List.length_map:=@List.length_map
theorem J6:type_of% @List.length_append:=@List.length_append
theorem J7:type_of% @Heap.get?_push_of_some:=@Heap.get?_push_of_some
theorem J8:type_of% @List.length_cons:=@List.length_cons
theorem J9:type_of% @List.getElem?_eq_getElem:=@List.getElem?_eq_getElem
theorem Ka:type_of% @List.getElem?_eq_some_iff:=@List.getElem?_eq_some_iff
theorem Kb:type_of% @List.mem_cons_of_mem:=@List.mem_cons_of_mem
theorem Kc:type_of% @List.mem_singleton:=@List.mem_singleton
theorem Kd:type_of% @List.mem_cons:=@List.mem_cons
theorem Ke:type_of% @Nat.le_refl:=@Nat.le_refl
theorem Kf:type_of% @List.getElem?_set_self:=@List.getElem?_set_self
theorem Kg:type_of% @Heap.lt_size:=@Heap.lt_size
theorem Kh:type_of% @Nat.lt_of_lt_of_le:=@Nat.lt_of_lt_of_le
theorem Ki:type_of% @List.mem_cons_self:=@List.mem_cons_self
theorem Kj:type_of% @decide_eq_true:=@decide_eq_true
theorem Kk:type_of% @List.getElem?_append_right:=@List.getElem?_append_right
theorem Kl:type_of% @decide_eq_false:=@decide_eq_false
theorem Km:type_of% @if_pos:=@if_pos
theorem Ko:type_of% @List.size_toArray:=@List.size_toArray
theorem Kp:type_of% @List.mem_append_right:=@List.mem_append_right
theorem Kq:type_of% @List.append_assoc:=@List.append_assoc
theorem Kr:type_of% @if_neg:=@if_neg
theorem Ks:type_of% @Nat.le_trans:=@Nat.le_trans
theorem Kt:type_of% @List.getElem?_map:=@List.getElem?_map
theorem Ku:type_of% @PySem.F.plainAttrs_str:=@PySem.F.plainAttrs_str
theorem Kv:type_of% @wpAny_bind:=@wpAny_bind
theorem Kw:type_of% @List.sum_cons:=@List.sum_cons
theorem Kx:type_of% @Heap.get?_push_size:=@Heap.get?_push_size
theorem Ky:type_of% @List.length_nil:=@List.length_nil
theorem Kz:type_of% @Option.map_eq_some_iff:=@Option.map_eq_some_iff
theorem KA:type_of% @List.length_set:=@List.length_set
theorem KC:type_of% @Bool.and_eq_true:=@Bool.and_eq_true
theorem KD:type_of% @List.nil_append:=@List.nil_append
theorem KG:type_of% @Nat.lt_irrefl:=@Nat.lt_irrefl
theorem KH:type_of% @decide_eq_true_eq:=@decide_eq_true_eq
theorem KI:type_of% @wpAny_pure:=@wpAny_pure
theorem KJ:type_of% @PySem.F.type_str_join:=@PySem.F.type_str_join
theorem KL:type_of% @PySem.F.slot_str_join:=@PySem.F.slot_str_join
theorem KN:type_of% @Option.some.inj:=@Option.some.inj
theorem KO:type_of% @List.getElem?_append_left:=@List.getElem?_append_left
theorem KP:type_of% @Nat.ne_of_lt:=@Nat.ne_of_lt
theorem KQ:type_of% @List.mem_of_getElem?:=@List.mem_of_getElem?
theorem KR:type_of% @List.cons_append:=@List.cons_append
theorem KS:type_of% @List.sum_nil:=@List.sum_nil
theorem KU:type_of% @Heap.get?_update_of_ne:=@Heap.get?_update_of_ne
theorem KW:type_of% @PySem.W.mg_none_of:=@PySem.W.mg_none_of
theorem KY:type_of% @PySem.F.type_list_append:=@PySem.F.type_list_append
theorem KZ:type_of% @PySem.F.slot_list_append:=@PySem.F.slot_list_append
theorem K0:type_of% @List.map_append:=@List.map_append
theorem K1:type_of% @PySem.F.plainAttrs_list:=@PySem.F.plainAttrs_list
theorem K2:type_of% @of_decide_eq_true:=@of_decide_eq_true
theorem K3:type_of% @List.mem_nil_iff:=@List.mem_nil_iff
theorem K4:type_of% @Heap.SameBut.update:=@Heap.SameBut.update
theorem K5:type_of% @wpAny_mono:=@wpAny_mono
theorem K6:type_of% @List.append_nil:=@List.append_nil
theorem K7:type_of% @Nat.le_of_ble_eq_true:=@Nat.le_of_ble_eq_true
theorem K8:type_of% @List.take_length:=@List.take_length
theorem K9:type_of% @List.length_take:=@List.length_take
theorem La:type_of% @wpAny_truthy_bool:=@wpAny_truthy_bool
theorem Lb:type_of% @or_false:=@or_false
theorem Lc:type_of% @List.nodup_cons:=@List.nodup_cons
theorem Ld:type_of% @List.cons_lt_cons_iff:=@List.cons_lt_cons_iff
theorem Le:type_of% @Heap.get?_update_self:=@Heap.get?_update_self
theorem Lf:type_of% @of_decide_eq_false:=@of_decide_eq_false
theorem Lg:type_of% @List.all_eq_true:=@List.all_eq_true
theorem Lh:type_of% @Bool.true_and:=@Bool.true_and
theorem Li:type_of% @Heap.size_push:=@Heap.size_push
theorem Lj:type_of% @List.set_set:=@List.set_set
theorem Ll:type_of% @List.mem_map:=@List.mem_map
theorem Lm:type_of% @Nat.add_assoc:=@Nat.add_assoc
theorem Ln:type_of% @Nat.lt_succ_self:=@Nat.lt_succ_self
theorem Lo:type_of% @List.not_mem_nil:=@List.not_mem_nil
theorem Lp:type_of% @List.length_drop:=@List.length_drop
theorem Lq:type_of% @Bool.false_ne_true:=@Bool.false_ne_true
theorem Lr:type_of% @List.drop_eq_getElem_cons:=@List.drop_eq_getElem_cons
theorem Ls:type_of% @List.mem_append:=@List.mem_append
theorem Lu:type_of% @Nat.zero_le:=@Nat.zero_le
theorem Lv:type_of% @List.mem_append_left:=@List.mem_append_left
theorem Lw:type_of% @beq_eq_false_iff_ne:=@beq_eq_false_iff_ne
theorem Lx:type_of% @PySem.mem_of_lookup:=@PySem.mem_of_lookup
theorem Ly:type_of% @List.lookup_cons:=@List.lookup_cons
theorem Lz:type_of% @call_meets:=@call_meets
theorem LA:type_of% @Nat.ne_of_gt:=@Nat.ne_of_gt
theorem LB:type_of% @Bool.or_eq_true:=@Bool.or_eq_true
theorem LC:type_of% @take_snoc:=@take_snoc
theorem LD:type_of% @List.length_range:=@List.length_range
theorem LF:type_of% @beq_iff_eq:=@beq_iff_eq
theorem LG:type_of% @ne_true_of_eq_false:=@ne_true_of_eq_false
theorem LH:type_of% @wpAny_passesOwn:=@wpAny_passesOwn
theorem LI:type_of% @wpAny_Call_Name_kw:=@wpAny_Call_Name_kw
theorem LJ:type_of% @typeIs_str:=@typeIs_str
theorem LK:type_of% @wpAny_callSpecial?_slot:=@wpAny_callSpecial?_slot
theorem LL:type_of% @wpAny_newObj_type:=@wpAny_newObj_type
theorem LM:type_of% @F.entry_str_split:=@F.entry_str_split
theorem LN:type_of% @F.slot_str_split:=@F.slot_str_split
theorem LO:type_of% @if_true:=@if_true
theorem LP:type_of% @PySem.W.mg_of:=@PySem.W.mg_of
theorem LQ:type_of% @Nat.pow_le_pow_right:=@Nat.pow_le_pow_right
theorem LR:type_of% @Array.toList_extract:=@Array.toList_extract
theorem LS:type_of% @PySem.W.kia_one:=@PySem.W.kia_one
theorem LU:type_of% @length_partsBetween:=@length_partsBetween
theorem LV:type_of% @PySem.StrLaws.occ_length_le:=@PySem.StrLaws.occ_length_le
theorem LW:type_of% @PyProof.Rows.callWith_type1:=@PyProof.Rows.callWith_type1
theorem LX:type_of% @F.slot_tuple_iterator_next:=@F.slot_tuple_iterator_next
theorem LY:type_of% @Array.all_eq_true':=@Array.all_eq_true'
theorem LZ:type_of% @sizeLine_eq:=@sizeLine_eq
theorem L0:type_of% @Nat.le_add_right:=@Nat.le_add_right
theorem L3:type_of% @Heap.size_update:=@Heap.size_update
theorem L4:type_of% @List.take_of_length_le:=@List.take_of_length_le
theorem L5:type_of% @List.drop_of_length_le:=@List.drop_of_length_le
theorem L6:type_of% @PassesOwn.never:=@PassesOwn.never
theorem L7:type_of% @Option.map_some:=@Option.map_some
theorem L8:type_of% @List.length_singleton:=@List.length_singleton
theorem L9:type_of% @List.length_replicate:=@List.length_replicate
end
section
namespace L2
abbrev Fg:=PySem.W.Frag
set_option maxRecDepth 100000 in
set_option maxHeartbeats 0 in
theorem ws:PySem.W.OpenLaw.wellSaid PySem.Challenge.rw_webshapes_k51_papers_read=true:=by decide +kernel
open PySem PySem.Spec PyProof.Rows
abbrev Key:=Sum Int Str
noncomputable def EC:Key->Value->Bool
 | .inl k,v=>Value.isInt k v
 | .inr x,v=>Value.isStrOf x v
noncomputable def JK (w:World):Key->Int
 | .inl k=>hashInt k
 | .inr x=>hashStr w x
theorem aX:∀ {k:Key} {v:Value},EC k v=true->(∃ i t,k=Sum.inl i/\v=Value.int i t)\/(∃ x t,k=Sum.inr x/\v=Value.str x t)
 | .inl i,v,h=>by
  obtain ⟨t,e⟩:=Value.isInt_shape (k:=i) (v:=v) h;exact .inl ⟨i,t,rfl,e⟩
 | .inr x,v,h=>by
  obtain ⟨t,e⟩:=Value.isStrOf_shape (x:=x) (v:=v) h;exact .inr ⟨x,t,rfl,e⟩
theorem CC (a b:Int):decide ((Sum.inl a:Key)=Sum.inl b)=(a==b):=by
 by_cases e:a=b
 ·subst e;simp
 ·have h:¬(Sum.inl a:Key)=Sum.inl b:=fun q=>e (Sum.inl.inj q);rw [Kl h];exact (Lw.mpr e).symm
theorem BZ (a b:Str):decide ((Sum.inr a:Key)=Sum.inr b)=decide (a=b):=by
 by_cases e:a=b
 ·subst e;simp
 ·have h:¬(Sum.inr a:Key)=Sum.inr b:=fun q=>e (Sum.inr.inj q);rw [Kl h,Kl e]
theorem B2 (a:Int) (b:Str):decide ((Sum.inl a:Key)=Sum.inr b)=false:=Kl (fun q=>nomatch q)
theorem DT (a:Str) (b:Int):decide ((Sum.inr a:Key)=Sum.inl b)=false:=Kl (fun q=>nomatch q)
noncomputable def qg (prog:Program) (w:World):PySem.KeyKind prog w Key where
 is:=EC
 hash:=JK w
 inj:=fun v a b ha hb=>by
  rcases aX ha with ⟨i,t,rfl,rfl⟩ | ⟨x,t,rfl,rfl⟩
  ·rcases aX hb with ⟨j,u,rfl,e⟩ | ⟨y,u,rfl,e⟩
   ·injection e with e1 _;rw [e1]
   ·exact nomatch e
  ·rcases aX hb with ⟨j,u,rfl,e⟩ | ⟨y,u,rfl,e⟩
   ·exact nomatch e
   ·injection e with e1 _;rw [e1]
 byValue:=fun k v h=>by
  rcases aX h with ⟨i,t,rfl,rfl⟩ | ⟨x,t,rfl,rfl⟩ <;> rfl
 pyHash:=fun hv h=>by
  rcases aX hv with ⟨i,t,rfl,rfl⟩ | ⟨x,t,rfl,rfl⟩
  ·exact wpAny_pyHash_int h
  ·exact wpAny_pyHash_str h
 eqBool:=fun hu hv h=>by
  rcases aX hu with ⟨i,t,rfl,rfl⟩ | ⟨x,t,rfl,rfl⟩
  ·rcases aX hv with ⟨j,u,rfl,rfl⟩ | ⟨y,u,rfl,rfl⟩
   ·rw [CC] at h;exact wpAny_eqBool_int h
   ·rw [B2] at h;exact SeqAt.EqAt.int_str i t y u _ _ _ _ h
  ·rcases aX hv with ⟨j,u,rfl,rfl⟩ | ⟨y,u,rfl,rfl⟩
   ·rw [DT] at h;exact SeqAt.EqAt.str_int x t j u _ _ _ _ h
   ·rw [BZ] at h;exact wpAny_eqBool_str h
 «strs»:=fun k x t v h=>by
  rcases aX h with ⟨i,u,rfl,e⟩ | ⟨y,u,rfl,e⟩
  ·exact nomatch e
  ·injection e with e1 _;subst e1;cases v <;> rfl
end L2
namespace L2
open PySem PySem.Spec PyProof.Rows
inductive V where
 | non | bl (b:Bool) | int (i:Int) | str (x:Str) | byt (b:Array UInt8) | flt (b:UInt64) | ref (a:Addr) | ty (n:String)
 deriving DecidableEq
def RelV:V->Value->Prop
 | .non,u=>u=Value.none
 | .bl b,u=>u=Value.bool b
 | .int i,u=>∃ t,u=Value.int i t
 | .str x,u=>∃ t,u=Value.str x t
 | .byt b,u=>∃ t,u=Value.bytes b t
 | .flt b,u=>∃ t,u=Value.float b t
 | .ref a,u=>u=Value.ref a
 | .ty n,u=>u=Value.type n
abbrev Vals:List V->List Value->Prop:=Paired RelV
theorem Vals.length {xs:List V} {us:List Value} (r:Vals xs us):xs.length=us.length:=Paired.length r
theorem Vals.get:∀ {xs:List V} {us:List Value} {i:Nat} {x:V},Vals xs us->xs[i]?=some x->∃ u,us[i]?=some u/\RelV x u
 | _,_,_,_,.nil,e=>by simp at e
 | _,_,0,_,.cons r _,e=>by simp at e;subst e;exact ⟨_,rfl,r⟩
 | _,_,i+1,x,.cons _ t,e=>by
  obtain ⟨u,h1,h2⟩:=Vals.get (i:=i) (x:=x) t (by simpa using e);exact ⟨u,by simpa using h1,h2⟩
theorem Vals.set {x:V} {u:Value} (r:RelV x u):∀ {xs:List V} {us:List Value} (i:Nat),Vals xs us->Vals (xs.set i x) (us.set i u)
 | _,_,_,.nil=>.nil
 | _,_,0,.cons _ t=>.cons r t
 | _,_,i+1,.cons q t=>.cons q (Vals.set r i t)
theorem Vals.append:∀ {xs ys:List V} {us ws:List Value},Vals xs us->Vals ys ws->Vals (xs++ys) (us++ws)
 | _,_,_,_,.nil,s=>s
 | _,_,_,_,.cons r t,s=>.cons r (Vals.append t s)
theorem Vals.take:∀ {xs:List V} {us:List Value} (n:Nat),Vals xs us->Vals (xs.take n) (us.take n)
 | _,_,0,_=>.nil
 | _,_,_+1,.nil=>.nil
 | _,_,n+1,.cons r t=>.cons r (Vals.take n t)
theorem Vals.drop:∀ {xs:List V} {us:List Value} (n:Nat),Vals xs us->Vals (xs.drop n) (us.drop n)
 | _,_,0,r=>r
 | _,_,_+1,.nil=>.nil
 | _,_,n+1,.cons _ t=>Vals.drop n t
def xH:Option V->Option Value->Prop
 | some v,some u=>RelV v u
 | none,none=>True
 | _,_=>False
def KV {κ:Type}:List (κ×V)->List (κ×Value)->Prop:=Paired fun (p:κ×V) (q:κ×Value)=>p.1=q.1/\RelV p.2 q.2
noncomputable def kV:Key->V
 | .inl i=>.int i
 | .inr x=>.str x
mutual
noncomputable def CV (w:World):PyData->Int
 | .int i=>hashInt i
 | .str x=>hashStr w x
 | .tuple ds=>reduceHash (Builtin.Tuple.tupleHashOf (zH w ds))
 | _=>0
noncomputable def zH (w:World):List PyData->List Int
 | []=>[]
 | d :: ds=>CV w d :: zH w ds
end
def Je (w:World) (x:PyData×V×V) (e:DictEntry):Prop:=e.hash=CV w x.1/\RelV x.2.1 e.key/\RelV x.2.2 e.val
inductive HO where
 /-- a list -/
 | lst (xs:List V)
 /-- a tuple (never changes) -/
 | tup (xs:List V)
 /-- a dict whose keys are ints and texts;one whose keys are tuples of ints and texts (the empty one is both) -/
 | dK (kvs:List (Key×V)) | dT (kvs:List (List Key×V))
 /-- a dict by any hashable data: its epoch;the keys as data and as values,what they hold -/
 | dD (ep:Nat) (xs:List (PyData×V×V))
 /-- a set of ints: its members,its size -/
 | set (S:Int->Bool) (n:Nat)
 /-- an instance of the class at C,its dict at dx,its attributes -/
 | ins (C dx:Addr) (fs:List (Str×V))
 /-- the dict of the instance at x -/
 | own (x:Addr)
 /-- the dict of an exception -/
 | xd (fs:List (Str×V))
 /-- a bound method,f of x -/
 | met (f x:Addr)
 /-- a range object lo,lo+1,.. below hi -/
 | rng (lo hi:Int)
 /-- a thing that is known to the object (the script;a dict while a loop walks it): read,never written while it is so -/
 | frz (o:Obj) (u:HO)
 /-- a code object's table -/
 | tbl (ps:Array Value)
 /-- any other thing,by what is true of its one object (a def of one's own: JR a S n:=HO.ext fun h=>..) -/
 | ext (φ:Heap->Prop)
abbrev Hp:=Addr->Option HO
noncomputable def upd (H:Hp) (a:Addr) (o:HO):Hp:=fun b=>if b=a then some o else H b
theorem aH {H:Hp} {a:Addr} {o:HO}:upd H a o a=some o:=by unfold upd;rw [Km rfl]
theorem au {H:Hp} {a b:Addr} {o:HO} (h:b≠a):upd H a o b=H b:=by unfold upd;rw [Kr h]
theorem aD {H:Hp} {a b:Addr} {o:HO} (h:H a=some o) (h':H b=none):a≠b:=by
 intro e;subst e;rw [h] at h';cases h'
section
variable (P:Program) (w:World)
def fG (H:Hp) (h:Heap) (a:Addr):HO->Prop
 | .lst xs=>xs.length<=sizeLine/\∃ (its:List Value) (n:Nat),Vals xs its/\h.get? a=some { cls:=.type "list", data:=.seq its.toArray n }
 | .tup xs=>xs.length<=sizeLine/\∃ its:List Value,Vals xs its/\IsTup h a its.toArray
 | .dK kvs=>kvs.length<=sizeLine/\(a==sysModules)=false/\∃ vs,KV kvs vs/\h.DictOf (qg P w) a vs
 | .dT kvs=>kvs.length<=sizeLine/\(a==sysModules)=false/\∃ xs:List (List Key×Addr×Value),
   Paired (fun (p:List Key×V) (q:List Key×Addr×Value)=>p.1=q.1/\H q.2.1=some (.tup (p.1.map kV))/\RelV p.2 q.2.2) kvs xs /\
   ∃ o es ep,h.get? a=some o/\o.ExactDict/\o.data=.dict es ep/\es.toList=xs.map (entryOfKey (tupleKind (qg P w)))/\(xs.map (·.1)).Nodup
 | .dD ep xs=>xs.length<=sizeLine/\(a==sysModules)=false/\(xs.map (·.1)).Nodup/\∃ o es,h.get? a=some o/\o.ExactDict/\o.data=.dict es ep/\Paired (Je w) xs es.toList
 | .set S n=>h.SetOf (intKind P w) a S n
 | .ins C dx fs=>H dx=some (.own a)/\fs.length<=1000/\dx≠a/\h.get? a=some (PySem.W.instObj C dx) /\
   ∃ mA,h.Ns1 dx mA/\(∀ f,xH (fs.lookup f) (mA f))/\PySem.Within mA (fs.map (·.1))
 | .own _=>∃ o,h.get? a=some o
 | .xd fs=>∃ mA,h.Ns1 a mA/\∀ f,xH (fs.lookup f) (mA f)
 | .rng lo hi=>∃ t u v,h.get? a=some { cls:=.type "range", data:=.fields #[.int lo t,.int hi u,.int 1 v] }
 | .frz o u=>h.get? a=some o/\fG H h a u
 | .tbl ps=>h.get? a=some { cls:=.none,data:=.fields ps }
 | .met f x=>h.get? a=some (PySem.W.methodObj (.ref f) (.ref x))
 | .ext φ=>φ h/\(∃ o,h.get? a=some o)/\∀ h1 h2:Heap,φ h1->(∀ o,h1.get? a=some o->h2.get? a=some o)->φ h2
def HOk (H:Hp) (h:Heap):Prop:=∀ a o,H a=some o->fG P w H h a o
end
section
variable {P:Program} {w:World} {H H':Hp} {h h':Heap} {a:Addr} {o:HO}
theorem fG.lt (x:fG P w H h a o):a < h.objs.size:=by
 cases o with
 | lst xs=>obtain ⟨_,_,_,_,e⟩:=x;exact Kg e
 | tup xs=>obtain ⟨_,_,_,p⟩:=x;exact p.lt
 | dK kvs=>obtain ⟨_,_,_,_,o,_,_,e,_⟩:=x;exact Kg e
 | dT kvs=>obtain ⟨_,_,_,_,o,_,_,e,_⟩:=x;exact Kg e
 | dD ep xs=>obtain ⟨_,_,_,o,_,e,_⟩:=x;exact Kg e
 | set S n=>obtain ⟨o,_,_,_,e,_⟩:=x;exact Kg e
 | ins C dx fs=>obtain ⟨_,_,_,e,_⟩:=x;exact Kg e
 | own y=>obtain ⟨_,e⟩:=x;exact Kg e
 | xd fs=>obtain ⟨_,⟨_,_,_,e,_⟩,_⟩:=x;exact Kg e
 | rng lo hi=>obtain ⟨_,_,_,e⟩:=x;exact Kg e
 | frz ob u=>obtain ⟨e,_⟩:=x;exact Kg e
 | tbl ps=>exact Kg (show h.get? a=some _ from x)
 | met f y=>exact Kg (show h.get? a=some _ from x)
 | ext φ=>obtain ⟨_,⟨_,e⟩,_⟩:=x;exact Kg e
theorem Paired.Iq {α β:Type} {F G:α->β->Prop}:∀ {l₁:List α} {l₂:List β},Paired F l₁ l₂->(∀ a b,F a b->G a b)->Paired G l₁ l₂
 | _,_,.nil,_=>.nil
 | _,_,.cons r t,f=>.cons (f _ _ r) (Paired.Iq t f)
theorem fG.mH (x:fG P w H h a o) (k:∀ b u,(b=a\/H b=some (.own a))->h.get? b=some u->h'.get? b=some u)
  (ho:∀ b,H b=some (.own a)->H' b=some (.own a)) (ht:∀ b xs,H b=some (.tup xs)->H' b=some (.tup xs)):fG P w H' h' a o:=by
 induction o with
 | lst xs=>obtain ⟨z,its,n,r,e⟩:=x;exact ⟨z,its,n,r,k _ _ (.inl rfl) e⟩
 | tup xs=>obtain ⟨z,its,r,ob,e,c⟩:=x;exact ⟨z,its,r,ob,k _ _ (.inl rfl) e,c⟩
 | dK kvs=>obtain ⟨z,y,vs,r,ob,es,ep,e,c⟩:=x;exact ⟨z,y,vs,r,ob,es,ep,k _ _ (.inl rfl) e,c⟩
 | dT kvs =>
  obtain ⟨z,y,xs,r,ob,es,ep,e,c⟩:=x;exact ⟨z,y,xs,Paired.Iq r fun p q z=>⟨z.1,ht _ _ z.2.1,z.2.2⟩,ob,es,ep,k _ _ (.inl rfl) e,c⟩
 | dD ep xs=>obtain ⟨z,y,nd,ob,es,e,c⟩:=x;exact ⟨z,y,nd,ob,es,k _ _ (.inl rfl) e,c⟩
 | set S n=>obtain ⟨ob,es,ep,t,e,c⟩:=x;exact ⟨ob,es,ep,t,k _ _ (.inl rfl) e,c⟩
 | ins C dx fs =>
  obtain ⟨d,z,ne,e,mA,⟨od,es,ep,e2,c⟩,r⟩:=x;exact ⟨ho _ d,z,ne,k _ _ (.inl rfl) e,mA,⟨od,es,ep,k _ _ (.inr d) e2,c⟩,r⟩
 | own y=>obtain ⟨ob,e⟩:=x;exact ⟨ob,k _ _ (.inl rfl) e⟩
 | xd fs=>obtain ⟨mA,⟨od,es,ep,e,c⟩,r⟩:=x;exact ⟨mA,⟨od,es,ep,k _ _ (.inl rfl) e,c⟩,r⟩
 | rng lo hi=>obtain ⟨t,u,v,e⟩:=x;exact ⟨t,u,v,k _ _ (.inl rfl) e⟩
 | frz ob u ih=>obtain ⟨e,q⟩:=x;exact ⟨k _ _ (.inl rfl) e,ih q⟩
 | tbl ps =>
  have e:h.get? a=some { cls:=.none,data:=.fields ps }:=x;show h'.get? a=some { cls:=.none,data:=.fields ps };exact k a _ (.inl rfl) e
 | met f y =>
  have e:h.get? a=some (PySem.W.methodObj (.ref f) (.ref y)):=x;show h'.get? a=some (PySem.W.methodObj (.ref f) (.ref y));exact k a _ (.inl rfl) e
 | ext φ=>obtain ⟨p,⟨o,e⟩,st⟩:=x;exact ⟨st _ _ p fun o q=>k _ _ (.inl rfl) q,⟨o,k _ _ (.inl rfl) e⟩,st⟩
theorem HOk.lt (x:HOk P w H h) (e:H a=some o):a < h.objs.size:=(x a o e).lt
theorem HOk.fresh (x:HOk P w H h) (e:h.objs.size<=a):H a=none:=by
 cases q:H a with
 | none=>rfl
 | some u=>exact absurd (Kh (x.lt q) e) (KG _)
theorem HOk.kept (x:HOk P w H h) (k:∀ b u,h.get? b=some u->h'.get? b=some u):HOk P w H h':=fun a o e =>
 (x a o e).mH (fun b u _ q=>k b u q) (fun _ q=>q) fun _ _ q=>q
theorem HOk.laid (x:HOk P w H h) (k:∀ b u,h.get? b=some u->h'.get? b=some u) (hp:h.objs.size<=a) (new:fG P w (upd H a o) h' a o):HOk P w (upd H a o) h':=fun b u e=>by
 have hn:=x.fresh hp;by_cases hb:b=a
 ·subst hb;rw [aH] at e;cases e;exact new
 ·rw [au hb] at e;exact (x b u e).mH (fun c v _ q=>k c v q) (fun c q=>by rw [au (aD q hn)];exact q) fun c xs q=>by rw [au (aD q hn)];exact q
end
def Rd (H:Hp) (a:Addr) (u:HO):Prop:=H a=some u\/∃ o,H a=some (.frz o u)
theorem Rd.ok {P:Program} {w:World} {H:Hp} {h:Heap} {a:Addr} {u:HO} (r:Rd H a u) (x:HOk P w H h):fG P w H h a u:=by
 rcases r with r | ⟨o,r⟩
 ·exact x a u r
 ·obtain ⟨_,q⟩:=x a _ r;exact q
def Mut:Option HO->Prop
 | some (.lst _)=>True
 | some (.dK _)=>True
 | some (.dT _)=>True
 | some (.dD _ _)=>True
 | some (.set _ _)=>True
 | some (.ins _ _ _)=>True
 | some (.ext _)=>True
 | _=>False
section
variable {P:Program} {w:World} {H:Hp} {h h':Heap} {x e:Addr} {o':HO}
theorem HOk.write (ok:HOk P w H h) (mu:Mut (H x)) (he:e=x\/H e=some (.own x)) (k:∀ b u,b≠e->h.get? b=some u->h'.get? b=some u) (heo:∃ u,h'.get? e=some u)
  (new:fG P w (upd H x o') h' x o'):HOk P w (upd H x o') h':=fun b u q=>by
 have nown:∀ c y,H c=some (.own y)->c≠x:=fun c y r z=>by subst z;rw [r] at mu;exact mu
 have ntup:∀ c xs,H c=some (.tup xs)->c≠x:=fun c xs r z=>by subst z;rw [r] at mu;exact mu
 by_cases hb:b=x
 ·subst hb;rw [aH] at q;cases q;exact new
 ·rw [au hb] at q;by_cases hbe:b=e
  ·have q':H b=some (.own x):=by
    rcases he with z | z
    ·exact absurd (hbe.trans z) hb
    ·rw [hbe];exact z
   rw [q] at q';cases q';obtain ⟨v,hv⟩:=heo;exact ⟨v,by rw [hbe];exact hv⟩
  ·refine (ok b u q).mH (fun c v hc r=>k c v ?_ r) (fun c r=>by rw [au (nown c b r)];exact r) fun c xs r=>by rw [au (ntup c xs r)];exact r
   rcases hc with rfl | hc
   ·exact hbe
   ·rintro rfl;rcases he with z | z
    ·exact nown c b hc z
    ·rw [hc] at z;cases z;exact hb rfl
end
structure Un (fs ex:List Addr) (H H':Hp) (h h':Heap):Prop where
 keep:∀ b o,h.get? b=some o->H b=none->b ∉ fs->b ∉ ex->h'.get? b=some o
 slot:∀ b o,h.get? b=some o->H b=none->b∈fs->b ∉ ex->∃ sl,h'.get? b=some { o with slots:=sl }
 free:∀ b o,h.get? b=some o->H b=none->b ∉ ex->H' b=none
 there:∀ b o,h.get? b=some o->b ∉ ex->∃ o',h'.get? b=some o'
 uI:∀ b xs,H b=some (.tup xs)->H' b=some (.tup xs)
 tV:∀ b o u,H b=some (.frz o u)->H' b=some (.frz o u)
 xG:∀ b ps,H b=some (.tbl ps)->∃ more,H' b=some (.tbl (ps++more))
section
variable {fs fs' ex ex':List Addr} {H H1 H2:Hp} {h h1 h2 h':Heap} {a x e:Addr} {o:HO}
theorem Un.any (u:Un fs ex H H1 h h1) {b:Addr} {ob:Obj} (q:h.get? b=some ob) (n:H b=none) (hx:b ∉ ex):∃ sl,h1.get? b=some { ob with slots:=sl }:=by
 by_cases hb:b∈fs
 ·exact u.slot b ob q n hb hx
 ·exact ⟨ob.slots,u.keep b ob q n hb hx⟩
theorem Un.kept (k:∀ b u,h.get? b=some u->h'.get? b=some u):Un fs ex H H h h' :=
 ⟨fun b ob q _ _ _=>k b ob q,fun b ob q _ _ _=>⟨ob.slots,k b ob q⟩,fun _ _ _ n _=>n,fun b ob q _=>⟨ob,k b ob q⟩,fun _ _ q=>q,fun _ _ _ q=>q,fun _ ps q=>⟨#[],by rw [q];simp⟩⟩
theorem Un.refl:Un fs ex H H h h:=Un.kept fun _ _ q=>q
theorem Un.laid (k:∀ b u,h.get? b=some u->h'.get? b=some u) (hp:h.objs.size<=a) (hn:H a=none):Un fs ex H (upd H a o) h h' where
 keep:=fun b u q _ _ _=>k b u q
 slot:=fun b u q _ _ _=>⟨u.slots,k b u q⟩
 free:=fun b u q n _=>by rw [au (KP (Kh (Kg q) hp))];exact n
 there:=fun b u q _=>⟨u,k b u q⟩
 uI:=fun b xs q=>by rw [au (aD q hn)];exact q
 tV:=fun b u xs q=>by rw [au (aD q hn)];exact q
 xG:=fun b ps q=>⟨#[],by rw [au (aD q hn),q];simp⟩
theorem Un.write (mu:Mut (H x)) (he:e=x\/H e=some (.own x)) (k:∀ b u,b≠e->h.get? b=some u->h'.get? b=some u) (heo:∃ u,h'.get? e=some u):Un fs ex H (upd H x o) h h':=by
 have hx:∀ b,H b=none->b≠x:=fun b n z=>by subst z;rw [n] at mu;exact mu
 have hb:∀ b,H b=none->b≠e:=fun b n z=>by
  subst z;rcases he with r | r
  ·exact hx b n r
  ·rw [n] at r;cases r
 have hm:∀ b u,H b=some u->¬Mut (some u)->b≠x:=fun b u q nm z=>by subst z;rw [q] at mu;exact nm mu
 refine ⟨fun b u q n _ _=>k b u (hb b n) q,fun b u q n _ _=>⟨u.slots,k b u (hb b n) q⟩,fun b u q n _=>by rw [au (hx b n)];exact n,fun b u q _=>?_,
  fun b xs q=>by rw [au (hm b _ q fun z=>z)];exact q,fun b u xs q=>by rw [au (hm b _ q fun z=>z)];exact q,fun b ps q=>⟨#[],by rw [au (hm b _ q fun z=>z),q];simp⟩⟩
 by_cases hbe:b=e
 ·subst hbe;exact heo
 ·exact ⟨u,k b u hbe q⟩
end
noncomputable def trk (h:Heap) (H:Hp):List Addr:=(List.range h.objs.size).filter fun a=>(H a).isSome
noncomputable def xP (h:Heap) (H:Hp):Heap:=PySem.W.hideAll h (trk h H)
theorem xb (h:Heap) (H:Hp):(xP h H).objs.size=h.objs.size:=PySem.W.hideAll_size _ _
theorem y4 {h:Heap} {H:Hp} {b:Addr} {o:Obj} (e:h.get? b=some o) (n:H b=none):(xP h H).get? b=some o :=
 PySem.W.hideAll_get _ e fun hm=>by
  have q:(H b).isSome=true:=(List.mem_filter.mp hm).2;rw [n] at q;simp at q
theorem Bh {h:Heap} {H:Hp} {b:Addr} {o:Obj} (e:(xP h H).get? b=some o):h.get? b=some o/\H b=none:=by
 have e':h.get? b=some o:=PySem.W.of_hideAll (trk h H) e;refine ⟨e',?_⟩;cases q:H b with
 | none=>rfl
 | some x =>
  have hm:b∈trk h H:=List.mem_filter.mpr ⟨List.mem_range.mpr (Kg e'),by simp [q]⟩;have z:(xP h H).get? b=none:=PySem.W.hideAll_none (trk h H) hm;rw [z] at e;cases e
noncomputable def Bs (g h:Heap) (L:Addr):List (Addr×Obj):=(List.range h.objs.size).filterMap fun a=>if a=L\/(g.get? a).isSome=true then none else (h.get? a).map fun o=>(a,o)
noncomputable def rest (g h:Heap) (L d:Addr):List (Addr×Obj):=(Bs g h L).filter fun p=>decide (p.1≠d)
end L2
namespace L2
open PySem PySem.Spec PyProof.Rows
structure Mod (K:Fg) (mg:Str->Option Value) (base:Heap):Prop where
 kin:K.In base
 glob:base.Ns mainGlobals mg
 blt:∃ mb,base.Ns builtinsNs mb/\∀ x:Str,x ≠ "__name__" -> mb x=bootBuiltins x
 nolimit:base.NoLimit
structure Cx where
 prog:Program
 w:World
 K:Fg
 mg:Str->Option Value
 base:Heap
 A:Around
 N:List Str
 s₀:Shared
 H₀:Hp
 env:Env
 outer:List Env
 stack:List Env
 ex:List Addr
 fn:Str->Bool
 calm:Bool
 pn:List (Addr×Obj)
 xe:Value->Shared->Prop
noncomputable def frs (l:List Env):List Addr:=l.filterMap (·.frame)
noncomputable abbrev Cx.fs (X:Cx):List Addr:=frs X.outer
def Vis (sc:Scope) (x:Str):Prop:=sc.names.lookup x=some .local\/sc.names.lookup x=some .cell\/sc.names.lookup x=some .free
def Loc (sc:Scope) (x:Str):Prop:=sc.names.lookup x=some .local\/sc.names.lookup x=some .cell
def Look (env:Env) (h:Heap) (m:Str->Option Value) (x:Str) (u:Value):Prop :=
 (env.kindOf x=some .local/\m x=some u)\/((env.kindOf x=some .cell\/env.kindOf x=some .free)/\∃ c,env.cells.lookup x=some c/\h.IsCell c (some u))
structure Cx.Ok (X:Cx):Prop where
 mod:Mod X.K X.mg X.base
 kind:X.env.scope.kind=.function
 glob:X.env.globals=mainGlobals
 blt:X.env.builtins=builtinsNs
 above:X.s₀.heap.objs.size<=X.env.locals
 inj:∀ x y c,X.env.cells.lookup x=some c->X.env.cells.lookup y=some c->x=y
 has:∀ x,(X.env.kindOf x=some .cell\/X.env.kindOf x=some .free)->∃ c,X.env.cells.lookup x=some c
 cab:∀ x c,X.fn x=true->X.env.cells.lookup x=some c->X.s₀.heap.objs.size<=c
 hd:X.calm=true->X.A.handled=none
 frames:X.A.frames=some X.stack
 stk:X.stack=X.outer\/(X.stack=X.env :: X.outer/\X.env.frame=some X.env.locals)
 exf:∀ b∈X.ex,b≠X.env.locals/\∀ x c,X.env.cells.lookup x=some c->c≠b
 bs:∀ b o,X.base.get? b=some o->X.s₀.heap.get? b=some o/\X.H₀ b=none
 bsz:X.base.objs.size<=X.s₀.heap.objs.size
 BS:∀ b o,X.base.get? b=some o->b ∉ X.ex
 E7:∀ b∈X.ex,b ∉ X.fs
 uH:X.s₀.heap.FunFrames X.base X.outer
 frf:∀ b∈X.fs,X.H₀ b=none
structure Inv (X:Cx) (pins:List (Addr×Obj)) (σ:List (Option V)) (H:Hp) (s:Shared):Prop where
 ok:X.Ok
 os:s.os=X.s₀.os
 bare:AllBare s.gens
 base:Un X.fs X.ex X.H₀ H X.s₀.heap s.heap
 loc:∃ m,s.heap.Ns X.env.locals m/\∀ (i:Nat) (x:Str) (v:V),X.N[i]?=some x->σ[i]?=some (some v)->Vis X.env.scope x->∃ u,RelV v u/\Look X.env s.heap m x u
 cell:∀ x c,X.env.cells.lookup x=some c->∃ v,s.heap.IsCell c v
 free:H X.env.locals=none
 ll:∀ x c,X.env.cells.lookup x=some c->H c=none
 pin:∀ p∈X.pn++pins,s.heap.get? p.1=some p.2/\H p.1=none/\p.1≠X.env.locals/\p.1 ∉ X.fs/\∀ v,p.2.data≠.cell v
 hok:HOk X.prog X.w H s.heap
 len:σ.length=X.N.length
section
variable {X:Cx} {pins:List (Addr×Obj)} {σ:List (Option V)} {H H':Hp} {s:Shared} {h':Heap}
theorem Cx.Ok.JB (ok:X.Ok) {b:Addr} {o:Obj} (e:X.base.get? b=some o):b ∉ X.fs:=fun hb=>by
 have:=(ok.uH.mem hb).1;rw [e] at this;cases this
theorem Inv.bs (I:Inv X pins σ H s):∀ b o,X.base.get? b=some o->s.heap.get? b=some o/\H b=none:=fun b o e =>
 ⟨I.base.keep b o (I.ok.bs b o e).1 (I.ok.bs b o e).2 (I.ok.JB e) (I.ok.BS b o e),I.base.free b o (I.ok.bs b o e).1 (I.ok.bs b o e).2 (I.ok.BS b o e)⟩
theorem Inv.bk (I:Inv X pins σ H s):∀ b o,X.base.get? b=some o->s.heap.get? b=some o:=fun b o e=>(I.bs b o e).1
theorem Inv.mod (I:Inv X pins σ H s):Mod X.K X.mg X.base:=I.ok.mod
theorem Inv.kIn (I:Inv X pins σ H s):X.K.In s.heap:=I.ok.mod.kin.keeps I.bk
theorem Inv.lt (I:Inv X pins σ H s):X.env.locals < s.heap.objs.size:=let ⟨_,hn,_⟩:=I.loc;hn.lt
theorem Inv.sz (I:Inv X pins σ H s):X.s₀.heap.objs.size<=s.heap.objs.size:=Ks I.ok.above (Nat.le_of_lt I.lt)
theorem Inv.Fo (I:Inv X pins σ H s) {a:Addr} (h:s.heap.objs.size<=a):a ∉ X.fs:=fun hb=>by
 obtain ⟨_,o,ho,_⟩:=I.ok.uH.mem hb;exact absurd (Kh (Kg ho) (Ks I.sz h)) (KG _)
theorem Inv.cne (I:Inv X pins σ H s):∀ x c,X.env.cells.lookup x=some c->c≠X.env.locals:=fun x c e z=>by
 obtain ⟨v,o,ho,hd⟩:=I.cell x c e;obtain ⟨m,⟨o',es,ep,ho',hd',_⟩,_⟩:=I.loc;rw [z,ho'] at ho;cases ho;rw [hd'] at hd;cases hd
theorem Inv.uH (I:Inv X pins σ H s):s.heap.FunFrames X.base X.outer:=by
 have all:∀ (l:List Env),(∀ b∈frs l,b∈X.fs)->X.s₀.heap.FunFrames X.base l->s.heap.FunFrames X.base l:=by
  intro l;induction l with
  | nil=>intro _ _;trivial
  | cons env r ih =>
   intro hs hl;obtain ⟨hk,⟨L,o,hf,hn,ho,hd⟩,hr⟩:=hl;have hL:L∈X.fs:=hs L (by unfold frs;rw [List.filterMap_cons,hf];exact Ki);obtain ⟨sl,e⟩:=I.base.slot L o ho (I.ok.frf L hL) hL fun z=>I.ok.E7 L z hL;exact ⟨hk,⟨L,_,hf,hn,e,hd⟩,ih (fun b hb=>hs b (by unfold frs;rw [List.filterMap_cons,hf];exact Kb _ hb)) hr⟩
 exact all X.outer (fun _ hb=>hb) I.ok.uH
theorem Inv.stack (I:Inv X pins σ H s):s.heap.FunFrames X.base X.stack:=by
 rcases I.ok.stk with e | ⟨e,hf⟩
 ·rw [e];exact I.uH
 ·rw [e];obtain ⟨m,hn,_⟩:=I.loc;refine .cons (by rw [I.ok.kind];decide) hf hn ?_ I.uH;exact Heap.get?_none_of_le (Ks I.ok.bsz I.ok.above)
theorem Inv.sM (I:Inv X pins σ H s):∀ b∈frs X.stack,b∈X.env.locals :: X.fs:=fun b hb=>by
 rcases I.ok.stk with e | ⟨e,hf⟩
 ·rw [e] at hb;exact Kb _ hb
 ·rw [e] at hb;unfold frs at hb;rw [List.filterMap_cons,hf] at hb;exact hb
theorem Inv.qQ (I:Inv X pins σ H s):∀ b∈frs X.stack,H b=none:=fun b hb=>by
 rcases Kd.mp (I.sM b hb) with e | hb
 ·rw [e];exact I.free
 ·obtain ⟨_,o,ho,_⟩:=I.ok.uH.mem hb;exact I.base.free b o ho (I.ok.frf b hb) fun z=>I.ok.E7 b z hb
theorem Inv.step {g':Array GenState} {t':Nat} {d':Drawn} {ch:List Addr} (I:Inv X pins σ H s)
  (hch:∀ b∈ch,(b∈X.ex\/X.s₀.heap.objs.size<=b)/\b≠X.env.locals/\(∀ x c,X.env.cells.lookup x=some c->c≠b)/\∀ p∈X.pn++pins,p.1≠b)
  (keep:∀ b o,b≠X.env.locals->b ∉ X.fs->b ∉ ch->s.heap.get? b=some o->H b=none->h'.get? b=some o)
  (slot:∀ b o,b≠X.env.locals->b∈X.fs->b ∉ ch->s.heap.get? b=some o->H b=none->∃ sl,h'.get? b=some { o with slots:=sl }) (free:∀ b o,b ∉ ch->s.heap.get? b=some o->H b=none->H' b=none)
  (there:∀ b o,b ∉ ch->s.heap.get? b=some o->∃ o',h'.get? b=some o')
  (uI:∀ b xs,H b=some (.tup xs)->H' b=some (.tup xs)) (tV:∀ b o u,H b=some (.frz o u)->H' b=some (.frz o u)) (xG:∀ b ps,H b=some (.tbl ps)->∃ more,H' b=some (.tbl (ps++more)))
  (ns:∀ m,s.heap.Ns X.env.locals m->h'.Ns X.env.locals m) (hok:HOk X.prog X.w H' h') (hg:AllBare g') :
  Inv X pins σ H' { s with heap:=h',gens:=g',drawn:=d',toks:=t' }:=by
 have neL:∀ b o,X.s₀.heap.get? b=some o->b≠X.env.locals:=fun b o e=>KP (Kh (Kg e) I.ok.above);have neC:∀ b o,X.s₀.heap.get? b=some o->b ∉ X.ex->b ∉ ch:=fun b o e hx hb=>by
  rcases (hch b hb).1 with z | z
  ·exact hx z
  ·exact absurd (Kh (Kg e) z) (KG _)
 have cellK:∀ x c,X.env.cells.lookup x=some c->∀ v,s.heap.IsCell c v->h'.IsCell c v:=fun x c e v ⟨o,ho,hd⟩=>by
  have nch:c ∉ ch:=fun z=>(hch c z).2.2.1 x c e rfl;by_cases hc:c∈X.fs
  ·obtain ⟨sl,q⟩:=slot c o (I.cne x c e) hc nch ho (I.ll x c e);exact ⟨_,q,hd⟩
  ·exact ⟨o,keep c o (I.cne x c e) hc nch ho (I.ll x c e),hd⟩
 refine ⟨I.ok,I.os,hg,⟨fun b o e n hb hx=>?_,fun b o e n hb hx=>?_,fun b o e n hx=>?_,fun b o e hx=>?_,fun b xs e=>uI b xs (I.base.uI b xs e),fun b o xs e=>tV b o xs (I.base.tV b o xs e),fun b ps e=>?_⟩,?_,fun x c e=>?_,?_,fun x c e=>?_,fun p hp=>?_,hok,I.len⟩
 ·exact keep b o (neL b o e) hb (neC b o e hx) (I.base.keep b o e n hb hx) (I.base.free b o e n hx)
 ·obtain ⟨sl,e1⟩:=I.base.slot b o e n hb hx;obtain ⟨sl',e2⟩:=slot b _ (neL b o e) hb (neC b o e hx) e1 (I.base.free b o e n hx);exact ⟨sl',e2⟩
 ·obtain ⟨o',e1⟩:=I.base.there b o e hx;exact free b o' (neC b o e hx) e1 (I.base.free b o e n hx)
 ·obtain ⟨o',e1⟩:=I.base.there b o e hx;exact there b o' (neC b o e hx) e1
 ·obtain ⟨m1,e1⟩:=I.base.xG b ps e;obtain ⟨m2,e2⟩:=xG b _ e1;exact ⟨m1++m2,by rw [e2,Array.append_assoc]⟩
 ·obtain ⟨m,hn,hl⟩:=I.loc;refine ⟨m,ns m hn,fun i x v e1 e2 e3=>?_⟩;obtain ⟨u,r,l⟩:=hl i x v e1 e2 e3;refine ⟨u,r,?_⟩;rcases l with l | ⟨k,c,e,z⟩
  ·exact .inl l
  ·exact .inr ⟨k,c,e,cellK x c e _ z⟩
 ·obtain ⟨v,z⟩:=I.cell x c e;exact ⟨v,cellK x c e v z⟩
 ·obtain ⟨m,⟨o,_,_,ho,_⟩,_⟩:=I.loc;exact free _ o (fun z=>(hch _ z).2.1 rfl) ho I.free
 ·obtain ⟨v,o,ho,hd⟩:=I.cell x c e;exact free c o (fun z=>(hch c z).2.2.1 x c e rfl) ho (I.ll x c e)
 ·obtain ⟨e,n,ne,nf,d⟩:=I.pin p hp;have nch:p.1 ∉ ch:=fun z=>(hch p.1 z).2.2.2 p hp rfl;exact ⟨keep p.1 p.2 ne nf nch e n,free p.1 p.2 nch e n,ne,nf,d⟩
theorem Inv.un {t':Nat} (I:Inv X pins σ H s) (u:Un X.fs [] H H' s.heap h') (hok:HOk X.prog X.w H' h'):Inv X pins σ H' { s with heap:=h',toks:=t' }:=by
 obtain ⟨m,⟨o,es,ep,ho,r⟩,_⟩:=id I.loc;obtain ⟨sl,hL⟩:=u.any ho I.free (by simp)
 exact I.step (g':=s.gens) (d':=s.drawn) (ch:=[]) (fun _ z=>nomatch z) (fun b o _ hb _ e n=>u.keep b o e n hb (by simp)) (fun b o _ hb _ e n=>u.slot b o e n hb (by simp)) (fun b o _ e n=>u.free b o e n (by simp)) (fun b o _ e=>u.there b o e (by simp)) u.uI u.tV u.xG (fun m' hm=>by
  obtain ⟨o',es',ep',ho',r'⟩:=hm;rw [ho] at ho';cases ho'
  exact ⟨_,es',ep',hL,r'⟩) hok I.bare
theorem Inv.call {g':Array GenState} {t':Nat} {d':Drawn} {ch:List Addr} (I:Inv X pins σ H s) (u:Un (frs X.stack) ch H H' s.heap h') (hok:HOk X.prog X.w H' h') (hg:AllBare g')
  (hch:∀ b∈ch,(b∈X.ex\/X.s₀.heap.objs.size<=b)/\b≠X.env.locals/\(∀ x c,X.env.cells.lookup x=some c->c≠b)/\∀ p∈X.pn++pins,p.1≠b) :
  Inv X pins σ H' { s with heap:=h',gens:=g',drawn:=d',toks:=t' }:=by
 obtain ⟨m,⟨o,es,ep,ho,r⟩,_⟩:=id I.loc;obtain ⟨sl,hL⟩:=u.any ho I.free fun z=>(hch _ z).2.1 rfl
 exact I.step (ch:=ch) hch (fun b o hL hb hc e n=>u.keep b o e n (fun z=>(Kd.mp (I.sM b z)).elim hL hb) hc) (fun b o _ _ hc e n=>u.any e n hc) (fun b o hc e n=>u.free b o e n hc) (fun b o hc e=>u.there b o e hc) u.uI u.tV u.xG (fun m' hm=>by
  obtain ⟨o',es',ep',ho',r'⟩:=hm;rw [ho] at ho';cases ho'
  exact ⟨_,es',ep',hL,r'⟩) hok hg
theorem Inv.turned {t':Nat} {it:Addr} (I:Inv X pins σ H s) (k:∀ b o,b≠it->s.heap.get? b=some o->h'.get? b=some o) (hn:H it=none) (hL:it≠X.env.locals)
  (h1:it∈X.ex\/X.s₀.heap.objs.size<=it) (h2:∀ x c,X.env.cells.lookup x=some c->c≠it) (h3:∀ p∈X.pn++pins,p.1≠it):Inv X pins σ H { s with heap:=h',toks:=t' }:=by
 have nit:∀ b u,H b=some u->b≠it:=fun b u e z=>by rw [z,hn] at e;cases e
 refine I.step (g':=s.gens) (d':=s.drawn) (ch:=[it]) (fun b hb=>?_) (fun b o _ _ hc e _=>k b o (fun z=>hc (by simp [z])) e) (fun b o _ _ hc e _=>⟨o.slots,k b o (fun z=>hc (by simp [z])) e⟩) (fun _ _ _ _ n=>n)
  (fun b o hc e=>⟨o,k b o (fun z=>hc (by simp [z])) e⟩) (fun _ _ e=>e) (fun _ _ _ e=>e) (fun b ps e=>⟨#[],by rw [e];simp⟩) (fun m hm=>?_) (fun b u e=>?_) I.bare
 ·have e:b=it:=by simpa using hb
  subst e;exact ⟨h1,hL,h2,h3⟩
 ·obtain ⟨o,es,ep,ho,r⟩:=hm;exact ⟨o,es,ep,k _ o (Ne.symm hL) ho,r⟩
 ·refine (I.hok b u e).mH (fun c v hc q=>k c v ?_ q) (fun _ q=>q) fun _ _ q=>q;rcases hc with z | z
  ·rw [z];exact nit b u e
  ·exact nit c _ z
theorem Inv.tok (I:Inv X pins σ H s) (t:Nat):Inv X pins σ H { s with toks:=t }:=I.un (h':=s.heap) (t':=t) Un.refl I.hok
theorem Inv.kept {t':Nat} (I:Inv X pins σ H s) (k:∀ b u,s.heap.get? b=some u->h'.get? b=some u):Inv X pins σ H { s with heap:=h',toks:=t' }:=I.un (Un.kept k) (I.hok.kept k)
theorem Inv.laid {a:Addr} {o:HO} {t':Nat} (I:Inv X pins σ H s) (k:∀ b u,s.heap.get? b=some u->h'.get? b=some u) (hp:s.heap.objs.size<=a) (new:fG X.prog X.w (upd H a o) h' a o) :
  Inv X pins σ (upd H a o) { s with heap:=h',toks:=t' }:=I.un (Un.laid k hp (I.hok.fresh hp)) (I.hok.laid k hp new)
theorem Inv.write {x e:Addr} {o:HO} {t':Nat} (I:Inv X pins σ H s) (mu:Mut (H x)) (he:e=x\/H e=some (.own x)) (k:∀ b u,b≠e->s.heap.get? b=some u->h'.get? b=some u) (heo:∃ u,h'.get? e=some u)
  (new:fG X.prog X.w (upd H x o) h' x o):Inv X pins σ (upd H x o) { s with heap:=h',toks:=t' }:=I.un (Un.write mu he k heo) (I.hok.write mu he k heo new)
theorem Inv.fy {pins':List (Addr×Obj)} (I:Inv X pins σ H s) (h:∀ p∈pins',s.heap.get? p.1=some p.2/\H p.1=none/\p.1≠X.env.locals/\p.1 ∉ X.fs/\∀ v,p.2.data≠.cell v):Inv X pins' σ H s :=
 ⟨I.ok,I.os,I.bare,I.base,I.loc,I.cell,I.free,I.ll,fun p hp=>(Ls.mp hp).elim (fun z=>I.pin p (Lv _ z)) (h p),I.hok,I.len⟩
theorem sZ {N:List Str} (hN:N.Nodup) {i j:Nat} {x:Str} (a:N[i]?=some x) (b:N[j]?=some x):i=j:=by
 obtain ⟨h1,e1⟩:=Ka.mp a;obtain ⟨h2,e2⟩:=Ka.mp b;exact (List.getElem_inj hN).mp (e1.trans e2.symm)
theorem v7 {M:Model} {A:Around} {E:Value->Shared->Prop} {i:Nat} {x:Str} {v:V} {u:Value} {Q:Unit->Shared->Prop} (I:Inv X pins σ H s) (hN:X.N.Nodup) (hi:X.N[i]?=some x) (hx:Loc X.env.scope x) (r:RelV v u)
  (h:∀ s',Inv X pins (σ.set i (some v)) H s'->(∃ a,Heap.SameBut a s.heap s'.heap/\(a=X.env.locals\/X.env.cells.lookup x=some a))->Q () s') (hf:X.fn x=true\/X.env.scope.names.lookup x=some .local:=by first | exact .inl rfl | exact .inr rfl | assumption):wpAny M A (storeName X.env x u) Q E s:=by
 obtain ⟨m,hn,hl⟩:=id I.loc;have hcls:(X.env.scope.kind==.class||(X.env.scope.kind==.module&&X.env.locals != X.env.globals))=false:=by rw [I.ok.kind];rfl
 have hiσ:i < σ.length:=by rw [I.len];exact (Ka.mp hi).1
 have cne:=I.cne;have tracked:∀ {a:Addr} {h':Heap},(∃ o,s.heap.get? a=some o/\H a=none)->Heap.SameBut a s.heap h'->HOk X.prog X.w H h':=fun {a h'} ha hs b ob e=>by
  obtain ⟨_,_,hfree⟩:=ha;refine (I.hok b ob e).mH (fun c w' hc q=>(hs.2 c ?_).trans q) (fun _ q=>q) fun _ _ q=>q;rintro rfl;rcases hc with rfl | hc
  ·rw [hfree] at e;cases e
  ·rw [hfree] at hc;cases hc
 rcases hx with hk | hk
 ·refine wpAny_storeName_local hk hn (fun h' hn' hs=>?_) hcls;obtain ⟨oL,_,_,hoL,_⟩:=id hn;refine h _ ⟨I.ok,I.os,I.bare,⟨fun b o e n hb hx=>?_,fun b o e n hb hx=>?_,I.base.free,fun b o e hx=>?_,I.base.uI,I.base.tV,I.base.xG⟩,⟨_,hn',fun j y v' e1 e2 e3=>?_⟩,fun y c e=>?_,I.free,I.ll,fun p hp=>?_,tracked ⟨oL,hoL,I.free⟩ hs,by simpa using I.len⟩ ⟨_,hs,.inl rfl⟩
  ·exact (hs.2 b (KP (Kh (Kg e) I.ok.above))).trans (I.base.keep b o e n hb hx)
  ·obtain ⟨sl,e1⟩:=I.base.slot b o e n hb hx;exact ⟨sl,(hs.2 b (KP (Kh (Kg e) I.ok.above))).trans e1⟩
  ·obtain ⟨o',e1⟩:=I.base.there b o e hx;exact ⟨o',(hs.2 b (KP (Kh (Kg e) I.ok.above))).trans e1⟩
  ·by_cases hj:j=i
   ·subst hj;rw [hi] at e1;cases e1;rw [Kf hiσ] at e2;cases e2;exact ⟨u,r,.inl ⟨hk,by simp⟩⟩
   ·rw [J4 (Ne.symm hj)] at e2;obtain ⟨u',r',q⟩:=hl j y v' e1 e2 e3;refine ⟨u',r',?_⟩;rcases q with ⟨k,e⟩ | ⟨k,c,e,z⟩
    ·refine .inl ⟨k,?_⟩;have:y≠x:=fun e=>hj (sZ hN e1 (e▸hi));simp [this,e]
    ·exact .inr ⟨k,c,e,z.sameBut hs (cne y c e)⟩
  ·obtain ⟨w',z⟩:=I.cell y c e;exact ⟨w',z.sameBut hs (cne y c e)⟩
  ·obtain ⟨e,n,ne,nf,d⟩:=I.pin p hp;exact ⟨(hs.2 p.1 ne).trans e,n,ne,nf,d⟩
 ·have hfn:X.fn x=true:=by
   rcases hf with z | z
   ·exact z
   ·rw [z] at hk;cases hk
  obtain ⟨c,hc⟩:=I.ok.has x (.inl hk);obtain ⟨w',z⟩:=I.cell x c hc;refine wpAny_storeName_cell I.ok.kind hk hc z (fun h' hc' hs=>?_);obtain ⟨oc,hoc,hocd⟩:=id z;refine h { s with heap:=h' } ⟨I.ok,I.os,I.bare,⟨fun b o e n hb hx=>?_,fun b o e n hb hx=>?_,I.base.free,fun b o e hx=>?_,I.base.uI,I.base.tV,I.base.xG⟩,⟨m,hn.sameBut hs (Ne.symm (cne x c hc)),fun j y v' e1 e2 e3=>?_⟩,fun y c' e=>?_,I.free,I.ll,fun p hp=>?_,tracked ⟨oc,hoc,I.ll x c hc⟩ hs,by simpa using I.len⟩ ⟨c,hs,.inr hc⟩
  ·exact (hs.2 b (KP (Kh (Kg e) (I.ok.cab x c hfn hc)))).trans (I.base.keep b o e n hb hx)
  ·obtain ⟨sl,e1⟩:=I.base.slot b o e n hb hx;exact ⟨sl,(hs.2 b (KP (Kh (Kg e) (I.ok.cab x c hfn hc)))).trans e1⟩
  ·obtain ⟨o',e1⟩:=I.base.there b o e hx;exact ⟨o',(hs.2 b (KP (Kh (Kg e) (I.ok.cab x c hfn hc)))).trans e1⟩
  ·by_cases hj:j=i
   ·subst hj;rw [hi] at e1;cases e1;rw [Kf hiσ] at e2;cases e2;exact ⟨u,r,.inr ⟨.inl hk,c,hc,hc'⟩⟩
   ·rw [J4 (Ne.symm hj)] at e2;obtain ⟨u',r',q⟩:=hl j y v' e1 e2 e3;refine ⟨u',r',?_⟩;rcases q with q | ⟨k,c',e,z'⟩
    ·exact .inl q
    ·refine .inr ⟨k,c',e,z'.sameBut hs ?_⟩;rintro rfl;exact hj (sZ hN e1 (I.ok.inj _ _ _ e hc▸hi))
  ·by_cases hcc:c'=c
   ·subst hcc;exact ⟨_,hc'⟩
   ·obtain ⟨w2,z2⟩:=I.cell y c' e;exact ⟨w2,z2.sameBut hs hcc⟩
  ·obtain ⟨e,n,ne,nf,d⟩:=I.pin p hp;refine ⟨(hs.2 p.1 ?_).trans e,n,ne,nf,d⟩;intro q;rw [q,hoc] at e;have q':oc=p.2:=KN e;exact d w' (by rw [<- q'];exact hocd)
theorem rM {M:Model} {A:Around} {E:Value->Shared->Prop} {i:Nat} {x:Str} {v:V} {u:Value} {Q:Unit->Shared->Prop} (I:Inv X pins σ H s) (hN:X.N.Nodup) (hi:X.N[i]?=some x) (hx:Loc X.env.scope x) (r:RelV v u)
  (h:∀ s',Inv X pins (σ.set i (some v)) H s'->Q () s') (hf:X.fn x=true\/X.env.scope.names.lookup x=some .local:=by first | exact .inl rfl | exact .inr rfl | assumption):wpAny M A (storeName X.env x u) Q E s :=
 v7 I hN hi hx r (fun s' I' _=>h s' I') hf
end
abbrev XK:=Value->Option Addr->Hp->Prop
abbrev St:=List (Option V)
abbrev VK:=V->Hp->Prop
abbrev TE:=St->Hp->VK->Prop
abbrev TT:=St->Hp->(Bool->Hp->Prop)->Prop
abbrev TA:=St->Hp->(List V->Hp->Prop)->Prop
structure Ends where
 nx:St->Hp->Prop
 rt:VK
 bk:St->Hp->Prop:=fun _ _=>False
 ct:St->Hp->Prop:=fun _ _=>False
abbrev TS:=Ends->St->Hp->Prop
def EP (X:Cx) (pins:List (Addr×Obj)) (σ:St) (Q:VK) (u:Value) (s':Shared):Prop:=∃ v H',Inv X pins σ H' s'/\RelV v u/\Q v H'
def TP (X:Cx) (pins:List (Addr×Obj)) (σ:St) (Q:Bool->Hp->Prop) (b:Bool) (s':Shared):Prop:=∃ H',Inv X pins σ H' s'/\Q b H'
def AP (X:Cx) (pins:List (Addr×Obj)) (σ:St) (Q:List V->Hp->Prop) (us:List Value) (s':Shared):Prop:=∃ vs H',Inv X pins σ H' s'/\Vals vs us/\Q vs H'
def SP (X:Cx) (pins:List (Addr×Obj)) (D:Ends) (f:Flow) (s':Shared):Prop :=
 match f with
 | .next=>∃ σ' H',Inv X pins σ' H' s'/\D.nx σ' H'
 | .brk=>∃ σ' H',Inv X pins σ' H' s'/\D.bk σ' H'
 | .cont=>∃ σ' H',Inv X pins σ' H' s'/\D.ct σ' H'
 | .ret u=>∃ v σ' H',Inv X pins σ' H' s'/\RelV v u/\D.rt v H'
def PE (X:Cx) (e:Expr) (t:TE):Prop :=
 ∀ (pins:List (Addr×Obj)) (s:Shared) (σ:St) (H:Hp) (Q:VK),Inv X pins σ H s->t σ H Q->wpAny (model X.prog X.w) X.A (eval e X.env) (EP X pins σ Q) X.xe s
def PT (X:Cx) (e:Expr) (t:TT):Prop :=
 ∀ (pins:List (Addr×Obj)) (s:Shared) (σ:St) (H:Hp) (Q:Bool->Hp->Prop),Inv X pins σ H s->t σ H Q->wpAny (model X.prog X.w) X.A (isTrue e X.env (eval e X.env)) (TP X pins σ Q) X.xe s
def PW (X:Cx) (e:Expr) (t:TT):Prop :=
 ∀ (whole:Sem Value) (pins:List (Addr×Obj)) (s:Shared) (σ:St) (H:Hp) (Q:Bool->Hp->Prop),Inv X pins σ H s->t σ H Q->wpAny (model X.prog X.w) X.A (isTrue e X.env whole) (TP X pins σ Q) X.xe s
theorem PW.pt {X:Cx} {e:Expr} {t:TT} (h:PW X e t):PT X e t:=h _
def PA (X:Cx) (es:List Expr) (t:TA):Prop :=
 ∀ (pos:Pos) (pins:List (Addr×Obj)) (s:Shared) (σ:St) (H:Hp) (Q:List V->Hp->Prop),Inv X pins σ H s->t σ H Q->wpAny (model X.prog X.w) X.A (spliced (backTo pos (starEach es X.env))) (AP X pins σ Q) X.xe s
def PS (X:Cx) (st:Stmt) (t:TS):Prop :=
 ∀ (pins:List (Addr×Obj)) (s:Shared) (σ:St) (H:Hp) (D:Ends),Inv X pins σ H s->t D σ H->wpAny (model X.prog X.w) X.A (exec st X.env) (SP X pins D) X.xe s
def PSs (X:Cx) (st:List Stmt) (t:TS):Prop :=
 ∀ (pins:List (Addr×Obj)) (s:Shared) (σ:St) (H:Hp) (D:Ends),Inv X pins σ H s->t D σ H->wpAny (model X.prog X.w) X.A (execs st X.env) (SP X pins D) X.xe s
theorem thn {α:Type} {t:Sem α} {Q Q':α->Shared->Prop} {M:Model} {A:Around} {E:Value->Shared->Prop} {s:Shared} (h:wpAny M A t Q E s) (hQ:∀ a s,Q a s->Q' a s):wpAny M A t Q' E s:=K5 h hQ fun _ _ x=>x
end L2
namespace L2
open PySem PySem.Spec PyProof.Rows
section
variable {X:Cx}
theorem bin {a b:Expr} {ta tb:TE} (ha:PE X a ta) (hb:PE X b tb) {pins:List (Addr×Obj)} {s:Shared} {σ:St} {H:Hp} {R:V->V->Hp->Prop} (I:Inv X pins σ H s) (h:ta σ H fun x H1=>tb σ H1 fun y H2=>R x y H2)
  {α:Type} {Q:α->Shared->Prop} {f:Value->Value->Sem α}
  (hf:∀ v u s2 x y H2,Inv X pins σ H2 s2->RelV x v->RelV y u->R x y H2->wpAny (model X.prog X.w) X.A (f v u) Q X.xe s2) :
  wpAny (model X.prog X.w) X.A (eval a X.env) (fun v s₁=>wpAny (model X.prog X.w) X.A (eval b X.env) (fun u s₂=>wpAny (model X.prog X.w) X.A (f v u) Q X.xe s₂) X.xe s₁) X.xe s:=by
 refine thn (ha pins s σ H _ I h) fun v s1 ⟨x,H1,I1,r1,q1⟩=>?_;refine thn (hb pins s1 σ H1 _ I1 q1) fun u s2 ⟨y,H2,I2,r2,q2⟩=>?_;exact hf v u s2 x y H2 I2 r1 r2 q2
def cU (i:Nat):TE:=fun σ H Q=>∃ v,σ[i]?=some (some v)/\Q v H
def tC (v:V):TE:=fun _ H Q=>Q v H
theorem D0 {i:Nat} {x:Str} {pos:Pos} (hN:X.N[i]?=some x) (hv:Vis X.env.scope x) (hd:(x==("__debug__" : Str))=false:=by decide) (hcd:(x==("__classdict__" : Str))=false:=by decide):PE X (.Name x pos) (cU i):=by
 intro pins s σ H Q I h;obtain ⟨v,e,h⟩:=h;obtain ⟨m,hn,hl⟩:=I.loc;obtain ⟨u,r,l⟩:=hl i x v hN e hv;have fin:EP X pins σ Q u s:=⟨v,H,I,r,h⟩;rcases l with ⟨hk,hm⟩ | ⟨hk,c,hc,hcell⟩
 ·exact wpAny_Name (wpAny_loadName_local I.ok.kind hk hn hm fin) hd
 ·rcases hk with hk | hk
  ·exact wpAny_Name (wpAny_loadName_cell I.ok.kind hk hc hcell fin) hd
  ·exact wpAny_Name (wpAny_loadName_free I.ok.kind hk hc hcell fin hcd) hd
theorem CA {i j pos}:PE X (.Constant (.int i) j pos) (tC (.int i)):=fun _ _ _ H _ I h=>wpAny_Constant_int ⟨.int i,H,I.tok _,⟨_,rfl⟩,h⟩
theorem Hw {b j pos}:PE X (.Constant (.bool b) j pos) (tC (.bl b)):=fun _ _ _ H _ I h=>Constant_bool ⟨.bl b,H,I,rfl,h⟩
theorem B4 {j pos}:PE X (.Constant .none j pos) (tC .non):=fun _ _ _ H _ I h=>Constant_none ⟨.non,H,I,rfl,h⟩
theorem Ei {x j pos}:PE X (.Constant (.str x) j pos) (tC (.str x)):=fun _ _ _ H _ I h=>Calls.Constant_str ⟨.str x,H,I.tok _,⟨_,rfl⟩,h⟩
def Gl (X:Cx) (x:Str):Prop:=X.env.kindOf x=some .globalImplicit
theorem qR {E:Value->Shared->Prop} {pins:List (Addr×Obj)} {s:Shared} {σ:St} {H:Hp} {x:Str} {u:Value} {pos:Pos} {Q:Value->Shared->Prop} (I:Inv X pins σ H s) (hg:Gl X x) (hm:X.mg x=some u) (h:Q u s)
  (hd:(x==("__debug__" : Str))=false:=by decide):wpAny (model X.prog X.w) X.A (eval (.Name x pos) X.env) Q E s :=
 Calls.Name_function_global I.ok.kind hg (Calls.loadGlobal_global (by rw [I.ok.glob];exact I.mod.glob.keeps I.bk) hm h) hd
theorem l9 {E:Value->Shared->Prop} {pins:List (Addr×Obj)} {s:Shared} {σ:St} {H:Hp} {x:Str} {u:Value} {pos:Pos} {Q:Value->Shared->Prop} (I:Inv X pins σ H s) (hg:Gl X x) (hm:X.mg x=none) (hv:bootBuiltins x=some u) (h:Q u s)
  (hn:x ≠ "__name__" := by decide) (hd:(x==("__debug__" : Str))=false:=by decide):wpAny (model X.prog X.w) X.A (eval (.Name x pos) X.env) Q E s:=by
 obtain ⟨mb,h1,h2⟩:=I.mod.blt;exact Calls.Name_function_global I.ok.kind hg (Calls.loadGlobal_builtin (by rw [I.ok.glob];exact I.mod.glob.keeps I.bk) hm (by rw [I.ok.blt];exact h1.keeps I.bk) ((h2 x hn).trans hv) h) hd
theorem A5 {x:Str} {v:V} {u:Value} {pos:Pos} (hg:Gl X x) (hm:X.mg x=some u) (r:RelV v u) (hd:(x==("__debug__" : Str))=false:=by decide):PE X (.Name x pos) (tC v) :=
 fun _ _ _ H _ I h=>qR I hg hm ⟨v,H,I,r,h⟩ hd
theorem AM {x:Str} {v:V} {u:Value} {pos:Pos} (hg:Gl X x) (hm:X.mg x=none) (hv:bootBuiltins x=some u) (r:RelV v u) (hn:x ≠ "__name__" := by decide) (hd:(x==("__debug__" : Str))=false:=by decide):PE X (.Name x pos) (tC v) :=
 fun _ _ _ H _ I h=>l9 I hg hm hv ⟨v,H,I,r,h⟩ hn hd
variable {a b:Expr} {ta tb:TE} {pos:Pos}
def PC (X:Cx) (op:CmpOp) (a b:Expr) (t:TE):Prop :=
 ∀ (pins:List (Addr×Obj)) (s:Shared) (σ:St) (H:Hp) (Q:VK),Inv X pins σ H s->t σ H Q ->
  wpAny (model X.prog X.w) X.A (eval a X.env) (fun v s₁=>wpAny (model X.prog X.w) X.A (eval b X.env) (fun u s₂=>wpAny (model X.prog X.w) X.A (compareOp op v u) (EP X pins σ Q) X.xe s₂) X.xe s₁) X.xe s
theorem yW (b:Expr) {op:CmpOp} (h:op≠.In) (h2:op≠.NotIn):behindInMarks op b=false:=by
 have e1:(op==CmpOp.In)=false:=by cases op <;> first | rfl | exact absurd rfl h
 have e2:(op==CmpOp.NotIn)=false:=by cases op <;> first | rfl | exact absurd rfl h2
 cases b <;> simp [behindInMarks,e1,e2]
def tB (t:TE):TT:=fun σ H Q=>t σ H fun x H1=>∃ c,x=.bl c/\Q c H1
theorem Im {op:CmpOp} {t:TE} (h:PC X op a b t) (h1:behindInMarks op b=false:=by first | exact yW _ (by decide) (by decide) | rfl):PT X (.Compare a [op] [b] pos) (tB t):=by
 intro pins s σ H Q I hw;refine wpAny_isTrue_Compare1 (thn (h pins s σ H _ I hw) fun v s1 h1=>thn h1 fun u s2 h2=>thn h2 fun c s3 ⟨x,H1,I1,r1,q1⟩=>?_) h1;obtain ⟨d,rfl,q⟩:=q1;cases r1;exact La ⟨H1,I1,q⟩
theorem DI {e:Expr} {t:TE} (h:PE X e t) (he:∀ whole,isTrue e X.env whole=(do let v<-whole;standAt e.pos;holding [v] (truthy v)):=by intro _;rfl):PT X e (tB t):=by
 intro pins s σ H Q I hw;refine isTrue_plain (thn (h pins s σ H _ I hw) fun v s1 ⟨x,H1,I1,r1,q1⟩=>?_) (he _);obtain ⟨d,rfl,q⟩:=q1;cases r1;exact La ⟨H1,I1,q⟩
variable {tA tB':TT} {rest:List Expr}
def EM (t u:TT):TT:=fun σ H Q=>t σ H fun c H1=>if c=true then u σ H1 Q else Q false H1
def tOr (t u:TT):TT:=fun σ H Q=>t σ H fun c H1=>if c=true then Q true H1 else u σ H1 Q
def Fh (t:TT):TT:=fun σ H Q=>t σ H fun c H1=>Q (!c) H1
theorem pw_and1 (ha:PT X a tA):PW X (.BoolOp .And [a] pos) tA:=by
 intro wh pins s σ H Q I h;refine isTrue_and (thn (ha pins s σ H Q I h) fun c s1 e=>?_);cases c with
 | true=>exact isTrue_and_nil e
 | false=>exact e
theorem pw_or1 (ha:PT X a tA):PW X (.BoolOp .Or [a] pos) tA:=by
 intro wh pins s σ H Q I h;refine isTrue_or (thn (ha pins s σ H Q I h) fun c s1 e=>?_);cases c with
 | false=>exact isTrue_or_nil e
 | true=>exact e
theorem pw_and (ha:PT X a tA) (hb:PW X (.BoolOp .And (b :: rest) pos) tB'):PW X (.BoolOp .And (a :: b :: rest) pos) (EM tA tB'):=by
 intro wh pins s σ H Q I h;refine isTrue_and (thn (ha pins s σ H _ I h) fun c s1 ⟨H1,I1,q1⟩=>?_);cases c with
 | true=>exact hb wh pins s1 σ H1 Q I1 q1
 | false=>exact ⟨H1,I1,q1⟩
theorem pw_or (ha:PT X a tA) (hb:PW X (.BoolOp .Or (b :: rest) pos) tB'):PW X (.BoolOp .Or (a :: b :: rest) pos) (tOr tA tB'):=by
 intro wh pins s σ H Q I h;refine isTrue_or (thn (ha pins s σ H _ I h) fun c s1 ⟨H1,I1,q1⟩=>?_);cases c with
 | true=>exact ⟨H1,I1,q1⟩
 | false=>exact hb wh pins s1 σ H1 Q I1 q1
theorem Dq (ha:PT X a tA):PT X (.UnaryOp .Not a pos) (Fh tA):=by
 intro pins s σ H Q I h;exact isTrue_not (ha pins s σ H (fun c H1=>Q (!c) H1) I h)
def Ax (ta tb:TE):TE:=fun σ H Q=>ta σ H fun x H1=>∃ c,x=.bl c/\if c=true then tb σ H1 Q else Q (.bl false) H1
def JY (ta tb:TE):TE:=fun σ H Q=>ta σ H fun x H1=>∃ c,x=.bl c/\if c=true then Q (.bl true) H1 else tb σ H1 Q
def AS (ta:TE):TE:=fun σ H Q=>ta σ H fun x H1=>∃ c,x=.bl c/\Q (.bl (!c)) H1
theorem Cg {op} {t:TE} (h:PE X a t):PE X (.BoolOp op [a] pos) t:=fun pins s σ H Q I hw=>BoolOp_one (h pins s σ H Q I hw)
theorem C1 (ha:PE X a ta) (hb:PE X (.BoolOp .And (b :: rest) pos) tb):PE X (.BoolOp .And (a :: b :: rest) pos) (Ax ta tb):=by
 intro pins s σ H Q I h;refine BoolOp_and (thn (ha pins s σ H _ I h) fun v s1 ⟨x,H1,I1,r1,q1⟩=>?_);obtain ⟨c,rfl,q1⟩:=q1;cases r1;refine La ?_;cases c with
 | true=>exact hb pins s1 σ H1 Q I1 q1
 | false=>exact ⟨.bl false,H1,I1,rfl,q1⟩
theorem CY (ha:PE X a ta):PE X (.UnaryOp .Not a pos) (AS ta):=by
 intro pins s σ H Q I h;refine UnaryOp_ (thn (ha pins s σ H _ I h) fun v s1 ⟨x,H1,I1,r1,q1⟩=>?_);obtain ⟨c,rfl,q1⟩:=q1;cases r1;exact not_of (La ⟨.bl (!c),H1,I1,rfl,q1⟩)
def tIf (t:TT) (ta tb:TE):TE:=fun σ H Q=>t σ H fun c H1=>if c=true then ta σ H1 Q else tb σ H1 Q
theorem yA {c:Expr} (hc:PT X c tA) (ha:PE X a ta) (hb:PE X b tb):PE X (.IfExp c a b pos) (tIf tA ta tb):=by
 intro pins s σ H Q I h;refine wpAny_IfExp (thn (hc pins s σ H _ I h) fun d s1 ⟨H1,I1,q1⟩=>?_);cases d with
 | true=>exact ha pins s1 σ H1 Q I1 q1
 | false=>exact hb pins s1 σ H1 Q I1 q1
end
end L2
namespace L2
open PySem PySem.Spec PyProof.Rows
def SqL (K:Fg) (H:Hp) (a:Addr) (xs:List V):Prop :=
 Rd H a (.lst xs) \/
  ∃ (o:Obj) (its:Array Value) (n:Nat),K.lookup a=some o/\o.cls=.type "list" /\ o.dict=none/\o.data=.seq its n/\its.size<=sizeLine/\Vals xs its.toList
def SqT (K:Fg) (H:Hp) (a:Addr) (xs:List V):Prop :=
 Rd H a (.tup xs) \/
  ∃ (o:Obj) (its:Array Value) (n:Nat),K.lookup a=some o/\o.cls=.type "tuple" /\ o.data=.seq its n/\its.size<=sizeLine/\Vals xs its.toList
noncomputable def I0:Value->Option V
 | .none=>some .non
 | .bool b=>some (.bl b)
 | .int i _=>some (.int i)
 | .str x _=>some (.str x)
 | .bytes b _=>some (.byt b)
 | .float b _=>some (.flt b)
 | .ref a=>some (.ref a)
 | .type n=>some (.ty n)
 | _=>none
theorem RelV.abs {x:V} {u:Value} (r:RelV x u):I0 u=some x:=by
 cases x with
 | non=>cases r;rfl
 | bl _=>cases r;rfl
 | int _=>obtain ⟨t,rfl⟩:=r;rfl
 | str _=>obtain ⟨t,rfl⟩:=r;rfl
 | byt _=>obtain ⟨t,rfl⟩:=r;rfl
 | flt _=>obtain ⟨t,rfl⟩:=r;rfl
 | ref _=>cases r;rfl
 | ty _=>cases r;rfl
theorem RelV.inj {x y:V} {u:Value} (r:RelV x u) (q:RelV y u):x=y:=KN (r.abs.symm.trans q.abs)
theorem Vals.inj:∀ {xs ys:List V} {us:List Value},Vals xs us->Vals ys us->xs=ys
 | _,_,_,.nil,.nil=>rfl
 | _,_,_,.cons r t,.cons r' t'=>by rw [r.inj r',Vals.inj t t']
section
variable {X:Cx} {pins:List (Addr×Obj)} {σ:St} {H:Hp} {s:Shared} {a:Addr} {xs ys:List V}
theorem SqT.of {K:Fg} (h:H a=some (.tup xs)):SqT K H a xs:=.inl (.inl h)
theorem Inv.list (I:Inv X pins σ H s) (h:SqL X.K H a xs):∃ its:List Value,Vals xs its/\PlainL s.heap a its.toArray/\xs.length<=sizeLine:=by
 rcases h with h | ⟨o,its,n,hk,hc,hd,hs,hz,r⟩
 ·obtain ⟨z,its,n,r,e⟩:=h.ok I.hok;exact ⟨its,r,⟨_,n,e,rfl,rfl,rfl⟩,z⟩
 ·refine ⟨its.toList,r,⟨o,n,I.kIn a o hk,hc,hd,by simpa using hs⟩,?_⟩;have e:=r.length;simp only [Array.length_toList] at e;omega
theorem Inv.tuple (I:Inv X pins σ H s) (h:SqT X.K H a xs):∃ its:List Value,Vals xs its/\IsTup s.heap a its.toArray/\xs.length<=sizeLine:=by
 rcases h with h | ⟨o,its,n,hk,hc,hs,hz,r⟩
 ·obtain ⟨z,its,r,p⟩:=h.ok I.hok;exact ⟨its,r,p,z⟩
 ·refine ⟨its.toList,r,⟨o,I.kIn a o hk,hc,n,by simpa using hs⟩,?_⟩;have e:=r.length;simp only [Array.length_toList] at e;omega
theorem Inv.yD (I:Inv X pins σ H s) (h:SqL X.K H a xs) (h':SqL X.K H a ys):xs=ys:=by
 obtain ⟨its,r,⟨o,n,e,_,_,d⟩,_⟩:=I.list h;obtain ⟨its',r',⟨o',n',e',_,_,d'⟩,_⟩:=I.list h';rw [e] at e';cases e';rw [d] at d';injection d' with d1 _;have:its=its':=by simpa using congrArg Array.toList d1
 subst this;exact r.inj r'
theorem Inv.vn (I:Inv X pins σ H s) (h:SqT X.K H a xs) (h':SqT X.K H a ys):xs=ys:=by
 obtain ⟨its,r,⟨o,e,_,n,d⟩,_⟩:=I.tuple h;obtain ⟨its',r',⟨o',e',_,n',d'⟩,_⟩:=I.tuple h';rw [e] at e';cases e';rw [d] at d';injection d' with d1 _;have:its=its':=by simpa using congrArg Array.toList d1
 subst this;exact r.inj r'
end
abbrev Cx.xC (X:Cx) (E:Value->Shared->Prop):Cx:={ X with xe:=E }
abbrev Cx.nox (X:Cx):Cx:=X.xC fun _ _=>False
theorem Cx.Ok.xC {X:Cx} (ok:X.Ok) (E:Value->Shared->Prop):(X.xC E).Ok :=
 ⟨ok.mod,ok.kind,ok.glob,ok.blt,ok.above,ok.inj,ok.has,ok.cab,ok.hd,ok.frames,ok.stk,ok.exf,ok.bs,ok.bsz,ok.BS,ok.E7,ok.uH,ok.frf⟩
theorem Cx.Ok.i3 {X:Cx} {E:Value->Shared->Prop} (ok:(X.xC E).Ok):X.Ok :=
 ⟨ok.mod,ok.kind,ok.glob,ok.blt,ok.above,ok.inj,ok.has,ok.cab,ok.hd,ok.frames,ok.stk,ok.exf,ok.bs,ok.bsz,ok.BS,ok.E7,ok.uH,ok.frf⟩
section
variable {X:Cx} {pins:List (Addr×Obj)} {σ:St} {H:Hp} {s:Shared} {E:Value->Shared->Prop}
theorem Inv.xC (I:Inv X pins σ H s) (E:Value->Shared->Prop):Inv (X.xC E) pins σ H s:=⟨I.ok.xC E,I.os,I.bare,I.base,I.loc,I.cell,I.free,I.ll,I.pin,I.hok,I.len⟩
theorem Inv.i3 (I:Inv (X.xC E) pins σ H s):Inv X pins σ H s:=⟨I.ok.i3,I.os,I.bare,I.base,I.loc,I.cell,I.free,I.ll,I.pin,I.hok,I.len⟩
theorem SP.i3 {D:Ends} {f:Flow} {s':Shared} (h:SP (X.xC E) pins D f s'):SP X pins D f s':=by
 cases f with
 | next=>obtain ⟨σ',H',I,q⟩:=h;exact ⟨σ',H',I.i3,q⟩
 | brk=>obtain ⟨σ',H',I,q⟩:=h;exact ⟨σ',H',I.i3,q⟩
 | cont=>obtain ⟨σ',H',I,q⟩:=h;exact ⟨σ',H',I.i3,q⟩
 | ret u=>obtain ⟨v,σ',H',I,r,q⟩:=h;exact ⟨v,σ',H',I.i3,r,q⟩
theorem PSs.nox {st:List Stmt} {t:TS} (h:PSs X.nox st t):PSs X st t:=fun pins s σ H D I hw =>
 K5 (h pins s σ H D (I.xC _) hw) (fun _ _ q=>q.i3) fun _ _ z=>False.elim z
end
section
variable {X:Cx} {st:Stmt} {rest:List Stmt} {t u:TS} {e:Expr} {te:TE} {pos:Pos}
def yV:TS:=fun D σ H=>D.nx σ H
def z7 (t u:TS):TS:=fun D σ H=>t { D with nx:=u D } σ H
theorem A7:PSs X [] yV:=fun _ _ σ H _ I h=>wpAny_execs_nil ⟨σ,H,I,h⟩
theorem yp (h1:PS X st t) (h2:PSs X rest u):PSs X (st :: rest) (z7 t u):=by
 intro pins s σ H D I h;refine wpAny_execs_cons (thn (h1 pins s σ H { D with nx:=u D } I h) fun f s1 q=>?_);cases f with
 | next =>
  obtain ⟨σ',H',I',q⟩:=q;exact h2 pins s1 σ' H' D I' q
 | ret v=>exact q
 | brk=>exact q
 | cont=>exact q
theorem A9 (h1:PS X st t):PSs X [st] t:=by
 intro pins s σ H D I h;refine wpAny_execs_cons (thn (h1 pins s σ H D I h) fun f s1 q=>?_);cases f with
 | next=>exact wpAny_execs_nil q
 | ret v=>exact q
 | brk=>exact q
 | cont=>exact q
def C3:TS:=fun D σ H=>D.bk σ H
def HN:TS:=fun D σ H=>D.ct σ H
theorem Inv.quiet {pins:List (Addr×Obj)} {σ:St} {H:Hp} {s:Shared} (I:Inv X pins σ H s):interactive X.env=false:=by simp [interactive,I.ok.kind]
def Av (te:TE):TS:=fun D σ H=>te σ H fun _ H1=>D.nx σ H1
theorem Bd (he:PE X e te) (hs:swapsWith e none pos.line X.env=pure false:=by rfl):PS X (.Expr e pos) (Av te):=by
 intro pins s σ H D I h;exact wpAny_Expr_any (thn (he pins s σ H _ I h) fun v s1 ⟨x,H1,I1,r1,q1⟩=>⟨σ,H1,I1,q1⟩) I.quiet hs
def BR (te:TE):TS:=fun D σ H=>te σ H D.rt
theorem CN (he:PE X e te):PS X (.Return (some e) pos) (BR te):=by
 intro pins s σ H D I h;exact wpAny_Return_some (thn (he pins s σ H _ I h) fun v s1 ⟨x,H1,I1,r1,q1⟩=>⟨x,σ,H1,I1,r1,q1⟩)
def FO:TS:=fun D _ H=>D.rt .non H
def EL (c:TT) (t u:TS):TS:=fun D σ H=>c σ H fun b H1=>if b=true then t D σ H1 else u D σ H1
theorem FY {c:Expr} {a b:List Stmt} {tc:TT} (hc:PT X c tc) (ha:PSs X a t) (hb:PSs X b u):PS X (.If c a b pos) (EL tc t u):=by
 intro pins s σ H D I h;refine wpAny_If (thn (hc pins s σ H _ I h) fun d s1 ⟨H1,I1,q1⟩=>?_);cases d with
 | true=>exact ha pins s1 σ H1 D I1 q1
 | false=>exact hb pins s1 σ H1 D I1 q1
def xq:TS:=fun _ _ _=>False
end
abbrev TG:=V->St->Hp->(St->Hp->Prop)->Prop
abbrev TGs:=List V->St->Hp->(St->Hp->Prop)->Prop
def PG (X:Cx) (target:Expr) (t:TG):Prop :=
 ∀ (pins:List (Addr×Obj)) (s:Shared) (σ:St) (H:Hp) (v:V) (u:Value) (Q:St->Hp->Prop),Inv X pins σ H s->RelV v u->t v σ H Q ->
  wpAny (model X.prog X.w) X.A (assign target X.env u) (fun _ s'=>∃ σ' H',Inv X pins σ' H' s'/\Q σ' H') X.xe s
def PGs (X:Cx) (ts:List Expr) (t:TGs):Prop :=
 ∀ (pins:List (Addr×Obj)) (s:Shared) (σ:St) (H:Hp) (vs:List V) (us:List Value) (Q:St->Hp->Prop),Inv X pins σ H s->Vals vs us->t vs σ H Q ->
  wpAny (model X.prog X.w) X.A (assignInOrder ((assignEach ts X.env).map (·.2)) us) (fun _ s'=>∃ σ' H',Inv X pins σ' H' s'/\Q σ' H') X.xe s
abbrev ET:=V->V->V->Hp->(Hp->Prop)->Prop
def Hx (X:Cx) (t:ET):Prop :=
 ∀ (pins:List (Addr×Obj)) (s:Shared) (σ:St) (H:Hp) (o i v:V) (ov iv u:Value) (Q:Hp->Prop),Inv X pins σ H s->RelV o ov->RelV i iv->RelV v u->t o i v H Q ->
  wpAny (model X.prog X.w) X.A (setItem ov iv u) (fun _ s'=>∃ H',Inv X pins σ H' s'/\Q H') X.xe s
section
variable {X:Cx} {pos:Pos}
def eZ (i:Nat):TG:=fun v σ H Q=>Q (σ.set i (some v)) H
theorem j7 {i:Nat} {x:Str} (hN:X.N.Nodup) (hi:X.N[i]?=some x) (hx:Loc X.env.scope x) (hf:X.fn x=true\/X.env.scope.names.lookup x=some .local:=by first | exact .inl rfl | exact .inr rfl | assumption):PG X (.Name x pos) (eZ i):=by
 intro pins s σ H v u Q I r h;exact wpAny_assign_Name (rM I hN hi hx r (fun s' I'=>⟨_,H,I',h⟩) hf)
def EZ:TGs:=fun vs σ H Q=>vs=[]/\Q σ H
def xS (t:TG) (u:TGs):TGs:=fun vs σ H Q=>∃ v r,vs=v :: r/\t v σ H fun σ' H'=>u r σ' H' Q
theorem uY:PGs X [] EZ:=by
 intro pins s σ H vs us Q I r h;obtain ⟨e,h⟩:=h;subst e;cases r;exact assignInOrder_nil ⟨σ,H,I,h⟩
theorem sx {e:Expr} {es:List Expr} {t:TG} {u:TGs} (h1:PG X e t) (h2:PGs X es u)
  (hs:(assignEach (e :: es) X.env).map (·.2)=assign e X.env :: (assignEach es X.env).map (·.2):=by rfl):PGs X (e :: es) (xS t u):=by
 intro pins s σ H vs us Q I r h;obtain ⟨v,vr,e1,h⟩:=h;subst e1;cases r with
 | cons r rr =>
  rw [hs];refine assignInOrder_cons (thn (h1 pins s σ H _ _ _ I r h) fun _ s1 ⟨σ1,H1,I1,q1⟩=>?_);exact h2 pins s1 σ1 H1 _ _ Q I1 rr q1
def EN (K:Fg) (n:Nat) (t:TGs):TG:=fun v σ H Q=>∃ a xs,v=.ref a/\SqT K H a xs/\xs.length=n/\t xs σ H Q
theorem zx {es:List Expr} {k:Nat} {t:TGs} {n:Nat} (hc:X.calm=true) (h:PGs X es t)
  (hn:(assignEach es X.env).length=n:=by rfl) (hst:(assignEach es X.env).findIdx? (·.1)=none:=by rfl):PG X (.Tuple es k pos) (EN X.K n t):=by
 intro pins s σ H v u Q I r hw;obtain ⟨a,xs,e1,hq,hl,hw⟩:=hw;subst e1;cases r;obtain ⟨its,rv,ht,hz⟩:=I.tuple hq;refine assign_Tuple_tuple (I.ok.hd hc) ht (by simp [hn,<-hl,rv.length]) hst fun h' hx=>?_;have I1:Inv X pins σ H { s with heap:=h' }:=I.kept (t':=s.toks) fun b o e=>hx b o (KP (Kg e)) e;exact h pins _ σ H xs _ Q I1 (by simpa using rv) hw
def IM (to ti:TE) (t:ET):TG:=fun v σ H Q=>to σ H fun o H1=>ti σ H1 fun i H2=>t o i v H2 fun H3=>Q σ H3
theorem Ez {o i:Expr} {to ti:TE} {t:ET} (ho:PE X o to) (hi:PE X i ti) (hs:Hx X t)
  (ha:∀ v,assign (.Subscript o i pos) X.env v=(do
   let ov<-holding [v] (eval o X.env)
   let iv<-holding [v,ov] (eval i X.env)
   standAt pos
   holding [v,ov,iv] (setItem ov iv v)
   release [v,ov,iv] []):=by intro _;rfl):PG X (.Subscript o i pos) (IM to ti t):=by
 intro pins s σ H v u Q I r h;rw [ha];refine Kv (wpAny_holding (thn (ho pins s σ H _ I h) fun ov s1 ⟨x,H1,I1,r1,q1⟩=>?_));refine Kv (wpAny_holding (thn (hi pins s1 σ H1 _ I1 q1) fun iv s2 ⟨y,H2,I2,r2,q2⟩=>?_));refine Kv (wpAny_standAt (Kv (wpAny_holding (thn (hs pins s2 σ H2 x y v ov iv u _ I2 r1 r2 r q2) fun _ s3 ⟨H3,I3,q3⟩=>?_))));exact wpAny_release ⟨σ,H3,I3,q3⟩
def uF (te:TE) (g:TG):TS:=fun D σ H=>te σ H fun x H1=>g x σ H1 D.nx
theorem DW {tg e:Expr} {te:TE} {g:TG} (he:PE X e te) (hg:PG X tg g) (hs:swapsWithSole [tg] e pos.line X.env=pure false:=by rfl) (hw:swappedStores [tg] e X.env=pure none:=by rfl)
  (h1:(assignEach [tg] X.env).map (·.2)=[assign tg X.env]:=by rfl):PS X (.Assign [tg] e pos) (uF te g):=by
 intro pins s σ H D I h;refine wpAny_Assign_stores (thn (he pins s σ H _ I h) fun v s1 ⟨x,H1,I1,r1,q1⟩=>?_) hs hw;rw [h1];exact thn (hg pins s1 σ H1 x v _ I1 r1 q1) fun _ s2 q=>q
theorem EH {i:Nat} {x:Str} {e:Expr} {te:TE} {pos':Pos} (hN:X.N.Nodup) (hi:X.N[i]?=some x) (hx:Loc X.env.scope x) (he:PE X e te) (hs:swapsWith e (some (.Name x pos')) pos.line X.env=pure false:=by rfl) (hf:X.fn x=true\/X.env.scope.names.lookup x=some .local:=by first | exact .inl rfl | exact .inr rfl | assumption) :
  PS X (.Assign [.Name x pos'] e pos) (uF te (eZ i)):=by
 intro pins s σ H D I h;refine wpAny_Assign_Name (thn (he pins s σ H _ I h) fun v s1 ⟨y,H1,I1,r1,q1⟩=>?_) hs;exact rM I1 hN hi hx r1 (fun s2 I2=>⟨_,H1,I2,q1⟩) hf
end
section
variable {X:Cx} {pos:Pos}
def tj (c:TT) (tb:TS):TS:=fun D σ H=>∃ W:Nat->St->Hp->Prop,(∃ m,W m σ H)/\∀ m σ H,W m σ H ->
 c σ H fun b H1=>if b=true then ∃ N:St->Hp->Prop,(∀ σ' H',N σ' H'->∃ m',m' < m/\W m' σ' H')/\tb { D with nx:=N,ct:=N,bk:=D.nx } σ H1 else D.nx σ H1
theorem yb {c:Expr} {body:List Stmt} {tc:TT} {tb:TS} (hp:PassesOwn (model X.prog X.w) X.A X.env X.xe) (hc:PT X c tc) (hb:PSs X body tb):PS X (.While c body [] pos) (tj tc tb):=by
 intro pins s σ H D I h;obtain ⟨W,⟨m0,w0⟩,turn⟩:=h;refine wpAny_While (codeAny_whileLoop (fun n s'=>∃ σ' H',Inv X pins σ' H' s'/\W n σ' H') ?_ m0 ⟨σ,H,I,w0⟩);rintro n s1 ⟨σ1,H1,I1,w1⟩;refine LH hp (thn (hc pins s1 σ1 H1 _ I1 (turn n σ1 H1 w1)) fun b s2 ⟨H2,I2,q2⟩=>?_);cases b with
 | true =>
  obtain ⟨N,hN,q2⟩:=q2;rw [Km rfl];refine LH hp (thn (hb pins s2 σ1 H2 _ I2 q2) fun f s3 q3=>?_);cases f with
  | next =>
   obtain ⟨σ3,H3,I3,n3⟩:=q3;obtain ⟨m',hm,w3⟩:=hN σ3 H3 n3;exact ⟨m',hm,σ3,H3,I3,w3⟩
  | cont =>
   obtain ⟨σ3,H3,I3,n3⟩:=q3;obtain ⟨m',hm,w3⟩:=hN σ3 H3 n3;exact ⟨m',hm,σ3,H3,I3,w3⟩
  | brk=>exact q3
  | ret v=>exact q3
 | false =>
  rw [Kr Lq];exact wpAny_execs_nil ⟨σ1,H2,I2,q2⟩
end
structure It where
 go:Nat->Hp->Prop
 yld:Nat->Hp->V->Hp->Prop
 stop:Nat->Hp->Prop
def vK (X:Cx) (pins:List (Addr×Obj)) (H:Hp) (b:Addr):Prop :=
 H b=none/\b≠X.env.locals/\b ∉ X.fs/\(b∈X.ex\/X.s₀.heap.objs.size<=b)/\(∀ x c,X.env.cells.lookup x=some c->c≠b)/\∀ p∈X.pn++pins,p.1≠b
theorem Inv.BP {X:Cx} {pins:List (Addr×Obj)} {σ:St} {H H':Hp} {s:Shared} {b:Addr} (I:Inv X pins σ H s) (hb:s.heap.objs.size<=b) (hn:H' b=none):vK X pins H' b:=by
 refine ⟨hn,LA (Kh I.lt hb),I.Fo hb,.inr (Ks I.sz hb),fun x c e z=>?_,fun p hp z=>?_⟩
 ·obtain ⟨v,q⟩:=I.cell x c e;exact absurd (Kh q.lt (by rw [z];exact hb)) (KG _)
 ·exact absurd (Kh (Kg (I.pin p hp).1) (by rw [z];exact hb)) (KG _)
structure Turn (P:Program) (w:World) (K:Fg) (tg:Expr) (J:It) (fp:List Addr) (it:Addr) (tn:Nat->Heap->Prop):Prop where
 mem:it∈fp
 obj:∀ i h,tn i h->∀ b∈fp,∃ o,h.get? b=some o/\∀ v,o.data≠.cell v
 keep:∀ i h h',tn i h->(∀ b∈fp,∀ o,h.get? b=some o->h'.get? b=some o)->tn i h'
 item:∀ (X:Cx),X.prog=P->X.w=w->X.K=K->X.calm=true->∀ (i:Nat) (pins:List (Addr×Obj)) (s:Shared) (σ:St) (H:Hp) (E:Value->Shared->Prop),Inv X pins σ H s->(∀ b∈fp,vK X pins H b)->tn i s.heap->J.go i H ->
  wpAny (model P w) X.A (pyNext (.ref it)) (fun r s1=>∃ u,r=some u /\
   wpAny (model P w) X.A (letOwnedTupleGo tg (.ref it) u) (fun _ s2=>∃ x H',Inv X pins σ H' s2/\RelV x u/\J.yld i H x H'/\tn (i+1) s2.heap/\∀ b∈fp,H' b=none) E s1) E s
 done:∀ (X:Cx),X.prog=P->X.w=w->X.K=K->X.calm=true->∀ (i:Nat) (pins:List (Addr×Obj)) (s:Shared) (σ:St) (H:Hp) (E:Value->Shared->Prop),Inv X pins σ H s->(∀ b∈fp,vK X pins H b)->tn i s.heap->J.stop i H ->
  wpAny (model P w) X.A (pyNext (.ref it)) (fun r s1=>r=none/\Inv X pins σ H s1) E s
 self:∀ (A:Around) (i:Nat) (s:Shared) (Q:Value->Shared->Prop) (E:Value->Shared->Prop),tn i s.heap->Q (.ref it) s->wpAny (model P w) A (pyIter (.ref it)) Q E s
abbrev TI:=St->Hp->(It->Hp->Prop)->Prop
def PIE (X:Cx) (pins:List (Addr×Obj)) (σ:St) (tg:Expr) (R:It->Hp->Prop) (itv:Value) (s2:Shared):Prop :=
 ∃ (it:Addr) (fp:List Addr) (tn:Nat->Heap->Prop) (J:It) (H':Hp),itv=.ref it/\Inv X pins σ H' s2/\Turn X.prog X.w X.K tg J fp it tn/\tn 0 s2.heap/\(∀ b∈fp,vK X pins H' b)/\R J H'
def PI (X:Cx) (tg iter:Expr) (wi:TI):Prop :=
 ∀ (pins:List (Addr×Obj)) (s:Shared) (σ:St) (H:Hp) (R:It->Hp->Prop),Inv X pins σ H s->wi σ H R ->
  wpAny (model X.prog X.w) X.A (eval iter X.env) (fun v s1=>wpAny (model X.prog X.w) X.A (pyIter v) (PIE X pins σ tg R) X.xe s1) X.xe s
theorem Ao {M:Model} {A:Around} {E:Value->Shared->Prop} {s:Shared} {tg:Expr} {it:Addr} {u:Value} {o:Obj} {n:String} {vs:Array Value} {Q:Unit->Shared->Prop} (ho:s.heap.get? it=some o) (hc:o.cls=.type n) (hd:o.data=.fields vs)
    (hn:["enumerate", "zip", "dict_itemiterator", "dict_reverseitemiterator", "odict_iterator", "itertools.zip_longest", "itertools.pairwise"].contains n=false) (hQ:Q () s):wpAny M A (letOwnedTupleGo tg (.ref it) u) Q E s:=by
  unfold letOwnedTupleGo;cases tg <;> first
    | exact KI hQ
    | (cases u <;> first
        | exact KI hQ
        | (refine Kv (wpAny_load ho ?_)
           rw [hc,hd];show wpAny M A (if (["enumerate", "zip", "dict_itemiterator", "dict_reverseitemiterator", "odict_iterator", "itertools.zip_longest", "itertools.pairwise"].contains n&&vs[0]?==some (rawInt _))=true then _ else _) Q E s;rw [Kr (by intro h;rw [hn,Bool.false_and] at h;cases h)]
           exact KI hQ))
def Itl (K:Fg) (a:Addr):It :=
 ⟨fun i H=>∃ xs x,SqL K H a xs/\xs[i]?=some x,fun i H x H'=>H'=H/\∀ xs,SqL K H a xs->xs[i]?=some x,fun i H=>∃ xs,SqL K H a xs/\xs.length<=i⟩
def Itt (K:Fg) (a:Addr):It :=
 ⟨fun i H=>∃ xs x,SqT K H a xs/\xs[i]?=some x,fun i H x H'=>H'=H/\∀ xs,SqT K H a xs->xs[i]?=some x,fun i H=>∃ xs,SqT K H a xs/\xs.length<=i⟩
def Itr (lo:Int) (n:Nat):It:=⟨fun i _=>i < n,fun i H x H'=>H'=H/\x=.int (lo+i),fun i _=>n<=i⟩
theorem w8 {P:Program} {w:World} {K:Fg} {tg:Expr} (a it:Addr):Turn P w K tg (Itl K a) [it] it (fun i h=>h.IsListIter it a i) where
 mem:=by simp
 obj:=fun i h st b hb=>by
  have e:b=it:=by simpa using hb
  subst e;obtain ⟨o,e,c,d⟩:=st;exact ⟨o,e,fun v z=>by rw [d] at z;cases z⟩
 keep:=fun i h h' st k=>st.at fun o e=>k it (by simp) o e
 item:=by
  intro X hP hw hK hc i pins s σ H E I hf st hg;subst hP hw hK;obtain ⟨xs,x,hq,hx⟩:=hg;obtain ⟨its,rv,p,hz⟩:=I.list hq;obtain ⟨u,hu,ru⟩:=rv.get hx;obtain ⟨f0,f1,f2,f3,f4,f5⟩:=hf it (by simp);refine wpAny_pyNext_list_item st p.isList (x:=u) (by simpa using hu) fun h' st' sb=>?_;have I1:Inv X pins σ H { s with heap:=h' }:=I.turned (t':=s.toks) (fun b o hb e=>(sb.2 b hb).trans e) f0 f1 f3 f4 f5;obtain ⟨o,e,c,d⟩:=id st';exact ⟨u,rfl,Ao (s:={ s with heap:=h' }) e c d (by decide) ⟨x,H,I1,ru,⟨rfl,fun ys hy=>by rw [I.yD hy hq];exact hx⟩,st',fun b hb=>(hf b hb).1⟩⟩
 done:=by
  intro X hP hw hK hc i pins s σ H E I hf st hg;subst hP hw hK;obtain ⟨xs,hq,hx⟩:=hg;obtain ⟨its,rv,p,hz⟩:=I.list hq;obtain ⟨f0,f1,f2,f3,f4,f5⟩:=hf it (by simp);have hl:=rv.length;exact wpAny_pyNext_list_end (I.ok.hd hc) st p.isList (by simp;omega) fun h' eb=>⟨rfl,I.turned (t':=s.toks) (fun b o hb e=>eb b o hb e) f0 f1 f3 f4 f5⟩
 self:=fun _ _ _ _ _ st h=>wpAny_pyIter_listiter st h
theorem tu {P:Program} {w:World} {K:Fg} {tg:Expr} (a it:Addr):Turn P w K tg (Itt K a) [it] it (fun i h=>h.IsTupleIter it a i) where
 mem:=by simp
 obj:=fun i h st b hb=>by
  have e:b=it:=by simpa using hb
  subst e;obtain ⟨o,e,c,d⟩:=st;exact ⟨o,e,fun v z=>by rw [d] at z;cases z⟩
 keep:=fun i h h' st k=>st.at fun o e=>k it (by simp) o e
 item:=by
  intro X hP hw hK hc i pins s σ H E I hf st hg;subst hP hw hK;obtain ⟨xs,x,hq,hx⟩:=hg;obtain ⟨its,rv,p,hz⟩:=I.tuple hq;obtain ⟨u,hu,ru⟩:=rv.get hx;obtain ⟨f0,f1,f2,f3,f4,f5⟩:=hf it (by simp);refine wpAny_pyNext_tuple_item st (show s.heap.IsTuple a its.toArray from p) (x:=u) (by simpa using hu) fun h' st' sb=>?_;have I1:Inv X pins σ H { s with heap:=h' }:=I.turned (t':=s.toks) (fun b o hb e=>(sb.2 b hb).trans e) f0 f1 f3 f4 f5;obtain ⟨o,e,c,d⟩:=id st';exact ⟨u,rfl,Ao (s:={ s with heap:=h' }) e c d (by decide) ⟨x,H,I1,ru,⟨rfl,fun ys hy=>by rw [I.vn hy hq];exact hx⟩,st',fun b hb=>(hf b hb).1⟩⟩
 done:=by
  intro X hP hw hK hc i pins s σ H E I hf st hg;subst hP hw hK;obtain ⟨xs,hq,hx⟩:=hg;obtain ⟨its,rv,p,hz⟩:=I.tuple hq;obtain ⟨f0,f1,f2,f3,f4,f5⟩:=hf it (by simp);have hl:=rv.length;exact wpAny_pyNext_tuple_end (I.ok.hd hc) st (show s.heap.IsTuple a its.toArray from p) (by simp;omega) fun h' eb=>⟨rfl,I.turned (t':=s.toks) (fun b o hb e=>eb b o hb e) f0 f1 f3 f4 f5⟩
 self:=fun _ _ _ _ _ st h=>wpAny_pyIter_tupleiter st h
theorem uc {P:Program} {w:World} {K:Fg} {tg:Expr} (it:Addr) (lo:Int) (n:Nat):Turn P w K tg (Itr lo n) [it] it (fun i h=>IsRangeIter h it (lo+(i:Nat)*1) ((n:Int) - (i:Nat)) 1) where
 mem:=by simp
 obj:=fun i h st b hb=>by
  have e:b=it:=by simpa using hb
  subst e
  exact ⟨_,st,fun v z=>by
   have z':Data.fields _=Data.cell v:=z
   cases z'⟩
 keep:=fun i h h' st k=>k it (by simp) _ st
 item:=by
  intro X hP hw hK hc i pins s σ H E I hf st hg;subst hP hw hK;obtain ⟨f0,f1,f2,f3,f4,f5⟩:=hf it (by simp);have W:=Walks.range (prog:=X.prog) (w:=X.w) (I.ok.hd hc) it lo 1 n;refine W.item i s _ _ hg st fun v h' tk hv st' kk=>?_;obtain ⟨t,rfl⟩:=hv;have I1:Inv X pins σ H { s with heap:=h',toks:=tk }:=I.turned (fun b o hb e=>kk b o (by simpa using hb) e) f0 f1 f3 f4 f5;refine ⟨_,rfl,Ao (s:={ s with heap:=h',toks:=tk }) (n := "range_iterator") st' rfl rfl (by decide) ⟨.int (lo+i),H,I1,⟨t,?_⟩,⟨rfl,rfl⟩,st',fun b hb=>(hf b hb).1⟩⟩;rw [Int.mul_one]
 done:=by
  intro X hP hw hK hc i pins s σ H E I hf st hg;subst hP hw hK;obtain ⟨f0,f1,f2,f3,f4,f5⟩:=hf it (by simp);exact wpAny_pyNext_range_end (I.ok.hd hc) st (by have:n<=i:=hg;omega) fun h' eb=>⟨rfl,I.turned (t':=s.toks) (fun b o hb e=>eb b o hb e) f0 f1 f3 f4 f5⟩
 self:=fun _ _ _ _ _ st h=>wpAny_pyIter_rangeiter st h
end L2
namespace L2
open PySem PySem.Spec PyProof.Rows
section
variable {X:Cx} {tg:Expr}
def yU (K:Fg) (tl:TE):TI:=fun σ H R=>tl σ H fun x H1=>∃ a,x=.ref a/\(∃ xs,SqL K H1 a xs)/\R (Itl K a) H1
def EW (K:Fg) (tl:TE):TI:=fun σ H R=>tl σ H fun x H1=>∃ a,x=.ref a/\(∃ xs,SqT K H1 a xs)/\R (Itt K a) H1
theorem AQ {l:Expr} {tl:TE} (hl:PE X l tl):PI X tg l (yU X.K tl):=by
 intro pins s σ H R I h;refine thn (hl pins s σ H _ I h) fun v s1 ⟨x,H1,I1,r1,q1⟩=>?_;obtain ⟨a,e,⟨xs,hq⟩,q⟩:=q1;subst e;cases r1;obtain ⟨its,rv,p,hz⟩:=I1.list hq;refine wpAny_pyIter_list p.isList ?_;refine ⟨s1.heap.objs.size,[s1.heap.objs.size],_,_,H1,rfl,I1.kept (t':=s1.toks) fun b o e=>J7 _ e,w8 a _,⟨_,Kx _ rfl,rfl,rfl⟩,fun b hb=>?_,q⟩;have e:b=s1.heap.objs.size:=by simpa using hb
 subst e;exact I1.BP (Ke _) (I1.hok.fresh (Ke _))
theorem BX {l:Expr} {tl:TE} (hl:PE X l tl):PI X tg l (EW X.K tl):=by
 intro pins s σ H R I h;refine thn (hl pins s σ H _ I h) fun v s1 ⟨x,H1,I1,r1,q1⟩=>?_;obtain ⟨a,e,⟨xs,hq⟩,q⟩:=q1;subst e;cases r1;obtain ⟨its,rv,p,hz⟩:=I1.tuple hq;refine wpAny_pyIter_tuple (show s1.heap.IsTuple a its.toArray from p) ?_;refine ⟨s1.heap.objs.size,[s1.heap.objs.size],_,_,H1,rfl,I1.kept (t':=s1.toks) fun b o e=>J7 _ e,tu a _,⟨_,Kx _ rfl,rfl,rfl⟩,fun b hb=>?_,q⟩;have e:b=s1.heap.objs.size:=by simpa using hb
 subst e;exact I1.BP (Ke _) (I1.hok.fresh (Ke _))
theorem yf {pins:List (Addr×Obj)} {σ:St} {H:Hp} {s:Shared} {R:It->Hp->Prop} {E:Value->Shared->Prop} {lo hi:Int} {t u v:Tok} {tk:Nat} (I:Inv X pins σ H s) (h1:-(2 ^ 62)<=lo) (h2:lo < 2 ^ 62) (h3:-(2 ^ 62)<=hi) (h4:hi < 2 ^ 62)
  (q:R (Itr lo (hi - lo).toNat) H):wpAny (model X.prog X.w) X.A (pyIter (.ref s.heap.objs.size)) (PIE X pins σ tg R) E { s with heap:=s.heap.push { cls:=.type "range", data:=.fields #[.int lo t,.int hi u,.int 1 v] },toks:=tk }:=by
 refine wpAny_pyIter_range (IsRange.new ..) (small_one h1 h2 h3 h4) ?_;have I1:Inv X pins σ H { s with heap:=s.heap.push { cls:=.type "range", data:=.fields #[.int lo t,.int hi u,.int 1 v] },toks:=tk }:=I.kept fun b o e=>J7 _ e
 refine ⟨(s.heap.push { cls:=.type "range", data:=.fields #[.int lo t,.int hi u,.int 1 v] }).objs.size,[(s.heap.push { cls:=.type "range", data:=.fields #[.int lo t,.int hi u,.int 1 v] }).objs.size],_,_,H,rfl,
  I1.kept (t':=tk) fun b o e=>J7 _ e,uc _ lo (hi - lo).toNat,?_,fun b hb=>?_,q⟩
 ·have e1:lo+((0:Nat):Int)*1=lo:=by simp
  have e2:(((hi - lo).toNat:Nat):Int) - ((0:Nat):Int)=Builtin.Range.rangeSize lo hi 1:=by rw [rangeSize_one];split <;> omega
  show IsRangeIter _ _ (lo+((0:Nat):Int)*1) ((((hi - lo).toNat:Nat):Int) - ((0:Nat):Int)) 1;rw [e1,e2];exact Kx _ rfl
 ·have e:b=(s.heap.push { cls:=.type "range", data:=.fields #[.int lo t,.int hi u,.int 1 v] }).objs.size:=by simpa using hb
  subst e;exact I1.BP (Ke _) (I1.hok.fresh (Ke _))
def AW (ta:TA):TI:=fun σ H R=>ta σ H fun vs H1=>∃ j:Int,vs=[.int j]/\-(2 ^ 62)<=j/\j < 2 ^ 62/\R (Itr 0 j.toNat) H1
def GH (ta:TA):TI:=fun σ H R=>ta σ H fun vs H1=>∃ i j:Int,vs=[.int i,.int j]/\(-(2 ^ 62)<=i/\i < 2 ^ 62/\-(2 ^ 62)<=j/\j < 2 ^ 62)/\R (Itr i (j - i).toNat) H1
theorem wm {a:Expr} {ta:TA} {p pos:Pos} (hg:Gl X "range") (hm:X.mg "range" = none) (ha:PA X [a] ta) (hs:starEach [a] X.env=[(false,eval a X.env)]:=by rfl):PI X tg (.Call (.Name "range" p) [a] [] pos) (AW ta):=by
 intro pins s σ H R I h;refine Call_ (l9 I hg hm boot_range (LW (thn (ha pos pins s σ H _ I h) fun us s1 ⟨vs,H1,I1,r1,q1⟩=>?_) hs rfl));obtain ⟨j,e,q1,q2,q⟩:=q1;subst e;cases r1 with
 | cons r rr =>
  cases rr;obtain ⟨t,rfl⟩:=r;exact call_range_1 (yf I1 (by omega) (by omega) q1 q2 (by simpa using q))
def EA (wi:TI) (g:TG) (tb:TS):TS:=fun D σ H=>wi σ H fun J H1=>∃ W:Nat->Nat->St->Hp->Prop,(∃ m,W 0 m σ H1)/\∀ i m σ H,W i m σ H ->
 (J.stop i H/\D.nx σ H)\/(J.go i H/\∃ N:St->Hp->Prop,(∀ σ' H',N σ' H'->∃ m',m' < m/\W (i+1) m' σ' H')/\∀ x H',J.yld i H x H'->g x σ H' fun σ2 H2=>tb { D with nx:=N,ct:=N,bk:=D.nx } σ2 H2)
noncomputable def lX (fp:List Addr) (h:Heap):List (Addr×Obj):=fp.filterMap fun b=>(h.get? b).map fun o=>(b,o)
theorem cA {fp:List Addr} {h:Heap} {b:Addr} {o:Obj} (hb:b∈fp) (e:h.get? b=some o):(b,o)∈lX fp h:=List.mem_filterMap.mpr ⟨b,hb,by rw [e];rfl⟩
theorem wM {fp:List Addr} {h:Heap} {p:Addr×Obj} (hp:p∈lX fp h):p.1∈fp/\h.get? p.1=some p.2:=by
 obtain ⟨b,hb,e⟩:=List.mem_filterMap.mp hp;cases q:h.get? b with
 | none=>rw [q] at e;cases e
 | some o =>
  rw [q] at e;have e':(b,o)=p:=KN e;subst e';exact ⟨hb,q⟩
theorem Inv.pinned {pins:List (Addr×Obj)} {σ:St} {H:Hp} {s:Shared} {fp:List Addr} (I:Inv X pins σ H s) (hf:∀ b∈fp,vK X pins H b) (ho:∀ b∈fp,∃ o,s.heap.get? b=some o/\∀ v,o.data≠.cell v):Inv X (pins++lX fp s.heap) σ H s :=
 I.fy fun p hp=>(Ls.mp hp).elim (fun z=>I.pin p (Kp _ z)) fun z=>by
  obtain ⟨hb,e⟩:=wM z;obtain ⟨f0,f1,f2,_⟩:=hf p.1 hb;obtain ⟨o,e',d⟩:=ho p.1 hb;rw [e] at e';cases e';exact ⟨e,f0,f1,f2,d⟩
theorem Inv.jV {pins pl:List (Addr×Obj)} {σ:St} {H:Hp} {s:Shared} (I:Inv X (pins++pl) σ H s):Inv X pins σ H s:=I.fy fun p hp=>I.pin p (Kp _ (Lv _ hp))
theorem DX {iter:Expr} {body:List Stmt} {wi:TI} {g:TG} {tb:TS} {pos:Pos} (hp:PassesOwn (model X.prog X.w) X.A X.env X.xe) (hc:X.calm=true) (hi:PI X tg iter wi) (hg:PG X tg g) (hb:PSs X body tb)
  (hs:∀ x,foldedSetIterable iter X.env x=pure x:=by intro _;rfl):PS X (.For tg iter body [] pos) (EA wi g tb):=by
 intro pins s σ H D I h;refine wpAny_For (thn (hi pins s σ H _ I h) fun v s1 h1=>thn h1 fun itv s2 h2=>?_) hs;obtain ⟨it,fp,tn,J,H2,e,I2,T,st2,f2,W,⟨m0,w0⟩,turn⟩:=h2;subst e;have stat:∀ {H':Hp},(∀ b∈fp,H' b=none)->∀ b∈fp,vK X pins H' b:=fun hn b hb=>⟨hn b hb,(f2 b hb).2⟩;refine codeAny_forLoop_any (fun n s'=>∃ i σ' H',Inv X pins σ' H' s'/\tn i s'.heap/\(∀ b∈fp,H' b=none)/\W i n σ' H') ?_ m0 ⟨0,σ,H2,I2,st2,fun b hb=>(f2 b hb).1,w0⟩;rintro n s3 ⟨i,σ3,H3,I3,st3,fr3,w3⟩;rcases turn i n σ3 H3 w3 with ⟨stop,qn⟩ | ⟨go,N,hN,step⟩
 ·refine LH hp (thn (T.done X rfl rfl rfl hc i pins s3 σ3 H3 X.xe I3 (stat fr3) st3 stop) fun r s4 ⟨hr,I4⟩=>?_);subst hr;exact wpAny_execs_nil ⟨σ3,H3,I4,qn⟩
 ·refine LH hp (thn (T.item X rfl rfl rfl hc i pins s3 σ3 H3 X.xe I3 (stat fr3) st3 go) fun r s4 ⟨u,hr,h4⟩=>?_);subst hr;refine LH hp (thn h4 fun _ s5 ⟨x,H5,I5,r5,y5,st5,fr5⟩=>?_);have I5':=I5.pinned (stat fr5) (T.obj _ _ st5);refine LH hp (thn (hg _ s5 σ3 H5 x u _ I5' r5 (step x H5 y5)) fun _ s6 ⟨σ6,H6,I6,q6⟩=>?_);refine LH hp (thn (hb _ s6 σ6 H6 _ I6 q6) fun f s7 q7=>?_);have again:∀ {σ7:St} {H7:Hp},Inv X (pins++lX fp s5.heap) σ7 H7 s7->N σ7 H7->∃ m,m < n/\∃ i σ' H',Inv X pins σ' H' s7/\tn i s7.heap/\(∀ b∈fp,H' b=none)/\W i m σ' H':=fun {σ7 H7} I7 n7=>by
   obtain ⟨m',hm,w7⟩:=hN σ7 H7 n7;refine ⟨m',hm,i+1,σ7,H7,I7.jV,T.keep _ _ _ st5 fun b hb o e=>(I7.pin (b,o) (Kp _ (Kp _ (cA hb e)))).1,fun b hb=>?_,w7⟩;obtain ⟨o,e,d⟩:=T.obj _ _ st5 b hb;exact (I7.pin (b,o) (Kp _ (Kp _ (cA hb e)))).2.1
  cases f with
  | next=>obtain ⟨σ7,H7,I7,n7⟩:=q7;exact again I7 n7
  | cont=>obtain ⟨σ7,H7,I7,n7⟩:=q7;exact again I7 n7
  | brk=>obtain ⟨σ7,H7,I7,q7⟩:=q7;exact ⟨σ7,H7,I7.jV,q7⟩
  | ret v=>obtain ⟨x7,σ7,H7,I7,r7,q7⟩:=q7;exact ⟨x7,σ7,H7,I7.jV,r7,q7⟩
end
end L2
namespace L2
open PySem PySem.Spec PyProof.Rows
abbrev R2:=V->V->Hp->VK->Prop
def OpR (X:Cx) (f:Value->Value->Sem Value) (r:R2):Prop :=
 ∀ (pins:List (Addr×Obj)) (s:Shared) (σ:St) (H:Hp) (x y:V) (v u:Value) (Q:VK),Inv X pins σ H s->RelV x v->RelV y u->r x y H Q ->
  wpAny (model X.prog X.w) X.A (f v u) (EP X pins σ Q) X.xe s
def UnR (X:Cx) (f:Value->Sem Value) (r:V->Hp->VK->Prop):Prop :=
 ∀ (pins:List (Addr×Obj)) (s:Shared) (σ:St) (H:Hp) (x:V) (v:Value) (Q:VK),Inv X pins σ H s->RelV x v->r x H Q ->
  wpAny (model X.prog X.w) X.A (f v) (EP X pins σ Q) X.xe s
def aZ (X:Cx) (f:Value) (r:List V->Hp->VK->Prop):Prop :=
 ∀ (pins:List (Addr×Obj)) (s:Shared) (σ:St) (H:Hp) (xs:List V) (us:List Value) (Q:VK),Inv X pins σ H s->Vals xs us->r xs H Q ->
  wpAny (model X.prog X.w) X.A (call f us) (EP X pins σ Q) X.xe s
def JQ (X:Cx) (r:V->Hp->(Bool->Hp->Prop)->Prop):Prop :=
 ∀ (pins:List (Addr×Obj)) (s:Shared) (σ:St) (H:Hp) (x:V) (v:Value) (Q:Bool->Hp->Prop),Inv X pins σ H s->RelV x v->r x H Q ->
  wpAny (model X.prog X.w) X.A (truthy v) (TP X pins σ Q) X.xe s
def tOp (r:R2) (ta tb:TE):TE:=fun σ H Q=>ta σ H fun x H1=>tb σ H1 fun y H2=>r x y H2 Q
def tUn (r:V->Hp->VK->Prop) (ta:TE):TE:=fun σ H Q=>ta σ H fun x H1=>r x H1 Q
def rI (C:Int->Int->Prop) (g:Int->Int->V):R2:=fun x y H Q=>∃ i j,x=.int i/\y=.int j/\C i j/\Q (g i j) H
def rI0 (g:Int->Int->V):R2:=fun x y H Q=>∃ i j,x=.int i/\y=.int j/\Q (g i j) H
def rU (g:Int->V):V->Hp->VK->Prop:=fun x H Q=>∃ i,x=.int i/\Q (g i) H
section
variable {X:Cx} {a b c:Expr} {ta tb tc:TE} {pos:Pos}
theorem FH (ha:PE X a ta) (hb:PE X b tb) {pins:List (Addr×Obj)} {s:Shared} {σ:St} {H:Hp} {R:V->V->Hp->Prop} (I:Inv X pins σ H s)
  (h:ta σ H fun x H1=>tb σ H1 fun y H2=>R x y H2) {Q:Value->Shared->Prop} {f:Value->Value->Sem Value}
  (hf:∀ v u s2 x y H2,Inv X pins σ H2 s2->RelV x v->RelV y u->R x y H2->wpAny (model X.prog X.w) X.A (f v u) Q X.xe s2) :
  wpAny (model X.prog X.w) X.A (eval a X.env) (fun v s₁=>wpAny (model X.prog X.w) X.A (eval b X.env) (fun u s₂=>wpAny (model X.prog X.w) X.A (f v u) Q X.xe s₂) X.xe s₁) X.xe s:=by
 refine thn (ha pins s σ H _ I h) fun v s1 ⟨x,H1,I1,r1,q1⟩=>?_;refine thn (hb pins s1 σ H1 _ I1 q1) fun u s2 ⟨y,H2,I2,r2,q2⟩=>?_;exact hf v u s2 x y H2 I2 r1 r2 q2
theorem FA {op:Operator} {r:R2} (ho:OpR X (binaryOp op) r) (ha:PE X a ta) (hb:PE X b tb):PE X (.BinOp a op b pos) (tOp r ta tb):=by
 intro pins s σ H Q I h;exact wpAny_BinOp (FH ha hb I h fun v u s2 x y H2 I2 rx ry q=>ho pins s2 σ H2 x y v u Q I2 rx ry q)
theorem GF {op:UnaryOp} {r:V->Hp->VK->Prop} (ho:UnR X (unaryOp op) r) (ha:PE X a ta):PE X (.UnaryOp op a pos) (tUn r ta):=by
 intro pins s σ H Q I h;exact UnaryOp_ (thn (ha pins s σ H _ I h) fun v s1 ⟨x,H1,I1,r1,q1⟩=>ho pins s1 σ H1 x v Q I1 r1 q1)
theorem opI {f:Value->Value->Sem Value} {C:Int->Int->Prop} {g:Int->Int->Int}
  (rule:∀ (i j:Int) (t u:Tok) (s:Shared) (Q:Value->Shared->Prop) (E:Value->Shared->Prop),C i j->Q (.int (g i j) s.toks) { s with toks:=s.toks+1 }->wpAny (model X.prog X.w) X.A (f (.int i t) (.int j u)) Q E s) :
  OpR X f (rI C fun i j=>.int (g i j)):=by
 intro pins s σ H x y v u Q I rx ry h;obtain ⟨i,j,rfl,rfl,hc,q⟩:=h;obtain ⟨t,rfl⟩:=rx;obtain ⟨t',rfl⟩:=ry;exact rule i j t t' s _ _ hc ⟨.int (g i j),H,I.tok _,⟨_,rfl⟩,q⟩
theorem IW {f:Value->Value->Sem Value} {g:Int->Int->Int}
  (rule:∀ (i j:Int) (t u:Tok) (s:Shared) (Q:Value->Shared->Prop) (E:Value->Shared->Prop),Q (.int (g i j) s.toks) { s with toks:=s.toks+1 }->wpAny (model X.prog X.w) X.A (f (.int i t) (.int j u)) Q E s) :
  OpR X f (rI0 fun i j=>.int (g i j)):=by
 intro pins s σ H x y v u Q I rx ry h;obtain ⟨i,j,rfl,rfl,q⟩:=h;obtain ⟨t,rfl⟩:=rx;obtain ⟨t',rfl⟩:=ry;exact rule i j t t' s _ _ ⟨.int (g i j),H,I.tok _,⟨_,rfl⟩,q⟩
theorem Fb {f:Value->Value->Sem Value} {g:Int->Int->Bool}
  (rule:∀ (i j:Int) (t u:Tok) (s:Shared) (Q:Value->Shared->Prop) (E:Value->Shared->Prop),Q (.bool (g i j)) s->wpAny (model X.prog X.w) X.A (f (.int i t) (.int j u)) Q E s) :
  OpR X f (rI0 fun i j=>.bl (g i j)):=by
 intro pins s σ H x y v u Q I rx ry h;obtain ⟨i,j,rfl,rfl,q⟩:=h;obtain ⟨t,rfl⟩:=rx;obtain ⟨t',rfl⟩:=ry;exact rule i j t t' s _ _ ⟨.bl (g i j),H,I,rfl,q⟩
def Ii (i j:Int):Prop:=0<=j/\j<=1000000/\i.natAbs < 2 ^ 64
def EF (i j:Int):Prop:=(-(2 ^ 64) < i/\i < 2 ^ 64)\/(-(2 ^ 64) < j/\j < 2 ^ 64)
theorem EF.ok {i j:Int} (h:EF i j):IntMulOk i j:=by
 rcases h with ⟨h1,h2⟩ | ⟨h1,h2⟩
 ·exact .of_left (intBits_le_64 h1 h2)
 ·exact .of_right (intBits_le_64 h1 h2)
theorem Ew:OpR X (binaryOp .Add) (rI0 fun i j=>.int (i+j)):=IW fun _ _ _ _ _ _ _ q=>add_int q
theorem Dh:OpR X (binaryOp .Sub) (rI0 fun i j=>.int (i - j)):=IW fun _ _ _ _ _ _ _ q=>sub_int q
theorem B7:OpR X (binaryOp .Mult) (rI EF fun i j=>.int (i*j)):=opI fun _ _ _ _ _ _ _ hc q=>mul_int q hc.ok
theorem DZ:OpR X (binaryOp .Mod) (rI (fun _ j=>0 < j) fun i j=>.int (i % j)):=opI fun i j _ _ _ _ _ hc q=>by
 have h1:(0:Int) < j:=hc;exact mod_int' (by omega) (by rw [Int.fmod_eq_emod_of_nonneg i (by omega)];exact q)
theorem DR:OpR X (binaryOp .Pow) (rI Ii fun i j=>.int (i ^ j.toNat)):=opI fun _ _ _ _ _ _ _ hc q=>pow_int_small hc.1 hc.2.1 hc.2.2 q
theorem unI {f:Value->Sem Value} {g:Int->Int}
  (rule:∀ (i:Int) (t:Tok) (s:Shared) (Q:Value->Shared->Prop) (E:Value->Shared->Prop),Q (.int (g i) s.toks) { s with toks:=s.toks+1 }->wpAny (model X.prog X.w) X.A (f (.int i t)) Q E s) :
  UnR X f (rU fun i=>.int (g i)):=by
 intro pins s σ H x v Q I rx h;obtain ⟨i,rfl,q⟩:=h;obtain ⟨t,rfl⟩:=rx;exact rule i t s _ _ ⟨.int (g i),H,I.tok _,⟨_,rfl⟩,q⟩
theorem CL:UnR X (unaryOp .USub) (rU fun i=>.int (-i)):=unI fun _ _ _ _ _ q=>neg_int q
end
section
variable {X:Cx} {a b c:Expr} {ta tb tc:TE} {pos:Pos}
theorem wk {pins:List (Addr×Obj)} {σ:St} {H:Hp} {s:Shared} {Q:VK} {k k':Bool} (I:Inv X pins σ H s) (q:Q (.bl k) H) (e:k=k'):EP X pins σ Q (.bool k') s:=by
 subst e;exact ⟨.bl k,H,I,rfl,q⟩
theorem Gp:OpR X (compareOp .Lt) (rI0 fun i j=>.bl (decide (i < j))):=Fb fun _ _ _ _ _ _ _ q=>lt_int q
theorem HD:OpR X (compareOp .LtE) (rI0 fun i j=>.bl (decide (i<=j))):=Fb fun _ _ _ _ _ _ _ q=>le_int q
theorem Fz:OpR X (compareOp .Gt) (rI0 fun i j=>.bl (decide (j < i))):=Fb fun _ _ _ _ _ _ _ q=>gt_int q
theorem HZ:OpR X (compareOp .GtE) (rI0 fun i j=>.bl (decide (j<=i))):=Fb fun _ _ _ _ _ _ _ q=>ge_int q
theorem vb:OpR X (compareOp .Lt) (fun x y H Q=>∃ i j,x=.str i/\y=.str j/\Q (.bl (decide (i.cps.toList < j.cps.toList))) H):=by
 intro pins s σ H x y v u Q I rx ry h;obtain ⟨i,j,rfl,rfl,q⟩:=h;obtain ⟨t,rfl⟩:=rx;obtain ⟨t',rfl⟩:=ry;exact lt_str (wk I q rfl)
theorem vT:OpR X (compareOp .In) (fun x y H Q=>∃ i j,x=.str i/\y=.str j/\Q (.bl (!(Builtin.Str.occurrences j i 0 j.length 1).isEmpty)) H):=by
 intro pins s σ H x y v u Q I rx ry h;obtain ⟨i,j,rfl,rfl,q⟩:=h;obtain ⟨t,rfl⟩:=rx;obtain ⟨t',rfl⟩:=ry;exact in_str (wk I q rfl)
theorem CM:OpR X (compareOp .Is) (fun x y H Q=>y=.non/\Q (.bl (decide (x=.non))) H):=by
 intro pins s σ H x y v u Q I rx ry h;obtain ⟨rfl,q⟩:=h;cases ry;refine is_none_gen (wk I q ?_);cases x <;> first
  | (cases rx;rfl)
  | (obtain ⟨t,rfl⟩:=rx;rfl)
theorem gX (b:Expr) {op:CmpOp} (h:op≠.In:=by decide) (h2:op≠.NotIn:=by decide):behindInMarks op b=false:=by
 have e1:(op==CmpOp.In)=false:=by cases op <;> first | rfl | exact absurd rfl h
 have e2:(op==CmpOp.NotIn)=false:=by cases op <;> first | rfl | exact absurd rfl h2
 cases b <;> simp [behindInMarks,e1,e2]
theorem AU {op:CmpOp} {r:R2} (ho:OpR X (compareOp op) r) (ha:PE X a ta) (hb:PE X b tb) (hm:behindInMarks op b=false):PE X (.Compare a [op] [b] pos) (tOp r ta tb):=by
 intro pins s σ H Q I h;exact wpAny_Compare1 (FH ha hb I h fun v u s2 x y H2 I2 rx ry q=>ho pins s2 σ H2 x y v u Q I2 rx ry q) hm
def ql (t:TE):TT:=fun σ H Q=>t σ H fun x H'=>∃ k,x=.bl k/\Q k H'
theorem A0 {op:CmpOp} {r:R2} (ho:OpR X (compareOp op) r) (ha:PE X a ta) (hb:PE X b tb) (hm:behindInMarks op b=false):PT X (.Compare a [op] [b] pos) (ql (tOp r ta tb)):=by
 intro pins s σ H Q I h
 refine wpAny_isTrue_Compare1 (thn (ha pins s σ H _ I h) fun v s1 ⟨x,H1,I1,r1,q1⟩=>thn (hb pins s1 σ H1 _ I1 q1) fun u s2 ⟨y,H2,I2,r2,q2⟩ =>
  thn (ho pins s2 σ H2 x y v u _ I2 r1 r2 q2) fun c s3 ⟨z,H3,I3,r3,k,e,q3⟩=>?_) hm
 subst e;cases r3;exact La ⟨H3,I3,q3⟩
def oA (r r':R2) (ta tb tc:TE):TE:=fun σ H Q=>ta σ H fun x H1=>tb σ H1 fun y H2=>r x y H2 fun z H3=>∃ k,z=.bl k /\
 (if k=true then tc σ H3 fun w' H4=>r' y w' H4 Q else Q (.bl false) H3)
theorem xW {op op':CmpOp} {r r':R2} (ho:OpR X (compareOp op) r) (ho':OpR X (compareOp op') r') (ha:PE X a ta) (hb:PE X b tb) (hc:PE X c tc)
  (hm:lastMarks [op,op'] [b,c]=false:=by with_unfolding_all rfl):PE X (.Compare a [op,op'] [b,c] pos) (oA r r' ta tb tc):=by
 intro pins s σ H Q I h
 refine Compare_chain (thn (ha pins s σ H _ I h) fun v s1 ⟨x,H1,I1,r1,q1⟩=>chain_link (thn (hb pins s1 σ H1 _ I1 q1) fun u s2 ⟨y,H2,I2,r2,q2⟩ =>
  thn (ho pins s2 σ H2 x y v u _ I2 r1 r2 q2) fun d s3 ⟨z,H3,I3,r3,k,e,q3⟩=>?_)) hm
 subst e;cases r3;refine La ?_;cases k with
 | false=>exact ite_ff ⟨.bl false,H3,I3,rfl,q3⟩
 | true=>exact ite_tt (chain_last (thn (hc pins s3 σ H3 _ I3 q3) fun w' s4 ⟨z',H4,I4,r4,q4⟩=>ho' pins s4 σ H4 y z' u w' Q I4 r2 r4 q4))
theorem yw {op op':CmpOp} {r r':R2} (ho:OpR X (compareOp op) r) (ho':OpR X (compareOp op') r') (ha:PE X a ta) (hb:PE X b tb) (hc:PE X c tc)
  (hm:lastMarks [op,op'] [b,c]=false:=by with_unfolding_all rfl):PT X (.Compare a [op,op'] [b,c] pos) (ql (oA r r' ta tb tc)):=by
 intro pins s σ H Q I h
 refine isTrue_chain (thn (ha pins s σ H _ I h) fun v s1 ⟨x,H1,I1,r1,q1⟩=>test_link (thn (hb pins s1 σ H1 _ I1 q1) fun u s2 ⟨y,H2,I2,r2,q2⟩ =>
  thn (ho pins s2 σ H2 x y v u _ I2 r1 r2 q2) fun d s3 ⟨z,H3,I3,r3,k,e,q3⟩=>?_)) hm
 subst e;cases r3;refine La ?_;cases k with
 | false =>
  obtain ⟨k',e',q'⟩:=q3;cases e';exact ite_ff ⟨H3,I3,q'⟩
 | true =>
  refine ite_tt (test_last (thn (hc pins s3 σ H3 _ I3 q3) fun w' s4 ⟨z',H4,I4,r4,q4⟩=>thn (ho' pins s4 σ H4 y z' u w' _ I4 r2 r4 q4) fun d' s5 ⟨z2,H5,I5,r5,k2,e2,q5⟩=>?_));subst e2;cases r5;exact La ⟨H5,I5,q5⟩
def Fl (K:Fg) (x:V) (H:Hp) (k:Bool):Prop :=
 match x with
 | .non=>k=false
 | .bl b=>k=b
 | .int i=>k=(i != 0)
 | .str y=>y.length<=sizeLine/\k=((y.length:Int) != 0)
 | .byt y=>y.size<=sizeLine/\k=((y.size:Int) != 0)
 | .ref p=>(∃ xs,SqL K H p xs/\k=!xs.isEmpty)\/(∃ xs,SqT K H p xs/\k=!xs.isEmpty)\/∃ kvs,H p=some (.dK kvs)/\k=!kvs.isEmpty
 | _=>False
theorem tH {κ:Type} {kvs:List (κ×V)} {vs:List (κ×Value)} (r:KV kvs vs):(!vs.isEmpty)=!kvs.isEmpty:=by
 cases r <;> rfl
theorem mr {xs:List V} {its:List Value} (r:Vals xs its):(!its.toArray.isEmpty)=!xs.isEmpty:=by
 cases r <;> simp
theorem mn:(sizeLine:Nat) < 2 ^ 63:=by rw [LZ];decide
theorem DD:JQ X (fun x H Q=>∃ k,Fl X.K x H k/\Q k H):=by
 intro pins s σ H x v Q I rx h;obtain ⟨k,e,q⟩:=h;have hl:=mn;have hs:sizeLine=16777216:=LZ;cases x with
 | non =>
  cases rx;have e':k=false:=e;subst e';exact truthy_none ⟨H,I,q⟩
 | bl b =>
  cases rx;have e':k=b:=e;subst e';exact La ⟨H,I,q⟩
 | int i =>
  obtain ⟨t,rfl⟩:=rx;have e':k=(i != 0):=e;subst e';exact PySem.P.truthy_int ⟨H,I,q⟩
 | str y =>
  obtain ⟨t,rfl⟩:=rx;obtain ⟨hy,e'⟩:y.length<=sizeLine/\k=((y.length:Int) != 0):=e;subst e';exact PySem.P.truthy_str (by omega) ⟨H,I.tok _,q⟩
 | byt y =>
  obtain ⟨t,rfl⟩:=rx;obtain ⟨hy,e'⟩:y.size<=sizeLine/\k=((y.size:Int) != 0):=e;subst e';exact PySem.W.truthy_bytes (by omega) ⟨H,I.tok _,q⟩
 | ref p =>
  cases rx;have e':(∃ xs,SqL X.K H p xs/\k=!xs.isEmpty)\/(∃ xs,SqT X.K H p xs/\k=!xs.isEmpty)\/∃ kvs,H p=some (.dK kvs)/\k=!kvs.isEmpty:=e;rcases e' with ⟨xs,hx,e'⟩ | ⟨xs,hx,e'⟩ | ⟨kvs,hx,e'⟩
  ·subst e';obtain ⟨its,r,pl,hz⟩:=I.list hx;have hlen:=r.length;exact wpAny_truthy_list pl.isList (by simp only [Ko];omega) ⟨H,I.tok _,by rw [mr r];exact q⟩
  ·subst e';obtain ⟨its,r,pl,hz⟩:=I.tuple hx;have hlen:=r.length;exact truthy_tuple pl (by simp only [Ko];omega) ⟨H,I.tok _,by rw [mr r];exact q⟩
  ·subst e';obtain ⟨hz,hS,vs,r,m⟩:kvs.length<=sizeLine/\(p==sysModules)=false/\∃ vs,KV kvs vs/\s.heap.DictOf (qg X.prog X.w) p vs:=I.hok p _ hx;have hlen:kvs.length=vs.length:=Paired.length r;exact wpAny_truthy_dict hS m (by omega) ⟨H,I.tok _,by rw [tH r];exact q⟩
 | _=>exact (show False from e).elim
theorem zd (ha:PE X a ta) (he:∀ whole,isTrue a X.env whole=(do let v<-whole;standAt a.pos;holding [v] (truthy v))) :
  PT X a (fun σ H Q=>ta σ H fun x H'=>∃ k,Fl X.K x H' k/\Q k H'):=by
 intro pins s σ H Q I h;exact isTrue_plain (thn (ha pins s σ H _ I h) fun v s1 ⟨x,H1,I1,r1,q1⟩=>DD pins s1 σ H1 x v Q I1 r1 q1) (he _)
theorem uD:OpR X (binaryOp .Add) (fun x y H Q=>∃ i j,x=.str i/\y=.str j/\i.length+j.length<=sizeLine/\Q (.str (i++j)) H):=by
 intro pins s σ H x y v u Q I rx ry h;obtain ⟨i,j,rfl,rfl,hz,q⟩:=h;obtain ⟨t,rfl⟩:=rx;obtain ⟨t',rfl⟩:=ry;exact add_str (fun t' tk=>⟨.str (i++j),H,I.tok _,⟨_,rfl⟩,q⟩) hz
theorem vals1 {x:V} {us:List Value} (r:Vals [x] us):∃ u,us=[u]/\RelV x u:=by
 cases r with
 | cons r1 r2=>cases r2;exact ⟨_,rfl,r1⟩
theorem vals2 {x y:V} {us:List Value} (r:Vals [x,y] us):∃ u w',us=[u,w']/\RelV x u/\RelV y w':=by
 cases r with
 | cons r1 r2 =>
  cases r2 with
  | cons r3 r4=>cases r4;exact ⟨_,_,rfl,r1,r3⟩
theorem xN:aZ X (.builtin "abs") (fun xs H Q=>∃ i,xs=[.int i]/\Q (.int (if i < 0 then -i else i)) H):=by
 intro pins s σ H xs us Q I r h;obtain ⟨i,rfl,q⟩:=h;obtain ⟨u,rfl,t,rfl⟩:=vals1 r;exact call_abs_int fun u tk=>⟨.int (if i < 0 then -i else i),H,I.tok _,⟨_,rfl⟩,q⟩
theorem v9 (hc:X.calm=true):aZ X (.builtin "min") (fun xs H Q=>∃ i j,xs=[.int i,.int j]/\Q (.int (if j < i then j else i)) H):=by
 intro pins s σ H xs us Q I r h;obtain ⟨i,j,rfl,q⟩:=h;obtain ⟨u,w',rfl,⟨t,rfl⟩,⟨t',rfl⟩⟩:=vals2 r;refine min_two_ints (I.ok.hd hc) fun h' tk k=>⟨_,H,I.kept k,?_,q⟩;by_cases hj:j < i
 ·rw [Km hj,Km hj];exact ⟨_,rfl⟩
 ·rw [Kr hj,Kr hj];exact ⟨_,rfl⟩
theorem wB:aZ X (.type "int") (fun xs H Q=>(∃ i,xs=[.int i]/\Q (.int i) H)\/∃ k,xs=[.bl k]/\Q (.int (if k then 1 else 0)) H):=by
 intro pins s σ H xs us Q I r h;rcases h with ⟨i,rfl,q⟩ | ⟨k,rfl,q⟩
 ·obtain ⟨u,rfl,t,rfl⟩:=vals1 r;exact call_int_int ⟨.int i,H,I,⟨_,rfl⟩,q⟩
 ·obtain ⟨u,rfl,r1⟩:=vals1 r;cases r1;exact call_int_bool ⟨.int (if k then 1 else 0),H,I.tok _,⟨_,rfl⟩,q⟩
def IQ (K:Fg) (x:V) (H:Hp) (n:Nat):Prop :=
 match x with
 | .str y=>y.length<=sizeLine/\n=y.length
 | .byt y=>y.size<=sizeLine/\n=y.size
 | .ref p=>(∃ xs,SqL K H p xs/\n=xs.length)\/∃ xs,SqT K H p xs/\n=xs.length
 | _=>False
theorem xV:aZ X (.builtin "len") (fun xs H Q=>∃ x n,xs=[x]/\IQ X.K x H n/\Q (.int n) H):=by
 intro pins s σ H xs us Q I r h;obtain ⟨x,n,rfl,e,q⟩:=h;obtain ⟨u,rfl,rx⟩:=vals1 r;have hl:=mn;have hs:sizeLine=16777216:=LZ;cases x with
 | str y =>
  obtain ⟨t,rfl⟩:=rx;obtain ⟨hy,e'⟩:y.length<=sizeLine/\n=y.length:=e;subst e';exact len_str (by omega) ⟨.int _,H,I.tok _,⟨_,rfl⟩,q⟩
 | byt y =>
  obtain ⟨t,rfl⟩:=rx;obtain ⟨hy,e'⟩:y.size<=sizeLine/\n=y.size:=e;subst e';exact PySem.W.len_bytes (by omega) ⟨.int _,H,I.tok _,⟨_,rfl⟩,q⟩
 | ref p =>
  cases rx;have e':(∃ xs,SqL X.K H p xs/\n=xs.length)\/∃ xs,SqT X.K H p xs/\n=xs.length:=e;rcases e' with ⟨xs,hx,e'⟩ | ⟨xs,hx,e'⟩
  ·subst e';obtain ⟨its,r',pl,hz⟩:=I.list hx;have hlen:=r'.length;exact Calls.call_len_list pl.isList (by simp only [Ko];omega) ⟨.int xs.length,H,I.tok _,⟨_,by simp only [Ko];rw [hlen]⟩,q⟩
  ·subst e';obtain ⟨its,r',pl,hz⟩:=I.tuple hx;have hlen:=r'.length;exact len_tuple pl (by simp only [Ko];omega) ⟨.int xs.length,H,I.tok _,⟨_,by simp only [Ko];rw [hlen]⟩,q⟩
 | _=>exact (show False from e).elim
end
end L2
namespace L2
open PySem PySem.Spec PyProof.Rows
structure Am (h:Heap) (x dx C:Addr) (mA:Str->Option Value):Prop where
 obj:h.get? x=some (PySem.W.instObj C dx)
 ns:h.Ns1 dx mA
 ne:dx≠x
theorem vt {h:Heap} {dx:Addr} {mA:Str->Option Value} (n:h.Ns1 dx mA):∃ od,h.get? dx=some od/\∀ name,PySem.W.lookIn name od=some (mA name):=by
 obtain ⟨o,es,ep,ho,hd,hk,_,hm⟩:=n;refine ⟨o,ho,fun name=>?_⟩;have e:=hm name;unfold nsFind findBy at e;rw [<- Array.find?_toList] at e;unfold PySem.W.lookIn;rw [hd];dsimp only;split
 ·rename_i y q;rw [q] at e;exact congrArg some e
 ·rename_i q;rw [q] at e;have a:es.toList.any (·.refKey)=false:=by
   rw [List.any_eq_false];intro y hy;obtain ⟨z,t,hkey⟩:=hk y (Array.mem_toList_iff.mp hy);simp [DictEntry.refKey,hkey]
  have a':¬es.toList.any (·.refKey)=true:=by rw [a];exact Lq
  rw [Kr a'];exact congrArg some e
theorem Am.look {h:Heap} {x dx C:Addr} {mA:Str->Option Value} (I:Am h x dx C mA):∃ od,PySem.W.InstAt h x (PySem.W.instObj C dx) C (some od)/\∀ name,PySem.W.lookIn name od=some (mA name) :=
 let ⟨od,ho,hl⟩:=vt I.ns
 ⟨od,⟨I.obj,rfl,rfl,ho⟩,hl⟩
section
variable {prog:Program} {w:World} {A:Around} {E:Value->Shared->Prop} {s:Shared} {K:Fg} {x dx C f:Addr} {mA:Str->Option Value} {name:Str} {v:Value}
theorem get_map {expr:Bool} {Q:Value->Shared->Prop} (X:K.In s.heap) (I:Am s.heap x dx C mA) (hg:PySem.W.plainGet K C name=true) (hh:PySem.W.hasDictIn K C=true)
  (ha:PySem.W.findIn K (.ref C) name=some none) (hv:mA name=some v) (hv':PySem.W.handedIn v=true) (h:Q v { s with toks:=s.toks+1 }) :
  wpAny (model prog w) A (getAttr (.ref x) name expr) Q E s:=by
 obtain ⟨od,J,hl⟩:=I.look;exact PySem.W.get_value X J (PySem.W.plainGet_of hg).1 (PySem.W.findObj_own hh ha rfl (by rw [hl,hv])) hv' h
theorem x9 {pl:Sem Bool} {Q:Value×List Value->Shared->Prop} (X:K.In s.heap) (I:Am s.heap x dx C mA) (hg:PySem.W.plainGet K C name=true)
  (hf:PySem.W.findIn K (.ref C) name=some (some (.ref f))) (ht:PySem.W.isFn K (.ref f)=true) (hv:mA name=none) (h:Q (.ref f,[.ref x]) s) :
  wpAny (model prog w) A (getMethod (.ref x) name pl) Q E s:=by
 obtain ⟨od,J,hl⟩:=I.look;exact PySem.W.method_fn X J (PySem.W.plainGet_of hg).1 (PySem.W.plainGet_of hg).2 hf (LF.mp ht) (by show (PySem.W.lookIn name od).map (·.isSome)=some false;rw [hl,hv];rfl) h
theorem Ak {ns:List Str} {Q:Unit->Shared->Prop} (X:K.In s.heap) (I:Am s.heap x dx C mA)
  (hs:PySem.W.findIn K (.ref C) "__setattr__" = some (some (.builtin "object.__setattr__"))) (hp:PySem.W.plainOver K C=true) (ht:PySem.W.takerIn K C name=some none) (hh:PySem.W.hasDictIn K C=true)
  (hw:PySem.Within mA ns) (hsz:ns.length<=sizeLine)
  (h:∀ h',Am h' x dx C (fun y=>if y=name then some v else mA y)->Heap.SameBut dx s.heap h'->Q () { s with heap:=h',toks:=s.toks+2 }) :
  wpAny (model prog w) A (setAttr (.ref x) name v) Q E s:=by
 obtain ⟨od,J,hl⟩:=I.look;refine PySem.W.set_plain X J hs (PySem.W.osa_open (s:={ s with toks:=s.toks+1 }) (r:=none) X J hp ht fun b=>?_);obtain ⟨cd,hc,hd'⟩:=PySem.W.any_some hh;have hx:s.heap.get? x=some ⟨.ref C,some dx,.plain,#[]⟩:=I.obj;refine Kv (KI (Kv (Kv (wpAny_loadPart hx (Kv (PySem.W.Looks.here (s:={ s with toks:=s.toks+1 }) (PySem.W.looks_clsIn X hc) ?_))))));rw [hd'];refine KI (a:=some dx) (Kv (KI (Kv ?_)));refine wpAny_nsSet1 (s:={ s with toks:=s.toks+1 }) I.ns fun h' hn2 hs2=>?_;obtain ⟨oD,esD,epD,hoD,hdD,hcD⟩:=hn2.count (PySem.Within.cons name v hw);refine Kv (wpAny_lookBehind hoD (by rw [hdD];exact pastItsLine_dict (Ks hcD (by rw [J8];omega))) ?_);exact KI (h _ ⟨(hs2.2 _ (Ne.symm I.ne)).trans I.obj,hn2,I.ne⟩ hs2)
theorem yH {R:Result->Shared->Prop} {vs:List Value} {kw:List (Str×Value)} (X:K.In s.heap) (hm:PySem.W.makesIn K C=true)
    (hi:PySem.W.findIn K (.ref C) "__init__" = some (some (.ref f))) (hf:PySem.W.typeIn K (.ref f)=some (.type "function"))
    (h:codeAny (model prog w) (A.under (.builtin "type.__call__" ⟨.ref C :: vs,kw⟩)) (.call (.ref f) ⟨.ref (s.heap.objs.size+1) :: vs,kw⟩) (PySem.W.InitBack (s.heap.objs.size+1) R)
      { s with heap:=(s.heap.push PySem.W.emptyDict).push (PySem.W.instObj C s.heap.objs.size) }) :
    codeAny (model prog w) A (.call (.ref C) ⟨vs,kw⟩) R s:=by
  obtain ⟨hh,g,d,t,os⟩:=s;exact PySem.W.make_core (PySem.W.makes_of X hm) (PySem.W.looks_findIn X hi) (fun self=>PySem.W.bind_fn X self hf) (.inl rfl) h
end
noncomputable def oq (f:Str) (v:V):List (Str×V)->List (Str×V)
 | []=>[(f,v)]
 | (g,x) :: r=>if g=f then (g,v) :: r else (g,x) :: oq f v r
theorem kG (f g:Str) (v:V):∀ fs:List (Str×V),(oq f v fs).lookup g=if g=f then some v else fs.lookup g
 | []=>by
  show List.lookup g [(f,v)]=_;by_cases h:g=f
  ·have hb:(g==f)=true:=LF.mpr h;simp only [List.lookup,hb,Km h]
  ·have hb:(g==f)=false:=Lw.mpr h;simp only [List.lookup,hb,Kr h]
 | (k,x) :: r=>by
  have ih:=kG f g v r;rw [show oq f v ((k,x) :: r)=(if k=f then (k,v) :: r else (k,x) :: oq f v r) from rfl];by_cases hk:k=f
  ·rw [Km hk];by_cases h:g=k
   ·have hb:(g==k)=true:=LF.mpr h;simp only [List.lookup,hb,Km (h.trans hk)]
   ·have hb:(g==k)=false:=Lw.mpr h;simp only [List.lookup,hb,Kr (fun e:g=f=>h (e.trans hk.symm))]
  ·rw [Kr hk];by_cases h:g=k
   ·have hb:(g==k)=true:=LF.mpr h;simp only [List.lookup,hb,Kr (fun e:g=f=>hk (h.symm.trans e))]
   ·have hb:(g==k)=false:=Lw.mpr h;simp only [List.lookup,hb];exact ih
theorem kH (f:Str) (v:V):∀ fs:List (Str×V),f∈(oq f v fs).map (·.1)/\∀ g,g∈fs.map (·.1)->g∈(oq f v fs).map (·.1)
 | []=>⟨by simp [oq],fun g h=>by simp at h⟩
 | (k,x) :: r=>by
  obtain ⟨i1,i2⟩:=kH f v r;rw [show oq f v ((k,x) :: r)=(if k=f then (k,v) :: r else (k,x) :: oq f v r) from rfl];by_cases hk:k=f
  ·rw [Km hk];subst hk;exact ⟨by simp,fun g h=>by simpa using h⟩
  ·rw [Kr hk];refine ⟨?_,fun g h=>?_⟩
   ·rw [List.map_cons];exact Kb _ i1
   ·rw [List.map_cons] at h ⊢;rcases Kd.mp h with e | e
    ·exact Kd.mpr (.inl e)
    ·exact Kb _ (i2 g e)
theorem kh (f:Str) (v:V):∀ fs:List (Str×V),(oq f v fs).length<=fs.length+1
 | []=>by simp [oq]
 | (k,x) :: r=>by
  have ih:=kh f v r;rw [show oq f v ((k,x) :: r)=(if k=f then (k,v) :: r else (k,x) :: oq f v r) from rfl];by_cases hk:k=f
  ·rw [Km hk,J8,J8];omega
  ·rw [Kr hk,J8,J8];omega
theorem xH.some_of {v:V} {o:Option Value} (r:xH (some v) o):∃ u,o=some u/\RelV v u:=by
 cases o with
 | none=>exact (show False from r).elim
 | some u=>exact ⟨u,rfl,r⟩
theorem xH.none_of {o:Option Value} (r:xH none o):o=none:=by
 cases o with
 | none=>rfl
 | some u=>exact (show False from r).elim
theorem uN {v:V} {u:Value} (r:RelV v u):PySem.W.handedIn u=true:=by
 cases v with
 | non=>cases (show u=Value.none from r);rfl
 | bl b=>cases (show u=Value.bool b from r);rfl
 | int i=>obtain ⟨t,e⟩:=(show ∃ t,u=Value.int i t from r);cases e;rfl
 | str x=>obtain ⟨t,e⟩:=(show ∃ t,u=Value.str x t from r);cases e;rfl
 | byt b=>obtain ⟨t,e⟩:=(show ∃ t,u=Value.bytes b t from r);cases e;rfl
 | flt b=>obtain ⟨t,e⟩:=(show ∃ t,u=Value.float b t from r);cases e;rfl
 | ref a=>cases (show u=Value.ref a from r);rfl
 | ty n=>cases (show u=Value.type n from r);rfl
section
variable {P:Program} {w:World} {H H':Hp} {h h':Heap} {a C dx:Addr} {fs fs':List (Str×V)}
theorem qw (hok:HOk P w H h) (e:H a=some (.ins C dx fs)):∃ mA,Am h a dx C mA/\(∀ f,xH (fs.lookup f) (mA f))/\PySem.Within mA (fs.map (·.1))/\fs.length<=1000/\H dx=some (.own a):=by
 obtain ⟨d,z,ne,ob,mA,n,r,q⟩:=(show fG P w H h a (.ins C dx fs) from hok a _ e);exact ⟨mA,⟨ob,n,ne⟩,r,q,z,d⟩
end
structure Cls (K:Fg) (C:Addr):Prop where
 pg:PySem.W.plainGet K C Str.empty=true
 hd:PySem.W.hasDictIn K C=true
 po:PySem.W.plainOver K C=true
 sa:PySem.W.findIn K (.ref C) "__setattr__" = some (some (.builtin "object.__setattr__"))
theorem Cls.get {K:Fg} {C:Addr} (c:Cls K C) (f:Str):PySem.W.plainGet K C f=true:=c.pg
def fh (K:Fg) (C:Addr) (f:Str):Prop:=PySem.W.findIn K (.ref C) f=some none
theorem fh.GY {K:Fg} {C:Addr} {f:Str} (n:fh K C f):PySem.W.takerIn K C f=some none:=by
 unfold PySem.W.takerIn;rw [show PySem.W.findIn K (.ref C) f=some none from n];rfl
structure Meth (K:Fg) (C:Addr) (m:Str) (f:Addr):Prop where
 at_:PySem.W.findIn K (.ref C) m=some (some (.ref f))
 fn:PySem.W.isFn K (.ref f)=true
 kp:PySem.W.keepIn K (.ref f)=true
section
variable {X:Cx} {pins:List (Addr×Obj)} {σ:St} {H:Hp} {s:Shared} {a C dx:Addr} {fs:List (Str×V)} {f:Str} {v:V} {A:Around} {E:Value->Shared->Prop}
theorem um {b:Bool} {Q:Value->Shared->Prop} (I:Inv X pins σ H s) (e:H a=some (.ins C dx fs)) (c:Cls X.K C) (n:fh X.K C f) (l:fs.lookup f=some v)
  (h:∀ u s',Inv X pins σ H s'->RelV v u->Q u s'):wpAny (model X.prog X.w) A (getAttr (.ref a) f b) Q E s:=by
 obtain ⟨mA,O,r,_,_,_⟩:=qw I.hok e;obtain ⟨u,hu,ru⟩:=xH.some_of (v:=v) (o:=mA f) (by rw [<- l];exact r f);exact get_map I.kIn O (c.get f) c.hd n hu (uN ru) (h u _ (I.tok _) ru)
theorem iW {m:Str} {g:Addr} {pl:Sem Bool} {Q:Value×List Value->Shared->Prop} (I:Inv X pins σ H s) (e:H a=some (.ins C dx fs)) (c:Cls X.K C) (k:Meth X.K C m g) (l:fs.lookup m=none)
  (h:Q (.ref g,[.ref a]) s):wpAny (model X.prog X.w) A (getMethod (.ref a) m pl) Q E s:=by
 obtain ⟨mA,O,r,_,_,_⟩:=qw I.hok e;have hn:mA m=none:=xH.none_of (by rw [<- l];exact r m);exact x9 I.kIn O (c.get m) k.at_ k.fn hn h
theorem t8 {y:V} {u:Value} {Q:Unit->Shared->Prop} (I:Inv X pins σ H s) (e:H a=some (.ins C dx fs)) (c:Cls X.K C) (n:fh X.K C f) (hl:fs.length < 1000) (ry:RelV y u)
  (h:∀ s',Inv X pins σ (upd H a (.ins C dx (oq f y fs))) s'->Q () s'):wpAny (model X.prog X.w) A (setAttr (.ref a) f u) Q E s:=by
 obtain ⟨mA,O,r,wi,_,ho⟩:=qw I.hok e;have hz:(fs.map (·.1)).length<=sizeLine:=by rw [J5,LZ];omega
 refine Ak I.kIn O c.sa c.po n.GY c.hd wi hz fun h' O' sb=>h _ ?_;have hd:∃ o,h'.get? dx=some o:=let ⟨o,_,_,e',_⟩:=O'.ns;⟨o,e'⟩
 refine I.write (x:=a) (e:=dx) (by rw [e];exact True.intro) (.inr ho) (fun b q hb z=>(sb.2 b hb).trans z) hd ?_;refine ⟨by rw [au O.ne];exact ho,?_,O.ne,O'.obj,_,O'.ns,fun g=>?_,fun g hg=>?_⟩
 ·have:=kh f y fs;omega
 ·show xH ((oq f y fs).lookup g) (if g=f then some u else mA g);rw [kG];by_cases q:g=f
  ·rw [Km q,Km q];exact ry
  ·rw [Kr q,Kr q];exact r g
 ·by_cases q:g=f
  ·rw [q];exact (kH f y fs).1
  ·refine (kH f y fs).2 g (wi g fun z=>hg ?_);show (if g=f then some u else mA g)=none;rw [Kr q];exact z
theorem Inv.made (I:Inv X pins σ H s):Inv X pins σ (upd (upd H s.heap.objs.size (.own (s.heap.objs.size+1))) (s.heap.objs.size+1) (.ins C s.heap.objs.size []))
    { s with heap:=(s.heap.push PySem.W.emptyDict).push (PySem.W.instObj C s.heap.objs.size) }:=by
  have e1:(s.heap.push PySem.W.emptyDict).get? s.heap.objs.size=some PySem.W.emptyDict:=Kx s.heap rfl;have e2:((s.heap.push PySem.W.emptyDict).push (PySem.W.instObj C s.heap.objs.size)).get? (s.heap.objs.size+1)=some (PySem.W.instObj C s.heap.objs.size):=by
    have:=Kx (s.heap.push PySem.W.emptyDict) (o:=PySem.W.instObj C s.heap.objs.size) rfl
    rwa [Li] at this
  have e3:(s.heap.push PySem.W.emptyDict).Ns s.heap.objs.size (fun _=>none):=⟨PySem.W.emptyDict,#[],_,e1,rfl,(fun e he=>absurd he (by simp)),fun _=>rfl⟩;have I1:=I.laid (a:=s.heap.objs.size) (o:=.own (s.heap.objs.size+1)) (h':=s.heap.push PySem.W.emptyDict) (t':=s.toks) (fun b u q=>J7 _ q) (Ke _) ⟨_,e1⟩;refine I1.laid (a:=s.heap.objs.size+1) (o:=.ins C s.heap.objs.size []) (t':=s.toks) (fun b u q=>J7 _ q) (Nat.le_of_eq (Li _ _)) ?_;have ne:s.heap.objs.size≠s.heap.objs.size+1:=KP (Ln _);refine ⟨by rw [au ne,aH],Lu _,ne,e2,fun _=>none,(Heap.Ns1.of_empty e3).at fun o q=>J7 _ q,fun _=>True.intro,fun y hy=>absurd rfl hy⟩
theorem Be {prog:Program} {w:World} {env:Env} {e:Expr} {f:Str} {pos:Pos} {s:Shared} {Q:Value->Shared->Prop} (hb:attributeBase e f env (eval e env)=eval e env)
  (h:wpAny (model prog w) A (eval e env) (fun o s₁=>wpAny (model prog w) A (getAttr o f true) Q E s₁) E s):wpAny (model prog w) A (eval (.Attribute e f pos) env) Q E s :=
 Attribute_any_ h (by rw [arm_eval_Attribute,hb])
end
section
variable {X:Cx} {o e value:Expr} {f:Str} {pos pos' tpos:Pos} {ta tv:TE}
theorem AE {pl:Sem Bool} {m:Str} {apos:Pos} {args:List Expr} {pins:List (Addr×Obj)} {s:Shared} {σ:St} {H:Hp} {Q:Value->Shared->Prop} {te:TE} (he:PE X e te) (I:Inv X pins σ H s)
  (h:te σ H fun x H1=>∃ a C dx fs g,x=.ref a/\H1 a=some (.ins C dx fs)/\Cls X.K C/\Meth X.K C m g/\fs.lookup m=none /\
   ∀ s1,Inv X pins σ H1 s1->wpAny (model X.prog X.w) X.A (callWith pos (.ref g) [.ref a] (backTo pos (starEach args X.env)) (backToKw pos (keywordEach [] X.env))) Q X.xe s1)
  (ht:eval (.Call (.Attribute e m apos) args [] pos) X.env=(do
   let ov<-eval e X.env
   standAt apos.atName
   let (f,first)<-holding [ov] (getMethod ov m pl)
   callWith pos f first (backTo pos (starEach args X.env)) (backToKw pos (keywordEach [] X.env)))) :
  wpAny (model X.prog X.w) X.A (eval (.Call (.Attribute e m apos) args [] pos) X.env) Q X.xe s:=by
 refine PySem.W.methodCall_KW (pl:=pl) (thn (he pins s σ H _ I h) fun u s1 ⟨x,H1,I1,rx,a,C,dx,fs,g,ex,ea,c,k,l,q⟩=>?_) ht;subst ex;obtain rfl:u=Value.ref a:=rx;exact iW I1 ea c k l (q s1 I1)
end
end L2
namespace L2
open PySem PySem.Spec PyProof.Rows
structure eX (k:Nat) (A:Around):Prop where
 hd:A.handled=none
 dp:A.depth+3*k+5 < recursionLimit
 un:A.units+16*k+200 < cLine
 gd:A.guards=some []
theorem eX.mono {j k:Nat} {A:Around} (r:eX k A) (h:j<=k):eX j A:=⟨r.hd,by have:=r.dp;omega,by have:=r.un;omega,r.gd⟩
theorem eX.deeper {k:Nat} {A:Around} (r:eX (k+1) A) (env:Env):eX k (A.deeper env) :=
 ⟨r.hd,by have:=r.dp;show A.depth+1+3*k+5 < _;omega,by have:=r.un;show A.units+3+16*k+200 < _;omega,r.gd⟩
theorem ue {A:Around} {C:Addr} {us:List Value} {kw:List (Str×Value)}:(A.under (.builtin "type.__call__" ⟨.ref C :: us,kw⟩)).depth=A.depth+1:=by
 first | rfl | simp [Around.under,Code.weight,Code.isCreation,Code.isGuard,Code.isCaller,Code.frames,Code.isFrame,guardIds]
theorem uf {A:Around} {C:Addr} {us:List Value} {kw:List (Str×Value)}:(A.under (.builtin "type.__call__" ⟨.ref C :: us,kw⟩)).units=A.units+1:=by
 first | rfl | simp [Around.under,Code.cUnits,Code.frames,Code.isFrame]
theorem rC {A:Around} {C:Addr} {us:List Value} {kw:List (Str×Value)} (h:A.guards=some []):(A.under (.builtin "type.__call__" ⟨.ref C :: us,kw⟩)).guards=some []:=by
 first | simp [Around.under,Code.guards,Code.isGuard,guardIds,pushGuards,h]
theorem eX.make {k:Nat} {A:Around} (r:eX (k+1) A) (C:Addr) (us:List Value) (kw:List (Str×Value)):eX k (A.under (.builtin "type.__call__" ⟨.ref C :: us,kw⟩)) :=
 ⟨r.hd,by have:=r.dp;rw [ue];omega,by have:=r.un;rw [uf];omega,rC r.gd⟩
theorem eX.depth {k:Nat} {A:Around} (r:eX k A):A.depth < recursionLimit:=by have:=r.dp;omega
theorem eX.units {k:Nat} {A:Around} (r:eX k A):A.units+64 < cLine:=by have:=r.un;omega
def gC:TA:=fun _ H Q=>Q [] H
def bM (ta:TE) (tr:TA):TA:=fun σ H Q=>ta σ H fun x H1=>tr σ H1 fun xs H2=>Q (x :: xs) H2
section
variable {X:Cx} {e:Expr} {es:List Expr} {te:TE} {t:TA} {pos:Pos}
theorem zz:PA X [] gC:=fun _ _ _ _ H Q I h=>Calls.spliced_nil ⟨[],H,I,.nil,h⟩
theorem u6 (ha:PE X e te) (hr:PA X es t) (hs:starEach (e :: es) X.env=(false,eval e X.env) :: starEach es X.env:=by rfl):PA X (e :: es) (bM te t):=by
 intro pos pins s σ H Q I h;rw [hs];show wpAny _ _ (spliced ((false,eval e X.env) :: backTo pos (starEach es X.env))) _ _ s;refine Calls.spliced_cons (thn (ha pins s σ H _ I h) fun u s1 ⟨x,H1,I1,r1,q1⟩=>?_);exact thn (hr pos pins s1 σ H1 _ I1 q1) fun us s2 ⟨xs,H2,I2,r2,q2⟩=>⟨x :: xs,H2,I2,.cons r1 r2,q2⟩
def Hg (t:TA):TE:=fun σ H Q=>t σ H fun xs H1=>xs.length<=sizeLine/\∀ p,H1 p=none->Q (.ref p) (upd H1 p (.tup xs))
def Gf (t:TA):TE:=fun σ H Q=>t σ H fun xs H1=>xs.length<=sizeLine/\∀ p,H1 p=none->Q (.ref p) (upd H1 p (.lst xs))
theorem Cj {x1} (h:PA X es t):PE X (.Tuple es x1 pos) (Hg t):=by
 intro pins s σ H Q I hq;refine wpAny_Tuple_spliced (thn (h pos pins s σ H _ I hq) fun us s1 ⟨xs,H1,I1,r,z,q⟩=>⟨by rw [<- r.length];exact z,?_⟩);have hf:H1 s1.heap.objs.size=none:=I1.hok.fresh (Ke _);refine ⟨.ref s1.heap.objs.size,upd H1 s1.heap.objs.size (.tup xs),I1.laid (t':=s1.toks) (fun b u e=>J7 _ e) (Ke _) ?_,rfl,q _ hf⟩;exact ⟨z,us,r,⟨_,Kx _ rfl,rfl,_,rfl⟩⟩
theorem Et (h:PA X es t):PE X (.List es pos) (Gf t):=by
 intro pins s σ H Q I hq;refine wpAny_List_spliced (thn (h pos pins s σ H _ I hq) fun us s1 ⟨xs,H1,I1,r,z,q⟩=>⟨by rw [<- r.length];exact z,?_⟩);have hf:H1 s1.heap.objs.size=none:=I1.hok.fresh (Ke _);refine ⟨.ref s1.heap.objs.size,upd H1 s1.heap.objs.size (.lst xs),I1.laid (t':=s1.toks) (fun b u e=>J7 _ e) (Ke _) ?_,rfl,q _ hf⟩;exact ⟨z,us,0,r,Kx _ rfl⟩
end
abbrev Sp:=List V->Hp->VK->XK->Prop
abbrev CXT:=List Env->Hp->Shared->XK->Value->Shared->Prop
structure An (P:Program) (w:World) (K:Fg) (mg:Str->Option Value) (base:Heap) (A:Around) (outer:List Env) (s:Shared) (H:Hp):Prop where
 frames:A.frames=some outer
 mod:Mod K mg base
 bs:∀ b o,base.get? b=some o->s.heap.get? b=some o/\H b=none
 bsz:base.objs.size<=s.heap.objs.size
 uH:s.heap.FunFrames base outer
 frf:∀ b∈frs outer,H b=none
 hok:HOk P w H s.heap
 bare:AllBare s.gens
def CE (outer:List Env) (P:Program) (w:World) (H:Hp) (s:Shared) (Q:VK) (u:Value) (s':Shared):Prop :=
 ∃ v H',s'.os=s.os/\AllBare s'.gens/\Un (frs outer) [] H H' s.heap s'.heap/\HOk P w H' s'.heap/\RelV v u/\Q v H'
def CR (CX:CXT) (outer:List Env) (P:Program) (w:World) (H:Hp) (s:Shared) (Q:VK) (E:XK) (r:Result) (s':Shared):Prop :=
 match r with
 | .ok (.ret u)=>CE outer P w H s Q u s'
 | .ok _=>False
 | .error e=>CX outer H s E e s'
structure aQ (P:Program) (w:World) (K:Fg) (mg:Str->Option Value) (base:Heap) (CX:CXT) (k:Nat) (f:Addr) (fd:FuncData) (ps:List Str) (sp:Sp):Prop where
 len:∀ vs H Q E,sp vs H Q E->vs.length=ps.length
 run:∀ (A:Around) (outer:List Env) (s:Shared) (H:Hp) (args:Args) (us:List Value) (vs:List V) (Q:VK) (E:XK),eX k A->An P w K mg base A outer s H->BindsTo s fd args (ps.zip us)->Vals vs us->sp vs H Q E ->
  codeAny (model P w) A (.call (.ref f) args) (CR CX outer P w H s Q E) s
theorem aQ.mono {P:Program} {w:World} {K:Fg} {mg:Str->Option Value} {base:Heap} {CX:CXT} {j k:Nat} {f:Addr} {fd:FuncData} {ps:List Str} {sp:Sp} (F:aQ P w K mg base CX j f fd ps sp) (h:j<=k) :
  aQ P w K mg base CX k f fd ps sp:=⟨F.len,fun A outer s H args us vs Q E hr=>F.run A outer s H args us vs Q E (hr.mono h)⟩
theorem An.make {P:Program} {w:World} {K:Fg} {mg:Str->Option Value} {base:Heap} {A:Around} {outer:List Env} {s:Shared} {H:Hp} (e:An P w K mg base A outer s H) (C:Addr) (us:List Value) (kw:List (Str×Value)) :
  An P w K mg base (A.under (.builtin "type.__call__" ⟨.ref C :: us,kw⟩)) outer s H:=⟨by first | exact e.frames | (simpa [Around.under,Code.envs,Code.isFrame,pushEnvs] using e.frames),e.mod,e.bs,e.bsz,e.uH,e.frf,e.hok,e.bare⟩
section
variable {X:Cx} {pins:List (Addr×Obj)} {σ:St} {H:Hp} {s s':Shared}
theorem Inv.Ff (I:Inv X pins σ H s):An X.prog X.w X.K X.mg X.base X.A X.stack s H :=
 ⟨I.ok.frames,I.ok.mod,I.bs,Ks I.ok.bsz I.sz,I.stack,I.qQ,I.hok,I.bare⟩
theorem Inv.after {Q:VK} {u:Value} (I:Inv X pins σ H s) (h:CE X.stack X.prog X.w H s Q u s'):EP X pins σ Q u s':=by
 obtain ⟨v,H',os,bare,un,hok,r,q⟩:=h;obtain ⟨hh,g,d,t,os'⟩:=s';obtain rfl:os'=s.os:=os;exact ⟨v,H',I.call (h':=hh) (g':=g) (d':=d) (t':=t) (ch:=[]) un hok bare (fun b z=>absurd z (by simp)),r,q⟩
end
def vd (sp:Sp) (dvs:List V) (E:XK) (t:TA):TE:=fun σ H Q=>t σ H fun vs H1=>sp (vs++dvs) H1 Q E
def Dd (C:Addr) (m:Str) (sp:Sp) (dvs:List V) (E:XK) (ta:TE) (t:TA):TE:=fun σ H Q=>ta σ H fun x H1=>∃ a dx fs,x=.ref a/\H1 a=some (.ins C dx fs)/\fs.lookup m=none /\
 t σ H1 fun vs H2=>sp (x :: (vs++dvs)) H2 Q E
def Hv (C:Addr) (sp:Sp) (dvs:List V) (E:XK) (t:TA):TE:=fun σ H Q=>t σ H fun vs H1=>∀ x dx,H1 x=none->H1 dx=none->dx≠x ->
 sp (.ref x :: (vs++dvs)) (upd (upd H1 dx (.own x)) x (.ins C dx [])) (fun v H2=>v=.non/\Q (.ref x) H2) E
def Binds (K:Fg) (fd:FuncData) (ps:List Str) (ds:List Value):Prop :=
 ∀ (s:Shared) (us:List Value),K.In s.heap->(us++ds).length=ps.length->BindsTo s fd ⟨us,[]⟩ (ps.zip (us++ds))
theorem Binds.all {K:Fg} {fd:FuncData} {ps:List Str} (h:∀ us:List Value,us.length=ps.length->bindArgs fd ⟨us,[]⟩=pure (ps.zip us)):Binds K fd ps []:=fun s us _ hl=>by
 rw [K6] at hl ⊢;exact .of_eq (h us hl)
def Passes (CX:CXT) (X:Cx) (E:XK):Prop:=∀ (pins:List (Addr×Obj)) (σ:St) (H:Hp) (s:Shared) (e:Value) (s':Shared),Inv X pins σ H s->CX X.stack H s E e s'->X.xe e s'
section
variable {X:Cx} {CX:CXT} {k:Nat} {f C:Addr} {fd:FuncData} {ps:List Str} {sp:Sp} {dvs:List V} {ds:List Value} {E:XK} {x m:Str} {p pos apos:Pos} {e o:Expr} {es:List Expr} {ta:TE} {t:TA}
theorem xy {pins:List (Addr×Obj)} {σ:St} {H:Hp} {s:Shared} {Q:VK} {us:List Value} {vs:List V} (F:aQ X.prog X.w X.K X.mg X.base CX k f fd ps sp) (hr:eX k X.A) (hb:Binds X.K fd ps ds) (hd:Vals dvs ds) (hx:Passes CX X E)
  (I:Inv X pins σ H s) (r:Vals vs us) (h:sp (vs++dvs) H Q E):wpAny (model X.prog X.w) X.A (call (.ref f) us) (EP X pins σ Q) X.xe s:=by
 have r2:Vals (vs++dvs) (us++ds):=r.append hd;have hl:(us++ds).length=ps.length:=by rw [<- r2.length];exact F.len _ _ _ _ h
 refine wpAny_call (codeAny_mono (F.run X.A X.stack s H ⟨us,[]⟩ (us++ds) (vs++dvs) Q E hr I.Ff (hb s us I.kIn hl) r2 h) fun r s' hq=>?_);cases r with
 | error e=>exact hx pins σ H s e s' I hq
 | ok fl =>
  cases fl with
  | ret u=>exact I.after hq
  | next=>exact False.elim hq
  | brk=>exact False.elim hq
  | cont=>exact False.elim hq
theorem BA (F:aQ X.prog X.w X.K X.mg X.base CX k f fd ps sp) (hr:eX k X.A) (hg:Gl X x) (hm:X.mg x=some (.ref f)) (hk:PySem.W.keepIn X.K (.ref f)=true) (hb:Binds X.K fd ps ds) (hd:Vals dvs ds) (hx:Passes CX X E)
  (ha:PA X (e :: es) t) (hdb:(x==("__debug__" : Str))=false:=by decide) (he:starEach (e :: es) X.env=(false,eval e X.env) :: starEach es X.env:=by rfl) (hpl:(backTo pos (starEach es X.env)).any (·.1)=false:=by rfl) :
  PE X (.Call (.Name x p) (e :: es) [] pos) (vd sp dvs E t):=by
 intro pins s σ H Q I h;refine LI (qR I hg hm ?_ hdb);refine PySem.W.callWith_K (h₀:=X.base) I.ok.mod.kin hk (thn (ha pos pins s σ H _ I h) fun us s1 ⟨vs,H1,I1,r,q⟩=>⟨I1.kIn,?_⟩) he hpl;exact xy F hr hb hd hx I1 r q
theorem Bm {pl:Sem Bool} (he:PE X o ta) (c:Cls X.K C) (hm:Meth X.K C m f) (F:aQ X.prog X.w X.K X.mg X.base CX k f fd ps sp) (hr:eX k X.A) (hb:Binds X.K fd ps ds) (hd:Vals dvs ds) (hx:Passes CX X E) (ha:PA X (e :: es) t)
  (hst:starEach (e :: es) X.env=(false,eval e X.env) :: starEach es X.env:=by rfl) (hpl:(backTo pos (starEach es X.env)).any (·.1)=false:=by rfl)
  (ht:eval (.Call (.Attribute o m apos) (e :: es) [] pos) X.env=(do
   let ov<-eval o X.env
   standAt apos.atName
   let (f,first)<-holding [ov] (getMethod ov m pl)
   callWith pos f first (backTo pos (starEach (e :: es) X.env)) (backToKw pos (keywordEach [] X.env))):=by rfl) :
  PE X (.Call (.Attribute o m apos) (e :: es) [] pos) (Dd C m sp dvs E ta t):=by
 intro pins s σ H Q I h;refine PySem.W.methodCall_KW (pl:=pl) (thn (he pins s σ H _ I h) fun u s1 ⟨x,H1,I1,rx,a,dx,fs,ex,ea,l,q⟩=>?_) ht;subst ex;obtain rfl:u=Value.ref a:=rx;refine iW I1 ea c hm l ?_;refine PySem.W.callWith_K (first:=[.ref a]) (h₀:=X.base) I.ok.mod.kin hm.kp (thn (ha pos pins s1 σ H1 _ I1 q) fun us s2 ⟨vs,H2,I2,r,q2⟩=>⟨I2.kIn,?_⟩) hst hpl;exact xy (us:=.ref a :: us) (vs:=.ref a :: vs) F hr hb hd hx I2 (.cons rfl r) q2
theorem yL {pl:Sem Bool} (he:PE X o ta) (c:Cls X.K C) (hm:Meth X.K C m f) (F:aQ X.prog X.w X.K X.mg X.base CX k f fd ps sp) (hr:eX k X.A) (hb:Binds X.K fd ps ds) (hd:Vals dvs ds) (hx:Passes CX X E)
  (ht:eval (.Call (.Attribute o m apos) [] [] pos) X.env=(do
   let ov<-eval o X.env
   standAt apos.atName
   let (f,first)<-holding [ov] (getMethod ov m pl)
   callWith pos f first (backTo pos (starEach [] X.env)) (backToKw pos (keywordEach [] X.env))):=by rfl) :
  PE X (.Call (.Attribute o m apos) [] [] pos) (Dd C m sp dvs E ta gC):=by
 intro pins s σ H Q I h;refine PySem.W.methodCall_KW (pl:=pl) (thn (he pins s σ H _ I h) fun u s1 ⟨x,H1,I1,rx,a,dx,fs,ex,ea,l,q⟩=>?_) ht;subst ex;obtain rfl:u=Value.ref a:=rx;refine iW I1 ea c hm l ?_;exact PySem.W.callWith_K0 (first:=[.ref a]) I1.kIn hm.kp (xy (us:=[.ref a]) (vs:=[.ref a]) F hr hb hd hx I1 (.cons rfl .nil) q)
structure Mk (K:Fg) (C f:Addr):Prop where
 makes:PySem.W.makesIn K C=true
 init:PySem.W.findIn K (.ref C) "__init__" = some (some (.ref f))
 fn:PySem.W.isFn K (.ref f)=true
 kp:PySem.W.keepIn K (.ref C)=true
theorem zf {pins:List (Addr×Obj)} {σ:St} {H:Hp} {s:Shared} {Q:VK} {us:List Value} {vs:List V} (M:Mk X.K C f) (F:aQ X.prog X.w X.K X.mg X.base CX k f fd ps sp) (hr:eX (k+1) X.A) (hb:Binds X.K fd ps ds) (hd:Vals dvs ds)
  (hx:Passes CX X E) (I:Inv X pins σ H s) (r:Vals vs us)
  (h:∀ x dx,H x=none->H dx=none->dx≠x->sp (.ref x :: (vs++dvs)) (upd (upd H dx (.own x)) x (.ins C dx [])) (fun v H2=>v=.non/\Q (.ref x) H2) E) :
  wpAny (model X.prog X.w) X.A (call (.ref C) us) (EP X pins σ Q) X.xe s:=by
 have hq:=h (s.heap.objs.size+1) s.heap.objs.size (I.hok.fresh (Nat.le_succ _)) (I.hok.fresh (Ke _)) (KP (Ln _));have I2:=Inv.made (C:=C) I;have r2:Vals (V.ref (s.heap.objs.size+1) :: (vs++dvs)) (Value.ref (s.heap.objs.size+1) :: (us++ds)):=.cons rfl (r.append hd);have hl:(Value.ref (s.heap.objs.size+1) :: us++ds).length=ps.length:=by
  have e:=r2.length;rw [F.len _ _ _ _ hq] at e;exact e.symm
 refine wpAny_call (yH (f:=f) I.kIn M.makes M.init (LF.mp M.fn) (codeAny_mono (F.run _ X.stack _ _ ⟨Value.ref (s.heap.objs.size+1) :: us,[]⟩ (Value.ref (s.heap.objs.size+1) :: (us++ds)) _ _ E (hr.make C us [])
  (I2.Ff.make C us []) (hb _ (Value.ref (s.heap.objs.size+1) :: us) I2.kIn hl) r2 hq) fun r s' hq'=>?_))
 cases r with
 | error e=>exact hx pins σ _ _ e s' I2 hq'
 | ok fl =>
  cases fl with
  | ret u =>
   obtain ⟨v,H',I3,rv,ev,q3⟩:=I2.after hq';subst ev;exact ⟨rv,⟨V.ref (s.heap.objs.size+1),H',I3,rfl,q3⟩⟩
  | next=>exact False.elim hq'
  | brk=>exact False.elim hq'
  | cont=>exact False.elim hq'
theorem Bg (M:Mk X.K C f) (F:aQ X.prog X.w X.K X.mg X.base CX k f fd ps sp) (hr:eX (k+1) X.A) (hg:Gl X x) (hm:X.mg x=some (.ref C)) (hb:Binds X.K fd ps ds) (hd:Vals dvs ds) (hx:Passes CX X E)
  (ha:PA X (e :: es) t) (hdb:(x==("__debug__" : Str))=false:=by decide) (he:starEach (e :: es) X.env=(false,eval e X.env) :: starEach es X.env:=by rfl) (hpl:(backTo pos (starEach es X.env)).any (·.1)=false:=by rfl) :
  PE X (.Call (.Name x p) (e :: es) [] pos) (Hv C sp dvs E t):=by
 intro pins s σ H Q I h;refine LI (qR I hg hm ?_ hdb);refine PySem.W.callWith_K (h₀:=X.base) I.ok.mod.kin M.kp (thn (ha pos pins s σ H _ I h) fun us s1 ⟨vs,H1,I1,r,q⟩=>⟨I1.kIn,?_⟩) he hpl;exact zf M F hr hb hd hx I1 r q
end
structure ai (N P:List Str) (sc:Scope):Prop where
 kind:sc.kind=.function
 co:sc.isCoroutine=false
 gen:sc.isGenerator=false
 nd:N.Nodup
 pre:N.take P.length=P
 par:∀ x∈P,sc.names.lookup x=some .local\/sc.names.lookup x=some .cell
 C0:∀ y∈sc.names,y.2≠.free
theorem pv {kindOf:Str->Option NameKind} {x:Str}:∀ {binds:List (Str×Value)} {m:Str->Option Value},(∀ v,(x,v) ∉ binds)->bindL kindOf binds m x=m x
 | [],_,_=>rfl
 | (n,v) :: r,m,h=>by
  unfold bindL;rw [pv fun w hw=>h w (Kb _ hw)];split
  ·have:x≠n:=by rintro rfl;exact h v Ki
   simp [this]
  ·rfl
theorem pK {kindOf:Str->Option NameKind} {x:Str}:∀ {binds:List (Str×Value)} {m:Str->Option Value},(∀ v,(x,v) ∉ binds)->bindC kindOf binds m x=m x
 | [],_,_=>rfl
 | (n,v) :: r,m,h=>by
  unfold bindC;rw [pK fun w hw=>h w (Kb _ hw)];split
  ·rfl
  ·have:x≠n:=by rintro rfl;exact h v Ki
   simp [this]
theorem oE {kindOf:Str->Option NameKind} {x:Str} {v:Value}:∀ {P:List Str} {vs:List Value} {i:Nat} {m:Str->Option Value},P.Nodup->P[i]?=some x->vs[i]?=some v->kindOf x=some .local ->
  bindL kindOf (P.zip vs) m x=some v
 | [],_,_,_,_,h,_,_=>by simp at h
 | _ :: _,[],_,_,_,_,h,_=>by simp at h
 | p :: P,w :: vs,0,m,nd,h1,h2,hk=>by
  simp at h1 h2;subst h1;subst h2;show bindL kindOf ((p,w) :: P.zip vs) m p=_;unfold bindL;rw [pv fun v hv=>(Lc.mp nd).1 (List.of_mem_zip hv).1,Km hk];simp
 | p :: P,w :: vs,i+1,m,nd,h1,h2,hk=>by
  show bindL kindOf ((p,w) :: P.zip vs) m x=_;unfold bindL;exact oE (i:=i) (Lc.mp nd).2 (by simpa using h1) (by simpa using h2) hk
theorem oB {kindOf:Str->Option NameKind} {x:Str} {v:Value}:∀ {P:List Str} {vs:List Value} {i:Nat} {m:Str->Option Value},P.Nodup->P[i]?=some x->vs[i]?=some v->kindOf x≠some .local ->
  bindC kindOf (P.zip vs) m x=some v
 | [],_,_,_,_,h,_,_=>by simp at h
 | _ :: _,[],_,_,_,_,h,_=>by simp at h
 | p :: P,w :: vs,0,m,nd,h1,h2,hk=>by
  simp at h1 h2;subst h1;subst h2;show bindC kindOf ((p,w) :: P.zip vs) m p=_;unfold bindC;rw [pK fun v hv=>(Lc.mp nd).1 (List.of_mem_zip hv).1,Kr hk];simp
 | p :: P,w :: vs,i+1,m,nd,h1,h2,hk=>by
  show bindC kindOf ((p,w) :: P.zip vs) m x=_;unfold bindC;exact oB (i:=i) (Lc.mp nd).2 (by simpa using h1) (by simpa using h2) hk
noncomputable def start (N:List Str) (vs:List V):St:=vs.map some++List.replicate (N.length - vs.length) none
noncomputable def yM (CX:CXT) (P:Program) (w:World) (K:Fg) (mg:Str->Option Value) (base:Heap) (N:List Str) (qual:Str) (scope:Scope) (f:Addr) (cd:Value) (A:Around) (outer:List Env) (s:Shared) (H:Hp) (E:XK):Cx where
 prog:=P
 w:=w
 K:=K
 mg:=mg
 base:=base
 A:=A.deeper (envOfC qual scope s.heap.objs.size f cd)
 N:=N
 s₀:=s
 H₀:=H
 env:=envOfC qual scope s.heap.objs.size f cd
 outer:=outer
 stack:=envOfC qual scope s.heap.objs.size f cd :: outer
 ex:=[]
 calm:=true
 fn:=fun _=>true
 pn:=[]
 xe:=fun e s'=>wpAny (model P w) (A.deeper (envOfC qual scope s.heap.objs.size f cd)) (leaving (envOfC qual scope s.heap.objs.size f cd) e) (fun _ s''=>CX outer H s E e s'') (fun e' s''=>CX outer H s E e' s'') s'
theorem sD {sc:Scope} {n:Nat} {x:Str} (h:sc.names.lookup x=some .cell):∃ c,(cellsFrom n sc.names []).lookup x=some c:=by
 have q:=PySem.W.cellsFrom_some sc.names n [] (.inl h);exact Option.isSome_iff_exists.mp q
theorem xw {CX:CXT} {P:Program} {w:World} {K:Fg} {mg:Str->Option Value} {base:Heap} {N ps:List Str} {qual:Str} {scope:Scope} {f:Addr} {cd:Value} {A:Around} {outer:List Env} {s s1:Shared} {H:Hp} {E:XK} {us:List Value} {vs:List V}
  (S:ai N ps scope) (hd:A.handled=none) (e0:An P w K mg base A outer s H) (hl:vs.length=ps.length) (r:Vals vs us)
  (x:InCallC s s.heap.objs.size (bindL (envOfC qual scope s.heap.objs.size f cd).kindOf (ps.zip us) fun _=>none) (cellsFrom (s.heap.objs.size+1) scope.names []) (bindC (envOfC qual scope s.heap.objs.size f cd).kindOf (ps.zip us) fun _=>none) s1) :
  Inv (yM CX P w K mg base N qual scope f cd A outer s H E) [] (start N vs) H s1:=by
 have hpl:ps.length<=N.length:=by have:=congrArg List.length S.pre;rw [K9] at this;omega
 obtain ⟨h1,tk,rfl,hk⟩:=x.done;have noA:∀ b:Addr,b ∉ (yM CX P w K mg base N qual scope f cd A outer s H E).ex:=fun b z=>absurd (show b∈([]:List Addr) from z) (by simp)
 refine ⟨⟨e0.mod,S.kind,rfl,rfl,Ke _,fun y z c h1 h2=>?_,fun y hy=>?_,fun y c _ h=>?_,fun _=>hd,Around.frames_deeper e0.frames,.inr ⟨rfl,rfl⟩,fun b z=>absurd z (noA b),e0.bs,e0.bsz,fun b _ _=>noA b,fun b z=>absurd z (noA b),e0.uH,e0.frf⟩,
  rfl,e0.bare,Un.kept hk,⟨_,x.toInCall.ns,fun i y v h1 h2 h3=>?_⟩,fun y c h=>⟨_,x.cell y c h⟩,e0.hok.fresh (Ke _),fun y c h=>?_,fun p hp=>absurd (show p∈([]:List (Addr×Obj)) from hp) (by simp),e0.hok.kept hk,?_⟩
 ·exact name_of_addr x.apart (Lx h1) (Lx h2)
 ·have hy:scope.names.lookup y=some .cell\/scope.names.lookup y=some .free:=hy;rcases hy with hy | hy
  ·exact sD hy
  ·exact absurd rfl (S.C0 _ (Lx hy))
 ·exact Nat.le_of_lt (x.above y c (Lx h))
 ·have hi:i < vs.length:=by
   unfold start at h2;by_cases hi:i < vs.length
   ·exact hi
   ·rw [Kk (by simpa using hi)] at h2;rw [List.getElem?_replicate] at h2;split at h2 <;> cases h2
  have ha:vs[i]?=some v:=by
   unfold start at h2;rw [KO (by simpa using hi),Kt] at h2;cases e:vs[i]? with
   | none=>rw [e] at h2;cases h2
   | some a=>rw [e] at h2;cases h2;rfl
  obtain ⟨u,hu,rv⟩:=r.get ha;have hp:ps[i]?=some y:=by
   rw [<- S.pre,List.getElem?_take_of_lt (by omega)];exact h1
  have ndP:ps.Nodup:=by rw [<- S.pre];exact S.nd.sublist (List.take_sublist _ _)
  refine ⟨u,rv,?_⟩;rcases S.par y (KQ hp) with k | k
  ·exact .inl ⟨k,oE ndP hp hu k⟩
  ·obtain ⟨c,e⟩:=sD (n:=s.heap.objs.size+1) k;refine .inr ⟨.inl k,c,e,?_⟩;have q:=x.cell y c e;rw [oB ndP hp hu (by show scope.names.lookup y≠_;rw [k];decide)] at q;exact q
 ·exact e0.hok.fresh (Nat.le_of_lt (x.above y c (Lx h)))
 ·unfold start;show _=N.length;rw [J6,J5,L9];omega
theorem HY {CX:CXT} {P:Program} {w:World} {K:Fg} {mg:Str->Option Value} {base:Heap} {k:Nat} {f:Addr} {name qual:Str} {params:Arguments} {body:List Stmt} {scope:Scope} {dV kV doc pm cdv ct oc:Value} {an od:Option Addr}
  {osl:Array (Option Value)} {N ps:List Str} {sp:Sp} (lk:K.lookup f=some ⟨oc,od,.func (PySem.W.fnOf name qual params body scope dV kV doc pm an cdv ct),osl⟩) (hcd:PySem.W.codeIn K cdv qual=true) (S:ai N ps scope)
  (len:∀ vs H Q E,sp vs H Q E->vs.length=ps.length)
  (hbody:∀ (A:Around) (outer:List Env) (s:Shared) (H:Hp) (vs:List V) (Q:VK) (E:XK),eX k (A.deeper (envOfC qual scope s.heap.objs.size f cdv))->sp vs H Q E ->
   ∃ t,PSs (yM CX P w K mg base N qual scope f cdv A outer s H E) body t/\t { nx:=fun _ H'=>Q .non H',rt:=Q } (start N vs) H) :
  aQ P w K mg base CX (k+1) f (PySem.W.fnOf name qual params body scope dV kV doc pm an cdv ct) ps sp:=by
 refine ⟨len,fun A outer s H args us vs Q E hr e0 hb r hsp=>?_⟩;have hl:=len _ _ _ _ hsp;have KX:K.In s.heap:=e0.mod.kin.keeps fun b o e=>(e0.bs b o e).1;have lim:s.heap.NoLimit:=e0.mod.nolimit.keeps fun b o e=>(e0.bs b o e).1;have hkind:∀ y∈ps.zip us,scope.names.lookup y.1=some .local\/(scope.names.lookup y.1=some .cell/\((cellsFrom (s.heap.objs.size+1) scope.names []).lookup y.1).isSome=true):=fun ⟨n,v⟩ hy=>by
  rcases S.par n (List.of_mem_zip hy).1 with q | q
  ·exact .inl q
  ·exact .inr ⟨q,PySem.W.cellsFrom_some _ _ _ (.inl q)⟩
 refine codeAny_call_function hr.depth (KX _ _ lk) rfl S.co S.gen rfl (PySem.W.codeRec_of KX hcd) (hb _ _ _ _ ?_);refine wpAny_newFunctionEnv_cells S.kind hkind fun env he s1 x=>?_;subst he;refine ⟨lim.keeps x.toInCall.keep,codeAny_func ?_⟩;obtain ⟨t,ht,hq⟩:=hbody A outer s H vs Q E (hr.deeper _) hsp;have I:Inv (yM CX P w K mg base N qual scope f cdv A outer s H E) [] (start N vs) H s1:=xw S hr.hd e0 hl r x;refine K5 (ht [] s1 (start N vs) H _ I hq) (fun fl s' hs=>?_) fun e s' hs=>hs;have fin:∀ {σ':St} {H':Hp} {v:V} {u:Value},Inv (yM CX P w K mg base N qual scope f cdv A outer s H E) [] σ' H' s'->RelV v u->Q v H'->CE outer P w H s Q u s' :=
  fun {σ' H' v u} J rv q=>⟨v,H',J.os,J.bare,J.base,J.hok,rv,q⟩
 cases fl with
 | ret u =>
  obtain ⟨v,σ',H',J,rv,q⟩:=hs;exact fin J rv q
 | next =>
  obtain ⟨σ',H',J,q⟩:=hs;exact fin (v:=V.non) (u:=Value.none) J rfl q
 | brk =>
  obtain ⟨_,_,_,q⟩:=hs;exact False.elim q
 | cont =>
  obtain ⟨_,_,_,q⟩:=hs;exact False.elim q
end L2
namespace L2
open PySem PySem.Spec PyProof.Rows
section
variable {X:Cx} {x:Str} {p pos:Pos} {e:Expr} {es:List Expr} {t:TA} {id T:String} {r:List V->Hp->VK->Prop}
def tCB (r:List V->Hp->VK->Prop) (t:TA):TE:=fun σ H Q=>t σ H fun vs H1=>r vs H1 Q
theorem yQ (hc:aZ X (.builtin id) r) (hg:Gl X x) (hm:X.mg x=none) (hv:bootBuiltins x=some (.builtin id)) (ha:PA X (e :: es) t) (hn:x ≠ "__name__" := by decide) (hdb:(x==("__debug__" : Str))=false:=by decide)
  (he:starEach (e :: es) X.env=(false,eval e X.env) :: starEach es X.env:=by rfl) (hpl:(backTo pos (starEach es X.env)).any (·.1)=false:=by rfl):PE X (.Call (.Name x p) (e :: es) [] pos) (tCB r t):=by
 intro pins s σ H Q I h;refine LI (l9 I hg hm hv ?_ hn hdb);exact PyProof.Rows.callWith_builtin1 (thn (ha pos pins s σ H _ I h) fun us s1 ⟨vs,H1,I1,r1,q1⟩=>hc pins s1 σ H1 vs us Q I1 r1 q1) he hpl
theorem xp (hc:aZ X (.type T) r) (hg:Gl X x) (hm:X.mg x=none) (hv:bootBuiltins x=some (.type T)) (ha:PA X (e :: es) t) (hn:x ≠ "__name__" := by decide) (hdb:(x==("__debug__" : Str))=false:=by decide)
  (he:starEach (e :: es) X.env=(false,eval e X.env) :: starEach es X.env:=by rfl) (hpl:(backTo pos (starEach es X.env)).any (·.1)=false:=by rfl):PE X (.Call (.Name x p) (e :: es) [] pos) (tCB r t):=by
 intro pins s σ H Q I h;refine LI (l9 I hg hm hv ?_ hn hdb);exact LW (thn (ha pos pins s σ H _ I h) fun us s1 ⟨vs,H1,I1,r1,q1⟩=>hc pins s1 σ H1 vs us Q I1 r1 q1) he hpl
end
end L2
namespace HT
open PySem PyProof.Rows
section
variable {prog:Program} {w:World} {A:Around} {E:Value->Shared->Prop} {s:Shared}
theorem AY {t b:Addr} {vs ws:List Value} {Q:Value->Shared->Prop} (ht:IsTup s.heap t vs.toArray) (hb:IsTup s.heap b ws.toArray) (hv:vs≠[])
  (h1:ws=[]->Q (.ref t) s) (h2:ws≠[]->Q (.ref s.heap.objs.size) { s with heap:=s.heap.push { cls:=.type "tuple", data:=.seq (vs++ws).toArray } })
  (hsz:vs.length+ws.length<=sizeLine):wpAny (model prog w) A (binaryOp .Add (.ref t) (.ref b)) Q E s:=by
 obtain ⟨⟨cls,dd,data,sl⟩,ho,hc,n,hd⟩:=id ht;obtain ⟨⟨cls2,dd2,data2,sl2⟩,ho2,hc2,n2,hd2⟩:=id hb;simp only at hc hd hc2 hd2;subst hc hd hc2 hd2;have e:vs.toArray++ws.toArray=(vs++ws).toArray:=by simp
 by_cases hw:ws=[]
 ·exact concat_meets ⟨_,ho,rfl⟩ ⟨_,ho2,rfl⟩ noFill_tuple_add seq_tuple_add PySem.F.slot_tuple_add PySem.F.entry_tuple_add (PySem.F.args_tuple_add_2 _ _)
   (tuple_addW1 t b vs.toArray ws.toArray n n2 dd dd2 sl sl2 (by simpa using hv) (by simp [hw])) ⟨ho,ho2,h1 hw⟩
 ·refine concat_meets ⟨_,ho,rfl⟩ ⟨_,ho2,rfl⟩ noFill_tuple_add seq_tuple_add PySem.F.slot_tuple_add PySem.F.entry_tuple_add (PySem.F.args_tuple_add_2 _ _)
   (tuple_addW2 t b vs.toArray ws.toArray n n2 dd dd2 sl sl2 (by simpa using hv) (by simpa using hw) (by rw [Ko,Ko];exact hsz)) ⟨ho,ho2,?_⟩
  rw [e];exact h2 hw
noncomputable def sIx (n d:Nat):Option Int->Nat
 | none=>d
 | some v=>if v < 0 then (v+(n:Int)).toNat else min v.toNat n
theorem sG (n d:Nat) (hd:d<=n) (o:Option Int):sIx n d o<=n:=by
 cases o with
 | none=>exact hd
 | some v =>
  show (if v < 0 then (v+(n:Int)).toNat else min v.toNat n)<=n;by_cases hv:v < 0
  ·rw [Km hv];omega
  ·rw [Kr hv];exact Nat.min_le_right _ _
theorem wj (v:Int) (n d:Nat):(if v < 0 then max (v+(n:Int)) 0 else min v (n:Int))=((sIx n d (some v):Nat):Int):=by
 show (if v < 0 then max (v+(n:Int)) 0 else min v (n:Int))=(((if v < 0 then (v+(n:Int)).toNat else min v.toNat n):Nat):Int);by_cases hv:v < 0
 ·simp only [Km hv];omega
 ·simp only [Kr hv];omega
theorem tJ (lo hi:Option Int) (n:Nat):Builtin.Slice.sliceAdjust lo hi 1 (n:Int)=(((sIx n 0 lo:Nat):Int),((sIx n n hi:Nat):Int)):=by
 have h1:¬((1:Int) < 0):=by omega
 unfold Builtin.Slice.sliceAdjust;simp only [h1,if_false];refine Prod.ext ?_ ?_
 ·cases lo with
  | none=>rfl
  | some v=>exact wj v n 0
 ·cases hi with
  | none=>rfl
  | some v=>exact wj v n n
theorem tW (i j:Nat):Builtin.Slice.slicePlaces (i:Int) (j:Int) 1=j - i:=by
 unfold Builtin.Slice.slicePlaces;have h1:(1:Int) > 0:=by omega
 simp only [h1,LO,Int.ediv_one];split <;> omega
theorem mx {v:Value} {o:Option Int} {Q:Option Int->Shared->Prop} (p:IsPart v o) (h:Q o s):wpAny (model prog w) A (Builtin.Slice.slicePartIndex v) Q E s:=by
 cases p with
 | none=>exact slicePart_none h
 | int i t=>exact slicePart_int h
theorem jM {sl:Addr} {vl vu:Value} {lo hi:Option Int} {n:Nat} {Q:Int×Int×Nat->Shared->Prop} (hs:s.heap.IsSliceOf sl vl vu .none) (pl:IsPart vl lo) (pu:IsPart vu hi)
  (h:Q (((sIx n 0 lo:Nat):Int),1,sIx n n hi - sIx n 0 lo) s):wpAny (model prog w) A (Builtin.Slice.sliceApplied (.ref sl) (pure (n:Int))) Q E s:=by
 obtain ⟨os,hos,hcs,hds⟩:=id hs;unfold Builtin.Slice.sliceApplied Builtin.Slice.sliceFields;refine Kv (Kv (wpAny_field hos hds (x:=vl) rfl (Kv (wpAny_field hos hds (x:=vu) rfl (Kv (wpAny_field hos hds (x:=.none) rfl (KI ?_)))))));refine Kv (slicePart_none ?_);show wpAny _ _ (if ((1:Int)==0)=true then _ else _) _ _ s;rw [Kr (by decide)];refine Kv (mx pl (Kv (mx pu (Kv (KI ?_)))));show wpAny _ _ (match Builtin.Slice.sliceAdjust lo hi 1 (n:Int) with | (lo,hi)=>pure (lo,(1:Int),Builtin.Slice.slicePlaces lo hi 1)) _ _ s;rw [tJ lo hi n];show wpAny _ _ (pure (((sIx n 0 lo:Nat):Int),(1:Int),Builtin.Slice.slicePlaces ((sIx n 0 lo:Nat):Int) ((sIx n n hi:Nat):Int) 1)) _ _ s;rw [tW];exact KI h
theorem ya (xs:Array Value) (i k:Nat):((List.range k).filterMap fun (m:Nat)=>xs[((i:Int)+(m:Int)*1).toNat]?).toArray=((xs.toList.drop i).take k).toArray:=by
 have e:(fun (m:Nat)=>xs[((i:Int)+(m:Int)*1).toNat]?)=fun m=>xs[i+m]?:=by
  funext m;have:((i:Int)+(m:Int)*1).toNat=i+m:=by omega
  rw [this]
 rw [e];have:=pick_run xs i k;rw [List.filterMap_map] at this;have e2:((fun x=>xs[x]?)∘fun x=>i+x)=fun m=>xs[i+m]?:=rfl;rw [e2] at this;rw [this]
theorem iK {t sl:Addr} {items:Array Value} {vl vu:Value} {lo hi:Option Int} {Q:Value->Shared->Prop} (ht:IsTup s.heap t items) (hs:s.heap.IsSliceOf sl vl vu .none) (pl:IsPart vl lo) (pu:IsPart vu hi)
  (hw:¬(sIx items.size 0 lo=0/\sIx items.size items.size hi=items.size))
  (h:Q (.ref s.heap.objs.size) { s with heap:=s.heap.push { cls:=.type "tuple", data:=.seq ((items.toList.drop (sIx items.size 0 lo)).take (sIx items.size items.size hi - sIx items.size 0 lo)).toArray } })
  (hsz:items.size<=sizeLine):wpAny (model prog w) A (getItem (.ref t) (.ref sl)) Q E s:=by
 have htake:sizeOk (.seq ((items.toList.drop (sIx items.size 0 lo)).take (sIx items.size items.size hi - sIx items.size 0 lo)).toArray):=by
  show ((items.toList.drop (sIx items.size 0 lo)).take (sIx items.size items.size hi - sIx items.size 0 lo)).toArray.size<=sizeLine;rw [Ko,K9,Lp,Array.length_toList];omega
 have hj:sIx items.size items.size hi<=items.size:=sG _ _ (Ke _) hi;obtain ⟨os,hos,hcs,hds⟩:=id hs;have hTs:s.TypeIs (.ref sl) "slice" := ⟨os,hos,hcs⟩;unfold getItem;try with_reducible refine wpAny_holding ?_
 first | refine Kv (KI ?_) | skip
 refine Kv (wpAny_sequenceKey ht.typeIs (by decide) ?_)
 refine Kv (LK (name:=Str.ofString "__getitem__") ht.typeIs PyProof.Rows.slot_tuple_getitem
  (wpAny_call_entry PyProof.Rows.slot_tuple_getitem ht.typeIs entry_tuple_getitem ?_ (args_tuple_getitem _ _)))
 show wpAny _ _ (Builtin.Tuple.tupleItemsOf (.ref t)>>=_) _ _ s;refine Kv (tupleItemsOf_ ht ?_);refine Kv (wpAny_typeOf hTs ?_);rw [Km (by decide)];refine Kv (jM hs pl pu ?_);have hno:¬((((sIx items.size 0 lo:Nat):Int)==0&&(1:Int)==1&&(sIx items.size items.size hi - sIx items.size 0 lo)==items.size)=true):=by
  intro q;rw [KC,KC] at q;have q1:((sIx items.size 0 lo:Nat):Int)=0:=eq_of_beq q.1.1;have q2:sIx items.size items.size hi - sIx items.size 0 lo=items.size:=eq_of_beq q.2;exact hw ⟨by omega,by omega⟩
 show wpAny _ _ (if (((sIx items.size 0 lo:Nat):Int)==0&&(1:Int)==1&&(sIx items.size items.size hi - sIx items.size 0 lo)==items.size)=true then _ else _) _ _ s;rw [Kr hno,ya];first
  | exact Kv (m:=Builtin.Tuple.tupleExact _) (LL (KI ⟨_,rfl,KI h⟩) htake)
  | exact Kv (m:=Builtin.Tuple.tupleExact _) (LL (Kv (KI (KI ⟨_,rfl,KI h⟩))) htake)
  | exact Kv (Kv (m:=Builtin.Tuple.tupleExact _) (LL (KI (KI ⟨_,rfl,KI h⟩)) htake))
  | exact Kv (Kv (m:=Builtin.Tuple.tupleExact _) (LL (KI ⟨_,rfl,KI h⟩) htake))
end
end HT
namespace L2
open PySem PySem.Spec PyProof.Rows
abbrev TO:=St->Hp->(Option Int->Hp->Prop)->Prop
def PO (X:Cx) (e:Option Expr) (t:TO):Prop :=
 ∀ (pins:List (Addr×Obj)) (s:Shared) (σ:St) (H:Hp) (Q:Option Int->Hp->Prop),Inv X pins σ H s->t σ H Q ->
  wpAny (model X.prog X.w) X.A (evalPart e X.env) (fun u s'=>∃ o H',Inv X pins σ H' s'/\IsPart u o/\Q o H') X.xe s
def xm:TO:=fun _ H Q=>Q none H
def yT (t:TE):TO:=fun σ H Q=>t σ H fun x H1=>∃ i,x=.int i/\Q (some i) H1
section
variable {X:Cx} {e:Expr} {te:TE} {lo hi:Option Expr} {tl th:TO} {pos p2:Pos}
theorem Bc:PO X none xm:=by
 intro pins s σ H Q I h;rw [evalPart_none];exact KI ⟨none,H,I,.none,h⟩
theorem Az (h:PE X e te):PO X (some e) (yT te):=by
 intro pins s σ H Q I hw;rw [evalPart_some];refine thn (h pins s σ H _ I hw) fun u s1 ⟨x,H1,I1,r1,q1⟩=>?_;obtain ⟨i,rfl,q⟩:=q1;obtain ⟨t,rfl⟩:=r1;exact ⟨some i,H1,I1,.int i t,q⟩
def SlR (X:Cx) (r:V->Option Int->Option Int->Hp->VK->Prop):Prop :=
 ∀ (pins:List (Addr×Obj)) (s:Shared) (σ:St) (H:Hp) (x:V) (v vl vu:Value) (lo hi:Option Int) (sl:Addr) (Q:VK),Inv X pins σ H s->RelV x v->s.heap.IsSliceOf sl vl vu .none->IsPart vl lo->IsPart vu hi->r x lo hi H Q ->
  ∃ T id,typeLookup (.type T) "__getitem__" = pure (some (.builtin id))/\s.TypeIs v T/\wpAny (model X.prog X.w) X.A (getItem v (.ref sl)) (EP X pins σ Q) X.xe s
theorem SlR.or {r r':V->Option Int->Option Int->Hp->VK->Prop} (h:SlR X r) (h':SlR X r'):SlR X (fun x lo hi H Q=>r x lo hi H Q\/r' x lo hi H Q):=by
 intro pins s σ H x v vl vu lo hi sl Q I rx hs pl pu q;rcases q with q | q
 ·exact h pins s σ H x v vl vu lo hi sl Q I rx hs pl pu q
 ·exact h' pins s σ H x v vl vu lo hi sl Q I rx hs pl pu q
def tSl (r:V->Option Int->Option Int->Hp->VK->Prop) (te:TE) (tl th:TO):TE:=fun σ H Q=>te σ H fun x H1=>tl σ H1 fun l H2=>th σ H2 fun u H3=>r x l u H3 Q
theorem xZ {r:V->Option Int->Option Int->Hp->VK->Prop} (hr:SlR X r) (he:PE X e te) (hl:PO X lo tl) (hu:PO X hi th):PE X (.Subscript e (.Slice lo hi none p2) pos) (tSl r te tl th):=by
 intro pins s σ H Q I h;refine Subscript_ (thn (he pins s σ H _ I h) fun v s1 ⟨x,H1,I1,r1,q1⟩=>?_);refine wpAny_Slice (thn (hl pins s1 σ H1 _ I1 q1) fun vl s2 ⟨l,H2,I2,pl,q2⟩=>thn (hu pins s2 σ H2 _ I2 q2) fun vu s3 ⟨u,H3,I3,pu,q3⟩=>?_);rw [evalPart_none];refine KI ?_;have I4:Inv X pins σ H3 { s3 with heap:=s3.heap.push { cls:=.type "slice", data:=.fields #[vl,vu,.none] } }:=I3.kept (t':=s3.toks) fun b ob q=>J7 _ q;obtain ⟨T,id,hT,ht,hg⟩:=hr pins { s3 with heap:=s3.heap.push { cls:=.type "slice", data:=.fields #[vl,vu,.none] } } σ H3 x v vl vu l u s3.heap.objs.size Q I4 r1 (Heap.IsSliceOf.new ..) pl pu q3;show wpAny (model X.prog X.w) X.A (subscriptTail e (.Slice lo hi none p2) v (.ref s3.heap.objs.size)) (EP X pins σ Q) X.xe { s3 with heap:=s3.heap.push { cls:=.type "slice", data:=.fields #[vl,vu,.none] } };exact tail_any (ops:=[.ref s3.heap.objs.size,v]) ht hT hg (by with_unfolding_all rfl)
noncomputable def xD (xs:List V) (lo hi:Option Int):List V:=(xs.drop (HT.sIx xs.length 0 lo)).take (HT.sIx xs.length xs.length hi - HT.sIx xs.length 0 lo)
theorem kQ (xs:List V) (lo hi:Option Int):(xD xs lo hi).length<=xs.length:=by
 unfold xD;rw [K9,Lp];omega
def Hy (K:Fg):V->Option Int->Option Int->Hp->VK->Prop:=fun x lo hi H Q=>∃ a xs,x=.ref a/\SqT K H a xs /\
 ¬(HT.sIx xs.length 0 lo=0/\HT.sIx xs.length xs.length hi=xs.length)/\∀ p,H p=none->Q (.ref p) (upd H p (.tup (xD xs lo hi)))
theorem hJ:SlR X (Hy X.K):=by
 intro pins s σ H x v vl vu lo hi sl Q I rx hs pl pu h;obtain ⟨a,xs,rfl,hx,hw,q⟩:=h;cases rx;obtain ⟨its,r,ht,hz⟩:=I.tuple hx;have hlen:its.toArray.size=xs.length:=by rw [Ko];exact r.length.symm
 refine ⟨"tuple", _,PyProof.Rows.slot_tuple_getitem.lookup,ht.typeIs,?_⟩;refine HT.iK ht hs pl pu (by rw [hlen];exact hw) ?_ (by rw [hlen];exact hz);rw [hlen];refine ⟨.ref s.heap.objs.size,_,I.laid (t':=s.toks) (o:=.tup (xD xs lo hi)) (fun b ob q=>J7 _ q) (Ke _) ?_,rfl,q _ (I.hok.fresh (Ke _))⟩;exact ⟨Ks (kQ xs lo hi) hz,_,(r.drop (HT.sIx xs.length 0 lo)).take (HT.sIx xs.length xs.length hi - HT.sIx xs.length 0 lo),IsTup.new _ _⟩
def Cb (K:Fg):R2:=fun x y H Q=>∃ a b xs ys,x=.ref a/\y=.ref b/\SqT K H a xs/\SqT K H b ys/\xs≠[]/\xs.length+ys.length<=sizeLine /\
 (ys=[]->Q (.ref a) H)/\(ys≠[]->∀ p,H p=none->Q (.ref p) (upd H p (.tup (xs++ys))))
theorem Vals.qC {xs:List V} {us:List Value} (r:Vals xs us):us=[]↔xs=[]:=by
 cases r with
 | nil=>simp
 | cons _ _=>simp
theorem AX:OpR X (binaryOp .Add) (Cb X.K):=by
 intro pins s σ H x y v u Q I rx ry h;obtain ⟨a,b,xs,ys,rfl,rfl,ha,hb,hx,hz,q1,q2⟩:=h;cases rx;cases ry;obtain ⟨its,r1,p1,_⟩:=I.tuple ha;obtain ⟨its2,r2,p2,_⟩:=I.tuple hb;refine HT.AY p1 p2 (fun z=>hx (r1.qC.mp z)) (fun z=>⟨.ref a,H,I,rfl,q1 (r2.qC.mp z)⟩) (fun z=>?_) (by rw [<- r1.length,<-r2.length];exact hz);refine ⟨.ref s.heap.objs.size,_,I.laid (t':=s.toks) (o:=.tup (xs++ys)) (fun b ob q=>J7 _ q) (Ke _) ?_,rfl,q2 (fun w=>z (r2.qC.mpr w)) _ (I.hok.fresh (Ke _))⟩;exact ⟨by rw [J6];exact hz,_,r1.append r2,IsTup.new _ _⟩
end
end L2
namespace L2
open PySem PySem.Spec PyProof.Rows
noncomputable def ixN (n:Nat) (i:Int):Option Nat:=if 0<=i then (if i < n then some i.toNat else none) else if -(n:Int)<=i then some (i+n).toNat else none
noncomputable def atI {α:Type} (xs:List α) (i:Int):Option α:=(ixN xs.length i).bind fun j=>xs[j]?
theorem uQ {n:Nat} {i:Int} {j:Nat} (h:ixN n i=some j):seqIndex? i n=some j/\j < n/\-(n:Int)<=i/\i < n:=by
 unfold ixN at h;by_cases h0:0<=i
 ·rw [Km h0] at h;by_cases h1:i < n
  ·rw [Km h1] at h;have e:i.toNat=j:=KN h;exact ⟨by rw [seqIndex_of h0 h1,e],by omega,by omega,h1⟩
  ·rw [Kr h1] at h;cases h
 ·rw [Kr h0] at h;by_cases h1:-(n:Int)<=i
  ·rw [Km h1] at h;have e:(i+n).toNat=j:=KN h;exact ⟨by rw [seqIndex_neg (by omega) h1,e],by omega,h1,by omega⟩
  ·rw [Kr h1] at h;cases h
theorem qO {α:Type} {xs:List α} {i:Int} {v:α} (h:atI xs i=some v):∃ j,seqIndex? i xs.length=some j/\xs[j]?=some v/\j < xs.length/\-(xs.length:Int)<=i/\i < xs.length:=by
 unfold atI at h;cases e:ixN xs.length i with
 | none=>rw [e] at h;cases h
 | some j =>
  rw [e] at h;obtain ⟨h1,h2,h3,h4⟩:=uQ e;exact ⟨j,h1,h,h2,h3,h4⟩
theorem nU {α:Type} {xs:List α} {j:Nat} {v:α} (h:xs[j]?=some v):atI xs (j:Int)=some v:=by
 have hj:j < xs.length:=(Ka.mp h).1;have e:ixN xs.length (j:Int)=some j:=by
  unfold ixN;rw [Km (by omega),Km (by omega)];simp
 unfold atI;rw [e];exact h
def qM (b:Expr):Prop:=∀ o i,subscripted b false o i=operate [o,i] (getItem o i)
def IxR (X:Cx) (r:R2):Prop :=
 ∀ (value slice:Expr) (pins:List (Addr×Obj)) (s:Shared) (σ:St) (H:Hp) (x y:V) (v u:Value) (Q:VK),Inv X pins σ H s->RelV x v->RelV y u->r x y H Q ->
  subscripted slice false v u=operate [v,u] (getItem v u)->wpAny (model X.prog X.w) X.A (subscriptTail value slice v u) (EP X pins σ Q) X.xe s
def MtR (X:Cx) (id:String) (r:V->List V->Hp->VK->Prop):Prop :=
 ∀ (pins:List (Addr×Obj)) (s:Shared) (σ:St) (H:Hp) (x:V) (xs:List V) (v:Value) (us:List Value) (Q:VK),Inv X pins σ H s->RelV x v->Vals xs us->r x xs H Q ->
  wpAny (model X.prog X.w) X.A (call (.builtin id) (v :: us)) (EP X pins σ Q) X.xe s
section
variable {X:Cx} {a b:Expr} {ta tb:TE} {pos:Pos}
theorem IxR.or {r r':R2} (h:IxR X r) (h':IxR X r'):IxR X (fun x y H Q=>r x y H Q\/r' x y H Q):=by
 intro value slice pins s σ H x y v u Q I rx ry q hs;rcases q with q | q
 ·exact h value slice pins s σ H x y v u Q I rx ry q hs
 ·exact h' value slice pins s σ H x y v u Q I rx ry q hs
theorem FQ {r:R2} (hr:IxR X r) (ha:PE X a ta) (hb:PE X b tb) (hs:qM b):PE X (.Subscript a b pos) (tOp r ta tb):=by
 intro pins s σ H Q I h;exact Subscript_ (FH ha hb I h fun v u s2 x y H2 I2 rx ry q=>hr a b pins s2 σ H2 x y v u Q I2 rx ry q (hs _ _))
def IX (K:Fg):R2:=fun x y H Q=>∃ p xs i v,x=.ref p/\y=.int i/\SqL K H p xs/\atI xs i=some v/\Q v H
def II (K:Fg):R2:=fun x y H Q=>∃ p xs i v,x=.ref p/\y=.int i/\SqT K H p xs/\atI xs i=some v/\Q v H
def IV:R2:=fun x y H Q=>∃ z i c,x=.str z/\y=.int i/\z.length<=sizeLine/\atI z.cps.toList i=some c/\Q (.str ⟨#[c]⟩) H
theorem Bx:IxR X (IX X.K):=by
 intro value slice pins s σ H x y v u Q I rx ry h hs;obtain ⟨p,xs,i,z,rfl,rfl,hq,he,q⟩:=h;cases rx;obtain ⟨t,rfl⟩:=ry;obtain ⟨its,r,pl,hz⟩:=I.list hq;obtain ⟨j,h1,h2,h3,h4,h5⟩:=qO he;obtain ⟨w,ew,rw'⟩:=r.get h2;have hl:=r.length;have hn:=mn;have fin:EP X pins σ Q w s:=⟨z,H,I,rw',q⟩;by_cases h0:0<=i
 ·have hj:i.toNat=j:=by
   rw [seqIndex_of h0 h5] at h1;exact KN h1
  exact item_listR pl.isList h0 (by omega) (by rw [hj];simpa using ew) fin hs
 ·have hj:(i+(its.toArray.size:Int)).toNat=j:=by
   rw [seqIndex_neg (by omega) h4] at h1;rw [Ko,<-hl];exact KN h1
  exact subscriptTail_builtinR (x:=w) pl.isList.typeIs slot_list_getitem.lookup
   (wpAny_getItem_list_neg (Q:=fun r s'=>r=w/\EP X pins σ Q r s') pl.isList (by omega) (by rw [Ko] <;> omega) (by omega) (by rw [hj];simpa using ew) ⟨rfl,fin⟩) hs
theorem Eo:IxR X (II X.K):=by
 intro value slice pins s σ H x y v u Q I rx ry h hs;obtain ⟨p,xs,i,z,rfl,rfl,hq,he,q⟩:=h;cases rx;obtain ⟨t,rfl⟩:=ry;obtain ⟨its,r,pl,hz⟩:=I.tuple hq;obtain ⟨j,h1,h2,h3,h4,h5⟩:=qO he;obtain ⟨w,ew,rw'⟩:=r.get h2;have hl:=r.length;have hn:=mn;have fin:EP X pins σ Q w s:=⟨z,H,I,rw',q⟩;exact subscriptTail_builtinR (x:=w) pl.typeIs slot_tuple_getitem.lookup
  (getItem_tuple (j:=j) (Q:=fun r s'=>r=w/\EP X pins σ Q r s') pl (by omega) (by omega) (by rw [Ko,<-hl];exact h1) (by simpa using ew) ⟨rfl,fin⟩) hs
theorem Ej:IxR X IV:=by
 intro value slice pins s σ H x y v u Q I rx ry h hs;obtain ⟨z,i,c,rfl,rfl,hz,he,q⟩:=h;obtain ⟨t,rfl⟩:=rx;obtain ⟨t',rfl⟩:=ry;obtain ⟨j,h1,h2,h3,h4,h5⟩:=qO he;have hl:z.cps.toList.length=z.length:=by simp [Str.length]
 rw [hl] at h1 h4 h5;have hn:=mn
 exact tail_any (LJ s z t) slot_str_getitem.lookup (getItem_str (c:=c) (by
  have e1:decide (i < -(2 ^ 63:Int))=false:=Kl (by omega);have e2:decide (i>=2 ^ 63)=false:=Kl (by omega)
  rw [e1,e2,Bool.or_false]) (by rw [h1];simpa using h2) ⟨.str ⟨#[c]⟩,H,I.tok _,⟨_,rfl⟩,q⟩) hs
def rIx (K:Fg):R2:=fun x y H Q=>IX K x y H Q\/II K x y H Q\/IV x y H Q
theorem Dj:IxR X (rIx X.K):=Bx.or (Eo.or Ej)
theorem t5 (its:List Value) (n j:Nat) (u:Value):Obj.mapSeq (·.setIfInBounds j u) { cls:=.type "list", data:=.seq its.toArray n }={ cls:=.type "list", data:=.seq (its.set j u).toArray n }:=by
 simp [Obj.mapSeq]
theorem Inv.lst {pins:List (Addr×Obj)} {σ:St} {H:Hp} {s:Shared} {p:Addr} {xs:List V} (I:Inv X pins σ H s) (h:H p=some (.lst xs)) :
  ∃ (its:List Value) (n:Nat),Vals xs its/\s.heap.get? p=some { cls:=.type "list", data:=.seq its.toArray n }/\xs.length<=sizeLine:=by
 obtain ⟨z,its,n,r,e⟩:=I.hok p _ h;exact ⟨its,n,r,e,z⟩
theorem Inv.DO {pins:List (Addr×Obj)} {σ:St} {H:Hp} {s:Shared} {p:Addr} {xs ys:List V} {its its':List Value} {n n':Nat} {f:Obj->Obj} (I:Inv X pins σ H s) (h:H p=some (.lst xs))
  (ho:s.heap.get? p=some { cls:=.type "list", data:=.seq its.toArray n }) (hf:f { cls:=.type "list", data:=.seq its.toArray n }={ cls:=.type "list", data:=.seq its'.toArray n' }) (r:Vals ys its') (hz:ys.length<=sizeLine) (t:Nat) :
  Inv X pins σ (upd H p (.lst ys)) { s with heap:=s.heap.update p f,toks:=t }:=by
 have e:(s.heap.update p f).get? p=some { cls:=.type "list", data:=.seq its'.toArray n' }:=by
  rw [Le f ho (by rw [hf] <;> rfl),hf]
 refine I.write (x:=p) (e:=p) (by rw [h];trivial) (.inl rfl) (fun b u hb q=>(Heap.get?_update_other _ _ (Ne.symm hb)).trans q) ⟨_,e⟩ ?_;exact ⟨hz,its',n',r,e⟩
def D9:V->V->V->Hp->(Hp->Prop)->Prop:=fun o i v H Q=>∃ p xs k j,o=.ref p/\i=.int k/\H p=some (.lst xs)/\ixN xs.length k=some j/\Q (upd H p (.lst (xs.set j v)))
theorem set_list:Hx X D9:=by
 intro pins s σ H o i v ov iv u Q I ro ri rv h;obtain ⟨p,xs,k,j,rfl,rfl,hp,hj,q⟩:=h;cases ro;obtain ⟨t,rfl⟩:=ri;obtain ⟨its,n,r,ho,hz⟩:=I.lst hp;obtain ⟨h1,h2,h3,h4⟩:=uQ hj;have hl:=r.length;have hn:=mn;have I':Inv X pins σ (upd H p (.lst (xs.set j v))) { s with heap:=s.heap.update p (Obj.mapSeq (·.setIfInBounds j u)) } :=
  I.DO hp ho (t5 its n j u) (r.set rv j) (by rw [KA];exact hz) s.toks
 by_cases h0:0<=k
 ·have hk:k.toNat=j:=by
   rw [seqIndex_of h0 h4] at h1;exact KN h1
  exact PySem.W.ki_setAt ho h0 (by omega) (by rw [Ko,<-hl];exact h4) (by rw [hk];exact ⟨_,I',q⟩)
 ·have hk:(k+(its.toArray.size:Int)).toNat=j:=by
   rw [seqIndex_neg (by omega) h3] at h1;rw [Ko,<-hl];exact KN h1
  exact PySem.W.ki_setBack ho (by omega) (by rw [Ko,<-hl];exact h3) (by omega) (by rw [hk];exact ⟨_,I',q⟩)
theorem oI (lo hi:Option Int) (n:Nat):(sliceBounds lo hi none n).1=((HT.sIx n 0 lo:Nat):Int)/\(sliceBounds lo hi none n).2.1=((HT.sIx n n hi:Nat):Int)/\(sliceBounds lo hi none n).2.2=1:=by
 refine ⟨?_,?_,rfl⟩
 ·cases lo with
  | none=>simp [sliceBounds,HT.sIx]
  | some i =>
   simp only [sliceBounds,HT.sIx,Option.getD_none,show (1:Int) > 0 by decide,LO];by_cases h:i < 0
   ·simp only [h,LO] <;> omega
   ·simp only [h,if_false] <;> omega
 ·cases hi with
  | none=>simp [sliceBounds,HT.sIx]
  | some i =>
   simp only [sliceBounds,HT.sIx,Option.getD_none,show (1:Int) > 0 by decide,LO];by_cases h:i < 0
   ·simp only [h,LO] <;> omega
   ·simp only [h,if_false] <;> omega
theorem n8 (its:List Value) (lo hi:Option Int):slicePick its.toArray lo hi none=((its.drop (HT.sIx its.length 0 lo)).take (HT.sIx its.length its.length hi - HT.sIx its.length 0 lo)).toArray:=by
 obtain ⟨h1,h2,h3⟩:=oI lo hi its.toArray.size;unfold slicePick;rw [h1,h2,h3];simp only [sliceRange_one,pick_run,Ko] <;> rfl
def Gk (K:Fg):V->Option Int->Option Int->Hp->VK->Prop:=fun x lo hi H Q=>∃ a xs,x=.ref a/\SqL K H a xs/\∀ p,H p=none->Q (.ref p) (upd H p (.lst (xD xs lo hi)))
theorem eg:SlR X (Gk X.K):=by
 intro pins s σ H x v vl vu lo hi sl Q I rx hs pl pu h;obtain ⟨a,xs,rfl,hx,q⟩:=h;cases rx;obtain ⟨its,r,ht,hz⟩:=I.list hx;have hlen:=r.length;refine ⟨"list", _,slot_list_getitem.lookup,ht.isList.typeIs,?_⟩;refine wpAny_getItem_list_slice ht.isList hs pl pu .none (by simp) ?_ (by rw [Ko] <;> omega);rw [n8,<-hlen];refine ⟨.ref s.heap.objs.size,_,I.laid (t':=s.toks) (o:=.lst (xD xs lo hi)) (fun b ob q=>J7 _ q) (Ke _) ?_,rfl,q _ (I.hok.fresh (Ke _))⟩;exact ⟨Ks (kQ xs lo hi) hz,_,0,(r.drop (HT.sIx xs.length 0 lo)).take (HT.sIx xs.length xs.length hi - HT.sIx xs.length 0 lo),Kx _ rfl⟩
theorem pX:OpR X (compareOp .NotIn) (fun x y H Q=>∃ i j,x=.str i/\y=.str j/\Q (.bl (!(!(Builtin.Str.occurrences j i 0 j.length 1).isEmpty))) H):=by
 intro pins s σ H x y v u Q I rx ry h;obtain ⟨i,j,rfl,rfl,q⟩:=h;obtain ⟨t,rfl⟩:=rx;obtain ⟨t',rfl⟩:=ry;exact notIn_str ⟨.bl _,H,I,rfl,q⟩
theorem pG:aZ X (.type "list") (fun xs H Q=>∃ p ys,xs=[.ref p]/\(SqL X.K H p ys\/SqT X.K H p ys)/\∀ l,H l=none->Q (.ref l) (upd H l (.lst ys))):=by
 intro pins s σ H xs us Q I r h;obtain ⟨p,ys,rfl,hq,q⟩:=h;obtain ⟨u,rfl,rx⟩:=vals1 r;cases rx;have fin:∀ (its:List Value),Vals ys its->ys.length<=sizeLine->∀ (h':Heap) (c':Nat),(∀ b o',s.heap.get? b=some o'->h'.get? b=some o') ->
   h'.get? s.heap.objs.size=some { cls:=.type "list", dict:=none,data:=.seq its.toArray c',slots:=#[] }->EP X pins σ Q (.ref s.heap.objs.size) { s with heap:=h' }:=fun its r' hz h' c' kp e =>
  ⟨.ref s.heap.objs.size,_,I.laid (t':=s.toks) kp (Ke _) (show fG X.prog X.w _ h' _ (.lst ys) from ⟨hz,its,c',r',e⟩),rfl,q _ (I.hok.fresh (Ke _))⟩
 rcases hq with hq | hq
 ·obtain ⟨its,r',pl,hz⟩:=I.list hq;have hlen:=r'.length;obtain ⟨o,ho,hc,n,hd⟩:=pl.isList;exact call_list_seq p (.inl rfl) ho hc hd (fun h' c' kp e=>fin its r' hz h' c' kp e) (by simp only [Ko] <;> omega)
 ·obtain ⟨its,r',pl,hz⟩:=I.tuple hq;have hlen:=r'.length;obtain ⟨o,ho,hc,n,hd⟩:=pl;exact call_list_seq p (.inr rfl) ho hc hd (fun h' c' kp e=>fin its r' hz h' c' kp e) (by simp only [Ko] <;> omega)
theorem ni:aZ X (.type "tuple") (fun xs H Q=>∃ p ys,xs=[.ref p]/\((SqL X.K H p ys/\∀ l,H l=none->Q (.ref l) (upd H l (.tup ys)))\/(SqT X.K H p ys/\Q (.ref p) H))):=by
 intro pins s σ H xs us Q I r h;obtain ⟨p,ys,rfl,h⟩:=h;obtain ⟨u,rfl,rx⟩:=vals1 r;cases rx;rcases h with ⟨hq,q⟩ | ⟨hq,q⟩
 ·obtain ⟨its,r',pl,hz⟩:=I.list hq;have hlen:=r'.length;refine call_tuple_list pl.isList (fun h' kp=>?_) (by simp only [Ko] <;> omega);have I1:Inv X pins σ H { s with heap:=h' }:=I.kept (t':=s.toks) kp;have I2:Inv X pins σ (upd H h'.objs.size (.tup ys)) { s with heap:=h'.push { cls:=.type "tuple", data:=.seq its.toArray } } :=
   I1.laid (t':=s.toks) (fun b o e=>J7 _ e) (Ke _) (show fG X.prog X.w _ _ _ (.tup ys) from ⟨hz,its,r',IsTup.new _ _⟩)
  exact ⟨.ref h'.objs.size,_,I2,rfl,q _ (I1.hok.fresh (Ke _))⟩
 ·obtain ⟨its,r',pl,hz⟩:=I.tuple hq;exact call_tuple_same pl ⟨.ref p,H,I,rfl,q⟩
def tyV (K:Fg) (T:String) (x:V) (H:Hp):Prop:=match x with
 | .str _=>T = "str"
 | .int _=>T = "int"
 | .ref p=>(T = "list" /\ ∃ xs,SqL K H p xs)\/(T = "tuple" /\ ∃ o,K.lookup p=some o/\o.cls=.type "tuple" /\ o.dict=none) \/
   (T = "dict" /\ ((∃ kvs,H p=some (.dK kvs))\/(∃ kvs,H p=some (.dT kvs))\/∃ ep xs,H p=some (.dD ep xs)))\/(T = "set" /\ ∃ S n,H p=some (.set S n))
 | _=>False
theorem Eh {pins:List (Addr×Obj)} {σ:St} {H:Hp} {s:Shared} {T:String} {x:V} {v:Value} (I:Inv X pins σ H s) (r:RelV x v) (ty:tyV X.K T x H) :
  s.TypeIs v T/\∀ a,v=.ref a->∃ ob,s.heap.get? a=some ob/\ob.dict=none:=by
 cases x with
 | str z =>
  obtain ⟨t,rfl⟩:=r;cases (show T = "str" from ty);exact ⟨LJ s z t,fun _ e=>nomatch e⟩
 | int i =>
  obtain ⟨t,rfl⟩:=r;cases (show T = "int" from ty);exact ⟨typeIs_int s i t,fun _ e=>nomatch e⟩
 | ref p =>
  cases r;rcases ty with ⟨rfl,xs,hq⟩ | ⟨rfl,o,hk,hc,hd⟩ | ⟨rfl,hk⟩ | ⟨rfl,S,n,hk⟩
  ·obtain ⟨its,_,pl,_⟩:=I.list hq;refine ⟨pl.isList.typeIs,fun a e=>?_⟩;cases e;obtain ⟨o,n,e,c,hd,_⟩:=pl;exact ⟨o,e,hd⟩
  ·refine ⟨⟨o,I.kIn p o hk,hc⟩,fun a e=>?_⟩;cases e;exact ⟨o,I.kIn _ o hk,hd⟩
  ·have z:∃ o,s.heap.get? p=some o/\o.ExactDict:=by
    rcases hk with ⟨kvs,hk⟩ | ⟨kvs,hk⟩ | ⟨ep,xs,hk⟩
    ·obtain ⟨_,_,_,_,o,_,_,e,ex,_⟩:=I.hok p _ hk;exact ⟨o,e,ex⟩
    ·obtain ⟨_,_,_,_,o,_,_,e,ex,_⟩:=I.hok p _ hk;exact ⟨o,e,ex⟩
    ·obtain ⟨_,_,_,o,_,e,ex,_⟩:=I.hok p _ hk;exact ⟨o,e,ex⟩
   obtain ⟨o,e,ex⟩:=z;refine ⟨⟨o,e,ex.1⟩,fun a e2=>?_⟩;cases e2;exact ⟨o,e,ex.2.1⟩
  ·obtain ⟨o,_,_,_,e,ex,_⟩:=I.hok p _ hk;refine ⟨⟨o,e,ex.1⟩,fun a e2=>?_⟩;cases e2;exact ⟨o,e,ex.2.1⟩
 | _=>exact False.elim ty
def tBM (K:Fg) (T:String) (r:V->List V->Hp->VK->Prop) (to:TE) (t:TA):TE:=fun σ H Q=>to σ H fun x H1=>tyV K T x H1/\t σ H1 fun xs H2=>r x xs H2 Q
variable {o e:Expr} {es:List Expr} {to:TE} {t:TA} {name:Str} {apos cpos:Pos} {T id:String} {r:V->List V->Hp->VK->Prop}
theorem Hl (pa:PlainAttrs T) (slot:Slot T name id) (hty:typeOf (.builtin id)=pure (.type "method_descriptor")) (hm:MtR X id r) (ho:PE X o to) (ha:PA X (e :: es) t)
  (hbase:attributeBase o name X.env (eval o X.env)=eval o X.env:=by rfl)
  (hfew:((backTo cpos (starEach (e :: es) X.env)).all (fun x=>!x.1)&&(backToKw cpos (keywordEach [] X.env)).all (fun x=>x.1.isSome)
   && decide ((e :: es).length+([]:List Keyword).length+(if ([]:List Keyword).isEmpty then 0 else 1) < 30))=true:=by rfl)
  (hline:(apos.endLine==cpos.line)=true:=by rfl) (hs:starEach (e :: es) X.env=(false,eval e X.env) :: starEach es X.env:=by rfl) (hplain:(backTo cpos (starEach es X.env)).any (·.1)=false:=by rfl) :
  PE X (.Call (.Attribute o name apos) (e :: es) [] cpos) (tBM X.K T r to t):=by
 intro pins s σ H Q I h;refine wpAny_Call_method_late hbase hfew hline rfl (thn (ho pins s σ H _ I h) fun v s1 ⟨x,H1,I1,r1,ty,q1⟩=>?_);obtain ⟨h1,h2⟩:=Eh I1 r1 ty;refine ⟨T,id,pa,slot,hty,h1,h2,?_⟩;have hA:=ha cpos pins s1 σ H1 _ I1 q1;rw [hs] at hA ⊢;refine Calls.callWith_builtin (by show (false||(backTo cpos (starEach es X.env)).any (·.1))=false;rw [hplain] <;> rfl) (Calls.evalArgs_plain ?_);exact thn hA fun us s2 ⟨vs,H2,I2,r2,q2⟩=>hm pins s2 σ H2 x vs v us Q I2 r1 r2 q2
end
end L2
namespace L2
open PySem PySem.Spec PyProof.Rows
def MtM (X:Cx) (id:String) (r:V->List V->Hp->VK->Prop):Prop :=
 ∀ (pins:List (Addr×Obj)) (s:Shared) (σ:St) (H:Hp) (x:V) (xs:List V) (v:Value) (us:List Value) (Q:VK),Inv X pins σ H s->RelV x v->Vals xs us->r x xs H Q ->
  wpAny (model X.prog X.w) X.A (call (.builtin id) (v :: us)) (EP X pins σ Q) X.xe s
theorem Vals.one:∀ {x:V} {us:List Value},Vals [x] us->∃ u,us=[u]/\RelV x u
 | _,_,.cons r .nil=>⟨_,rfl,r⟩
theorem Vals.dropLast {xs:List V} {us:List Value} (h:Vals xs us):Vals xs.dropLast us.dropLast:=by
 induction h with
 | nil=>exact .nil
 | cons r t ih =>
  cases t with
  | nil=>exact .nil
  | cons q t'=>exact .cons r ih
section
variable {X:Cx} {pins:List (Addr×Obj)} {σ:St} {H:Hp} {s:Shared} {l b:Addr} {xs ys zs:List V}
theorem Inv.JZ {its its':List Value} {n:Nat} {f:Array Value->Array Value} {t':Nat} (I:Inv X pins σ H s) (hH:H l=some (.lst xs))
  (e:s.heap.get? l=some { cls:=.type "list", data:=.seq its.toArray n }) (hf:f its.toArray=its'.toArray) (hv:Vals ys its') (hz:ys.length<=sizeLine) :
  Inv X pins σ (upd H l (.lst ys)) { s with heap:=s.heap.update l (Obj.mapSeq f),toks:=t' }:=by
 have q:=PySem.IsL.update e f;rw [hf] at q;refine I.write (x:=l) (e:=l) (by rw [hH];exact trivial) (.inl rfl) (fun b' u hb hu=>(Heap.get?_update_other s.heap (Obj.mapSeq f) (Ne.symm hb)).trans hu) ⟨_,q⟩ ?_;exact ⟨hz,its',_,hv,q⟩
theorem Inv.Jd {its:List Value} {t':Nat} (I:Inv X pins σ H s) (hv:Vals ys its) (hz:ys.length<=sizeLine) :
  Inv X pins σ (upd H s.heap.objs.size (.lst ys)) { s with heap:=s.heap.push { cls:=.type "list", data:=.seq its.toArray },toks:=t' } :=
 I.laid (fun _ _ q=>J7 _ q) (Ke _) ⟨hz,its,0,hv,Kx _ rfl⟩
theorem Inv.fresh (I:Inv X pins σ H s):H s.heap.objs.size=none:=I.hok.fresh (Ke _)
theorem Inv.JN (I:Inv X pins σ H s) (hH:H l=some (.lst xs)):xs.length<=sizeLine/\∃ (its:List Value) (n:Nat),Vals xs its/\xs.length=its.length/\s.heap.get? l=some { cls:=.type "list", data:=.seq its.toArray n }:=by
 obtain ⟨z,its,n,r,e⟩:=I.hok l _ hH;exact ⟨z,its,n,r,r.length,e⟩
end
section
variable {X:Cx}
def vI:V->List V->Hp->VK->Prop:=fun x vs H Q=>∃ l xs y,x=.ref l/\vs=[y]/\H l=some (.lst xs)/\xs.length < sizeLine/\Q .non (upd H l (.lst (xs++[y])))
theorem bG:MtM X "list.append" vI:=by
 intro pins s σ H x vs v us Q I rx rv h;obtain ⟨l,xs,y,rfl,rfl,hH,hz,q⟩:=h;cases rx;obtain ⟨u,rfl,ru⟩:=rv.one;obtain ⟨z,its,n,r,hl,e⟩:=I.JN hH;refine Lz F.slot_list_append ⟨_,e,rfl⟩ F.entry_list_append (F.args_list_append_2 _ _) (PySem.list_append l its.toArray n u (by rw [Ko];omega)) ⟨e,?_⟩;refine ⟨.non,_,I.JZ (its':=its++[u]) hH e (by simp) (r.append (.cons ru .nil)) ?_,rfl,q⟩;rw [J6,L8];omega
end
end L2
namespace L2
open PySem PySem.Spec PyProof.Rows
def zB:List (TE×TE)->St->Hp->(List (V×V)->Hp->Prop)->Prop
 | [],_,H,Q=>Q [] H
 | (tk,tv) :: r,σ,H,Q=>tk σ H fun x H1=>tv σ H1 fun y H2=>zB r σ H2 fun ps H3=>Q ((x,y) :: ps) H3
end L2
namespace Att
open PySem PySem.W PySem.Calls PyProof.Rows
theorem kS {P:Params} {h:Heap}:∀ (ns:List Int) (vs:List Value),WellAll P h vs (ns.map WData.int)->IntsAre vs ns:=by
 intro ns;induction ns with
 | nil =>
  intro vs w;rw [List.map_nil] at w;cases w;exact .nil
 | cons n ns ih =>
  intro vs w;rw [List.map_cons] at w;cases w with
  | cons a b =>
   cases a;exact .cons _ _ (ih _ b)
theorem uZ {l:OpenLaw} {n:Nat} (hn:l.most=some n) {P:Params} {h:Heap} {args:List WData} {vals:List Value}
  (hpre:l.row.toRowW.claim.pre args=true) (hwl:WellAll P h vals args) :
  ∃ a vs ns,vals=[Value.ref a]/\args=[WData.list (ns.map WData.int)]/\h.get? a=some { cls:=.type "list", data:=.seq vs.toArray }/\IntsAre vs ns/\ns.length<=n:=by
 have hsh:WShape.hasAll [] args [.list .int]=true:=(pre_splitW hpre).1;have hc:l.pre.holds [] { args:=args }=true:=(pre_splitW hpre).2;obtain ⟨d,r,rfl,h1,h2⟩:=hasAllW_cons hsh;obtain rfl:=hasAllW_nil h2;obtain ⟨xs,rfl,h3⟩:=hasW_list h1;obtain ⟨ns,rfl⟩:=items_int h3;have hlen:ns.length<=n:=by
  unfold OpenLaw.pre at hc;have h4:(WTm.not (.lt (.lit (.int (n:Int))) (.len (.arg 0)))).holds [] { args:=[.list (ns.map .int)] }=true:=by
   have h4:=(holds_andW hc).1;rw [hn] at h4;exact h4
  have h5:=condW_of h4 (w_not (w_lt w_lit (w_len_list (w_arg rfl))));rw [J5] at h5;refine Nat.le_of_not_lt fun q=>?_;have q':(n:Int) < ((ns.length:Nat):Int):=by omega
  first
   | (rw [Kj q'] at h5;exact absurd h5 (by decide))
   | (simp at h5;omega)
 cases hwl with
 | cons w1 w2 =>
  cases w2;cases w1 with
  | list ho hall=>exact ⟨_,_,ns,rfl,rfl,ho,kS ns _ hall,hlen⟩
theorem xn (l:OpenLaw) (args:List WData):l.row.toRowW.claim.post args (.bool true) args=true :=
 postW_of (r:=l.row.toRowW) (X:=(true==true))
  (show WShape.has [] (.bool true) .bool=true by first | rfl | decide | simp [WShape.has,WShape.arms,WShape.armsAll])
  (show (WTm.eq .res (.lit (.bool true))).value [] { args:=args,res:=some (.bool true),after:=args }=some (.bool (true==true)) from w_eq_bool (w_res rfl) w_lit) rfl
theorem qf {l:OpenLaw} {n:Nat} {q:Program} {loose:List Str} {XP:(Str->Option Value)->Heap->Prop} {YP:World->Heap->Prop} {d:DefRec}
  (hn:l.most=some n) (hdf:d.params.defaults=[])
  (call:∀ (w:World) (s₀ s₁:Shared) (mg mb:Str->Option Value) (fa:Addr) (o:Obj) (pm cd doc:Value) (a:Addr) (vs:List Value) (ns:List Int),
   Ground q loose [] XP w s₀ mg mb s₁.heap->YP w s₁.heap ->
   s₁.heap.get? fa=some o->o.data=.func (docDef d.name d.params d.body d.scope pm cd doc)->s₁.heap.CodeRec cd d.name->mg d.name=some (.ref fa) ->
   s₁.heap.get? a=some { cls:=.type "list", data:=.seq vs.toArray }->IntsAre vs ns->ns.length<=n->s₁.gens=#[] ->
   codeAny (model l.prog w) callerA (.call (.ref fa) ⟨[.ref a],[]⟩) (fun r s'=>r=.ok (.ret (.bool true))/\OldK s₁.heap s'.heap/\s'.os=s₁.os/\AllBare s'.gens) s₁) :
  WalkO q loose XP YP l.row.toRowW d [] (fun f vs=>PySem.call f vs):=by
 intro w s₀ s₁ mg mb G Y fa o pm cd doc dV kV ho hd hcd hD hmg hg args vals as hpre hlay hrd hwl hlo;obtain rfl:dV=.none:=Dflts.none hD hdf;obtain rfl:kV=.none:=Dflts.noKw hD;obtain ⟨a,vs,ns,rfl,rfl,hobj,hints,hlen⟩:=uZ hn hpre hwl;refine enter_call (codeAny_mono (call w s₀ s₁ mg mb fa o pm cd doc a vs ns G Y ho (fd_plain hd) hcd hmg hobj hints hlen hg) fun r s' hq=>?_);obtain ⟨rfl,h2,h3,h4⟩:=hq;exact ⟨.inl ⟨.bool true,.bool true,[],rfl,fun _=>rfl,.bool true,xn l _,fun _=>⟨List.Pairwise.nil,fun _ hm=>(nomatch hm)⟩⟩,h2,h3,h4⟩
end Att
namespace L2
open PySem PySem.Spec PyProof.Rows
theorem o5:∀ {vs:List Value} {ns:List Int},IntsAre vs ns->Vals (ns.map V.int) vs
 | _,_,.nil=>.nil
 | _,_,.cons n t h=>.cons ⟨t,rfl⟩ (o5 h)
def E3 (H:Hp):Prop:=∀ b,H b=none\/∃ o xs,H b=some (.frz o (.lst xs))
theorem yB {P:Program} {w:World} {K:Fg} {mg mb:Str->Option Value} {CX:CXT} {k:Nat} {fa a:Addr} {fd:FuncData} {x:Str} {sp:Sp} {s₁:Shared} {vs:List Value} {ns:List Int}
  (KX:K.In s₁.heap) (hns:s₁.heap.Ns mainGlobals mg) (hb:s₁.heap.Ns builtinsNs mb) (hbb:∀ x:Str,x ≠ "__name__" -> mb x=bootBuiltins x) (hlim:s₁.heap.NoLimit) (hg:s₁.gens=#[])
  (ha:s₁.heap.get? a=some { cls:=.type "list", data:=.seq vs.toArray }) (hi:IntsAre vs ns) (hl:ns.length<=sizeLine) (hr:eX k callerA)
  (F:∀ base:Heap,K.In base->base.Ns mainGlobals mg->aQ P w K mg base CX k fa fd [x] sp) (hbind:∀ (s:Shared) (u:Value),BindsTo s fd ⟨[u],[]⟩ [(x,u)])
  (hsp:∀ H:Hp,E3 H->SqL K H a (ns.map V.int)->sp [.ref a] H (fun v _=>v=.bl true) fun _ _ _=>False)
  (hCX:∀ H e s',CX [] H s₁ (fun _ _ _=>False) e s'->False) :
  codeAny (model P w) callerA (.call (.ref fa) ⟨[.ref a],[]⟩) (fun r s'=>r=.ok (.ret (.bool true))/\OldK s₁.heap s'.heap/\s'.os=s₁.os/\AllBare s'.gens) s₁:=by
 have rv:=o5 hi;have lenV:=hi.length;have core:∀ H:Hp,E3 H->SqL K H a (ns.map V.int)->HOk P w H s₁.heap->(∀ b,H b≠none->b=a)->(H a≠none->K.lookup a=none) ->
   codeAny (model P w) callerA (.call (.ref fa) ⟨[.ref a],[]⟩) (fun r s'=>r=.ok (.ret (.bool true))/\OldK s₁.heap s'.heap/\s'.os=s₁.os/\AllBare s'.gens) s₁:=by
  intro H hO hS hok hA hK;have base_of:∀ {b:Addr} {o:Obj},s₁.heap.get? b=some o->H b=none->(xP s₁.heap H).get? b=some o:=fun e n=>y4 e n;have noA:∀ {b:Addr} {o:Obj} {es:Array DictEntry} {ep:Nat},s₁.heap.get? b=some o->o.data=.dict es ep->H b=none:=fun {b o es ep} e d=>by
   cases q:H b with
   | none=>rfl
   | some u =>
    have e':b=a:=hA b (by rw [q];simp);subst e';rw [ha] at e;cases e;have d':Data.seq vs.toArray _=Data.dict es ep:=d;cases d'
  have nsK:∀ {b:Addr} {m:Str->Option Value},s₁.heap.Ns b m->(xP s₁.heap H).Ns b m:=fun {b m} ⟨o,es,ep,e,d,r⟩=>⟨o,es,ep,base_of e (noA e d),d,r⟩
  have hKb:K.In (xP s₁.heap H):=fun b o e=>base_of (KX b o e) (by
   cases q:H b with
   | none=>rfl
   | some u =>
    have e':b=a:=hA b (by rw [q];simp);subst e'
    rw [hK (by rw [q];simp)] at e;cases e)
  have hM:Mod K mg (xP s₁.heap H):=⟨hKb,nsK hns,⟨mb,nsK hb,hbb⟩,let ⟨mc,h1,h2⟩:=hlim;⟨mc,nsK h1,h2⟩⟩;have e0:An P w K mg (xP s₁.heap H) callerA [] s₁ H:=⟨rfl,hM,fun b o e=>Bh e,Nat.le_of_eq (xb _ _),trivial,fun b hb=>absurd (show b∈([]:List Addr) from hb) (by simp),hok,.of_eq hg⟩;refine codeAny_mono ((F _ hKb (nsK hns)).run callerA [] s₁ H ⟨[.ref a],[]⟩ [.ref a] [.ref a] _ _ hr e0 (hbind s₁ (.ref a)) (.cons rfl .nil) (hsp H hO hS)) fun r s' h=>?_;cases r with
  | error e=>exact (hCX H e s' h).elim
  | ok fl =>
   cases fl with
   | next=>exact False.elim h
   | brk=>exact False.elim h
   | cont=>exact False.elim h
   | ret u =>
    obtain ⟨v,H',os,bare,un,hok',r',q⟩:=h;have q':v=.bl true:=q;subst q';obtain rfl:u=Value.bool true:=r';refine ⟨rfl,OldK.of_keep fun b o e=>?_,os,bare⟩;cases q:H b with
    | none=>exact un.keep b o e q (by intro z;exact absurd (show b∈([]:List Addr) from z) (by simp)) (by simp)
    | some u =>
     rcases hO b with z | ⟨ob,xs,z⟩
     ·rw [q] at z;cases z
     ·have z2:=un.tV b ob _ z;obtain ⟨e1,_⟩:=hok b _ z;obtain ⟨e2,_⟩:=hok' b _ z2;rw [e] at e1;cases e1;exact e2
 cases hk:K.lookup a with
 | some o =>
  have e:=KX a o hk;rw [ha] at e;cases e;refine core (fun _=>none) (fun _=>.inl rfl) (.inr ⟨_,vs.toArray,_,hk,rfl,rfl,rfl,by rw [Ko,lenV];exact hl,by simpa using rv⟩) (fun b u z=>by have z':(none:Option HO)=some u:=z;cases z') (fun b z=>absurd rfl z) fun z=>absurd rfl z
 | none =>
  refine core (fun b=>if b=a then some (.frz { cls:=.type "list", data:=.seq vs.toArray } (.lst (ns.map V.int))) else none) (fun b=>?_) (.inl (.inr ⟨{ cls:=.type "list", data:=.seq vs.toArray },Km rfl⟩)) (fun b u z=>?_) (fun b z=>?_) fun _=>hk
  ·by_cases hb:b=a
   ·exact .inr ⟨_,_,Km hb⟩
   ·exact .inl (Kr hb)
  ·by_cases hb:b=a
   ·have z':=(Km hb).symm.trans z;cases z';subst hb;exact ⟨ha,by rw [J5];exact hl,vs,_,rv,ha⟩
   ·have z':=(Kr hb).symm.trans z;cases z'
  ·by_cases hb:b=a
   ·exact hb
   ·exact absurd (Kr hb) z
end L2
namespace L2
open PySem PySem.Spec PyProof.Rows
abbrev KOf {K:Fg} {h:Heap} (_:K.In h):Fg:=K
theorem Bu {l:PySem.W.OpenLaw} {n k:Nat} {q:Program} {loose:List Str} {XP:(Str->Option Value)->Heap->Prop} {YP:World->Heap->Prop} {d:DefRec} {K:Params->Fg} {CX:World->CXT} {sp:World->Sp} {x:Str}
  (hn:l.most=some n) (hn2:n<=sizeLine) (hdf:d.params.defaults=[]) (hr:eX k callerA)
  (hY:∀ (w:World) (h:Heap),YP w h->(K w.params).In h)
  (F:∀ (w:World) (mg:Str->Option Value) (fa:Addr) (h:Heap),(K w.params).In h->h.Ns mainGlobals mg->mg d.name=some (.ref fa) ->
   ∃ fd:FuncData,(∀ (s:Shared) (u:Value),BindsTo s fd ⟨[u],[]⟩ [(x,u)]) /\
    ∀ base:Heap,(K w.params).In base->base.Ns mainGlobals mg->aQ l.prog w (K w.params) mg base (CX w) k fa fd [x] (sp w))
  (hsp:∀ (w:World) (H:Hp) (a:Addr) (ns:List Int),ns.length<=n->E3 H->SqL (K w.params) H a (ns.map V.int)->sp w [.ref a] H (fun v _=>v=.bl true) fun _ _ _=>False)
  (hCX:∀ (w:World) (H:Hp) (s:Shared) (e:Value) (s':Shared),CX w [] H s (fun _ _ _=>False) e s'->False) :
  PySem.W.WalkO q loose XP YP l.row.toRowW d [] (fun f vs=>PySem.call f vs):=by
 refine Att.qf hn hdf fun w s₀ s₁ mg mb fa o pm cd doc a vs ns G Y ho hd hcd hmg hobj hints hlen hg=>?_;have KX:=hY w _ Y;obtain ⟨fd,hb,hF⟩:=F w mg fa _ KX G.T.g hmg;exact yB KX G.T.g G.T.b G.T.builtins G.T.nolimit hg hobj hints (Ks hlen hn2) hr hF hb (fun H hO hS=>hsp w H a ns hlen hO hS) fun H e s'=>hCX w H s₁ e s'
theorem zi {l:PySem.W.OpenLaw} {n k:Nat} {q:Program} {loose:List Str} {XP:(Str->Option Value)->Heap->Prop} {YP:World->Heap->Prop} {d:DefRec} {K:Params->Fg} {CX:CXT} {sp:Fg->Sp} {x:Str}
  (hn:l.most=some n) (hn2:n<=sizeLine) (hdf:d.params.defaults=[]) (hr:eX k callerA)
  (hY:∀ (w:World) (h:Heap),YP w h->(K w.params).In h)
  (F:∀ (w:World) (mg:Str->Option Value) (fa:Addr) (h:Heap),(K w.params).In h->h.Ns mainGlobals mg->mg d.name=some (.ref fa) ->
   ∃ fd:FuncData,(∀ (s:Shared) (u:Value),BindsTo s fd ⟨[u],[]⟩ [(x,u)]) /\
    ∀ base:Heap,(K w.params).In base->base.Ns mainGlobals mg->aQ l.prog w (K w.params) mg base CX k fa fd [x] (sp (K w.params)))
  (hsp:∀ (K:Fg) (H:Hp) (a:Addr) (ns:List Int),ns.length<=n->E3 H->SqL K H a (ns.map V.int)->sp K [.ref a] H (fun v _=>v=.bl true) fun _ _ _=>False)
  (hCX:∀ (H:Hp) (s:Shared) (e:Value) (s':Shared),CX [] H s (fun _ _ _=>False) e s'->False) :
  PySem.W.WalkO q loose XP YP l.row.toRowW d [] (fun f vs=>PySem.call f vs) :=
 Bu (K:=K) (CX:=fun _=>CX) (sp:=fun w=>sp (K w.params)) hn hn2 hdf hr hY F (fun w H a ns h1 h2 h3=>hsp (K w.params) H a ns h1 h2 h3) fun _ H s e s'=>hCX H s e s'
end L2
namespace L2
open PySem PySem.Spec PyProof.Rows
noncomputable def bC (s:Stmt):Arguments:=match s with
 | .FunctionDef _ a _ _ _ _ _ _ _ _=>a
 | _=>{ posonlyargs:=[],args:=[],vararg:=none,kwonlyargs:=[],kw_defaults:=[],kwarg:=none,defaults:=[] }
noncomputable def aV (s:Stmt):List Stmt:=match s with
 | .FunctionDef _ _ b _ _ _ _ _ _ _=>b
 | _=>[]
noncomputable def aa (s:Stmt):Scope:=match s with
 | .FunctionDef _ _ _ _ _ _ sc _ _ _=>sc
 | _=>{ kind:=.function,names:=[],isGenerator:=false,isCoroutine:=false }
abbrev CX0:CXT:=fun _ _ _ _ _ _=>False
abbrev E0:XK:=fun _ _ _=>False
theorem vD {X:Cx}:Passes CX0 X E0:=fun _ _ _ _ _ _ _ h=>h.elim
structure Fun (K:Fg) (x qual:Str) (st:Stmt) (f:Addr) (fd:FuncData):Prop where
 ex:∃ (oc:Value) (od:Option Addr) (kV doc pm:Value) (an:Option Addr) (cdv ct:Value) (osl:Array (Option Value)),
  fd=PySem.W.fnOf x qual (bC st) (aV st) (aa st) .none kV doc pm an cdv ct/\K.lookup f=some ⟨oc,od,.func fd,osl⟩/\PySem.W.codeIn K cdv qual=true
 kp:PySem.W.keepIn K (.ref f)=true
section
variable {P:Program} {w:World} {K:Fg} {mg:Str->Option Value} {base:Heap}
theorem Fun.ok {x qual:Str} {st:Stmt} {f:Addr} {fd:FuncData} {N ps:List Str} {k:Nat} {sp:Sp} (F:Fun K x qual st f fd) (S:ai N ps (aa st)) (len:∀ vs H Q E,sp vs H Q E->vs.length=ps.length)
  (hbody:∀ (cdv:Value) (A:Around) (outer:List Env) (s:Shared) (H:Hp) (vs:List V) (Q:VK) (E:XK),eX k (A.deeper (envOfC qual (aa st) s.heap.objs.size f cdv))->sp vs H Q E ->
   ∃ t,PSs (yM CX0 P w K mg base N qual (aa st) f cdv A outer s H E).nox (aV st) t/\t { nx:=fun _ H'=>Q .non H',rt:=Q } (start N vs) H):aQ P w K mg base CX0 (k+1) f fd ps sp:=by
 obtain ⟨oc,od,kV,doc,pm,an,cdv,ct,osl,rfl,lk,hcd⟩:=F.ex;refine HY lk hcd S len fun A outer s H vs Q E hr hsp=>?_;obtain ⟨t,h,q⟩:=hbody cdv A outer s H vs Q E hr hsp;exact ⟨t,h.nox,q⟩
theorem Fun.binds {x qual:Str} {st:Stmt} {f:Addr} {fd:FuncData} {ps:List Str} (F:Fun K x qual st f fd)
  (h:∀ (kV doc pm:Value) (an:Option Addr) (cdv ct:Value) (us:List Value),us.length=ps.length->bindArgs (PySem.W.fnOf x qual (bC st) (aV st) (aa st) .none kV doc pm an cdv ct) ⟨us,[]⟩=pure (ps.zip us)):Binds K fd ps []:=by
 obtain ⟨oc,od,kV,doc,pm,an,cdv,ct,osl,rfl,lk,hcd⟩:=F.ex;exact .all (h kV doc pm an cdv ct)
theorem fI {x qual:Str} {st:Stmt} {f:Addr} {oc:Value} {od an:Option Addr} {osl:Array (Option Value)} {kV doc pm cdv ct:Value} (l:K.lookup f=some ⟨oc,od,.func (PySem.W.fnOf x qual (bC st) (aV st) (aa st) .none kV doc pm an cdv ct),osl⟩)
  (c:PySem.W.codeIn K cdv qual=true) (k:PySem.W.keepIn K (.ref f)=true):Fun K x qual st f (PySem.W.fnOf x qual (bC st) (aV st) (aa st) .none kV doc pm an cdv ct):=⟨⟨oc,od,kV,doc,pm,an,cdv,ct,osl,rfl,l,c⟩,k⟩
end
def bj (H H':Hp):Prop:=∀ b o,H b=some o->H' b=some o
noncomputable def oo (env:Env):List (Str×NameKind)->List (Str×Addr)->List (Str×Addr)
 | [],cs=>cs
 | (n,k) :: r,cs=>oo env r (if k==.free then (n,(env.cells.lookup n).getD 0) :: cs else cs)
theorem fx {env:Env}:∀ (ns:List (Str×NameKind)) (cs:List (Str×Addr)),(∀ y∈ns,y.2=.free->∃ c,env.cells.lookup y.1=some c) ->
  (forIn ns cs (fun (x:Str×NameKind) (r:List (Str×Addr))=>if (x.2==NameKind.free)=true then (cellOf env x.1>>=fun a=>pure (ForInStep.yield ((x.1,a) :: r)):Sem _) else pure (ForInStep.yield r)):Sem (List (Str×Addr)))=pure (oo env ns cs)
 | [],_,_=>rfl
 | (n,k) :: r,cs,h=>by
  rw [List.forIn_cons];by_cases hk:k=.free
  ·subst hk;obtain ⟨c,e⟩:=h (n,.free) Ki rfl;have e':env.cells.lookup n=some c:=e;have q:=fx (env:=env) r ((n,c) :: cs) fun y hy=>h y (Kb _ hy);have z:oo env ((n,NameKind.free) :: r) cs=oo env r ((n,c) :: cs):=by
    show oo env r (if (NameKind.free==NameKind.free)=true then (n,(env.cells.lookup n).getD 0) :: cs else cs)=_;rw [Km (by decide),e'];rfl
   have k:cellOf env n=pure c:=by
    unfold cellOf;rw [e']
   rw [z,<-q];dsimp only;rw [Km (by decide),k];rfl
  ·have hb:(k==NameKind.free)=false:=by simpa using hk
   have q:=fx (env:=env) r cs fun y hy=>h y (Kb _ hy);have z:oo env ((n,k) :: r) cs=oo env r cs:=by
    show oo env r (if (k==NameKind.free)=true then (n,(env.cells.lookup n).getD 0) :: cs else cs)=_;rw [hb,Kr Lq]
   rw [z,<-q];dsimp only;rw [hb,Kr Lq];rfl
theorem iO {scope:Scope} {env:Env} (h:∀ y∈scope.names,y.2=.free->∃ c,env.cells.lookup y.1=some c):closureFor scope env=pure (oo env scope.names []):=by
 have q:=fx (env:=env) scope.names [] h;unfold closureFor;show (forIn scope.names [] _>>=_:Sem _)=_;refine Eq.trans (congrArg (fun m:Sem (List (Str×Addr))=>m>>=fun r=>pure r) (Eq.trans ?_ q)) rfl;rfl
theorem nL {env:Env}:∀ (ns:List (Str×NameKind)) (cs:List (Str×Addr)),(∀ y∈ns,y.2=.free->∃ c,env.cells.lookup y.1=some c)->(∀ y c,cs.lookup y=some c->env.cells.lookup y=some c) ->
  ∀ y c,(oo env ns cs).lookup y=some c->env.cells.lookup y=some c
 | [],_,_,g,y,c,e=>g y c e
 | (n,k) :: r,cs,h,g,y,c,e=>by
  refine nL r _ (fun z hz=>h z (Kb _ hz)) (fun z d e'=>?_) y c e;by_cases hk:(k==NameKind.free)=true
  ·rw [Km hk] at e';rw [Ly] at e';obtain ⟨c',ec⟩:=h (n,k) Ki (by simpa using hk);have ec':env.cells.lookup n=some c':=ec;cases hz:z==n with
   | true =>
    rw [hz] at e';have hzn:z=n:=by simpa using hz
    subst hzn;rw [ec'] at e' ⊢;exact e'
   | false=>rw [hz] at e';exact g z d e'
  ·rw [Kr hk] at e';exact g z d e'
theorem ox {env:Env} {y:Str}:∀ (ns:List (Str×NameKind)) (cs:List (Str×Addr)),(∃ c,cs.lookup y=some c)->∃ c,(oo env ns cs).lookup y=some c
 | [],_,h=>h
 | (n,k) :: r,cs,h=>by
  refine ox r _ ?_;by_cases hk:(k==NameKind.free)=true
  ·rw [Km hk,Ly];cases y==n
   ·exact h
   ·exact ⟨_,rfl⟩
  ·rw [Kr hk];exact h
theorem et {env:Env} {y:Str}:∀ (ns:List (Str×NameKind)) (cs:List (Str×Addr)),(y,NameKind.free)∈ns->∃ c,(oo env ns cs).lookup y=some c
 | [],_,h=>by simp at h
 | (n,k) :: r,cs,h=>by
  rcases Kd.mp h with e | h
  ·cases e;show ∃ c,(oo env r (if (NameKind.free==NameKind.free)=true then (y,(env.cells.lookup y).getD 0) :: cs else cs)).lookup y=some c;refine ox r _ ⟨(env.cells.lookup y).getD 0,?_⟩;rw [Km (by decide),Ly,beq_self_eq_true]
  ·exact et r _ h
theorem bt {env:Env} {y:Str} {k:NameKind}:∀ (ns:List (Str×NameKind)),
  (ns.map fun (n,k)=>if (k==NameKind.free&&env.scope.kind==.function&&env.kindOf n==some .cell) then (n,NameKind.cell) else (n,k)).lookup y=some k->(y,k)∈ns\/(k=.cell/\(y,NameKind.free)∈ns)
 | [],h=>by simp at h
 | (n,k') :: r,h=>by
  have ih:=fun q=>bt (env:=env) (y:=y) (k:=k) r q;rw [List.map_cons] at h;have h2:=h;have again:=fun q=>(ih q).elim (fun q=>Or.inl (Kb (n,k') q)) fun q=>(Or.inr ⟨q.1,Kb (n,k') q.2⟩:(y,k)∈(n,k') :: r\/(k=.cell/\(y,NameKind.free)∈(n,k') :: r));dsimp only at h2;clear h;by_cases hc:(k'==NameKind.free&&env.scope.kind==.function&&env.kindOf n==some .cell)=true
  ·rw [Km hc,Ly] at h2;cases hy:y==n with
   | true =>
    rw [hy] at h2;have e1:y=n:=by simpa using hy
    have hk:k'=.free:=by
     have:=hc;simp at this;exact this.1.1
    have e2:k=.cell:=(KN h2).symm;exact .inr ⟨e2,by rw [e1,hk];exact Ki⟩
   | false=>rw [hy] at h2;exact again h2
  ·rw [Kr hc,Ly] at h2;cases hy:y==n with
   | true =>
    rw [hy] at h2;have e1:y=n:=by simpa using hy
    have e2:k'=k:=KN h2;exact .inl (by rw [e1,e2];exact Ki)
   | false=>rw [hy] at h2;exact again h2
noncomputable def cxB (X:Cx) (N':List Str) (scope:Scope) (C:Addr) (s3:Shared) (H3:Hp) (ex:List Addr):Cx :=
  { prog:=X.prog,w:=X.w,K:=X.K,mg:=X.mg,base:=X.base,A:=X.A,N:=N',s₀:=s3,H₀:=H3,env:=compEnvC scope (oo X.env scope.names []) C X.env,outer:=X.stack,stack:=X.stack,ex:=ex,
    fn:=fun _=>false,calm:=true,pn:=[],xe:=fun _ _=>False }
def e7 (X:Cx) (scope:Scope):List Str->List Nat->Prop
 | [],[]=>True
 | y :: ys,j :: js=>X.N[j]?=some y/\(X.env.scope.names.lookup y=some .cell/\scope.names.lookup y=some .free)/\e7 X scope ys js
 | _,_=>False
theorem e7.get {X:Cx} {scope:Scope}:∀ {ys:List Str} {js:List Nat} {k:Nat} {y:Str},e7 X scope ys js->ys[k]?=some y->∃ j,js[k]?=some j/\X.N[j]?=some y/\X.env.scope.names.lookup y=some .cell/\scope.names.lookup y=some .free
 | [],_,_,_,_,e=>by simp at e
 | _ :: _,[],_,_,h,_=>False.elim h
 | y :: ys,j :: js,0,z,h,e=>by simp at e;subst e;exact ⟨j,rfl,h.1,h.2.1⟩
 | y :: ys,j :: js,k+1,z,h,e=>by
  obtain ⟨j',e1,e2⟩:=e7.get (k:=k) h.2.2 (by simpa using e);exact ⟨j',by simpa using e1,e2⟩
theorem e7.len {X:Cx} {scope:Scope}:∀ {ys:List Str} {js:List Nat},e7 X scope ys js->ys.length=js.length
 | [],[],_=>rfl
 | _ :: _,_ :: _,h=>by simp [e7.len h.2.2]
 | [],_ :: _,h=>False.elim h
 | _ :: _,[],h=>False.elim h
noncomputable def bK (js:List Nat) (σ:St):St:=js.map fun j=>(σ[j]?).getD none
structure i4 (X:Cx) (scope:Scope) (x:Str):Prop where
 kind:scope.kind=.function
 cells:∀ y∈scope.names,y.2≠.cell
 locs:∀ y∈scope.names,y.2=.local->scope.names.lookup y.1=some .local
 var:scope.names.lookup x=some .local
 free:∀ y∈scope.names,y.2=.free->X.env.scope.names.lookup y.1=some .cell
def PTs (X:Cx) (ifs:List Expr) (t:TT):Prop :=
 ∀ (pins:List (Addr×Obj)) (s:Shared) (σ:St) (H:Hp) (Q:Bool->Hp->Prop),Inv X pins σ H s->t σ H Q ->
  wpAny (model X.prog X.w) X.A (forIn ifs true fun c r=>if r=true then do let ok<-isTrue c X.env (eval c X.env);pure (ForInStep.yield ok) else pure (ForInStep.yield r)) (TP X pins σ Q) X.xe s
def HJ:TT:=fun _ H Q=>Q true H
theorem Bl {X:Cx}:PTs X [] HJ:=fun _ _ _ H _ I h=>wpAny_tests_nil ⟨H,I,h⟩
theorem AK {X:Cx} {c:Expr} {t:TT} (h:PT X c t):PTs X [c] t:=fun pins s σ H Q I q=>wpAny_tests_one (h pins s σ H Q I q)
theorem wG {X:Cx} {pins:List (Addr×Obj)} {σ:St} {H:Hp} {s3:Shared} {h1:Heap} {tk:Nat} {scope:Scope} {x:Str} {ys:List Str} {js:List Nat} {ex:List Addr} (I:Inv X pins σ H s3) (hc:X.calm=true) (B:i4 X scope x) (cap:e7 X scope ys js)
  (hns:h1.Ns s3.heap.objs.size (fun _=>none)) (hk:∀ b o,s3.heap.get? b=some o->h1.get? b=some o)
  (hex:∀ b∈ex,b ∉ frs X.stack/\b < s3.heap.objs.size/\(∀ y c,X.env.cells.lookup y=some c->c≠b)/\X.base.get? b=none) :
  Inv (cxB X (x :: ys) scope s3.heap.objs.size s3 H ex) [] (none :: bK js σ) H { s3 with heap:=h1,toks:=tk }:=by
 have hfree:∀ y∈scope.names,y.2=.free->∃ c,X.env.cells.lookup y.1=some c:=fun y hy hf=>I.ok.has y.1 (.inl (B.free y hy hf));have sub:=nL (env:=X.env) scope.names [] hfree (fun _ _ e=>by simp at e)
 refine ⟨⟨I.ok.mod,B.kind,I.ok.glob,I.ok.blt,Ke _,fun y z c h1 h2=>I.ok.inj y z c (sub _ _ h1) (sub _ _ h2),fun y hy=>?_,fun y c hf _=>?_,fun _=>I.ok.hd hc,I.ok.frames,.inl rfl,fun b hb=>?_,fun b o e=>I.bs b o e,Ks I.ok.bsz I.sz,fun b o e hb=>?_,fun b hb=>(hex b hb).1,I.stack,I.qQ⟩,
  rfl,I.bare,Un.kept hk,⟨_,hns,fun i y v e1 e2 e3=>?_⟩,fun y c e=>?_,I.hok.fresh (Ke _),fun y c e=>I.ll y c (sub _ _ e),fun p hp=>absurd (show p∈([]:List (Addr×Obj)) from hp) (by simp),I.hok.kept hk,?_⟩
 ·have hy:(relabel scope X.env).names.lookup y=some .cell\/(relabel scope X.env).names.lookup y=some .free:=hy;rcases hy with hy | hy
  ·rcases bt _ hy with q | ⟨_,q⟩
   ·exact absurd rfl (B.cells _ q)
   ·exact et _ _ q
  ·rcases bt _ hy with q | ⟨q,_⟩
   ·exact et _ _ q
   ·cases q
 ·exact absurd (show false=true from hf) (by simp)
 ·exact ⟨KP (hex b hb).2.1,fun y c e=>(hex b hb).2.2.1 y c (sub _ _ e)⟩
 ·have e':X.base.get? b=some o:=e;have:=(hex b hb).2.2.2;rw [e'] at this;cases this
 ·cases i with
  | zero=>simp at e2
  | succ i =>
   have e1':ys[i]?=some y:=by simpa [cxB] using e1
   have e2':(bK js σ)[i]?=some (some v):=by simpa using e2
   obtain ⟨j,ej,en,ec,ef⟩:=cap.get e1';have e4:σ[j]?=some (some v):=by
    unfold bK at e2';rw [Kt,ej] at e2';simp only [L7,Option.some.injEq] at e2';cases q:σ[j]? with
    | none=>rw [q] at e2';cases e2'
    | some w=>rw [q] at e2';simp at e2';rw [e2']
   obtain ⟨m,hn,hl⟩:=I.loc;obtain ⟨u,r,l⟩:=hl j y v en e4 (.inr (.inl ec));refine ⟨u,r,.inr ?_⟩;rcases l with ⟨kl,_⟩ | ⟨kc,c,ecl,cell⟩
   ·have kl:X.env.scope.names.lookup y=some .local:=kl;rw [ec] at kl;cases kl
   ·have e3:(relabel scope X.env).names.lookup y=some .local\/(relabel scope X.env).names.lookup y=some .cell\/(relabel scope X.env).names.lookup y=some .free:=e3;refine ⟨?_,?_⟩
    ·rcases e3 with q | q | q
     ·rcases bt _ q with q | ⟨q,_⟩
      ·have:=B.locs _ q rfl;rw [ef] at this;cases this
      ·cases q
     ·exact .inl q
     ·exact .inr q
    ·have mem:(y,NameKind.free)∈scope.names:=Lx ef;obtain ⟨c',ec'⟩:=et (env:=X.env) scope.names [] mem;have:=sub _ _ ec';rw [ecl] at this;cases this;obtain ⟨o,ho,hd⟩:=cell;exact ⟨c,ec',o,hk _ _ ho,hd⟩
 ·obtain ⟨v,o,ho,hd⟩:=I.cell y c (sub _ _ e);exact ⟨v,o,hk _ _ ho,hd⟩
 ·show (none :: bK js σ).length=(x :: ys).length;rw [J8,J8,cap.len];unfold bK;rw [J5]
def tO (js:List Nat) (wi:TI) (tt:TT) (te:TE):TE:=fun σ H Q=>wi σ H fun J H1=>∃ W:Nat->Nat->List V->Hp->Prop,(∃ m,W 0 m [] H1)/\∀ i m acc H,W i m acc H ->
 (J.stop i H/\acc.length<=sizeLine/\∀ p,H p=none->Q (.ref p) (upd H p (.lst acc)))\/(J.go i H/\acc.length < sizeLine/\∀ x H',J.yld i H x H' ->
  tt (some x :: bK js σ) H' fun b H2=>if b=true then te (some x :: bK js σ) H2 fun y H3=>∃ m',m' < m/\W (i+1) m' (acc++[y]) H3 else ∃ m',m' < m/\W (i+1) m' acc H2)
theorem yS {M:Model} {A:Around} {α β:Type} {E E':Value->Shared->Prop} {a:α} {t:Sem α} {u:Sem β} {Q:α->Shared->Prop} {R:β->Shared->Prop} {s s':Shared} (e:t=pure a) (h:wpAny M A t Q E s) (k:Q a s->wpAny M A u R E' s'):wpAny M A u R E' s':=by
 subst e;exact fun Γ p hΓ=>k (h Γ p hΓ) Γ p hΓ
theorem sH {X:Cx} {pins:List (Addr×Obj)} {σ:St} {H:Hp} {s2:Shared} {elt iter:Expr} {x:Str} {px pos:Pos} {ifs:List Expr} {scope:Scope} {tt:TT} {te:TE} {ys:List Str} {js:List Nat} {it:Addr} {fp:List Addr} {tn:Nat->Heap->Prop} {J:It}
    {Q:VK} {E:Value->Shared->Prop} {RR:Value->Addr->Result->Shared->Prop} (hc:X.calm=true) (B:i4 X scope x) (nd:(x :: ys).Nodup) (cap:e7 X scope ys js)
    (ht:∀ C s3 H3 ex,PTs (cxB X (x :: ys) scope C s3 H3 ex) ifs tt) (he:∀ C s3 H3 ex,PE (cxB X (x :: ys) scope C s3 H3 ex) elt te)
    (I:Inv X pins σ H s2) (T:Turn X.prog X.w X.K (.Name x px) J fp it tn) (h0:tn 0 s2.heap) (hf:∀ b∈fp,vK X pins H b)
    (W:Nat->Nat->List V->Hp->Prop) (w0:∃ m,W 0 m [] H)
    (turn:∀ i m acc H,W i m acc H->(J.stop i H/\acc.length<=sizeLine/\∀ p,H p=none->Q (.ref p) (upd H p (.lst acc)))\/(J.go i H/\acc.length < sizeLine/\∀ x H',J.yld i H x H' ->
      tt (some x :: bK js σ) H' fun b H2=>if b=true then te (some x :: bK js σ) H2 fun y H3=>∃ m',m' < m/\W (i+1) m' (acc++[y]) H3 else ∃ m',m' < m/\W (i+1) m' acc H2))
    (hRR:∀ (D C:Addr) (H':Hp) (s':Shared) (m':Str->Option Value),s'.heap.Ns C m'->s2.heap.objs.size<=C->C≠D->H' C=none->Inv X pins σ H' s'->Q (.ref D) H'->RR (.ref D) C (.ok .next) s') :
    wpAny (model X.prog X.w) X.A (newList []) (fun acc s₃=>wpAny (model X.prog X.w) X.A (newFunctionEnv scope X.env.globals (oo X.env scope.names []) [] X.env.qual none .none (some X.env)) (fun cenv s₄ =>
      codeAny (model X.prog X.w) X.A (.compStart (.ListComp elt [⟨.Name x px,iter,ifs,0⟩] scope pos) 0 (.ref it) acc { cenv with scope:=relabel scope X.env }) (RR acc cenv.locals) s₄) E s₃) E s2:=by
  refine LL (wpAny_newFunctionEnv B.cells (by intro y hy;simp at hy) (fun h1 hns hsb=>?_) B.kind);dsimp only at hns hsb ⊢;have hD:H s2.heap.objs.size=none:=I.hok.fresh (Ke _);generalize hH2:s2.heap.push { cls:=.type "list", dict:=none,data:=.seq ([]:List Value).toArray }=P2 at hns hsb ⊢;have hgetD:P2.get? s2.heap.objs.size=some { cls:=.type "list", dict:=none,data:=.seq ([]:List Value).toArray }:=by rw [<- hH2];exact Kx _ rfl
  have hold:∀ b o,s2.heap.get? b=some o->P2.get? b=some o:=fun b o e=>by rw [<- hH2];exact J7 _ e
  have hsz:P2.objs.size=s2.heap.objs.size+1:=by rw [<- hH2,Li]
  have I3:Inv X pins σ H { s2 with heap:=P2,toks:=s2.toks }:=I.kept hold;generalize hDe:s2.heap.objs.size=D at *;have keep1:∀ b o,P2.get? b=some o->h1.get? b=some o:=fun b o e=>hsb.extBut b o (KP (Kg e)) (J7 _ e);have hfp:∀ b∈fp,b < D:=fun b hb=>by
    obtain ⟨o,e,_⟩:=T.obj _ _ h0 b hb;rw [<- hDe];exact Kg e
  have hstk:∀ b,b≠X.env.locals->b ∉ X.fs->b ∉ frs X.stack:=fun b h1 h2 z=>(Kd.mp (I.sM b z)).elim h1 h2;have hDl:D≠X.env.locals:=fun z=>absurd I.lt (by rw [hDe,z];exact KG _);have hDfs:D ∉ X.fs:=I.Fo (by rw [hDe];exact Ke _);have hDc:∀ y c,X.env.cells.lookup y=some c->c≠D:=fun y c e z=>by
    obtain ⟨v,q⟩:=I.cell y c e;have:=q.lt;rw [z,hDe] at this;exact absurd this (KG _)
  have hex:∀ b∈D :: fp,b ∉ frs X.stack/\b < ({ s2 with heap:=P2,toks:=s2.toks }:Shared).heap.objs.size/\(∀ y c,X.env.cells.lookup y=some c->c≠b)/\X.base.get? b=none:=fun b hb=>by
    rcases Kd.mp hb with rfl | hb
    · refine ⟨hstk _ hDl hDfs,by show _ < P2.objs.size;rw [hsz];exact Ln _,hDc,?_⟩;cases q:X.base.get? b with
      | none=>rfl
      | some o =>
        have:=Kg (I.bk b o q);rw [hDe] at this;exact absurd this (KG _)
    · obtain ⟨f0,f1,f2,f3,f4,f5⟩:=hf b hb;refine ⟨hstk _ f1 f2,by show _ < P2.objs.size;rw [hsz];exact Nat.lt_succ_of_lt (hfp b hb),f4,?_⟩;cases q:X.base.get? b with
      | none=>rfl
      | some o =>
        rcases f3 with z | z
        · exact absurd z (I.ok.BS b o q)
        · exact absurd (Kh (Kg q) (Ks I.ok.bsz z)) (KG _)
  have IB:=wG (tk:=s2.toks) (ex:=D :: fp) I3 hc B cap (h1:=h1) hns keep1 hex;have hCD:P2.objs.size≠D:=by rw [hsz];exact Nat.succ_ne_self _
  have start:codeAny (model X.prog X.w) X.A (.compLoop (.ListComp elt [⟨.Name x px,iter,ifs,0⟩] scope pos) 0 (.ref it) (.ref D) (compEnvC scope (oo X.env scope.names []) P2.objs.size X.env)) (RR (.ref D) P2.objs.size) { s2 with heap:=h1,toks:=s2.toks }:=by
    obtain ⟨m0,w0⟩:=w0;refine codeAny_compLoop_tests (fun n s=>∃ i v0 H' acc its k,Inv (cxB X (x :: ys) scope P2.objs.size { s2 with heap:=P2,toks:=s2.toks } H (D :: fp)) [] (v0 :: bK js σ) H' s/\tn i s.heap/\(∀ b∈D :: fp,H' b=none)/\s.heap.get? D=some { cls:=.type "list", data:=.seq its k }/\Vals acc its.toList/\acc.length<=sizeLine/\W i n acc H') ?_ m0 ?_
    · rintro n s ⟨i,v0,H3,acc,its,k,I4,t4,fr4,g4,va,hl4,w4⟩;have hDm:D∈D :: fp:=Ki;have exf:=I4.ok.exf;have fsub:∀ b∈D :: fp,b ∉ (cxB X (x :: ys) scope P2.objs.size { s2 with heap:=P2,toks:=s2.toks } H (D :: fp)).fs:=fun b hb=>(hex b hb).1;have stat:∀ {H':Hp} {ob:Obj},(∀ b∈fp,H' b=none)->∀ b∈fp,vK (cxB X (x :: ys) scope P2.objs.size { s2 with heap:=P2,toks:=s2.toks } H (D :: fp)) [(D,ob)] H' b:=fun {H' ob} hn b hb =>
        ⟨hn b hb,(exf b (Kb _ hb)).1,fsub b (Kb _ hb),.inl (Kb _ hb),(exf b (Kb _ hb)).2,fun p hp z=>by
          have hp':p∈[(D,ob)]:=hp;have e:=Kc.mp hp';rw [e] at z
          exact absurd (hfp b hb) (by rw [<- show D=b from z];exact KG _)⟩
      have frp:∀ b∈fp,H3 b=none:=fun b hb=>fr4 b (Kb _ hb);have I5:Inv (cxB X (x :: ys) scope P2.objs.size { s2 with heap:=P2,toks:=s2.toks } H (D :: fp)) [(D,{ cls:=.type "list", data:=.seq its k })] (v0 :: bK js σ) H3 s:=I4.fy fun p hp=>by
        rw [Kc.mp hp];exact ⟨g4,fr4 D hDm,(exf D hDm).1,fsub D hDm,fun v z=>nomatch z⟩
      rcases turn i n acc H3 w4 with ⟨stop,hacc,q⟩ | ⟨go,hacc,step⟩
      · refine K5 (T.done (cxB X (x :: ys) scope P2.objs.size { s2 with heap:=P2,toks:=s2.toks } H (D :: fp)) rfl rfl rfl rfl i _ s _ H3 (fun _ _=>False) I5 (stat frp) t4 stop) (fun r s1 ⟨hr,I6⟩=>?_) (fun _ _ z=>z.elim);subst hr;obtain ⟨m',hn',_⟩:=id I6.loc;have pD:=(I6.pin (D,{ cls:=.type "list", data:=.seq its k }) (Kp _ (Kc.mpr rfl))).1;have nD:H3 D=none:=fr4 D hDm;have u:=I6.base;have uu:Un (frs X.stack) (D :: fp) H (upd H3 D (.lst acc)) P2 s1.heap :=
          ⟨u.keep,u.slot,fun b o q n hx=>by rw [au fun z=>hx (by rw [z];exact hDm)];exact u.free b o q n hx,u.there,
           fun b xs q=>by rw [au (aD (u.uI b xs q) nD)];exact u.uI b xs q,fun b o v q=>by rw [au (aD (u.tV b o v q) nD)];exact u.tV b o v q,
           fun b ps q=>by
            obtain ⟨more,z⟩:=u.xG b ps q
            exact ⟨more,by rw [au (aD z nD)];exact z⟩⟩
        have hok:HOk X.prog X.w (upd H3 D (.lst acc)) s1.heap:=fun b o e=>by
          by_cases hb:b=D
          · subst hb;rw [aH] at e;cases e;exact ⟨hacc,its.toList,k,va,by rw [Array.toArray_toList];exact pD⟩
          · rw [au hb] at e;exact (I6.hok b o e).mH (fun c v _ q=>q) (fun c q=>by rw [au (aD q nD)];exact q) fun c xs q=>by rw [au (aD q nD)];exact q
        have fin:=I3.call (g':=s1.gens) (t':=s1.toks) (d':=s1.drawn) uu hok I6.bare (fun b hb=>by
          rcases Kd.mp hb with z | hb
          · rw [z];refine ⟨.inr (by rw [<- hDe];exact I.sz),hDl,hDc,fun p hp z=>?_⟩;have:=Kg (I.pin p hp).1;rw [z,hDe] at this;exact KG _ this
          · exact ⟨(hf b hb).2.2.2.1,(hf b hb).2.1,(hf b hb).2.2.2.2.1,(hf b hb).2.2.2.2.2⟩)
        have es:({ heap:=s1.heap,gens:=s1.gens,drawn:=s1.drawn,toks:=s1.toks,os:=s2.os }:Shared)=s1:=by
          have:=I6.os;obtain ⟨a1,a2,a3,a4,a5⟩:=s1;have e5:a5=s2.os:=this;rw [e5]
        have fin':Inv X pins σ (upd H3 D (.lst acc)) s1:=es▸fin;exact hRR D P2.objs.size (upd H3 D (.lst acc)) s1 m' hn' (by rw [hsz];exact Nat.le_succ _) hCD (by rw [au hCD];exact I6.free) fin' (q D nD)
      · refine K5 (T.item (cxB X (x :: ys) scope P2.objs.size { s2 with heap:=P2,toks:=s2.toks } H (D :: fp)) rfl rfl rfl rfl i _ s _ H3 (fun _ _=>False) I5 (stat frp) t4 go) (fun r s1 ⟨u,hr,h4⟩=>?_) (fun _ _ z=>z.elim);subst hr;refine yS (a:=()) rfl h4 fun ⟨x',H5,I6,r6,y6,t6,fr6⟩=>?_;have I7:=I6.pinned (stat fr6) (T.obj _ _ t6);have kx:(relabel scope X.env).names.lookup x=some .local:=lookup_relabel_local B.var;have pg:PG (cxB X (x :: ys) scope P2.objs.size { s2 with heap:=P2,toks:=s2.toks } H (D :: fp)) (.Name x px) (eZ 0):=j7 nd rfl (.inl kx) (.inr kx);refine K5 (pg _ s1 _ H5 x' u (fun σ' H'=>σ'=some x' :: bK js σ/\H'=H5) I7 r6 ⟨rfl,rfl⟩) (fun _ s2' ⟨σ6,H6,I8,e1,e2⟩=>?_) (fun _ _ z=>z.elim);subst e1 e2;refine K5 (ht _ _ _ _ _ s2' _ _ _ I8 (step x' H6 y6)) (fun b s3' ⟨H7,I9,q9⟩=>?_) (fun _ _ z=>z.elim);have pinsKeep:∀ {σ':St} {H':Hp} {s':Shared},Inv (cxB X (x :: ys) scope P2.objs.size { s2 with heap:=P2,toks:=s2.toks } H (D :: fp)) ([(D,{ cls:=.type "list", data:=.seq its k })]++lX fp s1.heap) σ' H' s' ->
            s'.heap.get? D=some { cls:=.type "list", data:=.seq its k }/\(∀ b∈D :: fp,H' b=none)/\∀ b∈fp,∀ o,s1.heap.get? b=some o->s'.heap.get? b=some o:=fun {σ' H' s'} J=>by
          have pd:=J.pin (D,{ cls:=.type "list", data:=.seq its k }) (Kp _ (Lv _ (Kc.mpr rfl)));refine ⟨pd.1,fun b hb=>?_,fun b hb o e=>(J.pin (b,o) (Kp _ (Kp _ (cA hb e)))).1⟩;rcases Kd.mp hb with rfl | hb
          · exact pd.2.1
          · obtain ⟨o,e,_⟩:=T.obj _ _ t6 b hb;exact (J.pin (b,o) (Kp _ (Kp _ (cA hb e)))).2.1
        cases b with
        | false =>
          rw [Kr Lq] at q9;obtain ⟨m',hm,w9⟩:=q9;obtain ⟨p1,p2,p3⟩:=pinsKeep I9;rw [Kr Lq];exact ⟨m',hm,i+1,some x',H7,acc,its,k,I9.fy (fun p hp=>absurd hp (by simp)),T.keep _ _ _ t6 p3,p2,p1,va,hl4,w9⟩
        | true =>
          rw [Km rfl] at q9;rw [Km rfl];refine K5 (he _ _ _ _ _ s3' _ _ _ I9 q9) (fun y s4' ⟨yv,H8,I10,ry,m',hm,w10⟩=>?_) (fun _ _ z=>z.elim);obtain ⟨p1,p2,p3⟩:=pinsKeep I10;have hsize:its.size=acc.length:=by rw [va.length];simp
          have I11:=I10.fy (pins':=[]) (fun p hp=>absurd hp (by simp));refine wpAny_list_append_plain ⟨k,p1⟩ (fun h' hpl hsame=>?_) (by rw [hsize];exact Nat.le_of_lt hacc);obtain ⟨k',e'⟩:=hpl;have neD:∀ {b:Addr} {o:HO},H8 b=some o->b≠D:=fun e z=>by rw [z,p2 D hDm] at e;cases e
          refine ⟨m',hm,i+1,some x',H8,acc++[yv],its.push y,k',?_,?_,p2,e',?_,?_,w10⟩
          · refine I11.step (g':=s4'.gens) (t':=s4'.toks) (d':=s4'.drawn) (ch:=[D]) (fun b hb=>?_) (fun b o _ _ hc' e _=>?_) (fun b o _ _ hc' e _=>⟨o.slots,?_⟩) (fun b o hc' e n=>n) (fun b o hc' e=>⟨o,?_⟩) (fun _ _ z=>z) (fun _ _ _ z=>z) (fun b ps z=>⟨#[],by rw [z];simp⟩) (fun m hn=>hn.sameBut hsame (Ne.symm (exf D hDm).1)) (fun b o e=>?_) I11.bare
            · rw [Kc.mp hb];exact ⟨.inl hDm,(exf D hDm).1,(exf D hDm).2,fun p hp=>absurd (show p∈([]:List (Addr×Obj)) from hp) (by simp)⟩
            · exact (hsame.2 b fun z=>hc' (Kc.mpr z)).trans e
            · exact (hsame.2 b fun z=>hc' (Kc.mpr z)).trans e
            · exact (hsame.2 b fun z=>hc' (Kc.mpr z)).trans e
            · refine (I11.hok b o e).mH (fun c v hc' q=>(hsame.2 c ?_).trans q) (fun _ q=>q) fun _ _ q=>q;rcases hc' with z | z
              · rw [z];exact neD e
              · exact neD z
          · refine T.keep _ _ _ t6 fun b hb o e=>(hsame.2 b ?_).trans (p3 b hb o e);exact KP (hfp b hb)
          · rw [Array.toList_push];exact va.append (.cons ry .nil)
          · rw [J6,L8];exact hacc
    · refine ⟨0,none,H,[],#[],_,IB,T.keep _ _ _ h0 (fun b hb o e=>keep1 b o (hold b o e)),fun b hb=>?_,keep1 _ _ hgetD,.nil,Lu _,w0⟩;rcases Kd.mp hb with rfl | hb
      · exact hD
      · exact (hf b hb).1
  exact codeAny_compStart_list start (T.self _ 0 _ _ _ (T.keep _ _ _ h0 (fun b hb o e=>keep1 b o (hold b o e))) start)
theorem AO {X:Cx} {elt iter:Expr} {x:Str} {px pos:Pos} {ifs:List Expr} {scope:Scope} {wi:TI} {tt:TT} {te:TE} {ys:List Str} {js:List Nat} (hc:X.calm=true) (hi:PI X (.Name x px) iter wi) (B:i4 X scope x) (nd:(x :: ys).Nodup) (cap:e7 X scope ys js)
  (ht:∀ C s3 H3 ex,PTs (cxB X (x :: ys) scope C s3 H3 ex) ifs tt) (he:∀ C s3 H3 ex,PE (cxB X (x :: ys) scope C s3 H3 ex) elt te) (hs:∀ x,foldedSetIterable iter X.env x=pure x:=by intro _;rfl) :
  PE X (.ListComp elt [⟨.Name x px,iter,ifs,0⟩] scope pos) (tO js wi tt te):=by
 intro pins s σ H Q I h;have hcl:=iO (scope:=scope) (env:=X.env) fun y hy hf=>I.ok.has y.1 (.inl (B.free y hy hf));rw [eval_ListComp];refine wpAny_comprehension_free (use:=none) rfl hs hcl B.kind B.locs (K5 (hi pins s σ H _ I h) (fun xv s1 h1=>K5 h1 (fun itv s2 h2=>?_) fun _ _ e=>e) fun _ _ e=>e);obtain ⟨it,fp,tn,J,H2,e,I2,T,st2,f2,W,w0,turn⟩:=h2;subst e;refine sH (RR:=fun acc C=>compPost (model X.prog X.w) X.A X.xe none (EP X pins σ Q) acc C) hc B nd cap ht he I2 T st2 f2 W w0 turn ?_;intro D C H' s' m' hn hC hCD hCn I' q;refine ⟨m',hn,fun h' hs'=>⟨.ref D,H',?_,rfl,q⟩⟩;have hL:X.env.locals≠C:=KP (Kh I2.lt hC);have neC:∀ {b:Addr} {o:HO},H' b=some o->b≠C:=fun e z=>by rw [z,hCn] at e;cases e
 refine I'.step (g':=s'.gens) (t':=s'.toks) (d':=s'.drawn) (ch:=[C]) (fun b hb=>?_) (fun b o _ _ hc' e _=>?_) (fun b o _ _ hc' e _=>⟨o.slots,?_⟩) (fun b o hc' e n=>n) (fun b o hc' e=>⟨o,?_⟩) (fun _ _ z=>z) (fun _ _ _ z=>z) (fun b ps z=>⟨#[],by rw [z];simp⟩) (fun m hn=>hn.sameBut hs' hL) (fun b o e=>?_) I'.bare
 ·rw [Kc.mp hb];refine ⟨.inr (Ks I2.sz hC),Ne.symm hL,fun y c e z=>?_,fun p hp z=>?_⟩
  ·obtain ⟨v,q⟩:=I2.cell y c e;have:=q.lt;rw [z] at this;exact absurd (Kh this hC) (KG _)
  ·have:=Kg (I2.pin p hp).1;rw [z] at this;exact absurd (Kh this hC) (KG _)
 ·exact (hs'.2 b fun z=>hc' (Kc.mpr z)).trans e
 ·exact (hs'.2 b fun z=>hc' (Kc.mpr z)).trans e
 ·exact (hs'.2 b fun z=>hc' (Kc.mpr z)).trans e
 ·refine (I'.hok b o e).mH (fun c v hc' q=>(hs'.2 c ?_).trans q) (fun _ q=>q) fun _ _ q=>q;rcases hc' with z | z
  ·rw [z];exact neC e
  ·exact neC z
theorem BL {X:Cx} {elt iter:Expr} {x y:Str} {px py pos spos:Pos} {ifs:List Expr} {scope:Scope} {wi:TI} {tt:TT} {te:TE} {ys:List Str} {js:List Nat} {i:Nat} (hN:X.N.Nodup) (hi':X.N[i]?=some y) (hy:X.env.scope.names.lookup y=some .local)
  (hsw:swapsWith (.ListComp elt [⟨.Name x px,iter,ifs,0⟩] scope pos) (some (.Name y py)) spos.line X.env=pure true) (hc:X.calm=true) (hi:PI X (.Name x px) iter wi) (B:i4 X scope x) (nd:(x :: ys).Nodup) (cap:e7 X scope ys js)
  (ht:∀ C s3 H3 ex,PTs (cxB X (x :: ys) scope C s3 H3 ex) ifs tt) (he:∀ C s3 H3 ex,PE (cxB X (x :: ys) scope C s3 H3 ex) elt te) (hs:∀ x,foldedSetIterable iter X.env x=pure x:=by intro _;rfl) :
  PS X (.Assign [.Name y py] (.ListComp elt [⟨.Name x px,iter,ifs,0⟩] scope pos) spos) (uF (tO js wi tt te) (eZ i)):=by
 intro pins s σ H Dn I h;have hcl:=iO (scope:=scope) (env:=X.env) fun y hy hf=>I.ok.has y.1 (.inl (B.free y hy hf));rw [exec_Assign_Name_used _ _ _ _ hsw];refine Kv (wpAny_standAt (Kv ?_));show wpAny _ X.A (do let _<-comprehension (.ListComp elt [⟨.Name x px,iter,ifs,0⟩] scope pos) scope X.env _ (newList []) false (eval iter X.env) (some (assign (.Name y py) X.env))) _ _ s
 refine Kv (K5 (wpAny_comprehension_free (use:=some (assign (.Name y py) X.env)) (Q:=fun _ s'=>SP X pins Dn .next s') rfl hs hcl B.kind B.locs
  (K5 (hi pins s σ H _ I h) (fun xv s1 h1=>K5 h1 (fun itv s2 h2=>?_) fun _ _ e=>e) fun _ _ e=>e)) (fun _ s' hq=>KI (KI hq)) fun _ _ e=>e)
 obtain ⟨it,fp,tn,J,H2,e,I2,T,st2,f2,W,w0,turn⟩:=h2;subst e;refine sH (Q:=fun x H1=>eZ i x σ H1 Dn.nx) (RR:=fun acc C=>compPost (model X.prog X.w) X.A X.xe (some (assign (.Name y py) X.env)) (fun _ s'=>SP X pins Dn .next s') acc C) hc B nd cap ht he I2 T st2 f2 W w0 turn ?_;intro D C H' s' m' hn hC hCD hCn I' q;have hL:X.env.locals≠C:=KP (Kh I2.lt hC);have hCfs:C ∉ X.fs:=I2.Fo hC;obtain ⟨oC,esC,epC,hoC,hdC,restC⟩:=id hn;have I'':Inv X (pins++[(C,oC)]) σ H' s':=I'.fy fun p hp=>by
  rcases Ls.mp hp with z | z
  ·exact I'.pin p (Kp _ z)
  ·rw [Kc.mp z];exact ⟨hoC,hCn,Ne.symm hL,hCfs,fun v z=>by rw [hdC] at z;cases z⟩
 show wpAny _ X.A (assign (.Name y py) X.env (.ref D)) _ _ _;refine K5 (j7 (pos:=py) hN hi' (.inl hy) (.inr hy) _ s' σ H' (.ref D) (.ref D) Dn.nx I'' rfl q) (fun _ s3 ⟨σ3,H3,I3,q3⟩=>?_) fun _ _ e=>e;have pC:=I3.pin (C,oC) (Kp _ (Kp _ (Kc.mpr rfl)));have hn3:s3.heap.Ns C m':=⟨oC,esC,epC,pC.1,hdC,restC⟩;have hCn3:H3 C=none:=pC.2.1;refine ⟨m',hn3,fun h' hs'=>⟨σ3,H3,?_,q3⟩⟩;have I4:=I3.jV;have neC:∀ {b:Addr} {o:HO},H3 b=some o->b≠C:=fun e z=>by rw [z,hCn3] at e;cases e
 refine I4.step (g':=s3.gens) (t':=s3.toks) (d':=s3.drawn) (ch:=[C]) (fun b hb=>?_) (fun b o _ _ hc' e _=>?_) (fun b o _ _ hc' e _=>⟨o.slots,?_⟩) (fun b o hc' e n=>n) (fun b o hc' e=>⟨o,?_⟩) (fun _ _ z=>z) (fun _ _ _ z=>z) (fun b ps z=>⟨#[],by rw [z];simp⟩) (fun m hn=>hn.sameBut hs' hL) (fun b o e=>?_) I4.bare
 ·rw [Kc.mp hb];refine ⟨.inr (Ks I2.sz hC),Ne.symm hL,fun y c e z=>?_,fun p hp z=>?_⟩
  ·obtain ⟨v,q⟩:=I2.cell y c e;have:=q.lt;rw [z] at this;exact absurd (Kh this hC) (KG _)
  ·have:=Kg (I2.pin p hp).1;rw [z] at this;exact absurd (Kh this hC) (KG _)
 ·exact (hs'.2 b fun z=>hc' (Kc.mpr z)).trans e
 ·exact (hs'.2 b fun z=>hc' (Kc.mpr z)).trans e
 ·exact (hs'.2 b fun z=>hc' (Kc.mpr z)).trans e
 ·refine (I4.hok b o e).mH (fun c v hc' q=>(hs'.2 c ?_).trans q) (fun _ q=>q) fun _ _ q=>q;rcases hc' with z | z
  ·rw [z];exact neC e
  ·exact neC z
def Its (x:Str):It:=⟨fun i _=>i < x.length,fun i H v H'=>H'=H/\∃ c,x.cps[i]?=some c/\v=.str ⟨#[c]⟩,fun i _=>x.length<=i⟩
theorem yE {P:Program} {w:World} {K:Fg} {y:Str} {py:Pos} {x:Str} {it:Addr} {St:Nat->Heap->Prop} (W:∀ A':Around,A'.handled=none->Walks P w A' it [it] [it] x.cps.size (SignAt x) St)
  (ob:∀ i h,St i h->∃ o,h.get? it=some o/\∀ v,o.data≠.cell v) (hs:∀ (A:Around) i (s:Shared) (Q:Value->Shared->Prop) (E:Value->Shared->Prop),St i s.heap->Q (.ref it) s->wpAny (model P w) A (pyIter (.ref it)) Q E s) :
  Turn P w K (.Name y py) (Its x) [it] it (fun i h=>i<=x.cps.size/\St i h) where
 mem:=by simp
 obj:=fun i h st b hb=>by
  have e:b=it:=by simpa using hb
  subst e;exact ob i h st.2
 keep:=fun i h h' st k=>⟨st.1,(W { depth:=0,frames:=none,guards:=none,units:=0,handled:=none } rfl).frame i h h' st.2 fun b hb o e=>k b hb o e⟩
 item:=by
  intro X hP hw hK hc i pins s σ H E I hf st hg;subst hP hw hK;obtain ⟨f0,f1,f2,f3,f4,f5⟩:=hf it (by simp);refine (W X.A (I.ok.hd hc)).item i s _ _ hg st.2 fun v h' tk hv st' kk=>?_;obtain ⟨c,t,hcps,rfl⟩:=hv;have I1:Inv X pins σ H { s with heap:=h',toks:=tk }:=I.turned (fun b o hb e=>kk b o (by simpa using hb) e) f0 f1 f3 f4 f5;exact ⟨_,rfl,KI (show _ from ⟨.str ⟨#[c]⟩,H,I1,⟨t,rfl⟩,⟨rfl,c,hcps,rfl⟩,⟨hg,st'⟩,fun b hb=>(hf b hb).1⟩)⟩
 done:=by
  intro X hP hw hK hc i pins s σ H E I hf st hg;subst hP hw hK;obtain ⟨f0,f1,f2,f3,f4,f5⟩:=hf it (by simp);have e:i=x.cps.size:=Nat.le_antisymm st.1 hg;subst e;exact (W X.A (I.ok.hd hc)).done s _ _ st.2 fun h' tk kk=>⟨rfl,I.turned (fun b o hb e=>kk b o (by simpa using hb) e) f0 f1 f3 f4 f5⟩
 self:=fun A i s Q E st h=>hs A i s Q E st.2 h
def EK (tl:TE):TI:=fun σ H R=>tl σ H fun x H1=>∃ z,x=.str z/\R (Its z) H1
theorem Co {X:Cx} {y:Str} {py:Pos} {l:Expr} {tl:TE} (hl:PE X l tl):PI X (.Name y py) l (EK tl):=by
 intro pins s σ H R I h;refine thn (hl pins s σ H _ I h) fun v s1 ⟨x,H1,I1,r1,q1⟩=>?_;obtain ⟨z,e,q⟩:=q1;subst e;obtain ⟨t,rfl⟩:=r1;have hn:H1 s1.heap.objs.size=none:=I1.hok.fresh (Ke _);have key:∀ (T:String) (sz:T = "str_ascii_iterator" \/ T = "str_iterator"),PIE X pins σ (.Name y py) R (.ref s1.heap.objs.size) { s1 with heap:=s1.heap.push { cls:=.type T,data:=.fields #[.str z t,.int 0 0] } }:=fun T sz=>by
  have I2:Inv X pins σ H1 { s1 with heap:=s1.heap.push { cls:=.type T,data:=.fields #[.str z t,.int 0 0] },toks:=s1.toks }:=I1.kept fun b o e=>J7 _ e;have st0:(s1.heap.push { cls:=.type T,data:=.fields #[.str z t,.int 0 0] }).IsStrIter s1.heap.objs.size T z t 0:=⟨_,Kx _ rfl,rfl,rfl⟩;refine ⟨s1.heap.objs.size,[s1.heap.objs.size],fun i h=>i<=z.cps.size/\h.IsStrIter s1.heap.objs.size T z t i,Its z,H1,rfl,I2,?_,⟨Lu _,st0⟩,fun b hb=>?_,q⟩
  ·refine yE (fun A' hA=>?_) (fun i h st=>?_) fun A i s Q E st hq=>?_
   ·rcases sz with rfl | rfl
    ·exact Walks.strAscii hA _ z t
    ·exact Walks.strWide hA _ z t
   ·obtain ⟨o,e,c,d⟩:=st;exact ⟨o,e,fun v z=>by rw [d] at z;cases z⟩
   ·rcases sz with rfl | rfl
    ·exact wpAny_pyIter_striter_ascii st hq
    ·exact wpAny_pyIter_striter_wide st hq
  ·rw [Kc.mp hb];exact I1.BP (Ke _) hn
 cases ha:z.cps.all (· < 128)
 ·exact wpAny_pyIter_wide ha (key _ (.inr rfl))
 ·exact wpAny_pyIter_ascii ha (key _ (.inl rfl))
section
variable {X:Cx}
theorem u5:OpR X (compareOp .LtE) (fun x y H Q=>∃ i j,x=.str i/\y=.str j/\Q (.bl (!(decide (j.cps.toList < i.cps.toList)))) H):=by
 intro pins s σ H x y v u Q I rx ry h;obtain ⟨i,j,rfl,rfl,q⟩:=h;obtain ⟨t,rfl⟩:=rx;obtain ⟨t',rfl⟩:=ry;exact P.le_str ⟨.bl _,H,I,rfl,q⟩
theorem OpR.or' {f:Value->Value->Sem Value} {r r':R2} (h:OpR X f r) (h':OpR X f r'):OpR X f (fun x y H Q=>r x y H Q\/r' x y H Q):=by
 intro pins s σ H x y v u Q I rx ry q;rcases q with q | q
 ·exact h pins s σ H x y v u Q I rx ry q
 ·exact h' pins s σ H x y v u Q I rx ry q
theorem yh:OpR X (binaryOp .FloorDiv) (rI (fun _ j=>0 < j/\j.natAbs.log2 < 9000) fun i j=>.int (i / j)):=opI fun i j _ _ _ _ _ hc q=>by
 have h1:(0:Int) < j:=hc.1;exact floordiv_int (by omega) (by rw [Int.fdiv_eq_ediv_of_nonneg i (by omega)];exact q) (.inl (PyProof.noPylong_of_log2 hc.2))
theorem wF (hc:X.calm=true):aZ X (.builtin "all") (fun xs H Q=>∃ (a:Addr) (bs:List Bool),xs=[.ref a]/\SqL X.K H a (bs.map V.bl)/\Q (.bl (bs.all id)) H):=by
 intro pins s σ H xs us Q I r h;obtain ⟨a,bs,rfl,hq,q⟩:=h;obtain ⟨u,rfl,r1⟩:=vals1 r;cases (show u=Value.ref a from r1);obtain ⟨its,rv,p,hz⟩:=I.list hq;have ha:a < s.heap.objs.size:=by
  obtain ⟨o,e,_⟩:=p.isList;exact Kg e
 refine call_all_walk (wpAny_pyIter_list p.isList ?_);refine ⟨s.heap.objs.size,_,_,_,_,_,fun i=>(bs[i]?).getD true,rfl,Walks.list (show X.A.in1.handled=none from I.ok.hd hc) s.heap.objs.size a (KP ha) its.toArray,⟨⟨_,Kx _ rfl,rfl,rfl⟩,p.isList.push _⟩,?_,?_⟩
 ·intro i v s' Q' E' hv hQ;have hv':its[i]?=some v:=by simpa using hv
  have hi:i < its.length:=(Ka.mp hv').1;have hb:i < bs.length:=by have:=rv.length;rw [J5] at this;omega
  obtain ⟨u,hu,ru⟩:=rv.get (i:=i) (x:=.bl bs[i]) (by rw [Kt,J9 hb];rfl);rw [hv'] at hu;cases hu;cases (show v=Value.bool bs[i] from ru);dsimp only at hQ;rw [J9 hb] at hQ;exact La hQ
 ·intro h' tk kk;have e:(List.range its.toArray.size).all (fun i=>(bs[i]?).getD true)=bs.all id:=by
   have hl:its.toArray.size=bs.length:=by rw [Ko,<-rv.length,J5]
   rw [hl,Bool.eq_iff_iff,Lg,Lg];constructor
   ·intro h b hb;obtain ⟨i,hi,e⟩:=List.mem_iff_getElem.mp hb;have:=h i (List.mem_range.mpr hi);rw [J9 hi,e] at this;exact this
   ·intro h i hi;rw [J9 (List.mem_range.mp hi)];exact h _ (List.getElem_mem _)
  rw [e];have I1:Inv X pins σ H { s with heap:=s.heap.push { cls:=.type "list_iterator", data:=.fields #[.ref a,rawInt 0] },toks:=s.toks }:=I.kept fun b o e=>J7 _ e;have hn:H s.heap.objs.size=none:=I.hok.fresh (Ke _)
  have I2:Inv X pins σ H { s with heap:=h',toks:=tk }:=I.kept fun b o e=>kk b o (by
   intro z;have:=Kc.mp z;rw [this] at e
   exact absurd (Kg e) (KG _)) (J7 _ e)
  exact ⟨.bl _,H,I2,rfl,q⟩
noncomputable def jU (x:Str) (lo hi:Option Int):Str:=⟨((x.cps.toList.drop (HT.sIx x.length 0 lo)).take (HT.sIx x.length x.length hi - HT.sIx x.length 0 lo)).toArray⟩
theorem FG (lo hi:Option Int) (n:Nat):Builtin.Str.strSliceIndices lo hi 1 n=(List.range (HT.sIx n n hi - HT.sIx n 0 lo)).map (HT.sIx n 0 lo+·):=by
 rw [<- sliceRange_one];unfold Builtin.Str.strSliceIndices;dsimp only;have h1:(1:Int) > 0:=by decide
 have e0:(match lo with | none=>(if (1:Int) > 0 then 0 else (n:Int) - 1) | some i=>if (1:Int) > 0 then max 0 (min (if i < 0 then i+(n:Int) else i) (n:Int)) else max (-1) (min (if i < 0 then i+(n:Int) else i) ((n:Int) - 1)))=((HT.sIx n 0 lo:Nat):Int):=by
  cases lo with
  | none=>simp [HT.sIx]
  | some i =>
   simp only [HT.sIx,h1,LO];by_cases h:i < 0
   ·simp only [h,LO] <;> omega
   ·simp only [h,if_false] <;> omega
 have e1:(match hi with | none=>(if (1:Int) > 0 then (n:Int) else -1) | some i=>if (1:Int) > 0 then max 0 (min (if i < 0 then i+(n:Int) else i) (n:Int)) else max (-1) (min (if i < 0 then i+(n:Int) else i) ((n:Int) - 1)))=((HT.sIx n n hi:Nat):Int):=by
  cases hi with
  | none=>simp [HT.sIx]
  | some i =>
   simp only [HT.sIx,h1,LO];by_cases h:i < 0
   ·simp only [h,LO] <;> omega
   ·simp only [h,if_false] <;> omega
 rw [<- e0,<-e1];cases lo <;> cases hi <;> rfl
theorem sG (n:Nat) (v:Option Int):HT.sIx n n v<=n/\HT.sIx n 0 v<=n:=by
 cases v with
 | none=>simp [HT.sIx]
 | some i =>
  simp only [HT.sIx];split <;> omega
def F9:V->Option Int->Option Int->Hp->VK->Prop:=fun x lo hi H Q=>∃ z,x=.str z/\z.length<=sizeLine/\Q (.str (jU z lo hi)) H
theorem dX (x:Str) (lo hi:Option Int):(jU x lo hi).length<=x.length:=by
 have e:x.cps.toList.length=x.length:=by simp [Str.length]
 show (((x.cps.toList.drop _).take _).toArray).size<=x.length;rw [Ko,K9,Lp,e];omega
theorem ip:SlR X F9:=by
 intro pins s σ H x v vl vu lo hi sl Q I rx hs pl pu h;obtain ⟨z,rfl,hz,q⟩:=h;obtain ⟨t,rfl⟩:=rx;refine ⟨"str", _,F.slot_str_getitem.lookup,LJ _ _ _,?_⟩;obtain ⟨l,el,el'⟩:∃ l:Option (Int×Tok),l.map (·.1)=lo/\vl=partValue l:=by
  cases pl with
  | none=>exact ⟨none,rfl,rfl⟩
  | int i t=>exact ⟨some (i,t),rfl,rfl⟩
 obtain ⟨u,eu,eu'⟩:∃ l:Option (Int×Tok),l.map (·.1)=hi/\vu=partValue l:=by
  cases pu with
  | none=>exact ⟨none,rfl,rfl⟩
  | int i t=>exact ⟨some (i,t),rfl,rfl⟩
 subst el' eu';obtain ⟨o,h1,h2,h3⟩:=hs;refine wpAny_getItem_str_slice (l:=l) (u:=u) (st:=none) ⟨o,h1,h2,h3⟩ rfl ?_;have pk:slicePicked z l u none=(List.range (HT.sIx z.length z.length hi - HT.sIx z.length 0 lo)).map (HT.sIx z.length 0 lo+·):=by
  rw [<- FG,<-el,<-eu];rfl
 have ez:z.cps.toList.length=z.length:=by simp [Str.length]
 have cut:(⟨((slicePicked z l u none).filterMap (z.cps[·]?)).toArray⟩:Str)=jU z lo hi:=by
  rw [pk,pick_run];rfl
 unfold sliceMade;split
 ·rename_i hc;have hl:(slicePicked z l u none).length=z.length:=by
   have:=(Bool.and_eq_true_iff.mp hc).2;simpa using this
  rw [pk,J5,LD] at hl;have b1:=sG z.length hi;have b2:=sG z.length lo;have h0:HT.sIx z.length 0 lo=0\/z.length=0:=by omega
  have e:jU z lo hi=z:=by
   unfold jU;rcases h0 with h0 | h0
   ·rw [h0,List.drop_zero,L4 (by omega)]
   ·have hn:z.cps.toList=[]:=List.eq_nil_of_length_eq_zero (by omega);rw [hn];have:z.cps=#[]:=by
     have:=congrArg List.toArray hn;simpa using this
    obtain ⟨c⟩:=z;simp only at this;subst this;simp
  rw [e] at q;exact ⟨.str z,H,I,⟨t,rfl⟩,q⟩
 ·rw [cut];exact ⟨Ks (dX _ _ _) hz,⟨.str _,H,I.tok _,⟨_,rfl⟩,q⟩⟩
end
mutual
def Dn (p:Addr) (H:Hp):PyData->V->Prop
 | .none,v=>v=.non
 | .bool b,v=>v=.bl b
 | .int i,v=>v=.int i
 | .str x,v=>v=.str x
 | .list ds,v=>∃ a xs,v=.ref a/\a≠p/\H a=some (.lst xs)/\DnL p H ds xs
 | .tuple ds,v=>∃ a xs,v=.ref a/\a≠p/\H a=some (.tup xs)/\DnL p H ds xs
 | .dict kvs,v=>kvs=[]/\∃ a,v=.ref a/\a≠p/\H a=some (.dK [])
def DnL (p:Addr) (H:Hp):List PyData->List V->Prop
 | [],vs=>vs=[]
 | d :: ds,vs=>∃ v r,vs=v :: r/\Dn p H d v/\DnL p H ds r
end
open PySem PySem.Spec PyProof.Rows
def rOr (r r':R2):R2:=fun x y H Q=>r x y H Q\/r' x y H Q
def B3 (r r':V->Option Int->Option Int->Hp->VK->Prop):V->Option Int->Option Int->Hp->VK->Prop:=fun x l u H Q=>r x l u H Q\/r' x l u H Q
def Cc:R2:=fun x y H Q=>∃ i j,x=.str i/\y=.str j/\i.length+j.length<=sizeLine/\Q (.str (i++j)) H
def IC:R2:=fun x y H Q=>∃ i j,x=.str i/\y=.str j/\Q (.bl (decide (i.cps.toList < j.cps.toList))) H
def IU:R2:=fun x y H Q=>∃ i j,x=.str i/\y=.str j/\Q (.bl (!(decide (j.cps.toList < i.cps.toList)))) H
def JL:R2:=fun x y H Q=>∃ i j,x=.str i/\y=.str j/\Q (.bl (!(Builtin.Str.occurrences j i 0 j.length 1).isEmpty)) H
def AR:R2:=fun x y H Q=>∃ i j,x=.str i/\y=.str j/\Q (.bl (!(!(Builtin.Str.occurrences j i 0 j.length 1).isEmpty))) H
def Iv (K:Fg):List V->Hp->VK->Prop:=fun xs H Q=>∃ (a:Addr) (bs:List Bool),xs=[.ref a]/\SqL K H a (bs.map V.bl)/\Q (.bl (bs.all id)) H
def DB (K:Fg):List V->Hp->VK->Prop:=fun xs H Q=>∃ x n,xs=[x]/\IQ K x H n/\Q (.int n) H
def GC:List V->Hp->VK->Prop:=fun xs H Q=>∃ i,xs=[.int i]/\Q (.int (if i < 0 then -i else i)) H
def A3:List V->Hp->VK->Prop:=fun xs H Q=>(∃ i,xs=[.int i]/\Q (.int i) H)\/∃ k,xs=[.bl k]/\Q (.int (if k then 1 else 0)) H
section
variable {X:Cx}
theorem orR {f:Value->Value->Sem Value} {r r':R2} (h:OpR X f r) (h':OpR X f r'):OpR X f (rOr r r'):=OpR.or' h h'
theorem orS {r r':V->Option Int->Option Int->Hp->VK->Prop} (h:SlR X r) (h':SlR X r'):SlR X (B3 r r'):=SlR.or h h'
theorem Br:OpR X (binaryOp .Add) Cc:=uD
theorem Ex:OpR X (compareOp .Lt) IC:=vb
theorem Dk:OpR X (compareOp .LtE) IU:=u5
theorem Ca:OpR X (compareOp .In) JL:=vT
theorem wz:OpR X (compareOp .NotIn) AR:=pX
theorem wX (hc:X.calm=true):aZ X (.builtin "all") (Iv X.K):=wF hc
theorem vf:aZ X (.builtin "len") (DB X.K):=xV
theorem xj:aZ X (.builtin "abs") GC:=xN
theorem xg:aZ X (.type "int") A3:=wB
end
end L2
namespace L2
open PySem
noncomputable def rZ (sc scope:Scope) (x:Str):Bool :=
 (scope.kind==.function)&&scope.names.all (fun y=>y.2 != .cell)&&scope.names.all (fun y=>y.2 != .local||scope.names.lookup y.1==some .local)&&(scope.names.lookup x==some .local)&&scope.names.all (fun y=>y.2 != .free||sc.names.lookup y.1==some .cell)
theorem bsc {X:Cx} {sc scope:Scope} {x:Str} (e:X.env.scope=sc) (h:rZ sc scope x=true):i4 X scope x:=by
 unfold rZ at h;simp only [KC,Lg,LB,bne_iff_ne,LF,ne_eq] at h;obtain ⟨⟨⟨⟨h1,h2⟩,h3⟩,h4⟩,h5⟩:=h;exact ⟨h1,fun y hy=>h2 y hy,fun y hy e=>(h3 y hy).resolve_left fun z=>z e,h4,fun y hy e'=>by rw [e];exact (h5 y hy).resolve_left fun z=>z e'⟩
end L2
namespace L2
open PySem
theorem a8 {e:Expr} {es:List Expr} {env:Env} (h:PySem.W.isStarred e=false):starEach (e :: es) env=(false,eval e env) :: starEach es env:=by
 cases e <;> first | rfl | exact absurd h (by simp [PySem.W.isStarred])
theorem cF {pos:Pos} {env:Env}:∀ {es:List Expr},es.all (fun e=>!PySem.W.isStarred e)=true->(backTo pos (starEach es env)).any (·.1)=false
 | [],_=>rfl
 | e :: es,h=>by
  rw [List.all_cons,KC] at h;rw [a8 (by simpa using h.1)];have ih:=cF (pos:=pos) (env:=env) h.2;unfold backTo at ih ⊢;rw [List.map_cons,List.any_cons,ih];rfl
structure JE (X:Cx) (e:Expr) (t:TE):Prop where
 h:PE X e t
structure JT (X:Cx) (e:Expr) (t:TT):Prop where
 h:PT X e t
structure JW (X:Cx) (e:Expr) (t:TT):Prop where
 h:PW X e t
structure JA (X:Cx) (es:List Expr) (t:TA):Prop where
 h:PA X es t
structure JS (X:Cx) (s:Stmt) (t:TS):Prop where
 h:PS X s t
structure JSs (X:Cx) (s:List Stmt) (t:TS):Prop where
 h:PSs X s t
structure JG (X:Cx) (e:Expr) (t:TG):Prop where
 h:PG X e t
structure JI (X:Cx) (tg e:Expr) (t:TI):Prop where
 h:PI X tg e t
structure JO (X:Cx) (e:Option Expr) (t:TO):Prop where
 h:PO X e t
structure JC (X:Cx) (N:List Str) (scope:Scope) (e:Expr) (t:TE):Prop where
 h:∀ C s3 H3 ex,PE (cxB X N scope C s3 H3 ex) e t
structure JTs (X:Cx) (N:List Str) (scope:Scope) (e:List Expr) (t:TT):Prop where
 h:∀ C s3 H3 ex,PTs (cxB X N scope C s3 H3 ex) e t
section
variable {X:Cx} {e a b c:Expr} {es rest:List Expr} {te ta tb tc:TE} {tA tB':TT} {t:TA} {x:Str} {p pos:Pos} {id T:String} {r:List V->Hp->VK->Prop} {CX:CXT} {k:Nat} {f:Addr} {fd:FuncData} {ps:List Str} {sp:Sp} {ds:List Value} {dvs:List V} {E:XK}
theorem IP (i:Nat) (hN:X.N[i]?=some x) (hv:Vis X.env.scope x) (hd:(x==("__debug__" : Str))=false) (hcd:(x==("__classdict__" : Str))=false):JE X (.Name x pos) (cU i):=⟨D0 hN hv hd hcd⟩
theorem ak {i j}:JE X (.Constant (.int i) j pos) (tC (.int i)):=⟨CA⟩
theorem eBl {b j}:JE X (.Constant (.bool b) j pos) (tC (.bl b)):=⟨Hw⟩
theorem xO {j}:JE X (.Constant .none j pos) (tC .non):=⟨B4⟩
theorem az {x j}:JE X (.Constant (.str x) j pos) (tC (.str x)):=⟨Ei⟩
theorem af:JA X [] gC:=⟨zz⟩
theorem eA (ha:JE X e te) (hr:JA X es t) (h:PySem.W.isStarred e=false):JA X (e :: es) (bM te t):=⟨u6 ha.h hr.h (a8 h)⟩
theorem DC (F:aQ X.prog X.w X.K X.mg X.base CX k f fd ps sp) (hr:eX k X.A) (hg:Gl X x) (hm:X.mg x=some (.ref f)) (hk:PySem.W.keepIn X.K (.ref f)=true) (hb:Binds X.K fd ps ds) (hd:Vals dvs ds) (hx:Passes CX X E)
  (ha:JA X (e :: es) t) (h1:PySem.W.isStarred e=false) (h2:es.all (fun e=>!PySem.W.isStarred e)=true) (hdb:(x==("__debug__" : Str))=false):JE X (.Call (.Name x p) (e :: es) [] pos) (vd sp dvs E t) :=
 ⟨BA F hr hg hm hk hb hd hx ha.h hdb (a8 h1) (cF h2)⟩
theorem eB (hc:aZ X (.builtin id) r) (hg:Gl X x) (hm:X.mg x=none) (hv:bootBuiltins x=some (.builtin id)) (ha:JA X (e :: es) t) (h1:PySem.W.isStarred e=false) (h2:es.all (fun e=>!PySem.W.isStarred e)=true)
  (hn:x ≠ "__name__") (hdb:(x==("__debug__" : Str))=false):JE X (.Call (.Name x p) (e :: es) [] pos) (tCB r t):=⟨yQ hc hg hm hv ha.h hn hdb (a8 h1) (cF h2)⟩
theorem eTy (hc:aZ X (.type T) r) (hg:Gl X x) (hm:X.mg x=none) (hv:bootBuiltins x=some (.type T)) (ha:JA X (e :: es) t) (h1:PySem.W.isStarred e=false) (h2:es.all (fun e=>!PySem.W.isStarred e)=true)
  (hn:x ≠ "__name__") (hdb:(x==("__debug__" : Str))=false):JE X (.Call (.Name x p) (e :: es) [] pos) (tCB r t):=⟨xp hc hg hm hv ha.h hn hdb (a8 h1) (cF h2)⟩
theorem eR1 {tg a:Expr} {ta:TA} (hg:Gl X "range") (hm:X.mg "range" = none) (ha:JA X [a] ta) (h:PySem.W.isStarred a=false):JI X tg (.Call (.Name "range" p) [a] [] pos) (AW ta):=⟨wm hg hm ha.h (a8 h)⟩
theorem eIL {tg:Expr} (h:JE X e te):JI X tg e (yU X.K te):=⟨AQ h.h⟩
theorem eIT {tg:Expr} (h:JE X e te):JI X tg e (EW X.K te):=⟨BX h.h⟩
theorem eIS {y:Str} {py:Pos} (h:JE X e te):JI X (.Name y py) e (EK te):=⟨Co h.h⟩
theorem uo {v:V} {u:Value} (hg:Gl X x) (hm:X.mg x=some u) (r:RelV v u) (hd:(x==("__debug__" : Str))=false):JE X (.Name x pos) (tC v):=⟨A5 hg hm r hd⟩
theorem Ji {v:V} {u:Value} (hg:Gl X x) (hm:X.mg x=none) (hv:bootBuiltins x=some u) (r:RelV v u) (hn:x ≠ "__name__") (hd:(x==("__debug__" : Str))=false):JE X (.Name x pos) (tC v):=⟨AM hg hm hv r hn hd⟩
theorem eOp {op:Operator} {r:R2} (ho:OpR X (binaryOp op) r) (ha:JE X a ta) (hb:JE X b tb):JE X (.BinOp a op b pos) (tOp r ta tb):=⟨FA ho ha.h hb.h⟩
theorem eUn {op:UnaryOp} {r:V->Hp->VK->Prop} (ho:UnR X (unaryOp op) r) (ha:JE X a ta):JE X (.UnaryOp op a pos) (tUn r ta):=⟨GF ho ha.h⟩
theorem JP (ha:JE X a ta):JE X (.UnaryOp .Not a pos) (AS ta):=⟨CY ha.h⟩
theorem Ds {op} (h:JE X a te):JE X (.BoolOp op [a] pos) te:=⟨Cg h.h⟩
theorem Ae (ha:JE X a ta) (hb:JE X (.BoolOp .And (b :: rest) pos) tb):JE X (.BoolOp .And (a :: b :: rest) pos) (Ax ta tb):=⟨C1 ha.h hb.h⟩
theorem eIf (hc:JT X c tA) (ha:JE X a ta) (hb:JE X b tb):JE X (.IfExp c a b pos) (tIf tA ta tb):=⟨yA hc.h ha.h hb.h⟩
theorem zX {op:CmpOp} {r:R2} (ho:OpR X (compareOp op) r) (ha:JE X a ta) (hb:JE X b tb) (hm:behindInMarks op b=false):JE X (.Compare a [op] [b] pos) (tOp r ta tb):=⟨AU ho ha.h hb.h hm⟩
theorem gD {op:CmpOp} {r:R2} (ho:OpR X (compareOp op) r) (ha:JE X a ta) (hb:JE X b tb) (hm:behindInMarks op b=false):JT X (.Compare a [op] [b] pos) (ql (tOp r ta tb)):=⟨A0 ho ha.h hb.h hm⟩
theorem z9 {op op':CmpOp} {r r':R2} (ho:OpR X (compareOp op) r) (ho':OpR X (compareOp op') r') (ha:JE X a ta) (hb:JE X b tb) (hc:JE X c tc) (hm:lastMarks [op,op'] [b,c]=false):JE X (.Compare a [op,op'] [b,c] pos) (oA r r' ta tb tc):=⟨xW ho ho' ha.h hb.h hc.h hm⟩
theorem vj {op op':CmpOp} {r r':R2} (ho:OpR X (compareOp op) r) (ho':OpR X (compareOp op') r') (ha:JE X a ta) (hb:JE X b tb) (hc:JE X c tc) (hm:lastMarks [op,op'] [b,c]=false):JT X (.Compare a [op,op'] [b,c] pos) (ql (oA r r' ta tb tc)):=⟨yw ho ho' ha.h hb.h hc.h hm⟩
theorem Ik (h:JE X e te) (he:∀ whole,isTrue e X.env whole=(do let v<-whole;standAt e.pos;holding [v] (truthy v))):JT X e (tB te):=⟨DI h.h he⟩
theorem gR (ha:JT X a tA):JT X (.UnaryOp .Not a pos) (Fh tA):=⟨Dq ha.h⟩
theorem pW (ha:JT X a tA):JW X (.BoolOp .And [a] pos) tA:=⟨pw_and1 ha.h⟩
theorem pR (ha:JT X a tA):JW X (.BoolOp .Or [a] pos) tA:=⟨pw_or1 ha.h⟩
theorem xu (ha:JT X a tA) (hb:JW X (.BoolOp .And (b :: rest) pos) tB'):JW X (.BoolOp .And (a :: b :: rest) pos) (EM tA tB'):=⟨pw_and ha.h hb.h⟩
theorem wA (ha:JT X a tA) (hb:JW X (.BoolOp .Or (b :: rest) pos) tB'):JW X (.BoolOp .Or (a :: b :: rest) pos) (tOr tA tB'):=⟨pw_or ha.h hb.h⟩
theorem eW (h:JW X e tA):JT X e tA:=⟨PW.pt h.h⟩
theorem eQ {x1} (h:JA X es t):JE X (.Tuple es x1 pos) (Hg t):=⟨Cj h.h⟩
theorem iE (h:JA X es t):JE X (.List es pos) (Gf t):=⟨Et h.h⟩
theorem eIx {r:R2} (hr:IxR X r) (ha:JE X a ta) (hb:JE X b tb) (hs:qM b):JE X (.Subscript a b pos) (tOp r ta tb):=⟨FQ hr ha.h hb.h hs⟩
theorem AH:JO X none xm:=⟨Bc⟩
theorem eP (h:JE X e te):JO X (some e) (yT te):=⟨Az h.h⟩
theorem eSl {p2:Pos} {lo hi:Option Expr} {tl th:TO} {r:V->Option Int->Option Int->Hp->VK->Prop} (hr:SlR X r) (he:JE X e te) (hl:JO X lo tl) (hu:JO X hi th):JE X (.Subscript e (.Slice lo hi none p2) pos) (tSl r te tl th):=⟨xZ hr he.h hl.h hu.h⟩
theorem Fw {i:Nat} {pos':Pos} (he:JE X e te) (hN:X.N.Nodup) (hi:X.N[i]?=some x) (hx:Loc X.env.scope x) (hs:swapsWith e (some (.Name x pos')) pos.line X.env=pure false) (hf:X.fn x=true\/X.env.scope.names.lookup x=some .local) :
  JS X (.Assign [.Name x pos'] e pos) (uF te (eZ i)):=⟨EH hN hi hx he.h hs hf⟩
theorem A2 {tg:Expr} {g:TG} (he:JE X e te) (hg:JG X tg g) (hs:swapsWithSole [tg] e pos.line X.env=pure false) (hw:swappedStores [tg] e X.env=pure none) (h1:(assignEach [tg] X.env).map (·.2)=[assign tg X.env]):JS X (.Assign [tg] e pos) (uF te g):=⟨DW he.h hg.h hs hw h1⟩
theorem Jj {iter tg:Expr} {body:List Stmt} {wi:TI} {g:TG} {tb:TS} (hi:JI X tg iter wi) (hg:JG X tg g) (hb:JSs X body tb) (hp:PassesOwn (model X.prog X.w) X.A X.env X.xe) (hc:X.calm=true) (hs:∀ x,foldedSetIterable iter X.env x=pure x):JS X (.For tg iter body [] pos) (EA wi g tb):=⟨DX hp hc hi.h hg.h hb.h hs⟩
theorem rV {c:Expr} {body:List Stmt} {tc:TT} {tb:TS} (hc:JT X c tc) (hb:JSs X body tb) (hp:PassesOwn (model X.prog X.w) X.A X.env X.xe):JS X (.While c body [] pos) (tj tc tb):=⟨yb hp hc.h hb.h⟩
theorem bB {a b:List Stmt} {tc:TT} {t u:TS} (hc:JT X c tc) (ha:JSs X a t) (hb:JSs X b u):JS X (.If c a b pos) (EL tc t u):=⟨FY hc.h ha.h hb.h⟩
theorem aN (he:JE X e te):JS X (.Return (some e) pos) (BR te):=⟨CN he.h⟩
theorem eGN {i:Nat} (hN:X.N.Nodup) (hi:X.N[i]?=some x) (hx:Loc X.env.scope x) (hf:X.fn x=true\/X.env.scope.names.lookup x=some .local):JG X (.Name x pos) (eZ i):=⟨j7 hN hi hx hf⟩
theorem eY (he:JE X e te) (hs:swapsWith e none pos.line X.env=pure false):JS X (.Expr e pos) (Av te):=⟨Bd he.h hs⟩
theorem Ah {o i:Expr} {to ti:TE} {t:ET} (ho:JE X o to) (hi:JE X i ti) (hs:Hx X t) (ha:∀ v,assign (.Subscript o i pos) X.env v=(do
   let ov<-holding [v] (eval o X.env)
   let iv<-holding [v,ov] (eval i X.env)
   standAt pos
   holding [v,ov,iv] (setItem ov iv v)
   release [v,ov,iv] [])):JG X (.Subscript o i pos) (IM to ti t):=⟨Ez ho.h hi.h hs ha⟩
theorem bF:JSs X [] yV:=⟨A7⟩
theorem ax {s:Stmt} {t:TS} (h:JS X s t):JSs X [s] t:=⟨A9 h.h⟩
theorem ar {s:Stmt} {rest:List Stmt} {t u:TS} (h:JS X s t) (hr:JSs X rest u):JSs X (s :: rest) (z7 t u):=⟨yp h.h hr.h⟩
theorem Ht {elt iter:Expr} {px:Pos} {ifs:List Expr} {scope:Scope} {wi:TI} {tt:TT} {js:List Nat} (ys:List Str) (hi:JI X (.Name x px) iter wi) (ht:JTs X (x :: ys) scope ifs tt) (he:JC X (x :: ys) scope elt te)
  (hc:X.calm=true) (B:i4 X scope x) (nd:(x :: ys).Nodup) (cap:e7 X scope ys js) (hs:∀ x,foldedSetIterable iter X.env x=pure x):JE X (.ListComp elt [⟨.Name x px,iter,ifs,0⟩] scope pos) (tO js wi tt te):=⟨AO hc hi.h B nd cap ht.h he.h hs⟩
theorem GV {elt iter:Expr} {y:Str} {px py spos:Pos} {ifs:List Expr} {scope:Scope} {wi:TI} {tt:TT} {js:List Nat} {i:Nat} (ys:List Str) (hi:JI X (.Name x px) iter wi) (ht:JTs X (x :: ys) scope ifs tt) (he:JC X (x :: ys) scope elt te)
  (hN:X.N.Nodup) (hi':X.N[i]?=some y) (hy:X.env.scope.names.lookup y=some .local) (hsw:swapsWith (.ListComp elt [⟨.Name x px,iter,ifs,0⟩] scope pos) (some (.Name y py)) spos.line X.env=pure true)
  (hc:X.calm=true) (B:i4 X scope x) (nd:(x :: ys).Nodup) (cap:e7 X scope ys js) (hs:∀ x,foldedSetIterable iter X.env x=pure x):JS X (.Assign [.Name y py] (.ListComp elt [⟨.Name x px,iter,ifs,0⟩] scope pos) spos) (uF (tO js wi tt te) (eZ i)):=⟨BL hN hi' hy hsw hc hi.h B nd cap ht.h he.h hs⟩
theorem eC {N:List Str} {scope:Scope} (h:∀ C s3 H3 ex,JE (cxB X N scope C s3 H3 ex) e te):JC X N scope e te:=⟨fun C s3 H3 ex=>(h C s3 H3 ex).h⟩
theorem eT0 {N:List Str} {scope:Scope}:JTs X N scope [] HJ:=⟨fun _ _ _ _=>Bl⟩
theorem eT1 {N:List Str} {scope:Scope} (h:∀ C s3 H3 ex,JT (cxB X N scope C s3 H3 ex) e tA):JTs X N scope [e] tA:=⟨fun C s3 H3 ex=>AK (h C s3 H3 ex).h⟩
theorem eBM {apos cpos:Pos} {o:Expr} {name:Str} {to:TE} {r:V->List V->Hp->VK->Prop} (ho:JE X o to) (ha:JA X (e :: es) t) (hm:MtR X id r) (pa:PlainAttrs T) (slot:Slot T name id) (hty:typeOf (.builtin id)=pure (.type "method_descriptor"))
  (hbase:attributeBase o name X.env (eval o X.env)=eval o X.env)
  (hfew:((backTo cpos (starEach (e :: es) X.env)).all (fun x=>!x.1)&&(backToKw cpos (keywordEach [] X.env)).all (fun x=>x.1.isSome)
   && decide ((e :: es).length+([]:List Keyword).length+(if ([]:List Keyword).isEmpty then 0 else 1) < 30))=true)
  (hline:(apos.endLine==cpos.line)=true) (h1:PySem.W.isStarred e=false) (h2:es.all (fun e=>!PySem.W.isStarred e)=true):JE X (.Call (.Attribute o name apos) (e :: es) [] cpos) (tBM X.K T r to t):=⟨Hl pa slot hty hm ho.h ha.h hbase hfew hline (a8 h1) (cF h2)⟩
end
open PySem.Spec PyProof.Rows
noncomputable def tyN:PyData->String
 | .none => "NoneType" | .bool _ => "bool" | .int _ => "int" | .str _ => "str" | .list _ => "list" | .tuple _ => "tuple" | .dict _ => "dict"
noncomputable def isS:PyData->Bool | .str _=>true | _=>false
noncomputable def isI:PyData->Bool | .int _=>true | .bool _=>true | _=>false
noncomputable def isB:PyData->Bool | .bool _=>true | _=>false
noncomputable def isT:PyData->Bool | .tuple _=>true | _=>false
noncomputable def isL:PyData->Bool | .list _=>true | _=>false
section
variable {K:Fg}
theorem Hk (d:PyData):PySem.W.kitOne K (.type (tyN d)) (.type "str")=some (isS d):=by cases d <;> with_unfolding_all rfl
theorem FI (d:PyData):PySem.W.kitOne K (.type (tyN d)) (.type "int")=some (isI d):=by cases d <;> with_unfolding_all rfl
theorem Gs (d:PyData):PySem.W.kitOne K (.type (tyN d)) (.type "bool")=some (isB d):=by cases d <;> with_unfolding_all rfl
theorem FW (d:PyData):PySem.W.kitOne K (.type (tyN d)) (.type "tuple")=some (isT d):=by cases d <;> with_unfolding_all rfl
theorem Hu (d:PyData):PySem.W.kitOne K (.type (tyN d)) (.type "list")=some (isL d):=by cases d <;> with_unfolding_all rfl
variable {p:Addr} {H:Hp} {d:PyData} {v:V} {Q:VK}
end
noncomputable def FL (c:Nat):Bool:=decide (97<=c)&&decide (c<=122)
def Low (x:Str):Prop:=∀ c∈x.cps.toList,FL c=true
theorem wQ {b:Bool} {A B:Prop} (e:b=true) (h:A):if b=true then A else B:=by rw [Km e];exact h
theorem lH {b:Bool} {A B:Prop} (e:b=false) (h:B):if b=true then A else B:=by rw [Kr (by rw [e];exact Lq)];exact h
theorem gS {b:Bool} {A B:Prop} (h1:b=true->A) (h2:b=false->B):if b=true then A else B:=by
 cases b with
 | true=>rw [Km rfl];exact h1 rfl
 | false=>rw [Kr Lq];exact h2 rfl
section
variable {r r':R2} {x y:V} {H:Hp} {Q:VK}
theorem DG {K:Fg} {z:Str} (l:z.length<=sizeLine) (h:Q (.int z.length) H):DB K [.str z] H Q:=⟨_,_,rfl,⟨l,rfl⟩,h⟩
theorem Ce {K:Fg} {p:Addr} {xs:List V} (s:SqL K H p xs) (h:Q (.int xs.length) H):DB K [.ref p] H Q:=⟨_,_,rfl,.inl ⟨xs,s,rfl⟩,h⟩
theorem Du {K:Fg} {p:Addr} {xs:List V} (s:SqT K H p xs) (h:Q (.int xs.length) H):DB K [.ref p] H Q:=⟨_,_,rfl,.inr ⟨xs,s,rfl⟩,h⟩
theorem F3 {i:Int} (h:Q (.int (if i < 0 then -i else i)) H):GC [.int i] H Q:=⟨i,rfl,h⟩
end
theorem Fun.okJ {P:Program} {w:World} {K:Fg} {mg:Str->Option Value} {base:Heap} {x qual:Str} {st:Stmt} {f:Addr} {fd:FuncData} {N ps:List Str} {k:Nat} {sp:Sp} (F:Fun K x qual st f fd) (S:ai N ps (aa st)) (len:∀ vs H Q E,sp vs H Q E->vs.length=ps.length)
  (hbody:∀ (cdv:Value) (A:Around) (outer:List Env) (s:Shared) (H:Hp) (vs:List V) (Q:VK) (E:XK),eX k (A.deeper (envOfC qual (aa st) s.heap.objs.size f cdv))->sp vs H Q E ->
   ∃ t,JSs (yM CX0 P w K mg base N qual (aa st) f cdv A outer s H E).nox (aV st) t/\t { nx:=fun _ H'=>Q .non H',rt:=Q } (start N vs) H):aQ P w K mg base CX0 (k+1) f fd ps sp :=
 F.ok S len fun cdv A outer s H vs Q E hr h=>let ⟨t,j,q⟩:=hbody cdv A outer s H vs Q E hr h;⟨t,j.h,q⟩
theorem iS:∀ {ss:List Str} {us:List Value},Vals (ss.map V.str) us->StrsAre us ss
 | [],_,r=>by cases r;exact .nil
 | s :: ss,_,r=>by
  cases r with
  | cons r1 r2 =>
   obtain ⟨t,rfl⟩:=r1;exact .cons _ _ (iS r2)
section
variable {X:Cx}
def wa:V->List V->Hp->VK->Prop:=fun x vs H Q=>∃ z y:Str,x=.str z/\vs=[.str y]/\Q (.bl (decide (y.length<=z.length)&&Builtin.Str.subAt z y 0)) H
theorem pj:MtM X "str.startswith" wa:=by
 intro pins s σ H x vs v us Q I rx rv h;obtain ⟨z,y,rfl,rfl,q⟩:=h;obtain ⟨t,rfl⟩:=rx;obtain ⟨u,rfl,ru⟩:=rv.one;obtain ⟨t',rfl⟩:=ru;refine Lz F.slot_str_startswith (LJ _ _ _) F.entry_str_startswith (F.args_str_startswith_2 _ _) (gives_str_startswith z y t t').meets ?_;exact ⟨.bl _,H,I,by simp only [Nat.zero_add];rfl,q⟩
def Dp (K:Fg):List V->Hp->VK->Prop:=fun xs H Q=>∃ p ys,xs=[.ref p]/\(SqL K H p ys\/SqT K H p ys)/\∀ l,H l=none->Q (.ref l) (upd H l (.lst ys))
def zJ (K:Fg):List V->Hp->VK->Prop:=fun xs H Q=>∃ p ys,xs=[.ref p]/\((SqL K H p ys/\∀ l,H l=none->Q (.ref l) (upd H l (.tup ys)))\/(SqT K H p ys/\Q (.ref p) H))
def Dx:List V->Hp->VK->Prop:=fun xs H Q=>∃ i j,xs=[.int i,.int j]/\Q (.int (if j < i then j else i)) H
def IH:R2:=fun x y H Q=>y=.non/\Q (.bl (decide (x=.non))) H
theorem tw:aZ X (.type "list") (Dp X.K):=pG
theorem rn:aZ X (.type "tuple") (zJ X.K):=ni
theorem t7 (hc:X.calm=true):aZ X (.builtin "min") Dx:=v9 hc
theorem Bv:OpR X (compareOp .Is) IH:=CM
end
structure j6 (X:Cx) (scope:Scope) (xs:List Str):Prop where
 kind:scope.kind=.function
 cells:∀ y∈scope.names,y.2≠.cell
 locs:∀ y∈scope.names,y.2=.local->scope.names.lookup y.1=some .local
 free:∀ y∈scope.names,y.2=.free->X.env.scope.names.lookup y.1=some .cell
noncomputable def iN (xs:List Str):St:=xs.map fun _=>none
theorem uk {X:Cx} {pins:List (Addr×Obj)} {σ:St} {H:Hp} {s3:Shared} {h1:Heap} {tk:Nat} {scope:Scope} {xs ys:List Str} {js:List Nat} {ex:List Addr} (I:Inv X pins σ H s3) (hc:X.calm=true) (B:j6 X scope xs) (cap:e7 X scope ys js)
  (hns:h1.Ns s3.heap.objs.size (fun _=>none)) (hk:∀ b o,s3.heap.get? b=some o->h1.get? b=some o)
  (hex:∀ b∈ex,b ∉ frs X.stack/\b < s3.heap.objs.size/\(∀ y c,X.env.cells.lookup y=some c->c≠b)/\X.base.get? b=none) :
  Inv (cxB X (xs++ys) scope s3.heap.objs.size s3 H ex) [] (iN xs++bK js σ) H { s3 with heap:=h1,toks:=tk }:=by
 have hfree:∀ y∈scope.names,y.2=.free->∃ c,X.env.cells.lookup y.1=some c:=fun y hy hf=>I.ok.has y.1 (.inl (B.free y hy hf));have sub:=nL (env:=X.env) scope.names [] hfree (fun _ _ e=>by simp at e)
 refine ⟨⟨I.ok.mod,B.kind,I.ok.glob,I.ok.blt,Ke _,fun y z c h1 h2=>I.ok.inj y z c (sub _ _ h1) (sub _ _ h2),fun y hy=>?_,fun y c hf _=>?_,fun _=>I.ok.hd hc,I.ok.frames,.inl rfl,fun b hb=>?_,fun b o e=>I.bs b o e,Ks I.ok.bsz I.sz,fun b o e hb=>?_,fun b hb=>(hex b hb).1,I.stack,I.qQ⟩,
  rfl,I.bare,Un.kept hk,⟨_,hns,fun i y v e1 e2 e3=>?_⟩,fun y c e=>?_,I.hok.fresh (Ke _),fun y c e=>I.ll y c (sub _ _ e),fun p hp=>absurd (show p∈([]:List (Addr×Obj)) from hp) (by simp),I.hok.kept hk,?_⟩
 ·have hy:(relabel scope X.env).names.lookup y=some .cell\/(relabel scope X.env).names.lookup y=some .free:=hy;rcases hy with hy | hy
  ·rcases bt _ hy with q | ⟨_,q⟩
   ·exact absurd rfl (B.cells _ q)
   ·exact et _ _ q
  ·rcases bt _ hy with q | ⟨q,_⟩
   ·exact et _ _ q
   ·cases q
 ·exact absurd (show false=true from hf) (by simp)
 ·exact ⟨KP (hex b hb).2.1,fun y c e=>(hex b hb).2.2.1 y c (sub _ _ e)⟩
 ·have e':X.base.get? b=some o:=e;have:=(hex b hb).2.2.2;rw [e'] at this;cases this
 ·have hnl:(iN xs).length=xs.length:=by unfold iN;rw [J5]
  by_cases hi:i < xs.length
  ·rw [KO (by rw [hnl];exact hi)] at e2;unfold iN at e2;rw [Kt,J9 hi] at e2;cases e2
  ·have hi':xs.length<=i:=Nat.le_of_not_lt hi;have e1':ys[i - xs.length]?=some y:=by
    have e1:(xs++ys)[i]?=some y:=e1
    rwa [Kk hi'] at e1
   have e2':(bK js σ)[i - xs.length]?=some (some v):=by
    rwa [Kk (by rw [hnl];exact hi'),hnl] at e2
   obtain ⟨j,ej,en,ec,ef⟩:=cap.get e1';have e4:σ[j]?=some (some v):=by
    unfold bK at e2';rw [Kt,ej] at e2';simp only [L7,Option.some.injEq] at e2';cases q:σ[j]? with
    | none=>rw [q] at e2';cases e2'
    | some w=>rw [q] at e2';simp at e2';rw [e2']
   obtain ⟨m,hn,hl⟩:=I.loc;obtain ⟨u,r,l⟩:=hl j y v en e4 (.inr (.inl ec));refine ⟨u,r,.inr ?_⟩;rcases l with ⟨kl,_⟩ | ⟨kc,c,ecl,cell⟩
   ·have kl:X.env.scope.names.lookup y=some .local:=kl;rw [ec] at kl;cases kl
   ·have e3:(relabel scope X.env).names.lookup y=some .local\/(relabel scope X.env).names.lookup y=some .cell\/(relabel scope X.env).names.lookup y=some .free:=e3;refine ⟨?_,?_⟩
    ·rcases e3 with q | q | q
     ·rcases bt _ q with q | ⟨q,_⟩
      ·have:=B.locs _ q rfl;rw [ef] at this;cases this
      ·cases q
     ·exact .inl q
     ·exact .inr q
    ·have mem:(y,NameKind.free)∈scope.names:=Lx ef;obtain ⟨c',ec'⟩:=et (env:=X.env) scope.names [] mem;have:=sub _ _ ec';rw [ecl] at this;cases this;obtain ⟨o,ho,hd⟩:=cell;exact ⟨c,ec',o,hk _ _ ho,hd⟩
 ·obtain ⟨v,o,ho,hd⟩:=I.cell y c (sub _ _ e);exact ⟨v,o,hk _ _ ho,hd⟩
 ·show (iN xs++bK js σ).length=(xs++ys).length;rw [J6,J6,cap.len];unfold bK iN;rw [J5,J5]
def vF (n:List Str) (js:List Nat) (wi:TI) (g:TG) (te:TE):TE:=fun σ H Q=>wi σ H fun J H1=>∃ W:Nat->Nat->St->List V->Hp->Prop,(∃ m,W 0 m (iN n++bK js σ) [] H1)/\∀ i m σB acc H,W i m σB acc H ->
 (J.stop i H/\acc.length<=sizeLine/\∀ p,H p=none->Q (.ref p) (upd H p (.lst acc)))\/(J.go i H/\acc.length < sizeLine/\∀ x H',J.yld i H x H' ->
  g x σB H' fun σ2 H2=>te σ2 H2 fun y H3=>∃ m',m' < m/\W (i+1) m' σ2 (acc++[y]) H3)
theorem vp {X:Cx} {pins:List (Addr×Obj)} {σ:St} {H:Hp} {s2:Shared} {elt iter:Expr} {es:List Expr} {ek} {tp pos:Pos} {scope:Scope} {g:TG} {te:TE} {xs ys:List Str} {js:List Nat} {it:Addr} {fp:List Addr} {tn:Nat->Heap->Prop} {J:It}
    {Q:VK} {E:Value->Shared->Prop} {RR:Value->Addr->Result->Shared->Prop} (hc:X.calm=true) (B:j6 X scope xs) (cap:e7 X scope ys js)
    (hg:∀ C s3 H3 ex,PG (cxB X (xs++ys) scope C s3 H3 ex) (.Tuple es ek tp) g) (he:∀ C s3 H3 ex,PE (cxB X (xs++ys) scope C s3 H3 ex) elt te)
    (I:Inv X pins σ H s2) (T:Turn X.prog X.w X.K (.Tuple es ek tp) J fp it tn) (h0:tn 0 s2.heap) (hf:∀ b∈fp,vK X pins H b)
    (W:Nat->Nat->St->List V->Hp->Prop) (w0:∃ m,W 0 m (iN xs++bK js σ) [] H)
    (turn:∀ i m σB acc H,W i m σB acc H->(J.stop i H/\acc.length<=sizeLine/\∀ p,H p=none->Q (.ref p) (upd H p (.lst acc)))\/(J.go i H/\acc.length < sizeLine/\∀ x H',J.yld i H x H' ->
      g x σB H' fun σ2 H2=>te σ2 H2 fun y H3=>∃ m',m' < m/\W (i+1) m' σ2 (acc++[y]) H3))
    (hRR:∀ (D C:Addr) (H':Hp) (s':Shared) (m':Str->Option Value),s'.heap.Ns C m'->s2.heap.objs.size<=C->C≠D->H' C=none->Inv X pins σ H' s'->Q (.ref D) H'->RR (.ref D) C (.ok .next) s') :
    wpAny (model X.prog X.w) X.A (newList []) (fun acc s₃=>wpAny (model X.prog X.w) X.A (newFunctionEnv scope X.env.globals (oo X.env scope.names []) [] X.env.qual none .none (some X.env)) (fun cenv s₄ =>
      codeAny (model X.prog X.w) X.A (.compStart (.ListComp elt [⟨.Tuple es ek tp,iter,[],0⟩] scope pos) 0 (.ref it) acc { cenv with scope:=relabel scope X.env }) (RR acc cenv.locals) s₄) E s₃) E s2:=by
  refine LL (wpAny_newFunctionEnv B.cells (by intro y hy;simp at hy) (fun h1 hns hsb=>?_) B.kind);dsimp only at hns hsb ⊢;have hD:H s2.heap.objs.size=none:=I.hok.fresh (Ke _);generalize hH2:s2.heap.push { cls:=.type "list", dict:=none,data:=.seq ([]:List Value).toArray }=P2 at hns hsb ⊢;have hgetD:P2.get? s2.heap.objs.size=some { cls:=.type "list", dict:=none,data:=.seq ([]:List Value).toArray }:=by rw [<- hH2];exact Kx _ rfl
  have hold:∀ b o,s2.heap.get? b=some o->P2.get? b=some o:=fun b o e=>by rw [<- hH2];exact J7 _ e
  have hsz:P2.objs.size=s2.heap.objs.size+1:=by rw [<- hH2,Li]
  have I3:Inv X pins σ H { s2 with heap:=P2,toks:=s2.toks }:=I.kept hold;generalize hDe:s2.heap.objs.size=D at *;have keep1:∀ b o,P2.get? b=some o->h1.get? b=some o:=fun b o e=>hsb.extBut b o (KP (Kg e)) (J7 _ e);have hfp:∀ b∈fp,b < D:=fun b hb=>by
    obtain ⟨o,e,_⟩:=T.obj _ _ h0 b hb;rw [<- hDe];exact Kg e
  have hstk:∀ b,b≠X.env.locals->b ∉ X.fs->b ∉ frs X.stack:=fun b h1 h2 z=>(Kd.mp (I.sM b z)).elim h1 h2;have hDl:D≠X.env.locals:=fun z=>absurd I.lt (by rw [hDe,z];exact KG _);have hDfs:D ∉ X.fs:=I.Fo (by rw [hDe];exact Ke _);have hDc:∀ y c,X.env.cells.lookup y=some c->c≠D:=fun y c e z=>by
    obtain ⟨v,q⟩:=I.cell y c e;have:=q.lt;rw [z,hDe] at this;exact absurd this (KG _)
  have hex:∀ b∈D :: fp,b ∉ frs X.stack/\b < ({ s2 with heap:=P2,toks:=s2.toks }:Shared).heap.objs.size/\(∀ y c,X.env.cells.lookup y=some c->c≠b)/\X.base.get? b=none:=fun b hb=>by
    rcases Kd.mp hb with rfl | hb
    · refine ⟨hstk _ hDl hDfs,by show _ < P2.objs.size;rw [hsz];exact Ln _,hDc,?_⟩;cases q:X.base.get? b with
      | none=>rfl
      | some o =>
        have:=Kg (I.bk b o q);rw [hDe] at this;exact absurd this (KG _)
    · obtain ⟨f0,f1,f2,f3,f4,f5⟩:=hf b hb;refine ⟨hstk _ f1 f2,by show _ < P2.objs.size;rw [hsz];exact Nat.lt_succ_of_lt (hfp b hb),f4,?_⟩;cases q:X.base.get? b with
      | none=>rfl
      | some o =>
        rcases f3 with z | z
        · exact absurd z (I.ok.BS b o q)
        · exact absurd (Kh (Kg q) (Ks I.ok.bsz z)) (KG _)
  have IB:=uk (tk:=s2.toks) (ex:=D :: fp) I3 hc B cap (h1:=h1) hns keep1 hex;have hCD:P2.objs.size≠D:=by rw [hsz];exact Nat.succ_ne_self _
  have start:codeAny (model X.prog X.w) X.A (.compLoop (.ListComp elt [⟨.Tuple es ek tp,iter,[],0⟩] scope pos) 0 (.ref it) (.ref D) (compEnvC scope (oo X.env scope.names []) P2.objs.size X.env)) (RR (.ref D) P2.objs.size) { s2 with heap:=h1,toks:=s2.toks }:=by
    obtain ⟨m0,w0⟩:=w0;refine LCp.codeAny_compLoop_pair (fun n s=>∃ i σB H' acc its k,Inv (cxB X (xs++ys) scope P2.objs.size { s2 with heap:=P2,toks:=s2.toks } H (D :: fp)) [] σB H' s/\tn i s.heap/\(∀ b∈D :: fp,H' b=none)/\s.heap.get? D=some { cls:=.type "list", data:=.seq its k }/\Vals acc its.toList/\acc.length<=sizeLine/\W i n σB acc H') ?_ m0 ?_
    · rintro n s ⟨i,σB,H3,acc,its,k,I4,t4,fr4,g4,va,hl4,w4⟩;have hDm:D∈D :: fp:=Ki;have exf:=I4.ok.exf;have fsub:∀ b∈D :: fp,b ∉ (cxB X (xs++ys) scope P2.objs.size { s2 with heap:=P2,toks:=s2.toks } H (D :: fp)).fs:=fun b hb=>(hex b hb).1;have stat:∀ {H':Hp} {ob:Obj},(∀ b∈fp,H' b=none)->∀ b∈fp,vK (cxB X (xs++ys) scope P2.objs.size { s2 with heap:=P2,toks:=s2.toks } H (D :: fp)) [(D,ob)] H' b:=fun {H' ob} hn b hb =>
        ⟨hn b hb,(exf b (Kb _ hb)).1,fsub b (Kb _ hb),.inl (Kb _ hb),(exf b (Kb _ hb)).2,fun p hp z=>by
          have hp':p∈[(D,ob)]:=hp;have e:=Kc.mp hp';rw [e] at z
          exact absurd (hfp b hb) (by rw [<- show D=b from z];exact KG _)⟩
      have frp:∀ b∈fp,H3 b=none:=fun b hb=>fr4 b (Kb _ hb);have I5:Inv (cxB X (xs++ys) scope P2.objs.size { s2 with heap:=P2,toks:=s2.toks } H (D :: fp)) [(D,{ cls:=.type "list", data:=.seq its k })] σB H3 s:=I4.fy fun p hp=>by
        rw [Kc.mp hp];exact ⟨g4,fr4 D hDm,(exf D hDm).1,fsub D hDm,fun v z=>nomatch z⟩
      rcases turn i n σB acc H3 w4 with ⟨stop,hacc,q⟩ | ⟨go,hacc,step⟩
      · refine K5 (T.done (cxB X (xs++ys) scope P2.objs.size { s2 with heap:=P2,toks:=s2.toks } H (D :: fp)) rfl rfl rfl rfl i _ s _ H3 (fun _ _=>False) I5 (stat frp) t4 stop) (fun r s1 ⟨hr,I6⟩=>?_) (fun _ _ z=>z.elim);subst hr;obtain ⟨m',hn',_⟩:=id I6.loc;have pD:=(I6.pin (D,{ cls:=.type "list", data:=.seq its k }) (Kp _ (Kc.mpr rfl))).1;have nD:H3 D=none:=fr4 D hDm;have u:=I6.base;have uu:Un (frs X.stack) (D :: fp) H (upd H3 D (.lst acc)) P2 s1.heap :=
          ⟨u.keep,u.slot,fun b o q n hx=>by rw [au fun z=>hx (by rw [z];exact hDm)];exact u.free b o q n hx,u.there,
           fun b xs q=>by rw [au (aD (u.uI b xs q) nD)];exact u.uI b xs q,fun b o v q=>by rw [au (aD (u.tV b o v q) nD)];exact u.tV b o v q,
           fun b ps q=>by
            obtain ⟨more,z⟩:=u.xG b ps q
            exact ⟨more,by rw [au (aD z nD)];exact z⟩⟩
        have hok:HOk X.prog X.w (upd H3 D (.lst acc)) s1.heap:=fun b o e=>by
          by_cases hb:b=D
          · subst hb;rw [aH] at e;cases e;exact ⟨hacc,its.toList,k,va,by rw [Array.toArray_toList];exact pD⟩
          · rw [au hb] at e;exact (I6.hok b o e).mH (fun c v _ q=>q) (fun c q=>by rw [au (aD q nD)];exact q) fun c xs q=>by rw [au (aD q nD)];exact q
        have fin:=I3.call (g':=s1.gens) (t':=s1.toks) (d':=s1.drawn) uu hok I6.bare (fun b hb=>by
          rcases Kd.mp hb with z | hb
          · rw [z];refine ⟨.inr (by rw [<- hDe];exact I.sz),hDl,hDc,fun p hp z=>?_⟩;have:=Kg (I.pin p hp).1;rw [z,hDe] at this;exact KG _ this
          · exact ⟨(hf b hb).2.2.2.1,(hf b hb).2.1,(hf b hb).2.2.2.2.1,(hf b hb).2.2.2.2.2⟩)
        have es':({ heap:=s1.heap,gens:=s1.gens,drawn:=s1.drawn,toks:=s1.toks,os:=s2.os }:Shared)=s1:=by
          have:=I6.os;obtain ⟨a1,a2,a3,a4,a5⟩:=s1;have e5:a5=s2.os:=this;rw [e5]
        have fin':Inv X pins σ (upd H3 D (.lst acc)) s1:=es'▸fin;exact hRR D P2.objs.size (upd H3 D (.lst acc)) s1 m' hn' (by rw [hsz];exact Nat.le_succ _) hCD (by rw [au hCD];exact I6.free) fin' (q D nD)
      · refine K5 (T.item (cxB X (xs++ys) scope P2.objs.size { s2 with heap:=P2,toks:=s2.toks } H (D :: fp)) rfl rfl rfl rfl i _ s _ H3 (fun _ _=>False) I5 (stat frp) t4 go) (fun r s1 ⟨u,hr,h4⟩=>?_) (fun _ _ z=>z.elim);subst hr;refine K5 h4 (fun _ s1' ⟨x',H5,I6,r6,y6,t6,fr6⟩=>?_) (fun _ _ z=>z.elim);have I7:=I6.pinned (stat fr6) (T.obj _ _ t6);refine K5 (hg _ _ _ _ _ s1' _ H5 x' u _ I7 r6 (step x' H5 y6)) (fun _ s2' ⟨σ6,H6,I8,q8⟩=>?_) (fun _ _ z=>z.elim);have pinsKeep:∀ {σ':St} {H':Hp} {s':Shared},Inv (cxB X (xs++ys) scope P2.objs.size { s2 with heap:=P2,toks:=s2.toks } H (D :: fp)) ([(D,{ cls:=.type "list", data:=.seq its k })]++lX fp s1'.heap) σ' H' s' ->
            s'.heap.get? D=some { cls:=.type "list", data:=.seq its k }/\(∀ b∈D :: fp,H' b=none)/\∀ b∈fp,∀ o,s1'.heap.get? b=some o->s'.heap.get? b=some o:=fun {σ' H' s'} J=>by
          have pd:=J.pin (D,{ cls:=.type "list", data:=.seq its k }) (Kp _ (Lv _ (Kc.mpr rfl)));refine ⟨pd.1,fun b hb=>?_,fun b hb o e=>(J.pin (b,o) (Kp _ (Kp _ (cA hb e)))).1⟩;rcases Kd.mp hb with rfl | hb
          · exact pd.2.1
          · obtain ⟨o,e,_⟩:=T.obj _ _ t6 b hb;exact (J.pin (b,o) (Kp _ (Kp _ (cA hb e)))).2.1
        refine K5 (he _ _ _ _ _ s2' _ _ _ I8 q8) (fun y s4' ⟨yv,H8,I10,ry,m',hm,w10⟩=>?_) (fun _ _ z=>z.elim);obtain ⟨p1,p2,p3⟩:=pinsKeep I10;have hsize:its.size=acc.length:=by rw [va.length];simp
        have I11:=I10.fy (pins':=[]) (fun p hp=>absurd hp (by simp));refine wpAny_list_append_plain ⟨k,p1⟩ (fun h' hpl hsame=>?_) (by rw [hsize];exact Nat.le_of_lt hacc);obtain ⟨k',e'⟩:=hpl;have neD:∀ {b:Addr} {o:HO},H8 b=some o->b≠D:=fun e z=>by rw [z,p2 D hDm] at e;cases e
        refine ⟨m',hm,i+1,σ6,H8,acc++[yv],its.push y,k',?_,?_,p2,e',?_,?_,w10⟩
        · refine I11.step (g':=s4'.gens) (t':=s4'.toks) (d':=s4'.drawn) (ch:=[D]) (fun b hb=>?_) (fun b o _ _ hc' e _=>?_) (fun b o _ _ hc' e _=>⟨o.slots,?_⟩) (fun b o hc' e n=>n) (fun b o hc' e=>⟨o,?_⟩) (fun _ _ z=>z) (fun _ _ _ z=>z) (fun b ps z=>⟨#[],by rw [z];simp⟩) (fun m hn=>hn.sameBut hsame (Ne.symm (exf D hDm).1)) (fun b o e=>?_) I11.bare
          · rw [Kc.mp hb];exact ⟨.inl hDm,(exf D hDm).1,(exf D hDm).2,fun p hp=>absurd (show p∈([]:List (Addr×Obj)) from hp) (by simp)⟩
          · exact (hsame.2 b fun z=>hc' (Kc.mpr z)).trans e
          · exact (hsame.2 b fun z=>hc' (Kc.mpr z)).trans e
          · exact (hsame.2 b fun z=>hc' (Kc.mpr z)).trans e
          · refine (I11.hok b o e).mH (fun c v hc' q=>(hsame.2 c ?_).trans q) (fun _ q=>q) fun _ _ q=>q;rcases hc' with z | z
            · rw [z];exact neD e
            · exact neD z
        · refine T.keep _ _ _ t6 fun b hb o e=>(hsame.2 b ?_).trans (p3 b hb o e);exact KP (hfp b hb)
        · rw [Array.toList_push];exact va.append (.cons ry .nil)
        · rw [J6,L8];exact hacc
    · refine ⟨0,iN xs++bK js σ,H,[],#[],_,IB,T.keep _ _ _ h0 (fun b hb o e=>keep1 b o (hold b o e)),fun b hb=>?_,keep1 _ _ hgetD,.nil,Lu _,w0⟩;rcases Kd.mp hb with rfl | hb
      · exact hD
      · exact (hf b hb).1
  exact codeAny_compStart_list start (T.self _ 0 _ _ _ (T.keep _ _ _ h0 (fun b hb o e=>keep1 b o (hold b o e))) start)
theorem yK {X:Cx} {elt iter:Expr} {es:List Expr} {ek} {tp pos:Pos} {scope:Scope} {wi:TI} {g:TG} {te:TE} {xs ys:List Str} {js:List Nat} (hc:X.calm=true) (hi:PI X (.Tuple es ek tp) iter wi) (B:j6 X scope xs) (cap:e7 X scope ys js)
  (hg:∀ C s3 H3 ex,PG (cxB X (xs++ys) scope C s3 H3 ex) (.Tuple es ek tp) g) (he:∀ C s3 H3 ex,PE (cxB X (xs++ys) scope C s3 H3 ex) elt te) (hs:∀ x,foldedSetIterable iter X.env x=pure x) :
  PE X (.ListComp elt [⟨.Tuple es ek tp,iter,[],0⟩] scope pos) (vF xs js wi g te):=by
 intro pins s σ H Q I h;have hcl:=iO (scope:=scope) (env:=X.env) fun y hy hf=>I.ok.has y.1 (.inl (B.free y hy hf));rw [eval_ListComp];refine wpAny_comprehension_free (use:=none) rfl hs hcl B.kind B.locs (K5 (hi pins s σ H _ I h) (fun xv s1 h1=>K5 h1 (fun itv s2 h2=>?_) fun _ _ e=>e) fun _ _ e=>e);obtain ⟨it,fp,tn,J,H2,e,I2,T,st2,f2,W,w0,turn⟩:=h2;subst e;refine vp (RR:=fun acc C=>compPost (model X.prog X.w) X.A X.xe none (EP X pins σ Q) acc C) hc B cap hg he I2 T st2 f2 W w0 turn ?_;intro D C H' s' m' hn hC hCD hCn I' q;refine ⟨m',hn,fun h' hs'=>⟨.ref D,H',?_,rfl,q⟩⟩;have hL:X.env.locals≠C:=KP (Kh I2.lt hC);have neC:∀ {b:Addr} {o:HO},H' b=some o->b≠C:=fun e z=>by rw [z,hCn] at e;cases e
 refine I'.step (g':=s'.gens) (t':=s'.toks) (d':=s'.drawn) (ch:=[C]) (fun b hb=>?_) (fun b o _ _ hc' e _=>?_) (fun b o _ _ hc' e _=>⟨o.slots,?_⟩) (fun b o hc' e n=>n) (fun b o hc' e=>⟨o,?_⟩) (fun _ _ z=>z) (fun _ _ _ z=>z) (fun b ps z=>⟨#[],by rw [z];simp⟩) (fun m hn=>hn.sameBut hs' hL) (fun b o e=>?_) I'.bare
 ·rw [Kc.mp hb];refine ⟨.inr (Ks I2.sz hC),Ne.symm hL,fun y c e z=>?_,fun p hp z=>?_⟩
  ·obtain ⟨v,q⟩:=I2.cell y c e;have:=q.lt;rw [z] at this;exact absurd (Kh this hC) (KG _)
  ·have:=Kg (I2.pin p hp).1;rw [z] at this;exact absurd (Kh this hC) (KG _)
 ·exact (hs'.2 b fun z=>hc' (Kc.mpr z)).trans e
 ·exact (hs'.2 b fun z=>hc' (Kc.mpr z)).trans e
 ·exact (hs'.2 b fun z=>hc' (Kc.mpr z)).trans e
 ·refine (I'.hok b o e).mH (fun c v hc' q=>(hs'.2 c ?_).trans q) (fun _ q=>q) fun _ _ q=>q;rcases hc' with z | z
  ·rw [z];exact neC e
  ·exact neC z
structure JGs (X:Cx) (N:List Str) (scope:Scope) (es:List Expr) (t:TGs):Prop where
 h:∀ C s3 H3 ex,PGs (cxB X N scope C s3 H3 ex) es t
theorem Gn {X:Cx} {N:List Str} {scope:Scope}:JGs X N scope [] EZ:=⟨fun _ _ _ _=>uY⟩
theorem BQ {X:Cx} {N:List Str} {scope:Scope} {es:List Expr} {u:TGs} {i:Nat} {x:Str} {px:Pos} (nd:N.Nodup) (hi:N[i]?=some x) (hv:scope.names.lookup x=some .local) (h:JGs X N scope es u):JGs X N scope (.Name x px :: es) (xS (eZ i) u) :=
 ⟨fun C s3 H3 ex=>sx (j7 nd hi (.inl (lookup_relabel_local hv)) (.inr (lookup_relabel_local hv))) (h.h C s3 H3 ex) rfl⟩
theorem wt {X:Cx} {elt iter:Expr} {es:List Expr} {ek} {tp pos:Pos} {scope:Scope} {wi:TI} {u:TGs} {te:TE} {js:List Nat} {n:Nat} (xs ys:List Str) (hi:JI X (.Tuple es ek tp) iter wi) (hg:JGs X (xs++ys) scope es u) (he:JC X (xs++ys) scope elt te) (hc:X.calm=true) (B:j6 X scope xs) (cap:e7 X scope ys js)
  (hn:∀ env,(assignEach es env).length=n) (hst:∀ env,(assignEach es env).findIdx? (·.1)=none) (hs:∀ x,foldedSetIterable iter X.env x=pure x) :
  JE X (.ListComp elt [⟨.Tuple es ek tp,iter,[],0⟩] scope pos) (vF xs js wi (EN X.K n u) te) :=
 ⟨yK hc hi.h B cap (fun C s3 H3 ex=>zx rfl (hg.h C s3 H3 ex) (hn _) (hst _)) he.h hs⟩
noncomputable def pT (sc scope:Scope):Bool :=
 (scope.kind==.function)&&scope.names.all (fun y=>y.2 != .cell)&&scope.names.all (fun y=>y.2 != .local||scope.names.lookup y.1==some .local)&&scope.names.all (fun y=>y.2 != .free||sc.names.lookup y.1==some .cell)
theorem He {X:Cx} {sc scope:Scope} {xs:List Str} (e:X.env.scope=sc) (h:pT sc scope=true):j6 X scope xs:=by
 unfold pT at h;simp only [KC,Lg,LB,bne_iff_ne,LF,ne_eq] at h;obtain ⟨⟨⟨h1,h2⟩,h3⟩,h5⟩:=h;exact ⟨h1,fun y hy=>h2 y hy,fun y hy e=>(h3 y hy).resolve_left fun z=>z e,fun y hy e'=>by rw [e];exact (h5 y hy).resolve_left fun z=>z e'⟩
def Iy (K:Fg) (te:TE):TT:=fun σ H Q=>te σ H fun x H'=>∃ k,Fl K x H' k/\Q k H'
theorem Ig {X:Cx} {e:Expr} {te:TE} (h:JE X e te) (he:∀ whole,isTrue e X.env whole=(do let v<-whole;standAt e.pos;holding [v] (truthy v))):JT X e (Iy X.K te):=⟨zd h.h he⟩
structure JGl (X:Cx) (es:List Expr) (t:TGs):Prop where
 h:PGs X es t
section
variable {X:Cx} {es:List Expr} {t:TGs} {pos:Pos} {x:Str} {i:Nat}
theorem Jr:JGl X [] EZ:=⟨uY⟩
theorem Io (hN:X.N.Nodup) (hi:X.N[i]?=some x) (hx:Loc X.env.scope x) (hf:X.fn x=true\/X.env.scope.names.lookup x=some .local) (h:JGl X es t):JGl X (.Name x pos :: es) (xS (eZ i) t):=⟨sx (j7 hN hi hx hf) h.h rfl⟩
theorem eGT {n:Nat} {k} (hc:X.calm=true) (h:JGl X es t) (hn:(assignEach es X.env).length=n) (hst:(assignEach es X.env).findIdx? (·.1)=none):JG X (.Tuple es k pos) (EN X.K n t):=⟨zx hc h.h hn hst⟩
end
section
variable {X:Cx}
def EJ:List V->Hp->VK->Prop:=fun xs H Q=>(∃ i:Int,xs=[.int i]/\i.natAbs.log2 < 1920/\Q (.str (toString i)) H)\/(xs=[.non]/\Q (.str "None") H)\/∃ x,xs=[.str x]/\Q (.str x) H
theorem vq:aZ X (.type "str") EJ:=by
 intro pins s σ H xs us Q I r h;rcases h with ⟨i,rfl,hz,q⟩ | ⟨rfl,q⟩ | ⟨x,rfl,q⟩
 ·obtain ⟨u,rfl,t,rfl⟩:=vals1 r;exact PySem.P.str_of_int hz ⟨.str _,H,I.tok _,⟨_,rfl⟩,q⟩
 ·obtain ⟨u,rfl,r1⟩:=vals1 r;cases r1;exact PySem.P.str_of_none ⟨.str _,H,I.tok _,⟨_,rfl⟩,q⟩
 ·obtain ⟨u,rfl,t,rfl⟩:=vals1 r;exact PySem.P.str_of_str ⟨.str _,H,I,⟨_,rfl⟩,q⟩
def tFv (te:TE):TE:=fun σ H Q=>te σ H fun x H1=>∃ y,x=.str y/\y.length<=sizeLine/\Q (.str y) H1
def tFs:List TE->Str->TE
 | [],out=>fun _ H Q=>out.length<=sizeLine/\Q (.str out) H
 | t :: ts,out=>fun σ H Q=>t σ H fun x H1=>∃ y,x=.str y/\(out++y).length<=sizeLine/\tFs ts (out++y) σ H1 Q
def PFs (X:Cx) (vs:List Expr) (ts:List TE):Prop :=
 ∀ (pins:List (Addr×Obj)) (s:Shared) (σ:St) (H:Hp) (Q:VK) (out:Str),Inv X pins σ H s->tFs ts out σ H Q->wpAny (model X.prog X.w) X.A (joinParts out (evalEach vs X.env)) (EP X pins σ Q) X.xe s
theorem BH:PFs X [] []:=by
 intro pins s σ H Q out I h;exact joinParts_nil ⟨.str out,H,I.tok _,⟨_,rfl⟩,h.2⟩ h.1
theorem y7 {v:Expr} {vs:List Expr} {t:TE} {ts:List TE} (hv:PE X v t) (hr:PFs X vs ts):PFs X (v :: vs) (t :: ts):=by
 intro pins s σ H Q out I h;show wpAny _ _ (joinParts out (eval v X.env :: evalEach vs X.env)) _ _ s;refine joinParts_cons (thn (hv pins s σ H _ I h) fun u s1 ⟨x,H1,I1,r1,y,ex,hz,q⟩=>?_);subst ex;obtain ⟨t',rfl⟩:=r1;exact ⟨hz,hr pins s1 σ H1 Q _ I1 q⟩
theorem F8 {e:Expr} {te:TE} {pos:Pos} (he:PE X e te):PE X (.FormattedValue e (-1) none pos) (tFv te):=by
 intro pins s σ H Q I h;refine FormattedValue_plain (thn (he pins s σ H _ I h) fun u s1 ⟨x,H1,I1,r1,y,ex,hz,q⟩=>?_);subst ex;obtain ⟨t',rfl⟩:=r1;exact formatField_str (fun t2 tk=>⟨.str y,H1,I1.tok _,⟨_,rfl⟩,q⟩) hz
theorem Gy {v1 v2:Expr} {rest:List Expr} {pos:Pos} {ts:List TE} (h:PFs X (v1 :: v2 :: rest) ts):PE X (.JoinedStr (v1 :: v2 :: rest) pos) (tFs ts Str.empty):=by
 intro pins s σ H Q I hw;exact JoinedStr_many (h pins s σ H Q Str.empty I hw)
end
structure JF (X:Cx) (vs:List Expr) (ts:List TE):Prop where
 h:PFs X vs ts
section
variable {X:Cx}
theorem eF0:JF X [] []:=⟨BH⟩
theorem eFc {v:Expr} {vs:List Expr} {t:TE} {ts:List TE} (hv:JE X v t) (hr:JF X vs ts):JF X (v :: vs) (t :: ts):=⟨y7 hv.h hr.h⟩
theorem eFv {e:Expr} {te:TE} {pos:Pos} (he:JE X e te):JE X (.FormattedValue e (-1) none pos) (tFv te):=⟨F8 he.h⟩
theorem eFs {v1 v2:Expr} {rest:List Expr} {pos:Pos} {ts:List TE} (h:JF X (v1 :: v2 :: rest) ts):JE X (.JoinedStr (v1 :: v2 :: rest) pos) (tFs ts Str.empty):=⟨Gy h.h⟩
end
def z6 (K:Fg):V->List V->Hp->VK->Prop:=fun x vs H Q=>∃ (z:Str) (a:Addr) (ss:List Str),x=.str z/\vs=[.ref a]/\(SqL K H a (ss.map V.str)\/SqT K H a (ss.map V.str))/\(ss.map (·.length)).sum+ss.length*z.length<=16777216/\Q (.str (Txt.join z ss)) H
theorem bx {X:Cx}:MtM X "str.join" (z6 X.K):=by
 intro pins s σ H x vs v us Q I rx rv h;obtain ⟨z,a,ss,rfl,rfl,hq,hok,q⟩:=h;obtain ⟨t,rfl⟩:=rx;obtain ⟨u,rfl,ru⟩:=rv.one;cases (show u=Value.ref a from ru);rcases hq with hq | hq
 ·obtain ⟨its,r,p,hz⟩:=I.list hq;exact join_list p.isList (by simpa using iS r) hok fun t' k=>⟨.str _,H,I.tok k,⟨t',rfl⟩,q⟩
 ·obtain ⟨its,r,p,hz⟩:=I.tuple hq;exact join_tuple p (by simpa using iS r) hok fun t' k=>⟨.str _,H,I.tok k,⟨t',rfl⟩,q⟩
section
variable {X:Cx}
def C4 (K:Fg):R2:=fun x y H Q=>∃ l b xs zs,x=.ref l/\y=.ref b/\SqL K H l xs/\SqL K H b zs/\xs.length+zs.length<=sizeLine/\∀ p,H p=none->Q (.ref p) (upd H p (.lst (xs++zs)))
theorem BJ:OpR X (binaryOp .Add) (C4 X.K):=by
 intro pins s σ H x y v u Q I rx ry h;obtain ⟨l,b,xs,zs,rfl,rfl,hH,hB,hz,q⟩:=h;cases rx;cases ry;obtain ⟨its,r,p,_⟩:=I.list hH;obtain ⟨its2,r2,p2,_⟩:=I.list hB;obtain ⟨⟨cls,dd,data,sl⟩,n,ho,hc,hd0,hd⟩:=p;obtain ⟨⟨cls2,dd2,data2,sl2⟩,n2,ho2,hc2,hd02,hd2⟩:=p2;simp only at hc hd hc2 hd2;subst hc hd hc2 hd2;have e:its.toArray++its2.toArray=(its++its2).toArray:=by simp
 refine concat_meets ⟨_,ho,rfl⟩ ⟨_,ho2,rfl⟩ noFill_list_add seq_list_add PySem.F.slot_list_add PySem.F.entry_list_add (PySem.F.args_list_add_2 _ _) (list_addW l b its.toArray its2.toArray n n2 dd dd2 sl sl2 (by rw [Ko,Ko,<-r.length,<-r2.length];exact hz)) ⟨ho,ho2,?_⟩;rw [e];exact ⟨.ref _,_,I.Jd (t':=s.toks) (r.append r2) (by rw [J6];omega),rfl,q _ I.fresh⟩
end
mutual
noncomputable def hkB:PyData->Bool
 | .int _=>true
 | .str _=>true
 | .tuple ds=>Ip ds
 | _=>false
noncomputable def Ip:List PyData->Bool
 | []=>true
 | d :: ds=>hkB d&&Ip ds
end
noncomputable def hk6 (d:PyData):Bool:=hkB d&&decide (d.depth<=6)
open PySem PySem.Spec PyProof.Rows
noncomputable def kD:Key->PyData | .inl i=>.int i | .inr x=>.str x
noncomputable def GS (xs:List (PyData×V×V)) (k:PyData):Option V:=(xs.find? fun x=>PyData.eqv x.1 k).map (·.2.2)
open PySem PySem.Spec PyProof.Rows
section
variable {prog:Program} {w:World} {A:Around} {E:Value->Shared->Prop} {s:Shared}
theorem lN {it t:Addr} {i n:Nat} {items:Array Value} {x:Value} {od pd:Option Addr} {os ps:Array (Option Value)} (h3:items[i]?=some x):Meets (Builtin.«tuple_iterator.__next__» ⟨[.ref it],[]⟩) fun _ R s=>s.heap.get? it=some ⟨.type "tuple_iterator", od,.fields #[.ref t,.int i 0],os⟩/\s.heap.get? t=some ⟨.type "tuple", pd,.seq items n,ps⟩/\∀ h':Heap,h'.IsTupleIter it t (i+1)->Heap.SameBut it s.heap h'->R (.ok (.ret x)) { s with heap:=h' } :=
 .of_wp fun prog w A R s h=>by
  obtain ⟨hp,g,d,tk,os⟩:=s;obtain ⟨h1,h2,h⟩:=h
  wp_walk
  simp only [Int.toNat_natCast,h3]
  wp_walk
  exact ⟨_,rfl,h _ ⟨_,Le _ h1 rfl,rfl,rfl⟩ (K4 _ _ _)⟩
theorem nR {it t:Addr} {i n:Nat} {items:Array Value} {od pd:Option Addr} {os ps:Array (Option Value)} (h3:items[i]?=none):Meets (Builtin.«tuple_iterator.__next__» ⟨[.ref it],[]⟩) fun A R s=>A.handled=none/\s.heap.get? it=some ⟨.type "tuple_iterator", od,.fields #[.ref t,.int i 0],os⟩/\s.heap.get? t=some ⟨.type "tuple", pd,.seq items n,ps⟩/\∀ (h':Heap) (e:Addr),Heap.ExtBut it s.heap h'->(∃ o,h'.get? e=some o/\o.cls=.type "StopIteration")->R (.error (.ref e)) { s with heap:=h' } :=
 .of_wp fun prog w A R s h=>by
  obtain ⟨hp,g,d,tk,os⟩:=s;obtain ⟨h0,h1,h2,h⟩:=h
  wp_walk
  simp only [Int.toNat_natCast,h3]
  wp_walk
  exact wpAny_raiseNew_none h0 (h _ _ (((K4 _ _ _).extBut.push _).push _) ⟨_,Kx _ rfl,rfl⟩)
theorem fE {it t:Addr} {i:Nat} {items:Array Value} {x:Value} {Q:Value->Shared->Prop} (h1:s.heap.IsTupleIter it t i) (h2:s.heap.IsTuple t items) (h3:items[i]?=some x)
  (hq:∀ h':Heap,h'.IsTupleIter it t (i+1)->Heap.SameBut it s.heap h'->Q x { s with heap:=h' }):wpAny (model prog w) A (Builtin.SmallTypes.nextOf (.ref it)) Q E s:=by
 unfold Builtin.SmallTypes.nextOf;refine Kv (LK h1.typeIs LX ?_);have ht:=h1.typeIs;obtain ⟨⟨_,od,_,osl⟩,ho,rfl,rfl⟩:=h1;obtain ⟨⟨_,pd,_,psl⟩,hpp,rfl,⟨n,rfl⟩⟩:=h2;refine Lz LX ht F.entry_tuple_iterator_next (F.args_tuple_iterator_next_1 _) (lN h3) ⟨ho,hpp,fun h' a b=>?_⟩;exact KI (hq h' a b)
theorem lK {it t:Addr} {i:Nat} {items:Array Value} {Q:Value->Shared->Prop} (h0:A.handled=none) (h1:s.heap.IsTupleIter it t i) (h2:s.heap.IsTuple t items) (h3:items[i]?=none)
  (hq:∀ (h':Heap) (e:Addr),Heap.ExtBut it s.heap h'->(∃ o,h'.get? e=some o/\o.cls=.type "StopIteration")->E (.ref e) { s with heap:=h' }):wpAny (model prog w) A (Builtin.SmallTypes.nextOf (.ref it)) Q E s:=by
 unfold Builtin.SmallTypes.nextOf;refine Kv (LK h1.typeIs LX ?_);have ht:=h1.typeIs;obtain ⟨⟨_,od,_,osl⟩,ho,rfl,rfl⟩:=h1;obtain ⟨⟨_,pd,_,psl⟩,hpp,rfl,⟨n,rfl⟩⟩:=h2;exact Lz LX ht F.entry_tuple_iterator_next (F.args_tuple_iterator_next_1 _) (nR h3) ⟨h0,ho,hpp,hq⟩
theorem lV (l1 l2:Addr) (xs ys:Array Value):Meets (Builtin.«zip.__new__» ⟨[.type "zip", .ref l1,.ref l2],[]⟩) fun _ R s=>s.heap.IsTuple l1 xs/\s.heap.IsTuple l2 ys /\
    R (.ok (.ret (.ref ((((s.heap.push ⟨.type "tuple_iterator", none,.fields #[.ref l1,.int 0 0],#[]⟩).push ⟨.type "tuple_iterator", none,.fields #[.ref l2,.int 0 0],#[]⟩).push ⟨.type "tuple", none,.seq #[.ref s.heap.objs.size,.ref (s.heap.push ⟨.type "tuple_iterator", none,.fields #[.ref l1,.int 0 0],#[]⟩).objs.size] 0,#[]⟩).push ⟨.type "tuple", none,.seq #[.none,.none] 0,#[]⟩).objs.size)))
      { s with heap:=((((s.heap.push ⟨.type "tuple_iterator", none,.fields #[.ref l1,.int 0 0],#[]⟩).push ⟨.type "tuple_iterator", none,.fields #[.ref l2,.int 0 0],#[]⟩).push ⟨.type "tuple", none,.seq #[.ref s.heap.objs.size,.ref (s.heap.push ⟨.type "tuple_iterator", none,.fields #[.ref l1,.int 0 0],#[]⟩).objs.size] 0,#[]⟩).push ⟨.type "tuple", none,.seq #[.none,.none] 0,#[]⟩).push ⟨.type "zip", none,.fields #[.none,.bool false,.bool false,.ref ((s.heap.push ⟨.type "tuple_iterator", none,.fields #[.ref l1,.int 0 0],#[]⟩).push ⟨.type "tuple_iterator", none,.fields #[.ref l2,.int 0 0],#[]⟩).objs.size,.ref (((s.heap.push ⟨.type "tuple_iterator", none,.fields #[.ref l1,.int 0 0],#[]⟩).push ⟨.type "tuple_iterator", none,.fields #[.ref l2,.int 0 0],#[]⟩).push ⟨.type "tuple", none,.seq #[.ref s.heap.objs.size,.ref (s.heap.push ⟨.type "tuple_iterator", none,.fields #[.ref l1,.int 0 0],#[]⟩).objs.size] 0,#[]⟩).objs.size],#[]⟩ } :=
  .of_wp fun prog w A R s h=>by
    obtain ⟨hp,g,d,tk,os⟩:=s;obtain ⟨h1,h2,h⟩:=h;have f1:=PySem.sub_zip
    wp_walk using wpAny_pyIter_tuple h1,wpAny_pyIter_tuple (h2.push _)
    exact ⟨_,rfl,h⟩
theorem lJ {z TI TO i1 i2 l1 l2:Addr} {k1 k2:Nat} {xs ys:Array Value} {x y a b:Value} {Q:Value->Shared->Prop} (D:ZipApart z TI TO i1 i2 l1 l2) (hz:IsZip s.heap z TI TO .none) (h1:IsPair s.heap TI (.ref i1) (.ref i2)) (h2:IsPair s.heap TO a b)
  (h3:s.heap.IsTupleIter i1 l1 k1) (h4:s.heap.IsTupleIter i2 l2 k2) (h5:s.heap.IsTuple l1 xs) (h6:s.heap.IsTuple l2 ys) (h7:xs[k1]?=some x) (h8:ys[k2]?=some y)
  (hq:∀ h':Heap,IsZip h' z TI TO (rawInt s.heap.objs.size)->IsPair h' TO x y->h'.IsTupleIter i1 l1 (k1+1)->h'.IsTupleIter i2 l2 (k2+1)->IsPair h' s.heap.objs.size x y->h'.objs.size=s.heap.objs.size+1 ->
   (∀ (c:Addr) (o:Obj),c≠z->c≠TO->c≠i1->c≠i2->s.heap.get? c=some o->h'.get? c=some o)->Q (.ref s.heap.objs.size) { s with heap:=h' }) :
  wpAny (model prog w) A (Builtin.«zip.__next__» ⟨[.ref z],[]⟩) (fun fin s'=>∃ v,fin=.done (.ret v)/\Q v s') E s:=by
 obtain ⟨hp,g,d,tk,os⟩:=s;unfold IsZip at hz;unfold IsPair at h1 h2;have nz1:l1≠z:=D.l1z;have nz2:l2≠z:=D.l2z
 wp_walk using wpAny_onRaise,fE (h3.extBut (K4 _ _ _).extBut D.i1z) (h5.extBut (K4 _ _ _).extBut D.l1z) h7
 intro ha sa ea;have t1:ha.get? TO=some ⟨.type "tuple", none,.seq #[a,b] 0,#[]⟩:=(ea.2 _ D.TOi1).trans (KU _ (Ne.symm D.TOz) h2);have e4:=(h4.extBut (K4 hp z _).extBut D.i2z).extBut ea.extBut (Ne.symm D.i12);have e6:=(h6.extBut (K4 hp z _).extBut D.l2z).extBut ea.extBut D.l2i1
 wp_walk using wpAny_onRaise,fE (e4.extBut (K4 _ _ _).extBut (Ne.symm D.TOi2)) (e6.extBut (K4 _ _ _).extBut D.l2TO) h8
 intro hb sb eb;have t2:hb.get? TO=some ⟨.type "tuple", none,.seq #[x,b] 0,#[]⟩:=(eb.2 _ D.TOi2).trans (Le _ t1 rfl);have z1:hb.get? z=some ⟨.type "zip", none,.fields #[.ellipsis,.bool false,.bool false,.ref TI,.ref TO],#[]⟩:=(eb.2 _ (Ne.symm D.i2z)).trans (KU _ D.TOz ((ea.2 _ (Ne.symm D.i1z)).trans (Le _ hz rfl)))
 wp_walk
 have es:hb.objs.size=hp.objs.size:=eb.1.trans ((L3 _ _ _).trans (ea.1.trans (L3 _ _ _)));have es2:(hb.update TO (Obj.mapSeq fun x:Array Value=>x.setIfInBounds (0+1) y)).objs.size=hp.objs.size:=(L3 _ _ _).trans es;rw [es2];generalize e9:(hb.update TO (Obj.mapSeq fun x:Array Value=>x.setIfInBounds (0+1) y)).push { cls:=Value.type "tuple", data:=Data.seq ((fun x:Array Value=>x.setIfInBounds (0+1) y) #[x,b]).toList.toArray }=hc;have ze:hc.get? z=some ⟨.type "zip", none,.fields #[.ellipsis,.bool false,.bool false,.ref TI,.ref TO],#[]⟩:=by rw [<- e9];exact J7 _ (KU _ D.TOz z1)
 have hs:hc.objs.size=hp.objs.size+1:=by rw [<- e9,Li,es2]
 have hn:hc.get? hp.objs.size=some ⟨.type "tuple", none,.seq #[x,y] 0,#[]⟩:=by rw [<- e9,<-es2];exact Kx _ rfl
 have ht:hc.get? TO=some ⟨.type "tuple", none,.seq #[x,y] 0,#[]⟩:=by rw [<- e9];exact J7 _ (Le _ t2 rfl)
 have hk:∀ (c:Addr) (o:Obj),c≠TO->hb.get? c=some o->hc.get? c=some o:=fun c o n e=>by rw [<- e9];exact J7 _ (KU _ (Ne.symm n) e)
 have hi1:hc.IsTupleIter i1 l1 (k1+1):=((sa.extBut (K4 _ _ _).extBut (Ne.symm D.TOi1)).extBut eb.extBut D.i12).at fun o e=>hk _ _ (Ne.symm D.TOi1) e;have hi2:hc.IsTupleIter i2 l2 (k2+1):=sb.at fun o e=>hk _ _ (Ne.symm D.TOi2) e;have up:∀ {f f':Obj->Obj} (c:Addr) (o:Obj),c≠z->hc.get? c=some o->((hc.update z f).update z f').get? c=some o:=fun c o n e=>KU _ (Ne.symm n) (KU _ (Ne.symm n) e)
 wp_walk
 refine ⟨_,rfl,hq _ ?_ ?_ ?_ ?_ ?_ ?_ ?_⟩
 ·exact Le _ (Le _ ze rfl) rfl
 ·exact up _ _ D.TOz ht
 ·exact hi1.at fun o e=>up _ _ D.i1z e
 ·exact hi2.at fun o e=>up _ _ D.i2z e
 ·exact up _ _ (LA (Kg hz)) hn
 ·rw [L3,L3];exact hs
 ·intro c o c1 c2 c3 c4 e;exact up _ _ c1 (hk _ _ c2 ((eb.2 _ c4).trans (KU _ (Ne.symm c2) ((ea.2 _ c3).trans (KU _ (Ne.symm c1) e)))))
theorem nJ {z TI TO i1 i2 l1 l2:Addr} {k1:Nat} {xs:Array Value} {a b:Value} {Q:Fin->Shared->Prop} (h0:A.handled=none) (D:ZipApart z TI TO i1 i2 l1 l2) (hz:IsZip s.heap z TI TO .none) (h1:IsPair s.heap TI (.ref i1) (.ref i2)) (h2:IsPair s.heap TO a b)
  (h3:s.heap.IsTupleIter i1 l1 k1) (h5:s.heap.IsTuple l1 xs) (h7:xs[k1]?=none)
  (hq:∀ (h':Heap) (e:Addr),(∀ (c:Addr) (o:Obj),c≠z->c≠TO->c≠i1->c≠i2->s.heap.get? c=some o->h'.get? c=some o)->(∃ o,h'.get? e=some o/\o.cls=.type "StopIteration")->E (.ref e) { s with heap:=h' }) :
  wpAny (model prog w) A (Builtin.«zip.__next__» ⟨[.ref z],[]⟩) Q E s:=by
 obtain ⟨hp,g,d,tk,os⟩:=s;unfold IsZip at hz;unfold IsPair at h1 h2
 wp_walk using wpAny_onRaise,lK h0 (h3.extBut (K4 _ _ _).extBut D.i1z) (h5.extBut (K4 _ _ _).extBut D.l1z) h7
 intro ha e ea eo;obtain ⟨⟨_,o2,o3,o4⟩,eo,rfl⟩:=eo;have z1:ha.get? z=some ⟨.type "zip", none,.fields #[.ellipsis,.bool false,.bool false,.ref TI,.ref TO],#[]⟩:=ea _ _ (Ne.symm D.i1z) (Le _ hz rfl)
 wp_walk
 have ne:z≠e:=fun q=>by have w:=(q▸z1).symm.trans eo;simp at w
 exact hq _ _ (fun c o c1 c2 c3 c4 q=>KU _ (Ne.symm c1) (ea _ _ c3 (KU _ (Ne.symm c1) q))) ⟨_,KU _ ne eo,rfl⟩
theorem jW {z TI TO:Addr} {v:Value} (h:IsZip s.heap z TI TO v):s.TypeIs (.ref z) "zip" := ⟨_,h,rfl⟩
theorem jI {z TI TO i1 i2 l1 l2:Addr} {k1 k2:Nat} {xs ys:Array Value} {x y a b:Value} {Q:Option Value->Shared->Prop} (D:ZipApart z TI TO i1 i2 l1 l2) (hz:IsZip s.heap z TI TO .none) (h1:IsPair s.heap TI (.ref i1) (.ref i2)) (h2:IsPair s.heap TO a b)
  (h3:s.heap.IsTupleIter i1 l1 k1) (h4:s.heap.IsTupleIter i2 l2 k2) (h5:s.heap.IsTuple l1 xs) (h6:s.heap.IsTuple l2 ys) (h7:xs[k1]?=some x) (h8:ys[k2]?=some y)
  (hq:∀ h':Heap,IsZip h' z TI TO (rawInt s.heap.objs.size)->IsPair h' TO x y->h'.IsTupleIter i1 l1 (k1+1)->h'.IsTupleIter i2 l2 (k2+1)->IsPair h' s.heap.objs.size x y->h'.objs.size=s.heap.objs.size+1 ->
   (∀ (c:Addr) (o:Obj),c≠z->c≠TO->c≠i1->c≠i2->s.heap.get? c=some o->h'.get? c=some o)->Q (some (.ref s.heap.objs.size)) { s with heap:=h' }):wpAny (model prog w) A (pyNext (.ref z)) Q E s:=by
 unfold pyNext;refine Kv (wpAny_attempt (LK (jW hz) F.slot_zip_next ?_))
 refine Lz (S:=fun _ R s'=>s'=s/\∀ h':Heap,IsZip h' z TI TO (rawInt s.heap.objs.size)->IsPair h' TO x y->h'.IsTupleIter i1 l1 (k1+1)->h'.IsTupleIter i2 l2 (k2+1)->IsPair h' s.heap.objs.size x y->h'.objs.size=s.heap.objs.size+1 ->
   (∀ (c:Addr) (o:Obj),c≠z->c≠TO->c≠i1->c≠i2->s.heap.get? c=some o->h'.get? c=some o)->R (.ok (.ret (.ref s.heap.objs.size))) { s with heap:=h' }) F.slot_zip_next (jW hz) F.entry_zip_next (F.args_zip_next_1 _) (.of_wp fun prog w A R s' h=>?_) ⟨rfl,fun h' a1 a2 a3 a4 a5 a6 a7=>KI (hq h' a1 a2 a3 a4 a5 a6 a7)⟩
 obtain ⟨rfl,h⟩:=h;exact lJ (Q:=fun v s'=>R (.ok (.ret v)) s') D hz h1 h2 h3 h4 h5 h6 h7 h8 h
theorem kP {z TI TO i1 i2 l1 l2:Addr} {k1:Nat} {xs:Array Value} {a b:Value} {Q:Option Value->Shared->Prop} (h0:A.handled=none) (D:ZipApart z TI TO i1 i2 l1 l2) (hz:IsZip s.heap z TI TO .none) (h1:IsPair s.heap TI (.ref i1) (.ref i2)) (h2:IsPair s.heap TO a b)
  (h3:s.heap.IsTupleIter i1 l1 k1) (h5:s.heap.IsTuple l1 xs) (h7:xs[k1]?=none)
  (hq:∀ h':Heap,(∀ (c:Addr) (o:Obj),c≠z->c≠TO->c≠i1->c≠i2->s.heap.get? c=some o->h'.get? c=some o)->Q none { s with heap:=h' }):wpAny (model prog w) A (pyNext (.ref z)) Q E s:=by
 unfold pyNext;refine Kv (wpAny_attempt (LK (jW hz) F.slot_zip_next ?_));refine Lz (S:=fun A R s'=>A.handled=none/\s'=s/\∀ (h':Heap) (e:Addr),(∀ (c:Addr) (o:Obj),c≠z->c≠TO->c≠i1->c≠i2->s.heap.get? c=some o->h'.get? c=some o)->(∃ o,h'.get? e=some o/\o.cls=.type "StopIteration")->R (.error (.ref e)) { s with heap:=h' }) F.slot_zip_next (jW hz) F.entry_zip_next (F.args_zip_next_1 _) (.of_wp fun prog w A R s' h=>?_) ⟨h0,rfl,fun h' e a1 a2=>?_⟩
 ·obtain ⟨h0,rfl,h⟩:=h;exact nJ (E:=fun e s'=>R (.error e) s') h0 D hz h1 h2 h3 h5 h7 h
 ·obtain ⟨o,e1,e2⟩:=a2;refine Kv (wpAny_isInstance (T := "StopIteration") ⟨_,e1,e2⟩ (by rfl) ?_);exact KI (hq h' a1)
theorem rh {l1 l2:Addr} {xs ys:Array Value} {Q:Value->Shared->Prop} (h1:s.heap.IsTuple l1 xs) (h2:s.heap.IsTuple l2 ys)
  (hq:∀ h':Heap,IsZip h' (s.heap.objs.size+4) (s.heap.objs.size+2) (s.heap.objs.size+3) .none->IsPair h' (s.heap.objs.size+2) (.ref s.heap.objs.size) (.ref (s.heap.objs.size+1))->IsPair h' (s.heap.objs.size+3) .none .none->h'.IsTupleIter s.heap.objs.size l1 0->h'.IsTupleIter (s.heap.objs.size+1) l2 0->h'.objs.size=s.heap.objs.size+5 ->
   (∀ (c:Addr) (o:Obj),s.heap.get? c=some o->h'.get? c=some o)->Q (.ref (s.heap.objs.size+4)) { s with heap:=h' }):wpAny (model prog w) A (call (.type "zip") [.ref l1,.ref l2]) Q E s:=by
 have gp:∀ {h:Heap} {o:Obj} {n:Nat},h.objs.size=n->o.isFreed=false->(h.push o).get? n=some o:=by rintro h o _ rfl f;exact Kx _ f
 refine callType_new F.called_zip rfl rfl (by with_unfolding_all rfl) (fun obj=>F.args_object_init_3 _ _ _) F.entry_zip_new (lV l1 l2 xs ys) ⟨h1,h2,⟨⟨_,Kx _ rfl,rfl⟩,?_⟩⟩;simp only [Li];refine hq _ (gp (by simp only [Li]) rfl) (J7 _ (J7 _ (gp (by simp only [Li]) rfl))) (J7 _ (gp (by simp only [Li]) rfl)) ⟨_,J7 _ (J7 _ (J7 _ (J7 _ (gp rfl rfl)))),rfl,rfl⟩ ⟨_,J7 _ (J7 _ (J7 _ (gp (by simp only [Li]) rfl))),rfl,rfl⟩ (by simp only [Li]) fun c o e=>?_;exact J7 _ (J7 _ (J7 _ (J7 _ (J7 _ e))))
end
section
variable {X:Cx} {pins:List (Addr×Obj)} {σ:List (Option V)} {H:Hp} {s:Shared} {h':Heap}
theorem Inv.DA {ch:List Addr} {p:Addr} {o:HO} (I:Inv X pins σ H s) (hc:∀ b∈ch,vK X pins H b) (hp:s.heap.objs.size<=p) (hs:∀ b u,b ∉ ch->s.heap.get? b=some u->h'.get? b=some u) (new:fG X.prog X.w (upd H p o) h' p o):Inv X pins σ (upd H p o) { s with heap:=h' }:=by
 have nH:H p=none:=I.hok.fresh hp;have nd:∀ b u,H b=some u->b≠p:=fun b u e z=>by rw [z,nH] at e;cases e
 have nc:∀ b u,H b=some u->b ∉ ch:=fun b u e z=>by rw [(hc b z).1] at e;cases e
 have np:∀ b u,s.heap.get? b=some u->b≠p:=fun b u e=>KP (Kh (Kg e) hp);refine I.step (t':=s.toks) (g':=s.gens) (d':=s.drawn) (ch:=ch) (fun b hb=>⟨(hc b hb).2.2.2.1,(hc b hb).2.1,(hc b hb).2.2.2.2.1,(hc b hb).2.2.2.2.2⟩) (fun b o _ _ hb e _=>hs b o hb e) (fun b o _ _ hb e _=>⟨o.slots,hs b o hb e⟩) (fun b u hb e n=>by rw [au (np b u e)];exact n)
  (fun b o hb e=>⟨o,hs b o hb e⟩) (fun b xs e=>by rw [au (nd b _ e)];exact e) (fun b o u e=>by rw [au (nd b _ e)];exact e) (fun b ps e=>⟨#[],by rw [au (nd b _ e),e];simp⟩) (fun m hm=>?_) (fun b u e=>?_) I.bare
 ·obtain ⟨o,es,ep,ho,r⟩:=hm;exact ⟨o,es,ep,hs _ o (fun z=>(hc _ z).2.1 rfl) ho,r⟩
 ·by_cases z:b=p
  ·subst z;rw [aH] at e;cases e;exact new
  ·rw [au z] at e;refine (I.hok b u e).mH (fun c v hc' q=>?_) (fun c q=>by rw [au (nd c _ q)];exact q) fun c xs q=>by rw [au (nd c _ q)];exact q
   rcases hc' with rfl | hc'
   ·exact hs _ _ (nc _ _ e) q
   ·exact hs _ _ (nc c _ hc') q
end
def Itz (K:Fg) (a b:Addr) (xs ys:List V):It :=
 ⟨fun i H=>SqT K H a xs/\SqT K H b ys/\i < xs.length/\i < ys.length,fun i H x H'=>∃ p u v,H p=none/\x=.ref p/\xs[i]?=some u/\ys[i]?=some v/\H'=upd H p (.tup [u,v]),fun i H=>SqT K H a xs/\SqT K H b ys/\xs.length<=i⟩
theorem yG {P:Program} {w:World} {K:Fg} {elts:List Expr} {c:Nat} {pos:Pos} (a b z TI TO i1 i2:Addr) (xs ys:List V) (D:ZipApart z TI TO i1 i2 a b):Turn P w K (.Tuple elts c pos) (Itz K a b xs ys) [z,TI,TO,i1,i2] z
  (fun i h=>IsZip h z TI TO .none/\IsPair h TI (.ref i1) (.ref i2)/\(∃ x y,IsPair h TO x y)/\h.IsTupleIter i1 a i/\h.IsTupleIter i2 b i) where
 mem:=by simp
 obj:=fun i h st c hc=>by
  obtain ⟨hz,hTI,⟨x,y,hTO⟩,⟨o1,e1,c1,d1⟩,⟨o2,e2,c2,d2⟩⟩:=st;simp only [Kd,Lo,Lb] at hc;rcases hc with rfl | rfl | rfl | rfl | rfl
  ·exact ⟨_,hz,fun v z=>nomatch z⟩
  ·exact ⟨_,hTI,fun v z=>nomatch z⟩
  ·exact ⟨_,hTO,fun v z=>nomatch z⟩
  ·exact ⟨o1,e1,fun v z=>by rw [d1] at z;cases z⟩
  ·exact ⟨o2,e2,fun v z=>by rw [d2] at z;cases z⟩
 keep:=fun i h h' st k=>by
  obtain ⟨hz,hTI,⟨x,y,hTO⟩,h1,h2⟩:=st;exact ⟨k z (by simp) _ hz,k TI (by simp) _ hTI,⟨x,y,k TO (by simp) _ hTO⟩,h1.at fun o e=>k i1 (by simp) o e,h2.at fun o e=>k i2 (by simp) o e⟩
 item:=by
  intro X hP hw hK hc i pins s σ H E I hf st hg;subst hP hw hK;obtain ⟨hz,hTI,⟨x0,y0,hTO⟩,h1,h2⟩:=st;obtain ⟨q1,q2,l1,l2⟩:=hg;obtain ⟨its,r1,p1,_⟩:=I.tuple q1;obtain ⟨its2,r2,p2,_⟩:=I.tuple q2;have hx:=J9 l1;have hy:=J9 l2;obtain ⟨u,hu,ru⟩:=r1.get hx;obtain ⟨v,hv,rv⟩:=r2.get hy;refine jI D hz hTI hTO h1 h2 p1 p2 (x:=u) (y:=v) (by simpa using hu) (by simpa using hv) fun h' a1 a2 a3 a4 a5 a6 a7=>⟨_,rfl,?_⟩;refine wpAny_letOwnedTupleGo_zip a1 fun h2' hz' sb=>?_;have keep:∀ b o,b ∉ [z,TI,TO,i1,i2]->s.heap.get? b=some o->h2'.get? b=some o:=fun b o hb e=>by
   simp only [Kd,Lo,Lb,not_or] at hb;exact (sb.2 b hb.1).trans (a7 b o hb.1 hb.2.2.1 hb.2.2.2.1 hb.2.2.2.2 e)
  have nz:s.heap.objs.size≠z:=LA (Kg hz);have gp:IsPair h2' s.heap.objs.size u v:=(sb.2 _ nz).trans a5;have In:Inv X pins σ (upd H s.heap.objs.size (.tup [xs[i],ys[i]])) { s with heap:=h2' }:=I.DA hf (Ke _) keep ⟨by rw [LZ];exact K7 rfl,[u,v],.cons ru (.cons rv .nil),⟨_,gp,rfl,0,rfl⟩⟩;refine ⟨.ref s.heap.objs.size,_,In,rfl,⟨_,_,_,I.hok.fresh (Ke _),rfl,hx,hy,rfl⟩,⟨hz',?_,⟨u,v,(sb.2 _ D.TOz).trans a2⟩,a3.extBut sb.extBut D.i1z,a4.extBut sb.extBut D.i2z⟩,fun b hb=>?_⟩
  ·exact (sb.2 _ D.TIz).trans (a7 _ _ D.TIz D.TITO D.TIi1 D.TIi2 hTI)
  ·have:=hf b hb;rw [au]
   ·exact this.1
   ·intro z';subst z';simp only [Kd,Lo,Lb] at hb;rcases hb with hb | hb | hb | hb | hb
    ·exact nz hb
    ·exact absurd hb (LA (Kg hTI))
    ·exact absurd hb (LA (Kg hTO))
    ·obtain ⟨_,e,_⟩:=h1;exact absurd hb (LA (Kg e))
    ·obtain ⟨_,e,_⟩:=h2;exact absurd hb (LA (Kg e))
 done:=by
  intro X hP hw hK hc i pins s σ H E I hf st hg;subst hP hw hK;obtain ⟨hz,hTI,⟨x0,y0,hTO⟩,h1,h2⟩:=st;obtain ⟨q1,q2,l⟩:=hg;obtain ⟨its,r1,p1,_⟩:=I.tuple q1;obtain ⟨its2,r2,p2,_⟩:=I.tuple q2;refine kP (I.ok.hd hc) D hz hTI hTO h1 p1 ?_ fun h' k=>⟨rfl,?_⟩
  ·exact Array.getElem?_eq_none (by rw [Ko,<-r1.length];exact l)
  ·have nd:∀ b u,H b=some u->b ∉ [z,TI,TO,i1,i2]:=fun b u e hb=>by rw [(hf b hb).1] at e;cases e
   have ks:∀ b o,b ∉ [z,TI,TO,i1,i2]->s.heap.get? b=some o->h'.get? b=some o:=fun b o hb e=>by
    simp only [Kd,Lo,Lb,not_or] at hb;exact k b o hb.1 hb.2.2.1 hb.2.2.2.1 hb.2.2.2.2 e
   refine I.step (t':=s.toks) (g':=s.gens) (d':=s.drawn) (ch:=[z,TI,TO,i1,i2]) (fun b hb=>⟨(hf b hb).2.2.2.1,(hf b hb).2.1,(hf b hb).2.2.2.2.1,(hf b hb).2.2.2.2.2⟩) (fun b o _ _ hb e _=>ks b o hb e) (fun b o _ _ hb e _=>⟨o.slots,ks b o hb e⟩) (fun _ _ _ _ n=>n) (fun b o hb e=>⟨o,ks b o hb e⟩) (fun _ _ e=>e) (fun _ _ _ e=>e) (fun b ps e=>⟨#[],by rw [e];simp⟩) (fun m hm=>?_) (fun b u e=>?_) I.bare
   ·obtain ⟨o,es,ep,ho,r⟩:=hm;exact ⟨o,es,ep,ks _ o (fun z=>(hf _ z).2.1 rfl) ho,r⟩
   ·refine (I.hok b u e).mH (fun c v hc' q=>?_) (fun _ q=>q) fun _ _ q=>q;rcases hc' with rfl | hc'
    ·exact ks _ _ (nd _ _ e) q
    ·exact ks _ _ (nd c _ hc') q
 self:=fun A i s Q E st h=>wpAny_pyIter_zip st.1 h
def FP (K:Fg) (t:TA):TI:=fun σ H R=>t σ H fun vs H1=>∃ a b xs ys,vs=[.ref a,.ref b]/\SqT K H1 a xs/\SqT K H1 b ys/\R (Itz K a b xs ys) H1
theorem DY {X:Cx} {elts:List Expr} {c:Nat} {pt p pos:Pos} {ea eb:Expr} {t:TA} (hg:Gl X "zip") (hm:X.mg "zip" = none) (hv:bootBuiltins "zip" = some (.type "zip")) (ha:PA X [ea,eb] t)
  (he:starEach [ea,eb] X.env=(false,eval ea X.env) :: starEach [eb] X.env) (hpl:(backTo pos (starEach [eb] X.env)).any (·.1)=false):PI X (.Tuple elts c pt) (.Call (.Name "zip" p) [ea,eb] [] pos) (FP X.K t):=by
 intro pins s σ H R I h;refine LI (l9 I hg hm hv ?_ (by decide) (by decide));refine LW (thn (ha pos pins s σ H _ I h) fun us s1 ⟨vs,H1,I1,r1,a,b,xs,ys,ev,q1,q2,q⟩=>?_) he hpl;subst ev;cases r1 with
 | cons ra r1 =>
 cases r1 with
 | cons rb r1 =>
 cases r1;have ra:_=Value.ref a:=ra;have rb:_=Value.ref b:=rb;subst ra rb;obtain ⟨its,v1,p1,_⟩:=I1.tuple q1;obtain ⟨its2,v2,p2,_⟩:=I1.tuple q2;have l1:a < s1.heap.objs.size:=by obtain ⟨_,e,_⟩:=p1;exact Kg e
 have l2:b < s1.heap.objs.size:=by obtain ⟨_,e,_⟩:=p2;exact Kg e
 refine rh p1 p2 fun h' hz hTI hTO hi1 hi2 hsz hk=>?_;refine wpAny_pyIter_zip hz ⟨s1.heap.objs.size+4,[s1.heap.objs.size+4,s1.heap.objs.size+2,s1.heap.objs.size+3,s1.heap.objs.size,s1.heap.objs.size+1],_,_,H1,rfl,I1.kept (t':=s1.toks) hk,yG a b _ _ _ _ _ xs ys (zipApart_new l1 l2),⟨hz,hTI,⟨_,_,hTO⟩,hi1,hi2⟩,fun c hc=>?_,q⟩;have hb:s1.heap.objs.size<=c:=by
  simp only [Kd,Lo,Lb] at hc;rcases hc with rfl | rfl | rfl | rfl | rfl
  ·exact L0 _ _
  ·exact L0 _ _
  ·exact L0 _ _
  ·exact Ke _
  ·exact L0 _ _
 exact I1.BP hb (I1.hok.fresh hb)
open PySem PySem.Spec PyProof.Rows
def Ite (K:Fg) (a:Addr) (xs:List V):It :=
 ⟨fun i H=>SqL K H a xs/\i < xs.length,fun i H x H'=>∃ p u,H p=none/\x=.ref p/\xs[i]?=some u/\H'=upd H p (.tup [.int i,u]),fun i H=>SqL K H a xs/\xs.length<=i⟩
theorem y3 {P:Program} {w:World} {K:Fg} {elts:List Expr} {c:Nat} {pos:Pos} (a e it:Addr) (xs:List V) (ne:e≠it):Turn P w K (.Tuple elts c pos) (Ite K a xs) [e,it] e
  (fun i h=>(∃ old,IsEnum h e it i old)/\h.IsListIter it a i) where
 mem:=by simp
 obj:=fun i h st c hc=>by
  obtain ⟨⟨old,he⟩,⟨o1,e1,c1,d1⟩⟩:=st;simp only [Kd,Lo,Lb] at hc;rcases hc with rfl | rfl
  ·exact ⟨_,he,fun v z=>nomatch z⟩
  ·exact ⟨o1,e1,fun v z=>by rw [d1] at z;cases z⟩
 keep:=fun i h h' st k=>by
  obtain ⟨⟨old,he⟩,h1⟩:=st;exact ⟨⟨old,k e (by simp) _ he⟩,h1.at fun o q=>k it (by simp) o q⟩
 item:=by
  intro X hP hw hK hc i pins s σ H E I hf st hg;subst hP hw hK;obtain ⟨⟨old,he⟩,h1⟩:=st;obtain ⟨q1,l1⟩:=hg;obtain ⟨its,r1,p1,_⟩:=I.list q1;have hx:=J9 l1;obtain ⟨u,hu,ru⟩:=r1.get hx;refine wpAny_pyNext_enum_item he h1 p1.isList (x:=u) (by simpa using hu) ne fun h' a1 a2 a3 a4 a5=>⟨_,rfl,?_⟩;refine wpAny_letOwnedTupleGo_enum a1 fun h2' hz' sb=>?_;have keep:∀ b o,b ∉ [e,it]->s.heap.get? b=some o->h2'.get? b=some o:=fun b o hb q=>by
   simp only [Kd,Lo,Lb,not_or] at hb;exact (sb.2 b hb.1).trans (a5 b o hb.1 hb.2 q)
  have nz:s.heap.objs.size≠e:=LA (Kg he);have gp:h2'.get? s.heap.objs.size=_:=(sb.2 _ nz).trans a3;have In:Inv X pins σ (upd H s.heap.objs.size (.tup [.int i,xs[i]])) { s with heap:=h2' }:=I.DA hf (Ke _) keep ⟨by rw [LZ];exact K7 rfl,[.int i s.toks,u],.cons ⟨_,rfl⟩ (.cons ru .nil),⟨_,gp,rfl,0,rfl⟩⟩;refine ⟨.ref s.heap.objs.size,_,In.tok _,rfl,⟨_,_,I.hok.fresh (Ke _),rfl,hx,rfl⟩,⟨⟨u,hz'⟩,a2.extBut sb.extBut (Ne.symm ne)⟩,fun b hb=>?_⟩;have:=hf b hb;rw [au]
  ·exact this.1
  ·intro z';subst z';simp only [Kd,Lo,Lb] at hb;rcases hb with hb | hb
   ·exact nz hb
   ·obtain ⟨_,q,_⟩:=h1;exact absurd hb (LA (Kg q))
 done:=by
  intro X hP hw hK hc i pins s σ H E I hf st hg;subst hP hw hK;obtain ⟨⟨old,he⟩,h1⟩:=st;obtain ⟨q1,l⟩:=hg;obtain ⟨its,r1,p1,_⟩:=I.list q1;obtain ⟨f0,f1,f2,f3,f4,f5⟩:=hf it (by simp);refine wpAny_pyNext_enum_end (I.ok.hd hc) he h1 p1.isList ?_ fun h' k=>⟨rfl,I.turned (t':=s.toks) (fun b o hb q=>k b o hb q) f0 f1 f3 f4 f5⟩;exact Array.getElem?_eq_none (by rw [Ko,<-r1.length];exact l)
 self:=fun A i s Q E st h=>by
  obtain ⟨⟨old,he⟩,_⟩:=st;exact wpAny_pyIter_enum he h
def GU (K:Fg) (t:TA):TI:=fun σ H R=>t σ H fun vs H1=>∃ a xs,vs=[.ref a]/\SqL K H1 a xs/\R (Ite K a xs) H1
theorem DF {X:Cx} {elts:List Expr} {c:Nat} {pt p pos:Pos} {ea:Expr} {t:TE} (hg:Gl X "enumerate") (hm:X.mg "enumerate" = none) (ha:PE X ea t)
  (hs:starEach [ea] X.env=(false,eval ea X.env) :: starEach [] X.env):PI X (.Tuple elts c pt) (.Call (.Name "enumerate" p) [ea] [] pos) (GU X.K (bM t gC)):=by
 intro pins s σ H R I h;refine LI (l9 I hg hm boot_enumerate ?_ (by decide) (by decide));refine LW (thn ((u6 ha zz hs) pos pins s σ H _ I h) fun us s1 ⟨vs,H1,I1,r1,a,xs,ev,q1,q⟩=>?_) hs rfl;subst ev;cases r1 with
 | cons ra r1 =>
 cases r1;have ra:_=Value.ref a:=ra;subst ra;obtain ⟨its,v1,p1,_⟩:=I1.list q1;refine call_enumerate_list p1.isList fun h' he hi hsz hk=>?_;refine wpAny_pyIter_enum he ⟨s1.heap.objs.size+1,[s1.heap.objs.size+1,s1.heap.objs.size],_,_,H1,rfl,I1.kept (t':=s1.toks) hk,y3 a _ _ xs (LA (Ln _)),⟨⟨_,he⟩,hi⟩,fun c hc=>?_,q⟩;have hb:s1.heap.objs.size<=c:=by
  simp only [Kd,Lo,Lb] at hc;rcases hc with rfl | rfl
  ·exact L0 _ _
  ·exact Ke _
 exact I1.BP hb (I1.hok.fresh hb)
open PySem
def JX (K:Fg) (a:Addr) (xs:List V):Prop:=∃ (o:Obj) (its:Array Value) (n:Nat),K.lookup a=some o/\o.cls=.type "list" /\ o.dict=none/\o.data=.seq its n/\its.size<=sizeLine/\Vals xs its.toList
def LsF (K:Fg) (F:Addr->Prop) (H:Hp) (a:Addr) (xs:List V):Prop:=(¬F a/\Rd H a (.lst xs))\/JX K a xs
noncomputable def clsAt:Addr:=182
noncomputable def J0:PyData->Str
 | .str f=>f
 | _=>Str.empty
noncomputable def qh (xs:List (PyData×V×V)):List (Str×V):=xs.map fun x=>(J0 x.1,x.2.2)
mutual
def Dm (K:Fg) (F:Addr->Prop) (H:Hp):PyData->V->Prop
 | .none,v=>v=.non
 | .bool b,v=>v=.bl b
 | .int i,v=>v=.int i
 | .str x,v=>v=.str x/\x.length<=sizeLine/\PyData.strOk x=true
 | .list ds,v=>∃ a xs,v=.ref a/\LsF K F H a xs/\xs.length<=sizeLine/\DmL K F H ds xs
 | .tuple ds,v=>∃ a xs,v=.ref a/\SqT K H a xs/\xs.length<=sizeLine/\DmL K F H ds xs
 | .dict kvs,v=>∃ a ep xs,v=.ref a/\¬F a/\H a=some (.ins clsAt ep (qh xs))/\xs.length<=sizeLine/\DmP K F H kvs xs
def DmL (K:Fg) (F:Addr->Prop) (H:Hp):List PyData->List V->Prop
 | [],vs=>vs=[]
 | d :: ds,vs=>∃ v r,vs=v :: r/\Dm K F H d v/\DmL K F H ds r
def DmP (K:Fg) (F:Addr->Prop) (H:Hp):List (PyData×PyData)->List (PyData×V×V)->Prop
 | [],vs=>vs=[]
 | (k,d) :: ds,vs=>∃ j v r,vs=(k,j,v) :: r/\hk6 k=true/\Dm K F H k j/\Dm K F H d v/\DmP K F H ds r
end
noncomputable def Wr:HO->Bool | .lst _=>true | .ins _ _ _=>true | _=>false
def Pr (F:Addr->Prop) (H H':Hp):Prop:=∀ b o,H b=some o->(¬F b\/Wr o=false)->H' b=some o
section
variable {K:PySem.W.Frag} {F F':Addr->Prop} {H H':Hp}
theorem SqT.pr {a:Addr} {xs:List V} (p:Pr F H H') (h:SqT K H a xs):SqT K H' a xs:=by
 rcases h with (h | ⟨o,h⟩) | h
 ·exact .inl (.inl (p _ _ h (.inr rfl)))
 ·exact .inl (.inr ⟨o,p _ _ h (.inr rfl)⟩)
 ·exact .inr h
theorem LsF.pr {a:Addr} {xs:List V} (p:Pr F H H') (hf:∀ b,F' b->F b) (h:LsF K F H a xs):LsF K F' H' a xs:=by
 rcases h with ⟨n,h | ⟨o,h⟩⟩ | h
 ·exact .inl ⟨fun z=>n (hf _ z),.inl (p _ _ h (.inl n))⟩
 ·exact .inl ⟨fun z=>n (hf _ z),.inr ⟨o,p _ _ h (.inl n)⟩⟩
 ·exact .inr h
mutual
theorem Dm.pr (p:Pr F H H') (hf:∀ b,F' b->F b):∀ {d:PyData} {v:V},Dm K F H d v->Dm K F' H' d v
 | .none,v,h=>h
 | .bool b,v,h=>h
 | .int i,v,h=>h
 | .str x,v,h=>h
 | .list ds,v,h=>by
  obtain ⟨a,xs,e,l,z,r⟩:=h;exact ⟨a,xs,e,l.pr p hf,z,DmL.pr p hf r⟩
 | .tuple ds,v,h=>by
  obtain ⟨a,xs,e,l,z,r⟩:=h;exact ⟨a,xs,e,l.pr p,z,DmL.pr p hf r⟩
 | .dict kvs,v,h=>by
  obtain ⟨a,ep,xs,e,n,l,z,r⟩:=h;exact ⟨a,ep,xs,e,fun q=>n (hf _ q),p _ _ l (.inl n),z,DmP.pr p hf r⟩
theorem DmL.pr (p:Pr F H H') (hf:∀ b,F' b->F b):∀ {ds:List PyData} {vs:List V},DmL K F H ds vs->DmL K F' H' ds vs
 | [],vs,h=>h
 | d :: ds,vs,h=>by
  obtain ⟨v,r,e,h1,h2⟩:=h;exact ⟨v,r,e,Dm.pr p hf h1,DmL.pr p hf h2⟩
theorem DmP.pr (p:Pr F H H') (hf:∀ b,F' b->F b):∀ {ds:List (PyData×PyData)} {vs:List (PyData×V×V)},DmP K F H ds vs->DmP K F' H' ds vs
 | [],vs,h=>h
 | (k,d) :: ds,vs,h=>by
  obtain ⟨j,v,r,e,e2,h0,h1,h2⟩:=h;exact ⟨j,v,r,e,e2,Dm.pr p hf h0,Dm.pr p hf h1,DmP.pr p hf h2⟩
end
theorem LsF.fresh {a c:Addr} {xs:List V} (hc:H c=none) (h:LsF K F H a xs):LsF K (fun b=>F b\/b=c) H a xs:=by
 rcases h with ⟨n,h⟩ | h
 ·refine .inl ⟨fun z=>z.elim n fun e=>?_,h⟩;subst e;rcases h with h | ⟨o,h⟩ <;> (rw [hc] at h;cases h)
 ·exact .inr h
mutual
theorem Dm.fresh {c:Addr} (hc:H c=none):∀ {d:PyData} {v:V},Dm K F H d v->Dm K (fun b=>F b\/b=c) H d v
 | .none,v,h=>h
 | .bool b,v,h=>h
 | .int i,v,h=>h
 | .str x,v,h=>h
 | .list ds,v,h=>by
  obtain ⟨a,xs,e,l,z,r⟩:=h;exact ⟨a,xs,e,l.fresh hc,z,DmL.fresh hc r⟩
 | .tuple ds,v,h=>by
  obtain ⟨a,xs,e,l,z,r⟩:=h;exact ⟨a,xs,e,l,z,DmL.fresh hc r⟩
 | .dict kvs,v,h=>by
  obtain ⟨a,ep,xs,e,n,l,z,r⟩:=h;exact ⟨a,ep,xs,e,fun q=>q.elim n fun q=>(by subst q;rw [hc] at l;cases l),l,z,DmP.fresh hc r⟩
theorem DmL.fresh {c:Addr} (hc:H c=none):∀ {ds:List PyData} {vs:List V},DmL K F H ds vs->DmL K (fun b=>F b\/b=c) H ds vs
 | [],vs,h=>h
 | d :: ds,vs,h=>by
  obtain ⟨v,r,e,h1,h2⟩:=h;exact ⟨v,r,e,Dm.fresh hc h1,DmL.fresh hc h2⟩
theorem DmP.fresh {c:Addr} (hc:H c=none):∀ {ds:List (PyData×PyData)} {vs:List (PyData×V×V)},DmP K F H ds vs->DmP K (fun b=>F b\/b=c) H ds vs
 | [],vs,h=>h
 | (k,d) :: ds,vs,h=>by
  obtain ⟨j,v,r,e,e2,h0,h1,h2⟩:=h;exact ⟨j,v,r,e,e2,Dm.fresh hc h0,Dm.fresh hc h1,DmP.fresh hc h2⟩
end
theorem Pr.refl:Pr F H H:=fun _ _ h _=>h
theorem Pr.trans {H1 H2:Hp} (a:Pr F H H1) (b:Pr F' H1 H2) (hf:∀ b,F' b->F b):Pr F H H2:=fun c o h n=>b c o (a c o h n) (n.imp (fun z q=>z (hf _ q)) id)
theorem Pr.of_same (a:bj H H'):Pr F H H':=fun c o h _=>a c o h
theorem Dm.mono (hf:∀ b,F' b->F b) {d:PyData} {v:V} (h:Dm K F H d v):Dm K F' H d v:=h.pr Pr.refl hf
theorem DmL.mono (hf:∀ b,F' b->F b) {d:List PyData} {v:List V} (h:DmL K F H d v):DmL K F' H d v:=h.pr Pr.refl hf
theorem DmL.len:∀ {ds:List PyData} {vs:List V},DmL K F H ds vs->vs.length=ds.length
 | [],vs,h=>by rw [show vs=[] from h];rfl
 | d :: ds,vs,h=>by
  obtain ⟨v,r,e,h1,h2⟩:=h;rw [e,J8,J8,DmL.len h2]
theorem DmL.get:∀ {ds:List PyData} {vs:List V} {i:Nat} {d:PyData},DmL K F H ds vs->ds[i]?=some d->∃ v,vs[i]?=some v/\Dm K F H d v
 | [],vs,_,_,h,e=>by simp at e
 | d :: ds,vs,0,d',h,e=>by
  obtain ⟨v,r,e1,h1,h2⟩:=h;simp at e;subst e;subst e1;exact ⟨v,rfl,h1⟩
 | d :: ds,vs,i+1,d',h,e=>by
  obtain ⟨v,r,e1,h1,h2⟩:=h;subst e1;obtain ⟨w,q1,q2⟩:=DmL.get (i:=i) h2 (by simpa using e);exact ⟨w,by simpa using q1,q2⟩
theorem DmL.get' {ds:List PyData} {vs:List V} {i:Nat} {v:V} (h:DmL K F H ds vs) (e:vs[i]?=some v):∃ d,ds[i]?=some d/\Dm K F H d v:=by
 have hl:=h.len;have hi:i < vs.length:=(Ka.mp e).1;have hd:ds[i]?=some (ds[i]'(by omega)):=J9 _;obtain ⟨w,e2,q⟩:=h.get hd;rw [e] at e2;cases e2;exact ⟨_,hd,q⟩
theorem DmL.app:∀ {ds es:List PyData} {vs ws:List V},DmL K F H ds vs->DmL K F H es ws->DmL K F H (ds++es) (vs++ws)
 | [],es,vs,ws,h,q=>by rw [show vs=[] from h];exact q
 | d :: ds,es,vs,ws,h,q=>by
  obtain ⟨v,r,e,h1,h2⟩:=h;subst e;exact ⟨v,r++ws,rfl,h1,DmL.app h2 q⟩
theorem DmL.snoc {ds:List PyData} {vs:List V} {d:PyData} {v:V} (h:DmL K F H ds vs) (q:Dm K F H d v):DmL K F H (ds++[d]) (vs++[v]):=h.app ⟨v,[],rfl,q,rfl⟩
def Top (K:PySem.W.Frag) (F:Addr->Prop) (H:Hp):PyData->Addr->Prop
 | .list ds,a=>∃ xs,H a=some (.lst xs)/\xs.length<=sizeLine/\DmL K F H ds xs
 | .dict kvs,a=>∃ ep xs,H a=some (.ins clsAt ep (qh xs))/\xs.length<=sizeLine/\DmP K F H kvs xs
 | _,_=>False
def BW (K:PySem.W.Frag) (F:Addr->Prop) (H:Hp):PyData->Addr->Prop
 | .list ds,a=>∃ xs,SqL K H a xs/\xs.length<=sizeLine/\DmL K F H ds xs
 | .dict kvs,a=>∃ ep xs,H a=some (.ins clsAt ep (qh xs))/\xs.length<=sizeLine/\DmP K F H kvs xs
 | _,_=>False
def Vw (K:PySem.W.Frag) (F:Addr->Prop) (H:Hp):PyData->V->Prop
 | .list ds,v=>∃ a,v=.ref a/\BW K F H (.list ds) a
 | .dict ds,v=>∃ a,v=.ref a/\BW K F H (.dict ds) a
 | d,v=>Dm K F H d v
theorem Top.r {d:PyData} {a:Addr} (h:Top K F H d a):BW K F H d a:=by
 cases d with
 | list ds=>obtain ⟨xs,e,z,r⟩:=h;exact ⟨xs,.inl (.inl e),z,r⟩
 | dict ds=>exact h
 | _=>exact h
theorem BW.vw {d:PyData} {a:Addr} (h:BW K F H d a):Vw K F H d (.ref a):=by
 cases d with
 | list ds=>exact ⟨a,rfl,h⟩
 | dict ds=>exact ⟨a,rfl,h⟩
 | _=>exact absurd h id
theorem Dm.vw {d:PyData} {v:V} (h:Dm K F H d v):Vw K F H d v:=by
 cases d with
 | list ds =>
  obtain ⟨a,xs,e,l,z,r⟩:=h;refine ⟨a,e,xs,?_,z,r⟩;rcases l with ⟨n,l⟩ | l
  ·exact .inl l
  ·exact .inr l
 | dict ds=>obtain ⟨a,ep,xs,e,n,l,z,r⟩:=h;exact ⟨a,e,ep,xs,l,z,r⟩
 | _=>exact h
theorem Top.dm {d:PyData} {a:Addr} (h:Top K F H d a) (n:¬F a):Dm K F H d (.ref a):=by
 cases d with
 | list ds=>obtain ⟨xs,e,z,r⟩:=h;exact ⟨a,xs,rfl,.inl ⟨n,.inl e⟩,z,r⟩
 | dict ds=>obtain ⟨ep,xs,e,z,r⟩:=h;exact ⟨a,ep,xs,rfl,n,e,z,r⟩
 | _=>exact absurd h id
theorem Top.wr {d:PyData} {a:Addr} (h:Top K F H d a):∃ o,H a=some o/\Wr o=true:=by
 cases d with
 | list ds=>obtain ⟨xs,e,_⟩:=h;exact ⟨_,e,rfl⟩
 | dict ds=>obtain ⟨ep,xs,e,_⟩:=h;exact ⟨_,e,rfl⟩
 | _=>exact absurd h id
theorem Top.pr {d:PyData} {a:Addr} (h:Top K F H d a) (p:Pr F H H') (hf:∀ b,F' b->F b) (ha:∀ o,H a=some o->H' a=some o):Top K F' H' d a:=by
 cases d with
 | list ds=>obtain ⟨xs,e,z,r⟩:=h;exact ⟨xs,ha _ e,z,r.pr p hf⟩
 | dict ds=>obtain ⟨ep,xs,e,z,r⟩:=h;exact ⟨ep,xs,ha _ e,z,r.pr p hf⟩
 | _=>exact absurd h id
theorem Top.fresh {d:PyData} {a c:Addr} (hc:H c=none) (h:Top K F H d a):Top K (fun b=>F b\/b=c) H d a:=by
 cases d with
 | list ds=>obtain ⟨xs,e,z,r⟩:=h;exact ⟨xs,e,z,r.fresh hc⟩
 | dict ds=>obtain ⟨ep,xs,e,z,r⟩:=h;exact ⟨ep,xs,e,z,r.fresh hc⟩
 | _=>exact absurd h id
end
open PySem
def JV (K:Fg) (tl:TE):TI:=fun σ H R=>yU K tl σ H R\/EW K tl σ H R
inductive Sl where | un | dat (d:PyData) | own (d:PyData) | ino (d:PyData) | ro (d:PyData)
abbrev En:=List Sl
inductive RV where | dat (d:PyData) | bor (i:Nat) | frs (d:PyData)
inductive PR where | dat (d:PyData) | frs (d:PyData)
inductive AV where | dat (d:PyData) | bor (i:Nat)
inductive PM where | dat | bor | ino
noncomputable def PR.rv:PR->RV | .dat d=>.dat d | .frs d=>.frs d
noncomputable def RV.av:RV->AV | .dat d=>.dat d | .frs d=>.dat d | .bor i=>.bor i
structure Fn where
 ms:List PM
 F:List PyData->Option (PR×List PyData)
noncomputable def cont (env:En) (i:Nat):Option PyData:=match env[i]? with | some (.own d)=>some d | some (.ino d)=>some d | some (.ro d)=>some d | _=>none
noncomputable def aT (env:En) (i:Nat):Option PyData:=match env[i]? with | some (.own d)=>some d | some (.ino d)=>some d | _=>none
noncomputable def gT (env:En) (i:Nat) (d:PyData):En:=match env[i]? with | some (.own _)=>env.set i (.own d) | some (.ino _)=>env.set i (.ino d) | _=>env
noncomputable def AV.view (env:En):AV->Option PyData | .dat d=>some d | .bor i=>cont env i
noncomputable def RV.view (env:En) (r:RV):Option PyData:=r.av.view env
def mu (env:En) (i:Nat):Prop:=∃ d,env[i]?=some (.own d)\/env[i]?=some (.ino d)
def IA (env:En) (σ:St) (b:Addr):Prop:=∃ i,mu env i/\σ[i]?=some (some (.ref b))
def FF (F0:Addr->Prop) (env:En) (σ:St) (b:Addr):Prop:=F0 b\/∃ (i:Nat) (d:PyData),env[i]?=some (.own d)/\σ[i]?=some (some (.ref b))
def iG (K:Fg) (F I:Addr->Prop) (H:Hp):PyData->Addr->Prop
 | .list ds,a=>∃ xs,LsF K I H a xs/\xs.length<=sizeLine/\DmL K F H ds xs
 | .dict kvs,a=>∃ ep xs,¬I a/\H a=some (.ins clsAt ep (qh xs))/\xs.length<=sizeLine/\DmP K F H kvs xs
 | _,_=>False
structure Rel (K:Fg) (F0:Addr->Prop) (H₀:Hp) (I:Addr->Prop) (env:En) (σ:St) (H:Hp):Prop where
 len:env.length=σ.length
 dat:∀ (i:Nat) (d:PyData),env[i]?=some (.dat d)->∃ v,σ[i]?=some (some v)/\Dm K (FF F0 env σ) H d v
 own:∀ (i:Nat) (d:PyData),env[i]?=some (.own d)->∃ a,σ[i]?=some (some (.ref a))/\¬F0 a/\(H₀ a=none\/I a)/\Top K (FF F0 env σ) H d a
 ino:∀ (i:Nat) (d:PyData),env[i]?=some (.ino d)->∃ a,σ[i]?=some (some (.ref a))/\F0 a/\I a/\Top K (FF F0 env σ) H d a
 ro:∀ (i:Nat) (d:PyData),env[i]?=some (.ro d)->∃ a,σ[i]?=some (some (.ref a))/\iG K (FF F0 env σ) (IA env σ) H d a
 sep:∀ i j a,mu env i->mu env j->σ[i]?=some (some (.ref a))->σ[j]?=some (some (.ref a))->i=j
 dom:∀ b,F0 b->H b≠none
 gw:∀ b o,H₀ b=some o->¬I b->H b=some o
section
variable {K:Fg} {F F' I I' F0:Addr->Prop} {H H' H₀:Hp} {env env':En} {σ σ':St}
theorem iG.r {d:PyData} {a:Addr} (h:iG K F I H d a):BW K F H d a:=by
 cases d with
 | list ds =>
  obtain ⟨xs,l,z,r⟩:=h;exact ⟨xs,l.elim (fun q=>.inl q.2) .inr,z,r⟩
 | dict ds=>obtain ⟨ep,xs,n,l,z,r⟩:=h;exact ⟨ep,xs,l,z,r⟩
 | _=>exact absurd h id
theorem iG.pr {d:PyData} {a:Addr} (h:iG K F I H d a) (p:Pr F H H') (hf:∀ b,F' b->F b) (hi:∀ b,I' b->I b) (k:∀ b o,H b=some o->¬I b->H' b=some o):iG K F' I' H' d a:=by
 cases d with
 | list ds =>
  obtain ⟨xs,l,z,r⟩:=h;refine ⟨xs,?_,z,r.pr p hf⟩;rcases l with ⟨n,l | ⟨o,l⟩⟩ | l
  ·exact .inl ⟨fun q=>n (hi _ q),.inl (k _ _ l n)⟩
  ·exact .inl ⟨fun q=>n (hi _ q),.inr ⟨o,k _ _ l n⟩⟩
  ·exact .inr l
 | dict ds=>obtain ⟨ep,xs,n,l,z,r⟩:=h;exact ⟨ep,xs,fun q=>n (hi _ q),k _ _ l n,z,r.pr p hf⟩
 | _=>exact absurd h id
theorem iG.fresh {d:PyData} {a c:Addr} (hc:H c=none) (h:iG K F I H d a):iG K (fun b=>F b\/b=c) I H d a:=by
 cases d with
 | list ds=>obtain ⟨xs,e,z,r⟩:=h;exact ⟨xs,e,z,r.fresh hc⟩
 | dict ds=>obtain ⟨ep,xs,n,e,z,r⟩:=h;exact ⟨ep,xs,n,e,z,r.fresh hc⟩
 | _=>exact absurd h id
theorem Dm.ro {d:PyData} {v:V} (h:Dm K F H d v) (hi:∀ b,I b->F b) (l:(∃ ds,d=.list ds)\/∃ ds,d=.dict ds):∃ a,v=.ref a/\iG K F I H d a:=by
 rcases l with ⟨ds,rfl⟩ | ⟨ds,rfl⟩
 ·obtain ⟨a,xs,e,l,z,r⟩:=h;exact ⟨a,e,xs,l.elim (fun q=>.inl ⟨fun z=>q.1 (hi _ z),q.2⟩) .inr,z,r⟩
 ·obtain ⟨a,ep,xs,e,n,l,z,r⟩:=h;exact ⟨a,e,ep,xs,fun q=>n (hi _ q),l,z,r⟩
theorem Top.ro {d:PyData} {a:Addr} (h:Top K F H d a) (n:¬I a):iG K F I H d a:=by
 cases d with
 | list ds=>obtain ⟨xs,e,z,r⟩:=h;exact ⟨xs,.inl ⟨n,.inl e⟩,z,r⟩
 | dict ds=>obtain ⟨ep,xs,e,z,r⟩:=h;exact ⟨ep,xs,n,e,z,r⟩
 | _=>exact absurd h id
theorem Rel.ia (R:Rel K F0 H₀ I env σ H) {b:Addr} (h:IA env σ b):FF F0 env σ b:=by
 obtain ⟨i,⟨d,e | e⟩,s⟩:=h
 ·exact .inr ⟨i,d,e,s⟩
 ·obtain ⟨a,s',f,_⟩:=R.ino i d e;rw [s] at s';cases s';exact .inl f
theorem Rel.iaT (R:Rel K F0 H₀ I env σ H) {b:Addr} (h:IA env σ b):∃ o,H b=some o/\Wr o=true:=by
 obtain ⟨i,⟨d,e | e⟩,s⟩:=h
 ·obtain ⟨a,s',_,_,t⟩:=R.own i d e;rw [s] at s';cases s';exact t.wr
 ·obtain ⟨a,s',_,_,t⟩:=R.ino i d e;rw [s] at s';cases s';exact t.wr
theorem Rel.iaI (R:Rel K F0 H₀ I env σ H) {b:Addr} (h:IA env σ b):H₀ b=none\/I b:=by
 obtain ⟨i,⟨d,e | e⟩,s⟩:=h
 ·obtain ⟨a,s',_,q,t⟩:=R.own i d e;rw [s] at s';cases s';exact q
 ·obtain ⟨a,s',_,q,t⟩:=R.ino i d e;rw [s] at s';cases s';exact .inr q
theorem Rel.fJ (R:Rel K F0 H₀ I env σ H) {b:Addr} (h:FF F0 env σ b):H b≠none:=by
 rcases h with h | ⟨i,d,e,s⟩
 ·exact R.dom b h
 ·obtain ⟨o,q,_⟩:=R.iaT ⟨i,⟨d,.inl e⟩,s⟩;rw [q];exact nofun
theorem Rel.qK (R:Rel K F0 H₀ I env σ H) (k:∀ b o,H b=some o->¬IA env σ b->H' b=some o):Pr (FF F0 env σ) H H':=fun b o h n=>k b o h fun q=>by
 rcases n with n | n
 ·exact n (R.ia q)
 ·obtain ⟨o',h',w⟩:=R.iaT q;rw [h] at h';cases h';rw [n] at w;cases w
theorem Rel.rebase (R:Rel K F0 H₀ I env σ H):Rel K F0 H (IA env σ) env σ H :=
 ⟨R.len,R.dat,fun i d e=>let ⟨a,s,n,_,t⟩:=R.own i d e;⟨a,s,n,.inr ⟨i,⟨d,.inl e⟩,s⟩,t⟩,fun i d e=>let ⟨a,s,n,_,t⟩:=R.ino i d e;⟨a,s,n,⟨i,⟨d,.inr e⟩,s⟩,t⟩,R.ro,R.sep,R.dom,fun _ _ h _=>h⟩
theorem Rel.oi (R:Rel K F0 H₀ I env σ H) {a:Addr} (h:H a=none\/IA env σ a):H₀ a=none\/I a:=by
 rcases h with h | h
 ·cases e:H₀ a with
  | none=>exact .inl rfl
  | some o =>
   by_cases z:I a
   ·exact .inr z
   ·have:=R.gw a o e z;rw [h] at this;cases this
 ·exact R.iaI h
theorem Rel.bV (R:Rel K F0 H₀ I env σ H) (S:Rel K F0 H (IA env σ) env' σ' H'):Rel K F0 H₀ I env' σ' H':=by
 refine ⟨S.len,S.dat,fun i d e=>?_,fun i d e=>?_,S.ro,S.sep,S.dom,fun b o h n=>?_⟩
 ·obtain ⟨a,s,n,q,t⟩:=S.own i d e;exact ⟨a,s,n,R.oi q,t⟩
 ·obtain ⟨a,s,n,q,t⟩:=S.ino i d e;refine ⟨a,s,n,?_,t⟩;obtain ⟨j,⟨d',e' | e'⟩,s'⟩:=q
  ·obtain ⟨a',s2,n',_⟩:=R.own j d' e';rw [s'] at s2;cases s2;exact absurd n n'
  ·obtain ⟨a',s2,_,n',_⟩:=R.ino j d' e';rw [s'] at s2;cases s2;exact n'
 ·refine S.gw b o (R.gw b o h n) fun q=>?_;rcases R.iaI q with z | z
  ·rw [h] at z;cases z
  ·exact n z
def Evo:Sl->Sl->Prop
 | .un,s=>s=.un
 | .dat d,s=>s=.dat d
 | .own _,s=>(∃ d,s=.own d)\/(∃ d,s=.dat d)\/s=.un
 | .ino _,s=>∃ d,s=.ino d
 | .ro d,s=>s=.ro d
def KpE (env env':En):Prop:=env'.length=env.length/\∀ (i:Nat) (s:Sl),env[i]?=some s->∃ s',env'[i]?=some s'/\Evo s s'
theorem Evo.refl:∀ s,Evo s s
 | .un=>rfl
 | .dat _=>rfl
 | .own d=>.inl ⟨d,rfl⟩
 | .ino d=>⟨d,rfl⟩
 | .ro _=>rfl
theorem Evo.trans:∀ {a b c:Sl},Evo a b->Evo b c->Evo a c
 | .un,b,c,h,q=>by rw [show b=.un from h] at q;exact q
 | .dat d,b,c,h,q=>by rw [show b=.dat d from h] at q;exact q
 | .own d,b,c,h,q=>by
  rcases h with ⟨d,rfl⟩ | ⟨d,rfl⟩ | rfl
  ·exact q
  ·exact .inr (.inl ⟨d,q⟩)
  ·exact .inr (.inr q)
 | .ino d,b,c,h,q=>by obtain ⟨d,rfl⟩:=h;exact q
 | .ro d,b,c,h,q=>by rw [show b=.ro d from h] at q;exact q
theorem KpE.refl (env:En):KpE env env:=⟨rfl,fun i s e=>⟨s,e,.refl s⟩⟩
theorem KpE.trans {e1 e2 e3:En} (a:KpE e1 e2) (b:KpE e2 e3):KpE e1 e3:=⟨b.1.trans a.1,fun i s e=>by
 obtain ⟨s1,h1,v1⟩:=a.2 i s e;obtain ⟨s2,h2,v2⟩:=b.2 i s1 h1
 exact ⟨s2,h2,v1.trans v2⟩⟩
theorem KpE.back (k:KpE env env') {i:Nat} {s':Sl} (e:env'[i]?=some s'):∃ s,env[i]?=some s/\Evo s s':=by
 have hi:i < env'.length:=(Ka.mp e).1;have:env[i]?=some (env[i]'(by rw [<- k.1];exact hi)):=J9 _;obtain ⟨s2,h2,v⟩:=k.2 i _ this;rw [e] at h2;cases h2;exact ⟨_,this,v⟩
theorem KpE.own (k:KpE env env') {i:Nat} {d:PyData} (e:env'[i]?=some (.own d)):∃ d',env[i]?=some (.own d'):=by
 obtain ⟨s,h,v⟩:=k.back e;cases s with
 | un=>cases v
 | dat _=>cases v
 | own d'=>exact ⟨d',h⟩
 | ino _=>obtain ⟨_,v⟩:=v;cases v
 | ro _=>cases v
theorem KpE.ff (k:KpE env env') {b:Addr} (h:FF F0 env' σ b):FF F0 env σ b:=by
 rcases h with h | ⟨i,d,e,s⟩
 ·exact .inl h
 ·obtain ⟨d',e'⟩:=k.own e;exact .inr ⟨i,d',e',s⟩
theorem KpE.mu (k:KpE env env') {i:Nat} (h:mu env' i):mu env i:=by
 obtain ⟨d,h | h⟩:=h
 ·obtain ⟨d',e⟩:=k.own h;exact ⟨d',.inl e⟩
 ·obtain ⟨s,h,v⟩:=k.back h;cases s with
  | un=>cases v
  | dat _=>cases v
  | own d'=>rcases v with ⟨_,v⟩ | ⟨_,v⟩ | v <;> cases v
  | ino d'=>exact ⟨d',.inr h⟩
  | ro _=>cases v
theorem KpE.ia (k:KpE env env') {b:Addr} (h:IA env' σ b):IA env σ b:=let ⟨i,m,s⟩:=h;⟨i,k.mu m,s⟩
theorem Rel.r9 (R:Rel K F0 H₀ I env σ H) (S:Rel K F0 H (IA env σ) env' σ H') (k:KpE env env') {d:PyData} {v:V} (h:Dm K (FF F0 env σ) H d v):Dm K (FF F0 env' σ) H' d v :=
 h.pr (R.qK fun b o e n=>S.gw b o e n) fun _ z=>k.ff z
theorem Rel.same (R:Rel K F0 H₀ I env σ H) (s:bj H H'):Rel K F0 H₀ I env σ H':=by
 have p:Pr (FF F0 env σ) H H':=Pr.of_same s;refine ⟨R.len,fun i d e=>?_,fun i d e=>?_,fun i d e=>?_,fun i d e=>?_,R.sep,fun b h=>?_,fun b o h n=>s _ _ (R.gw b o h n)⟩
 ·obtain ⟨v,q,r⟩:=R.dat i d e;exact ⟨v,q,r.pr p fun _ z=>z⟩
 ·obtain ⟨a,q,n,w,t⟩:=R.own i d e;exact ⟨a,q,n,w,t.pr p (fun _ z=>z) (fun o z=>s _ _ z)⟩
 ·obtain ⟨a,q,n,w,t⟩:=R.ino i d e;exact ⟨a,q,n,w,t.pr p (fun _ z=>z) (fun o z=>s _ _ z)⟩
 ·obtain ⟨a,q,t⟩:=R.ro i d e;exact ⟨a,q,t.pr p (fun _ z=>z) (fun _ z=>z) (fun b o z _=>s _ _ z)⟩
 ·cases e:H b with
  | none=>exact absurd e (R.dom b h)
  | some o=>rw [s _ _ e];exact nofun
theorem k7 {c:Addr}:FF (fun b=>F0 b\/b=c) env σ=fun b=>FF F0 env σ b\/b=c:=by
 funext b;apply propext;constructor
 ·rintro ((h | h) | h)
  ·exact .inl (.inl h)
  ·exact .inr h
  ·exact .inl (.inr h)
 ·rintro ((h | h) | h)
  ·exact .inl (.inl h)
  ·exact .inr h
  ·exact .inl (.inr h)
theorem Rel.fresh (R:Rel K F0 H₀ I env σ H) {c:Addr} (hc:H c=none) {H':Hp} (s:bj H H') (hc':H' c≠none):Rel K (fun b=>F0 b\/b=c) H₀ I env σ H':=by
 have p:Pr (fun b=>FF F0 env σ b\/b=c) H H':=Pr.of_same s;have na:∀ i a,mu env i->σ[i]?=some (some (.ref a))->a≠c:=fun i a m q z=>by
  obtain ⟨o,h,_⟩:=R.iaT ⟨i,m,q⟩;rw [z,hc] at h;cases h
 refine ⟨R.len,fun i d e=>?_,fun i d e=>?_,fun i d e=>?_,fun i d e=>?_,R.sep,fun b h=>?_,fun b o h n=>s _ _ (R.gw b o h n)⟩
 ·obtain ⟨v,q,r⟩:=R.dat i d e;rw [k7];exact ⟨v,q,(r.fresh hc).pr p fun _ z=>z⟩
 ·obtain ⟨a,q,n,w,t⟩:=R.own i d e;rw [k7];exact ⟨a,q,fun z=>z.elim n (na i a ⟨d,.inl e⟩ q),w,(t.fresh hc).pr p (fun _ z=>z) (fun o z=>s _ _ z)⟩
 ·obtain ⟨a,q,n,w,t⟩:=R.ino i d e;rw [k7];exact ⟨a,q,.inl n,w,(t.fresh hc).pr p (fun _ z=>z) (fun o z=>s _ _ z)⟩
 ·obtain ⟨a,q,t⟩:=R.ro i d e;rw [k7];exact ⟨a,q,(t.fresh hc).pr p (fun _ z=>z) (fun _ z=>z) (fun b o z _=>s _ _ z)⟩
 ·rcases h with h | h
  ·cases e:H b with
   | none=>exact absurd e (R.dom b h)
   | some o=>rw [s _ _ e];exact nofun
  ·rw [h];exact hc'
theorem Rel.less {c:Addr} (R:Rel K (fun b=>F0 b\/b=c) H₀ I env σ H) (hi:∀ (i:Nat) (d:PyData),env[i]?=some (.ino d)->σ[i]?≠some (some (.ref c))):Rel K F0 H₀ I env σ H:=by
 have hf:∀ b,FF F0 env σ b->FF (fun b=>F0 b\/b=c) env σ b:=fun b z=>by rw [k7];exact .inl z
 refine ⟨R.len,fun i d e=>?_,fun i d e=>?_,fun i d e=>?_,fun i d e=>?_,R.sep,fun b h=>R.dom b (.inl h),R.gw⟩
 ·obtain ⟨v,q,r⟩:=R.dat i d e;exact ⟨v,q,r.mono hf⟩
 ·obtain ⟨a,q,n,w,t⟩:=R.own i d e;exact ⟨a,q,fun z=>n (.inl z),w,t.pr Pr.refl hf fun _ z=>z⟩
 ·obtain ⟨a,q,n,w,t⟩:=R.ino i d e;refine ⟨a,q,?_,w,t.pr Pr.refl hf fun _ z=>z⟩;rcases n with n | n
  ·exact n
  ·exact absurd (n▸q) (hi i d e)
 ·obtain ⟨a,q,t⟩:=R.ro i d e;exact ⟨a,q,t.pr Pr.refl hf (fun _ z=>z) fun _ _ z _=>z⟩
end
open PySem
def zA (K:Fg) (F:Addr->Prop) (H H':Hp):PR->V->Prop
 | .dat d,v=>Dm K F H' d v
 | .frs d,v=>∃ a,v=.ref a/\H a=none/\Top K (fun b=>F b\/b=a) H' d a
def VwL (K:Fg) (F:Addr->Prop) (H:Hp):List PyData->List V->Prop
 | [],vs=>vs=[]
 | d :: ds,vs=>∃ v r,vs=v :: r/\Vw K F H d v/\VwL K F H ds r
structure Cst where
 d:PyData
 v:V
 ok:∀ (K:Fg) (F:Addr->Prop) (H:Hp),Dm K F H d v
def Cst.i (i:Int):Cst:=⟨.int i,.int i,fun _ _ _=>rfl⟩
def Cst.s (x:Str) (h:x.length<=sizeLine) (h2:PyData.strOk x=true):Cst:=⟨.str x,.str x,fun _ _ _=>⟨rfl,h,h2⟩⟩
def Cst.b (b:Bool):Cst:=⟨.bool b,.bl b,fun _ _ _=>rfl⟩
def Cst.n:Cst:=⟨.none,.non,fun _ _ _=>rfl⟩
structure Prm where
 r:Fg->List V->Hp->VK->Prop
 f:List PyData->Option PR
 ok:∀ (K:Fg) (F:Addr->Prop) (H:Hp) (ds:List PyData) (vs:List V) (pr:PR) (Q:VK),f ds=some pr->VwL K F H ds vs->(∀ b,F b->H b≠none)->(∀ v H',bj H H'->zA K F H H' pr v->Q v H')->r K vs H Q
structure Mtd where
 T:String
 r:Fg->V->List V->Hp->VK->Prop
 ty:PyData->Bool
 f:PyData->List PyData->Option PR
 xE:∀ (K:Fg) (F:Addr->Prop) (H:Hp) (d:PyData) (v:V),ty d=true->Vw K F H d v->tyV K T v H
 ok:∀ (K:Fg) (F:Addr->Prop) (H:Hp) (d:PyData) (v:V) (ds:List PyData) (vs:List V) (pr:PR) (Q:VK),f d ds=some pr->Vw K F H d v->VwL K F H ds vs->(∀ b,F b->H b≠none)->(∀ v H',bj H H'->zA K F H H' pr v->Q v H')->r K v vs H Q
def MvL (K:Fg) (F:Addr->Prop) (H:Hp):List (Bool×PyData)->List V->Prop
 | [],vs=>vs=[]
 | (true,d) :: ds,vs=>∃ v r,vs=v :: r/\Dm K F H d v/\MvL K F H ds r
 | (false,d) :: ds,vs=>∃ v r,vs=v :: r/\Vw K F H d v/\MvL K F H ds r
structure Mtr where
 T:String
 r:Fg->V->List V->Hp->VK->Prop
 ty:PyData->Bool
 f:PyData->List (Bool×PyData)->Option (PyData×PyData)
 tq:Fg->V->Hp->Prop:=fun K x H=>tyV K T x H
 xE:∀ (K:Fg) (F:Addr->Prop) (H:Hp) (d:PyData) (a:Addr),ty d=true->Top K F H d a->tq K (.ref a) H
 ok:∀ (K:Fg) (F:Addr->Prop) (H:Hp) (d:PyData) (a:Addr) (as:List (Bool×PyData)) (vs:List V) (d' x:PyData) (Q:VK),f d as=some (d',x)->F a->Top K F H d a->(∀ b,F b->H b≠none)->MvL K F H as vs ->
  (∀ v H',(∀ b o,b≠a->H b=some o->H' b=some o)->Top K F H' d' a->Dm K F H' x v->Q v H')->r K (.ref a) vs H Q
structure yz where
 r:Fg->V->V->V->Hp->(Hp->Prop)->Prop
 f:PyData->PyData->PyData->Option PyData
 ok:∀ (K:Fg) (F:Addr->Prop) (H:Hp) (d:PyData) (a:Addr) (k x:PyData) (vk vx:V) (d':PyData) (Q:Hp->Prop),f d k x=some d'->F a->Top K F H d a->Vw K F H k vk->Dm K F H x vx ->
  (∀ H',(∀ b o,b≠a->H b=some o->H' b=some o)->Top K F H' d' a->Q H')->r K (.ref a) vk vx H Q
mutual
inductive XE where
 | var (i:Nat) | mov (i:Nat) | tke (i:Nat) | cst (c:Cst) | glb (g:Nat)
 | prm (p:Prm) (as:XA) | met (m:Mtd) (o:XE) (as:XA) | mtr (m:Mtr) (i:Nat) (as:XA) | call (f:Fn) (as:XA)
 | tup (as:XA) | lst (as:XA) | dsp (as:XP) | fst (as:XA)
 | ifx (c:XT) (a b:XE) | uL (a b:XE) | orv (a b:XE) | BU (a:XE) | chn (p q:Prm) (a b c:XE) | sl2 (p:Int->Int->Prm) (a b c:XE)
 | cmp (js:List Nat) (it:XI) (c:XT) (e:XE) | zV (n:List Str) (js:List Nat) (it:XI) (e:XE)
inductive XA where | nil | cons (e:XE) (r:XA)
inductive XP where | nil | cons (k e:XE) (r:XP)
inductive XT where | tst (e:XE) | tru (e:XE) | and (a b:XT) | or (a b:XT) | not (a:XT) | yes
inductive XI where | lst (e:XE) | tup (e:XE) | str (e:XE) | rng1 (as:XA) | rng2 (as:XA) | dct (e:XE) | zip (as:XA) | sq (e:XE) | itm (e:XE)
end
inductive XS where
 | skip | seq (a b:XS) | bf (i:Nat) (e:XE) | qp (i:Nat) (e:XE) | CF (is:List Nat) (e:XE) | drop (e:XE) | ret (e:XE) | Fe
 | ifs (c:XT) (a b:XS) | fr (i:Nat) (it:XI) (b:XS) | frT (is:List Nat) (it:XI) (b:XS) | wh (n:Nat) (c:XT) (b:XS) | brk | cnt | nev | sto (m:yz) (i:Nat) (k e:XE)
def gNs:List Nat->TGs
 | []=>EZ
 | i :: r=>xS (eZ i) (gNs r)
def gTp (K:PySem.W.Frag) (is:List Nat):TG:=EN K is.length (gNs is)
def Ja:List TE->TE:=fun ts=>tFs ts Str.empty
def NoE:XK:=fun _ _ _=>False
def As (K:PySem.W.Frag) (G I:Addr->Prop) (H:Hp) (d:PyData) (v:V):Prop:=match d with
 | .tuple ds=>Dm K G H (.tuple ds) v
 | d=>∃ a,v=.ref a/\iG K G I H d a
def bW (K:PySem.W.Frag) (G I:Addr->Prop) (H:Hp):List PM->List PyData->List V->List Addr->Prop
 | [],[],[],is=>is=[]
 | .dat :: ms,d :: ds,v :: vs,is=>Dm K G H d v/\bW K G I H ms ds vs is
 | .bor :: ms,d :: ds,v :: vs,is=>As K G I H d v/\bW K G I H ms ds vs is
 | .ino :: ms,d :: ds,v :: vs,is=>∃ a r,v=.ref a/\is=a :: r/\G a/\Top K G H d a/\a ∉ r/\bW K G I H ms ds vs r
 | _,_,_,_=>False
def kA (K:PySem.W.Frag) (G:Addr->Prop) (H:Hp):List PyData->List Addr->Prop
 | [],[]=>True
 | d :: ds,a :: r=>Top K G H d a/\kA K G H ds r
 | _,_=>False
def GX (K:PySem.W.Frag) (G:Addr->Prop) (H H':Hp) (outs:List PyData) (is:List Addr):PR->V->Prop
 | .dat d,v=>Dm K G H' d v/\kA K G H' outs is
 | .frs d,v=>∃ a,v=.ref a/\H a=none/\Top K (fun b=>G b\/b=a) H' d a/\kA K (fun b=>G b\/b=a) H' outs is
def bH (f:Fn) (K:PySem.W.Frag):Sp:=fun vs H Q _=>∃ (G:Addr->Prop) (ds:List PyData) (is:List Addr) (pr:PR) (outs:List PyData),f.F ds=some (pr,outs)/\bW K G (·∈is) H f.ms ds vs is/\(∀ b,G b->H b≠none) /\
 ∀ v' H',(∀ b o,H b=some o->b ∉ is->H' b=some o)->GX K G H H' outs is pr v'->Q v' H'
section
variable (K:PySem.W.Frag) (ga:Nat->V)
mutual
noncomputable def rE:XE->TE
 | .var i=>cU i | .mov i=>cU i | .tke i=>cU i | .cst c=>tC c.v | .glb g=>tC (ga g)
 | .prm p as=>tCB (p.r K) (rA as) | .met m o as=>tBM K m.T (m.r K) (rE o) (rA as) | .mtr m i as=>fun σ H Q=>cU i σ H fun x H1=>m.tq K x H1/\rA as σ H1 fun xs H2=>m.r K x xs H2 Q | .call f as=>vd (bH f K) [] NoE (rA as)
 | .tup as=>Hg (rA as) | .lst as=>Gf (rA as) | .dsp as=>fun _ _ _=>False | .fst as=>Ja (rF as)
 | .ifx c a b=>tIf (rT c) (rE a) (rE b) | .uL a b=>Ax (rE a) (rE b) | .orv a b=>JY (rE a) (rE b) | .BU a=>AS (rE a)
 | .chn p q a b c=>oA (fun x y=>p.r K [x,y]) (fun x y=>q.r K [x,y]) (rE a) (rE b) (rE c)
 | .sl2 p a b c=>fun σ H Q=>rE a σ H fun x H1=>rE b σ H1 fun y H2=>∃ i,y=.int i/\rE c σ H2 fun z H3=>∃ j,z=.int j/\(p i j).r K [x] H3 Q
 | .cmp js it c e=>tO js (rI_ it) (rT c) (rE e) | .zV n js it e=>vF n js (rI_ it) (gTp K (List.range n.length)) (rE e)
noncomputable def rA:XA->TA
 | .nil=>gC | .cons e r=>bM (rE e) (rA r)
noncomputable def rF:XA->List TE
 | .nil=>[] | .cons e r=>rE e :: rF r
noncomputable def rP:XP->List (TE×TE)
 | .nil=>[] | .cons k e r=>(rE k,rE e) :: rP r
noncomputable def rT:XT->TT
 | .tst e=>tB (rE e) | .tru e=>Iy K (rE e) | .and a b=>EM (rT a) (rT b) | .or a b=>tOr (rT a) (rT b) | .not a=>Fh (rT a) | .yes=>HJ
noncomputable def rI_:XI->TI
 | .lst e=>yU K (rE e) | .tup e=>EW K (rE e) | .str e=>EK (rE e) | .rng1 as=>AW (rA as) | .rng2 as=>GH (rA as) | .dct e=>EK (rE e) | .zip as=>FP K (rA as) | .sq e=>JV K (rE e) | .itm e=>GU K (bM (rE e) gC)
end
def rS:XS->TS
 | .skip=>yV | .seq a b=>z7 (rS a) (rS b) | .bf i e=>uF (rE K ga e) (eZ i) | .qp i e=>uF (rE K ga e) (eZ i) | .CF is e=>uF (rE K ga e) (gTp K is) | .drop e=>Av (rE K ga e) | .ret e=>BR (rE K ga e) | .Fe=>FO
 | .ifs c a b=>EL (rT K ga c) (rS a) (rS b) | .fr i it b=>EA (rI_ K ga it) (eZ i) (rS b) | .frT is it b=>EA (rI_ K ga it) (gTp K is) (rS b) | .wh n c b=>tj (rT K ga c) (rS b) | .brk=>C3 | .cnt=>HN | .nev=>xq
 | .sto m i k e=>fun D σ H=>rE K ga e σ H fun x H1=>cU i σ H1 fun o H2=>rE K ga k σ H2 fun y H3=>m.r K o y x H3 (D.nx σ)
end
noncomputable def Gw:PyData->Bool
 | .none=>false | .bool b=>b | .int i=>i != 0 | .str x=>(x.length:Int) != 0 | .list ds=>!ds.isEmpty | .tuple ds=>!ds.isEmpty | .dict ds=>!ds.isEmpty
noncomputable def J3:PyData->Bool | .str _=>true | _=>false
noncomputable def Fq:PyData->Bool | .dict _=>true | _=>false
noncomputable def qI (lk:Bool):Sl->Sl
 | .own d=>if lk then .ro d else .ino d
 | .ino d=>if lk then .ro d else .ino d
 | s=>s
noncomputable def fT (env:En) (lock:Option Nat) (js:List Nat):En:=js.map fun j=>qI (decide (lock=some j)) (env[j]?.getD .un)
noncomputable def aW:En->List Nat->En->En
 | env,j :: js,.ino d :: es=>aW (gT env j d) js es
 | env,_ :: js,_ :: es=>aW env js es
 | env,_,_=>env
noncomputable def rN (step:PyData->En->Option (Option PyData×En)):List PyData->En->Option (List PyData×En)
 | [],env=>some ([],env)
 | d :: ds,env=>match step d env with
  | some (y,e1)=>match rN step ds e1 with
   | some (ys,e2)=>some (y.toList++ys,e2)
   | none=>none
  | none=>none
noncomputable def HF (env:En):PM->AV->Option PyData
 | .dat,.dat d=>some d
 | .bor,.dat (.list d)=>some (.list d)
 | .bor,.dat (.dict d)=>some (.dict d)
 | .bor,.dat (.tuple d)=>some (.tuple d)
 | .bor,.bor i=>cont env i
 | .ino,.bor i=>aT env i
 | _,_=>none
noncomputable def jJ (env:En):List PM->List AV->Option (List PyData)
 | [],[]=>some []
 | m :: ms,a :: as=>match HF env m a,jJ env ms as with
  | some d,some ds=>some (d :: ds)
  | _,_=>none
 | _,_=>none
noncomputable def dt:List PM->List AV->List Nat
 | .ino :: ms,.bor i :: as=>i :: dt ms as
 | _ :: ms,_ :: as=>dt ms as
 | _,_=>[]
noncomputable def uw:List PM->List AV->List Nat
 | .bor :: ms,.bor i :: as=>i :: uw ms as
 | _ :: ms,_ :: as=>uw ms as
 | _,_=>[]
noncomputable def dG:En->List Nat->List PyData->En
 | env,i :: is,d :: ds=>dG (gT env i d) is ds
 | env,_,_=>env
noncomputable def Bj:List Nat->Bool
 | []=>true
 | x :: xs=>!xs.contains x&&Bj xs
noncomputable def ckA (is bs:List Nat) (n:Nat):Bool:=Bj is&&(bs.all (fun i=>!is.contains i)&&n==is.length)
noncomputable def yC (f:Fn) (avs:List AV) (env:En):Option (RV×En) :=
 match jJ env f.ms avs with
 | none=>none
 | some ds=>match f.F ds with
  | none=>none
  | some (pr,outs)=>if ckA (dt f.ms avs) (uw f.ms avs) outs.length=true then some (pr.rv,dG env (dt f.ms avs) outs) else none
noncomputable def aU (env:En):List AV->Option (List PyData)
 | []=>some []
 | a :: as=>match a.view env,aU env as with
  | some d,some ds=>some (d :: ds)
  | _,_=>none
noncomputable def AV.FT:AV->Bool | .dat _=>true | .bor _=>false
noncomputable def cq (env:En):List AV->Option (List (Bool×PyData))
 | []=>some []
 | a :: as=>match a.view env,cq env as with
  | some d,some ds=>some ((a.FT,d) :: ds)
  | _,_=>none
noncomputable def oS:List AV->Option (List PyData)
 | []=>some []
 | .dat d :: as=>match oS as with | some ds=>some (d :: ds) | none=>none
 | .bor _ :: _=>none
noncomputable def keyOf:PyData->Option Key | .int i=>some (.inl i) | .str x=>some (.inr x) | _=>none
noncomputable def getD (kvs:List (PyData×PyData)) (k:PyData):Option PyData:=(kvs.find? fun kv=>PyData.eqv kv.1 k).map (·.2)
noncomputable def cf (env:En):Option Nat->En
 | some i=>match env[i]? with | some (.own d)=>env.set i (.ro d) | some (.ino d)=>env.set i (.ro d) | _=>env
 | none=>env
noncomputable def aE (Ff:En) (lock:Option Nat) (env:En):En:=match lock with
 | some i=>match Ff[i]?,env[i]? with
  | some (.own _),some (.ro d)=>env.set i (.own d)
  | some (.ino _),some (.ro d)=>env.set i (.ino d)
  | _,_=>env
 | none=>env
noncomputable def j5 (t:En->Option (Bool×En)) (b:En->Option (RV×En)) (d:PyData) (ec:En):Option (Option PyData×En):=match t (.dat d :: ec) with
 | some (true,e2)=>match b e2 with
  | some (rv,e3)=>match rv.av with | .dat y=>some (some y,e3.tail) | .bor _=>none
  | none=>none
 | some (false,e2)=>some (none,e2.tail)
 | none=>none
noncomputable def g7 (n:Nat) (b:En->Option (RV×En)) (d:PyData) (ec:En):Option (Option PyData×En):=match d with
 | .tuple xs=>if xs.length=n then match b (xs.map .dat++ec) with
   | some (rv,e3)=>match rv.av with | .dat y=>some (some y,e3.drop n) | .bor _=>none
   | none=>none
  else none
 | _=>none
noncomputable def roL (e:En):AV->Option (List PyData)
 | .dat (.list xs)=>some xs
 | .bor i=>match e[i]? with | some (.ro (.list xs))=>some xs | _=>none
 | _=>none
mutual
noncomputable def dE (gd:List PyData):XE->En->Option (RV×En)
 | .var i,env=>match env[i]? with | some (.dat d)=>some (.dat d,env) | some (.own _)=>some (.bor i,env) | some (.ino _)=>some (.bor i,env) | some (.ro _)=>some (.bor i,env) | _=>none
 | .mov i,env=>match env[i]? with | some (.own d)=>some (.dat d,env.set i (.dat d)) | _=>none
 | .tke i,env=>match env[i]? with | some (.own d)=>some (.frs d,env.set i .un) | _=>none
 | .cst c,env=>some (.dat c.d,env)
 | .glb g,env=>match gd[g]? with | some d=>some (.dat d,env) | none=>none
 | .prm p as,env=>match dA gd as env with
  | some (avs,e1)=>match aU e1 avs with
   | some ds=>match p.f ds with | some pr=>some (pr.rv,e1) | none=>none
   | none=>none
  | none=>none
 | .met m o as,env=>match dE gd o env with
  | some (rv,e1)=>match rv.view e1 with
   | some d0=>if m.ty d0=true then match dA gd as e1 with
     | some (avs,e2)=>match rv.view e2,aU e2 avs with
      | some d,some ds=>match m.f d ds with | some pr=>some (pr.rv,e2) | none=>none
      | _,_=>none
     | none=>none
    else none
   | none=>none
  | none=>none
 | .mtr m i as,env=>match aT env i with
  | some d0=>if m.ty d0=true then match dA gd as env with
    | some (avs,e1)=>match aT e1 i,cq e1 avs with
     | some d,some ds=>match m.f d ds with | some (d',x)=>some (.dat x,gT e1 i d') | none=>none
     | _,_=>none
    | none=>none
   else none
  | none=>none
 | .call f as,env=>match dA gd as env with
  | some (avs,e1)=>yC f avs e1
  | none=>none
 | .tup as,env=>match dA gd as env with
  | some (avs,e1)=>match oS avs with | some ds=>if ds.length<=sizeLine then some (.dat (.tuple ds),e1) else none | none=>none
  | none=>none
 | .lst as,env=>match dA gd as env with
  | some (avs,e1)=>match oS avs with | some ds=>if ds.length<=sizeLine then some (.frs (.list ds),e1) else none | none=>none
  | none=>none
 | .dsp as,env=>none
 | .fst as,env=>match dF gd as Str.empty env with
  | some (x,e1)=>some (.dat (.str x),e1)
  | none=>none
 | .ifx c a b,env=>match dT gd c env with
  | some (true,e1)=>dE gd a e1
  | some (false,e1)=>dE gd b e1
  | none=>none
 | .uL a b,env=>match dE gd a env with
  | some (.dat (.bool true),e1)=>dE gd b e1
  | some (.dat (.bool false),e1)=>some (.dat (.bool false),e1)
  | _=>none
 | .orv a b,env=>match dE gd a env with
  | some (.dat (.bool true),e1)=>some (.dat (.bool true),e1)
  | some (.dat (.bool false),e1)=>dE gd b e1
  | _=>none
 | .BU a,env=>match dE gd a env with
  | some (.dat (.bool x),e1)=>some (.dat (.bool (!x)),e1)
  | _=>none
 | .chn p q a b c,env=>match dE gd a env with
  | some (ra,e1)=>match dE gd b e1 with
   | some (rb,e2)=>match ra.av,rb.av with
    | .dat x,.dat y=>match p.f [x,y] with
     | some (.dat (.bool true))=>match dE gd c e2 with
      | some (rc,e3)=>match rc.av with
       | .dat z=>match q.f [y,z] with | some pr=>some (pr.rv,e3) | none=>none
       | _=>none
      | none=>none
     | some (.dat (.bool false))=>some (.dat (.bool false),e2)
     | _=>none
    | _,_=>none
   | none=>none
  | none=>none
 | .sl2 p a b c,env=>match dE gd a env with
  | some (ra,e1)=>match dE gd b e1 with
   | some (.dat (.int i),e2)=>match dE gd c e2 with
    | some (.dat (.int j),e3)=>match ra.view e3 with
     | some d=>match (p i j).f [d] with | some pr=>some (pr.rv,e3) | none=>none
     | none=>none
    | _=>none
   | _=>none
  | none=>none
 | .cmp js it c e,env=>match dI gd it env with
  | some (ds,lock,e1)=>if js.Nodup then match rN (j5 (dT gd c) (dE gd e)) ds (fT e1 lock js) with
    | some (ys,ec)=>some (.frs (.list ys),aW e1 js ec)
    | none=>none
   else none
  | none=>none
 | .zV n js it e,env=>match dI gd it env with
  | some (ds,lock,e1)=>if js.Nodup then match rN (g7 n.length (dE gd e)) ds (fT e1 lock js) with
    | some (ys,ec)=>some (.frs (.list ys),aW e1 js ec)
    | none=>none
   else none
  | none=>none
noncomputable def dA (gd:List PyData):XA->En->Option (List AV×En)
 | .nil,env=>some ([],env)
 | .cons e r,env=>match dE gd e env with
  | some (rv,e1)=>match dA gd r e1 with
   | some (avs,e2)=>some (rv.av :: avs,e2)
   | none=>none
  | none=>none
noncomputable def dF (gd:List PyData):XA->Str->En->Option (Str×En)
 | .nil,out,env=>if out.length<=sizeLine then some (out,env) else none
 | .cons e r,out,env=>match dE gd e env with
  | some (.dat (.str x),e1)=>if (out++x).length<=sizeLine then dF gd r (out++x) e1 else none
  | _=>none
noncomputable def dP (gd:List PyData):XP->En->Option (List (Key×PyData)×En)
 | .nil,env=>some ([],env)
 | .cons k e r,env=>match dE gd k env with
  | some (rk,e1)=>match dE gd e e1 with
   | some (rv,e2)=>match dP gd r e2 with
    | some (kvs,e3)=>match rk.av,rv.av with
     | .dat dk,.dat d=>match keyOf dk with | some k=>some ((k,d) :: kvs,e3) | none=>none
     | _,_=>none
    | none=>none
   | none=>none
  | none=>none
noncomputable def dT (gd:List PyData):XT->En->Option (Bool×En)
 | .tst e,env=>match dE gd e env with | some (.dat (.bool b),e1)=>some (b,e1) | _=>none
 | .tru e,env=>match dE gd e env with
  | some (rv,e1)=>match rv.view e1 with | some d=>if Fq d=true then none else some (Gw d,e1) | none=>none
  | none=>none
 | .and a b,env=>match dT gd a env with | some (true,e1)=>dT gd b e1 | some (false,e1)=>some (false,e1) | none=>none
 | .or a b,env=>match dT gd a env with | some (true,e1)=>some (true,e1) | some (false,e1)=>dT gd b e1 | none=>none
 | .not a,env=>match dT gd a env with | some (b,e1)=>some (!b,e1) | none=>none
 | .yes,env=>some (true,env)
noncomputable def dI (gd:List PyData):XI->En->Option (List PyData×Option Nat×En)
 | .lst e,env=>match dE gd e env with
  | some (rv,e1)=>match rv.av with
   | .dat (.list ds)=>some (ds,none,e1)
   | .dat _=>none
   | .bor i=>match cont e1 i with | some (.list ds)=>some (ds,some i,e1) | _=>none
  | none=>none
 | .dct e,env=>none
 | .tup e,env=>match dE gd e env with
  | some (rv,e1)=>match rv.av with | .dat (.tuple ds)=>some (ds,none,e1) | _=>none
  | none=>none
 | .itm e,env=>match dE gd e env with
  | some (rv,e1)=>match rv.av with
   | .dat (.list ds)=>some (ds.zipIdx.map fun p=>.tuple [.int p.2,p.1],none,e1)
   | _=>none
  | none=>none
 | .sq e,env=>match dE gd e env with
  | some (rv,e1)=>match rv.av with
   | .dat (.list ds)=>some (ds,none,e1)
   | .dat (.tuple ds)=>some (ds,none,e1)
   | .dat _=>none
   | .bor i=>match cont e1 i with | some (.list ds)=>some (ds,some i,e1) | _=>none
  | none=>none
 | .str e,env=>match dE gd e env with
  | some (rv,e1)=>match rv.av with | .dat (.str x)=>some (x.cps.toList.map fun c=>.str ⟨#[c]⟩,none,e1) | _=>none
  | none=>none
 | .rng1 as,env=>match dA gd as env with
  | some (avs,e1)=>match avs with | [.dat (.int j)]=>if -(2 ^ 62)<=j/\j<=2 ^ 24 then some ((List.range j.toNat).map fun (k:Nat)=>.int ((0:Int)+(k:Int)),none,e1) else none | _=>none
  | none=>none
 | .zip as,env=>match dA gd as env with
  | some (avs,e1)=>match avs with
   | [.dat (.tuple xs),.dat (.tuple ys)]=>if xs.length=ys.length then some ((xs.zip ys).map fun p=>.tuple [p.1,p.2],none,e1) else none
   | _=>none
  | none=>none
 | .rng2 as,env=>match dA gd as env with
  | some (avs,e1)=>match avs with | [.dat (.int i),.dat (.int j)]=>if -(2 ^ 62)<=i/\i < 2 ^ 62/\-(2 ^ 62)<=j/\j < 2 ^ 62/\j - i<=2 ^ 24 then some ((List.range (j - i).toNat).map fun (k:Nat)=>.int (i+(k:Int)),none,e1) else none | _=>none
  | none=>none
end
noncomputable def lkd (env:En):Option Nat->Bool
 | some i=>match env[i]? with | some (.own _)=>true | some (.ino _)=>true | _=>false
 | none=>false
noncomputable def RV.soft (b:Bool):RV->RV | .frs d=>if b then .dat d else .frs d | r=>r
inductive Out where | nx (env:En) | rt (rv:RV) (env:En) | bk (env:En) | ct (env:En)
noncomputable def Out.map (b:Bool) (f:En->En):Out->Out | .nx e=>.nx (f e) | .rt r e=>.rt (r.soft b) (f e) | .bk e=>.bk (f e) | .ct e=>.ct (f e)
noncomputable def forL (b:PyData->En->Option Out):List PyData->En->Option Out
 | [],env=>some (.nx env)
 | d :: ds,env=>match b d env with
  | some (.nx e)=>forL b ds e
  | some (.ct e)=>forL b ds e
  | some (.bk e)=>some (.nx e)
  | some (.rt r e)=>some (.rt r e)
  | none=>none
noncomputable def whL (t:En->Option (Bool×En)) (b:En->Option Out):Nat->En->Option Out
 | 0,_=>none
 | n+1,env=>match t env with
  | some (true,e1)=>match b e1 with
   | some (.nx e)=>whL t b n e
   | some (.ct e)=>whL t b n e
   | some (.bk e)=>some (.nx e)
   | some (.rt r e)=>some (.rt r e)
   | none=>none
  | some (false,e1)=>some (.nx e1)
  | none=>none
noncomputable def free (env:En) (i:Nat):Bool:=match env[i]? with | some .un=>true | some (.dat _)=>true | some (.own _)=>true | _=>false
noncomputable def gU:En->List Nat->List PyData->Option En
 | env,[],[]=>some env
 | env,i :: is,d :: ds=>if free env i=true then gU (env.set i (.dat d)) is ds else none
 | _,_,_=>none
noncomputable def mN (i:Nat) (b:En->Option Out) (d:PyData) (e:En):Option Out:=if free e i=true then b (e.set i (.dat d)) else none
noncomputable def lC (is:List Nat) (b:En->Option Out) (d:PyData) (e:En):Option Out:=match d with
 | .tuple xs=>match gU e is xs with | some e2=>b e2 | none=>none
 | _=>none
noncomputable def dS (gd:List PyData):XS->En->Option Out
 | .skip,env=>some (.nx env)
 | .seq a b,env=>match dS gd a env with
  | some (.nx e)=>dS gd b e
  | o=>o
 | .bf i e,env=>match dE gd e env with
  | some (rv,e1)=>match rv.av with | .dat d=>if free e1 i=true then some (.nx (e1.set i (.dat d))) else none | .bor _=>none
  | none=>none
 | .qp i e,env=>match dE gd e env with
  | some (.frs d,e1)=>if free e1 i=true then some (.nx (e1.set i (.own d))) else none
  | _=>none
 | .CF is e,env=>match dE gd e env with
  | some (rv,e1)=>match rv.av with
   | .dat (.tuple ds)=>match gU e1 is ds with | some e2=>some (.nx e2) | none=>none
   | _=>none
  | none=>none
 | .drop e,env=>match dE gd e env with | some (_,e1)=>some (.nx e1) | none=>none
 | .ret e,env=>match dE gd e env with | some (rv,e1)=>some (.rt rv e1) | none=>none
 | .Fe,env=>some (.rt (.dat .none) env)
 | .ifs c a b,env=>match dT gd c env with
  | some (true,e1)=>dS gd a e1
  | some (false,e1)=>dS gd b e1
  | none=>none
 | .fr i it b,env=>match dI gd it env with
  | some (ds,lock,e1)=>(forL (mN i (dS gd b)) ds (cf e1 lock)).map (Out.map (lkd e1 lock) (aE e1 lock))
  | none=>none
 | .frT is it b,env=>match dI gd it env with
  | some (ds,lock,e1)=>(forL (lC is (dS gd b)) ds (cf e1 lock)).map (Out.map (lkd e1 lock) (aE e1 lock))
  | none=>none
 | .wh n c b,env=>whL (dT gd c) (dS gd b) n env
 | .brk,env=>some (.bk env)
 | .cnt,env=>some (.ct env)
 | .nev,_=>none
 | .sto m i k e,env=>match dE gd e env with
  | some (rv,e1)=>match rv.av with
   | .dat x=>match aT e1 i with
    | some _=>match dE gd k e1 with
     | some (rk,e2)=>match rk.view e2,aT e2 i with
      | some dk,some d=>match m.f d dk x with | some d'=>some (.nx (gT e2 i d')) | none=>none
      | _,_=>none
     | none=>none
    | none=>none
   | .bor _=>none
  | none=>none
noncomputable def BD:PyData->Sl | .tuple ds=>.dat (.tuple ds) | d=>.ro d
noncomputable def aw:List PM->List PyData->Nat->En
 | .dat :: ms,d :: ds,n=>.dat d :: aw ms ds (n - 1)
 | .bor :: ms,d :: ds,n=>BD d :: aw ms ds (n - 1)
 | .ino :: ms,d :: ds,n=>.ino d :: aw ms ds (n - 1)
 | _,_,n=>List.replicate n .un
noncomputable def kM:List PM->En->Option (List PyData)
 | .ino :: ms,.ino d :: es=>match kM ms es with | some ds=>some (d :: ds) | none=>none
 | .ino :: _,_=>none
 | _ :: ms,_ :: es=>kM ms es
 | _,_=>some []
noncomputable def RV.pr:RV->Option PR | .dat d=>some (.dat d) | .frs d=>some (.frs d) | .bor _=>none
noncomputable def bX (gd:List PyData) (ms:List PM) (n:Nat) (b:XS):Fn where
 ms:=ms
 F:=fun ds=>if ds.length=ms.length then match dS gd b (aw ms ds n) with
   | some (.rt rv env)=>match rv.pr,kM ms env with | some pr,some outs=>some (pr,outs) | _,_=>none
   | some (.nx env)=>match kM ms env with | some outs=>some (.dat .none,outs) | none=>none
   | _=>none
  else none
open PySem
theorem bj.rf (H:Hp):bj H H:=fun _ _ h=>h
theorem bj.nw {H:Hp} {a:Addr} (o:HO) (h:H a=none):bj H (upd H a o):=fun b u q=>by rw [au (aD q h)];exact q
section
variable {K:Fg} {F F' I I' F0:Addr->Prop} {H H' H₀:Hp} {env env':En} {σ σ':St} {ga:Nat->V} {gd:List PyData}
def jT (K:Fg) (F0:Addr->Prop) (H₀:Hp) (I:Addr->Prop) (env:En) (σ:St) (H:Hp):RV->V->Prop
 | .dat d,v=>Dm K (FF F0 env σ) H d v
 | .bor i,v=>σ[i]?=some (some v)
 | .frs d,v=>∃ a,v=.ref a/\Rel K (fun b=>F0 b\/b=a) H₀ I env σ H/\Top K (fun b=>FF F0 env σ b\/b=a) H d a/\(H₀ a=none\/I a)/\¬FF F0 env σ a/\(∀ (i:Nat) (d':PyData),env[i]?=some (.ino d')->σ[i]?≠some (some (.ref a))) /\
   ∀ (i:Nat) (d':PyData),env[i]?=some (.ro d')->∃ b,σ[i]?=some (some (.ref b))/\iG K (fun b=>FF F0 env σ b\/b=a) (fun b=>IA env σ b\/b=a) H d' b
def A8 (K:Fg) (F0:Addr->Prop) (env:En) (σ:St) (H:Hp):AV->V->Prop
 | .dat d,v=>Dm K (FF F0 env σ) H d v
 | .bor i,v=>σ[i]?=some (some v)
def jL (K:Fg) (F0:Addr->Prop) (env:En) (σ:St) (H:Hp):List AV->List V->Prop
 | [],vs=>vs=[]
 | a :: as,vs=>∃ v r,vs=v :: r/\A8 K F0 env σ H a v/\jL K F0 env σ H as r
theorem jT.av {rv:RV} {v:V} (h:jT K F0 H₀ I env σ H rv v):A8 K F0 env σ H rv.av v:=by
 cases rv with
 | dat d=>exact h
 | bor i=>exact h
 | frs d =>
  obtain ⟨a,e,R,t,_,n,_⟩:=h;subst e;exact (t.pr Pr.refl (F':=FF F0 env σ) (fun _ z=>.inl z) (fun _ z=>z)).dm n
theorem A8.keep (R:Rel K F0 H₀ I env σ H) (S:Rel K F0 H (IA env σ) env' σ H') (k:KpE env env') {a:AV} {v:V} (h:A8 K F0 env σ H a v):A8 K F0 env' σ H' a v:=by
 cases a with
 | dat d=>exact R.r9 S k h
 | bor i=>exact h
theorem Rel.FX (R:Rel K F0 H₀ I env σ H) {i:Nat} {d:PyData} {v:V} (h:cont env i=some d) (s:σ[i]?=some (some v)):Vw K (FF F0 env σ) H d v:=by
 unfold cont at h;cases e:env[i]? with
 | none=>rw [e] at h;cases h
 | some sl =>
  rw [e] at h;cases sl with
  | un=>cases h
  | dat _=>cases h
  | own d' =>
   cases h;obtain ⟨a,q,_,_,t⟩:=R.own i d e;rw [s] at q;cases q;exact t.r.vw
  | ino d' =>
   cases h;obtain ⟨a,q,_,_,t⟩:=R.ino i d e;rw [s] at q;cases q;exact t.r.vw
  | ro d' =>
   cases h;obtain ⟨a,q,t⟩:=R.ro i d e;rw [s] at q;cases q;exact t.r.vw
theorem Rel.eT (R:Rel K F0 H₀ I env σ H) {i:Nat} {d:PyData} (h:aT env i=some d):mu env i/\∃ a,σ[i]?=some (some (.ref a))/\FF F0 env σ a/\Top K (FF F0 env σ) H d a:=by
 unfold aT at h;cases e:env[i]? with
 | none=>rw [e] at h;cases h
 | some sl =>
  rw [e] at h;cases sl with
  | un=>cases h
  | dat _=>cases h
  | own d' =>
   cases h;obtain ⟨a,q,_,_,t⟩:=R.own i d e;exact ⟨⟨d,.inl e⟩,a,q,.inr ⟨i,d,e,q⟩,t⟩
  | ino d' =>
   cases h;obtain ⟨a,q,f,_,t⟩:=R.ino i d e;exact ⟨⟨d,.inr e⟩,a,q,.inl f,t⟩
  | ro d'=>cases h
theorem A8.vw (R:Rel K F0 H₀ I env σ H) {a:AV} {v:V} {d:PyData} (h:A8 K F0 env σ H a v) (e:a.view env=some d):Vw K (FF F0 env σ) H d v:=by
 cases a with
 | dat d'=>cases e;exact Dm.vw h
 | bor i=>exact R.FX e h
theorem jL.vw (R:Rel K F0 H₀ I env σ H):∀ {as:List AV} {vs:List V} {ds:List PyData},jL K F0 env σ H as vs->aU env as=some ds->VwL K (FF F0 env σ) H ds vs
 | [],_,ds,h,e=>by cases e;exact h
 | a :: as,_,ds,h,e=>by
  obtain ⟨v,r,rfl,h1,h2⟩:=h;unfold aU at e;cases e1:a.view env with
  | none=>rw [e1] at e;cases e
  | some d =>
   cases e2:aU env as with
   | none=>rw [e1,e2] at e;cases e
   | some ds' =>
    rw [e1,e2] at e;cases e;exact ⟨v,r,rfl,h1.vw R e1,jL.vw R h2 e2⟩
theorem jL.mv (R:Rel K F0 H₀ I env σ H):∀ {as:List AV} {vs:List V} {ds:List (Bool×PyData)},jL K F0 env σ H as vs->cq env as=some ds->MvL K (FF F0 env σ) H ds vs
 | [],_,ds,h,e=>by cases e;exact h
 | a :: as,_,ds,h,e=>by
  obtain ⟨v,r,rfl,h1,h2⟩:=h;unfold cq at e;cases e1:a.view env with
  | none=>rw [e1] at e;cases e
  | some d =>
   cases e2:cq env as with
   | none=>rw [e1,e2] at e;cases e
   | some ds' =>
    rw [e1,e2] at e;cases e;have ih:=jL.mv R h2 e2;cases a with
    | dat d'=>cases e1;exact ⟨v,r,rfl,h1,ih⟩
    | bor i=>exact ⟨v,r,rfl,h1.vw R e1,ih⟩
theorem jL.GA:∀ {as:List AV} {vs:List V} {ds:List PyData},jL K F0 env σ H as vs->oS as=some ds->DmL K (FF F0 env σ) H ds vs
 | [],_,ds,h,e=>by cases e;exact h
 | .dat d :: as,_,ds,h,e=>by
  obtain ⟨v,r,rfl,h1,h2⟩:=h;unfold oS at e;cases e2:oS as with
  | none=>rw [e2] at e;cases e
  | some ds' =>
   rw [e2] at e;cases e;exact ⟨v,r,rfl,h1,jL.GA h2 e2⟩
 | .bor i :: as,_,ds,h,e=>by unfold oS at e;cases e
theorem iG.zI {d:PyData} {a c:Addr} (hc:H c=none) (h:iG K F I H d a):iG K F (fun b=>I b\/b=c) H d a:=by
 cases d with
 | list ds=>obtain ⟨xs,e,z,r⟩:=h;exact ⟨xs,e.fresh hc,z,r⟩
 | dict ds =>
  obtain ⟨ep,xs,n,e,z,r⟩:=h;exact ⟨ep,xs,fun q=>q.elim n fun q=>(by subst q;rw [hc] at e;cases e),e,z,r⟩
 | _=>exact absurd h id
theorem Rel.qu (R:Rel K F0 H₀ I env σ H) (s:bj H H') {pr:PR} {v:V} (h:zA K (FF F0 env σ) H H' pr v):jT K F0 H₀ I env σ H' pr.rv v:=by
 cases pr with
 | dat d=>exact h
 | frs d =>
  obtain ⟨a,e,hn,t⟩:=h;refine ⟨a,e,R.fresh hn s ?_,t,R.oi (.inl hn),fun z=>R.fJ z hn,fun i d' e' q=>?_,fun i d' e'=>?_⟩
  ·obtain ⟨o,q,_⟩:=t.wr;rw [q];exact nofun
  ·obtain ⟨o,z,_⟩:=R.iaT ⟨i,⟨d',.inr e'⟩,q⟩;rw [hn] at z;cases z
  ·obtain ⟨b,q,t'⟩:=R.ro i d' e';exact ⟨b,q,((t'.fresh hn).zI hn).pr (Pr.of_same s) (fun _ z=>z) (fun _ z=>z) fun b o z _=>s _ _ z⟩
theorem wN (env:En) (i:Nat) (d:PyData):KpE env (gT env i d):=by
 unfold gT;cases e:env[i]? with
 | none=>exact KpE.refl _
 | some sl =>
  have hi:i < env.length:=(Ka.mp e).1;cases sl with
  | un=>exact KpE.refl _
  | dat _=>exact KpE.refl _
  | ro _=>exact KpE.refl _
  | own d' =>
   refine ⟨KA,fun j s h=>?_⟩;by_cases z:i=j
   ·subst z;rw [e] at h;cases h;exact ⟨.own d,by rw [Kf hi],.inl ⟨d,rfl⟩⟩
   ·exact ⟨s,by rw [J4 z];exact h,.refl s⟩
  | ino d' =>
   refine ⟨KA,fun j s h=>?_⟩;by_cases z:i=j
   ·subst z;rw [e] at h;cases h;exact ⟨.ino d,by rw [Kf hi],⟨d,rfl⟩⟩
   ·exact ⟨s,by rw [J4 z];exact h,.refl s⟩
def SmK (env env':En):Prop:=env'.length=env.length/\∀ i:Nat,env'[i]?=env[i]?\/(∃ d d',env[i]?=some (.own d)/\env'[i]?=some (.own d'))\/∃ d d',env[i]?=some (.ino d)/\env'[i]?=some (.ino d')
theorem SmK.refl (env:En):SmK env env:=⟨rfl,fun _=>.inl rfl⟩
theorem SmK.trans {e1 e2 e3:En} (a:SmK e1 e2) (b:SmK e2 e3):SmK e1 e3:=⟨b.1.trans a.1,fun i=>by
 rcases b.2 i with h | ⟨d,d',h,h'⟩ | ⟨d,d',h,h'⟩
 ·rw [h];exact a.2 i
 ·rcases a.2 i with q | ⟨c,c',q,q'⟩ | ⟨c,c',q,q'⟩
  ·exact .inr (.inl ⟨d,d',by rw [<- q];exact h,h'⟩)
  ·exact .inr (.inl ⟨c,d',q,h'⟩)
  ·rw [h] at q';cases q'
 ·rcases a.2 i with q | ⟨c,c',q,q'⟩ | ⟨c,c',q,q'⟩
  ·exact .inr (.inr ⟨d,d',by rw [<- q];exact h,h'⟩)
  ·rw [h] at q';cases q'
  ·exact .inr (.inr ⟨c,d',q,h'⟩)⟩
theorem SmK.kp (k:SmK env env'):KpE env env':=⟨k.1,fun i s e=>by
 rcases k.2 i with h | ⟨d,d',h,h'⟩ | ⟨d,d',h,h'⟩
 ·exact ⟨s,by rw [h];exact e,.refl s⟩
 ·rw [e] at h;cases h;exact ⟨_,h',.inl ⟨d',rfl⟩⟩
 ·rw [e] at h;cases h;exact ⟨_,h',⟨d',rfl⟩⟩⟩
theorem SmK.symm (k:SmK env env'):SmK env' env:=⟨k.1.symm,fun i=>by
 rcases k.2 i with h | ⟨d,d',h,h'⟩ | ⟨d,d',h,h'⟩
 ·exact .inl h.symm
 ·exact .inr (.inl ⟨d',d,h',h⟩)
 ·exact .inr (.inr ⟨d',d,h',h⟩)⟩
theorem SmK.ff (k:SmK env env'):FF F0 env' σ=FF F0 env σ:=by
 funext b;exact propext ⟨fun h=>k.kp.ff h,fun h=>k.symm.kp.ff h⟩
theorem SmK.ia (k:SmK env env'):IA env' σ=IA env σ:=by
 funext b;exact propext ⟨fun h=>k.kp.ia h,fun h=>k.symm.kp.ia h⟩
theorem fO (env:En) (i:Nat) (d:PyData):SmK env (gT env i d):=by
 unfold gT;cases e:env[i]? with
 | none=>exact SmK.refl _
 | some sl =>
  have hi:i < env.length:=(Ka.mp e).1;cases sl with
  | un=>exact SmK.refl _
  | dat _=>exact SmK.refl _
  | ro _=>exact SmK.refl _
  | own d' =>
   refine ⟨KA,fun j=>?_⟩;by_cases z:i=j
   ·subst z;exact .inr (.inl ⟨d',d,e,by rw [Kf hi]⟩)
   ·exact .inl (by rw [J4 z])
  | ino d' =>
   refine ⟨KA,fun j=>?_⟩;by_cases z:i=j
   ·subst z;exact .inr (.inr ⟨d',d,e,by rw [Kf hi]⟩)
   ·exact .inl (by rw [J4 z])
theorem m4 {env:En} {i:Nat} {d:PyData} (h:mu env i):aT (gT env i d) i=some d:=by
 unfold gT aT;obtain ⟨d',e | e⟩:=h
 ·have hi:i < env.length:=(Ka.mp e).1;rw [e];simp only;rw [Kf hi]
 ·have hi:i < env.length:=(Ka.mp e).1;rw [e];simp only;rw [Kf hi]
theorem oe {env:En} {i j:Nat} {d:PyData} (h:j≠i):(gT env i d)[j]?=env[j]?:=by
 unfold gT;split <;> first | rfl | rw [J4 (Ne.symm h)]
theorem sU {env:En} {i:Nat} {d:PyData} (h:aT env i=some d):env[i]?=some (.own d)\/env[i]?=some (.ino d):=by
 unfold aT at h;split at h
 ·rename_i e;cases h;exact .inl e
 ·rename_i e;cases h;exact .inr e
 ·cases h
theorem Rel.chg (R:Rel K F0 H₀ I env σ H) (k:SmK env env') (hk:∀ b o,H b=some o->¬IA env σ b->H' b=some o) (ht:∀ i d a,aT env' i=some d->σ[i]?=some (some (.ref a))->Top K (FF F0 env σ) H' d a):Rel K F0 H₀ I env' σ H':=by
 have p:=R.qK hk;have eF:=k.ff (F0:=F0) (σ:=σ);have eI:=k.ia (σ:=σ);have mc:∀ {i:Nat} {d:PyData},env'[i]?=some (.own d)\/env'[i]?=some (.ino d)->aT env' i=some d:=fun {i d} h=>by
  unfold aT;rcases h with h | h <;> rw [h]
 refine ⟨k.1.trans R.len,fun i d e=>?_,fun i d e=>?_,fun i d e=>?_,fun i d e=>?_,fun i j a h1 h2 h3 h4=>R.sep i j a (k.kp.mu h1) (k.kp.mu h2) h3 h4,fun b h=>?_,fun b o h n=>?_⟩
 ·rcases k.2 i with q | ⟨c,c',q,q'⟩ | ⟨c,c',q,q'⟩
  ·rw [e] at q;obtain ⟨v,s,r⟩:=R.dat i d q.symm;rw [eF];exact ⟨v,s,r.pr p fun _ z=>z⟩
  ·rw [e] at q';cases q'
  ·rw [e] at q';cases q'
 ·have hm:=mc (.inl e);obtain ⟨d0,e0⟩:=k.kp.own e;obtain ⟨a,s,n,w,_⟩:=R.own i d0 e0;rw [eF];exact ⟨a,s,n,w,ht i d a hm s⟩
 ·have hm:=mc (.inr e);have:∃ d0,env[i]?=some (.ino d0):=by
   rcases k.2 i with q | ⟨c,c',q,q'⟩ | ⟨c,c',q,q'⟩
   ·exact ⟨d,by rw [<- q];exact e⟩
   ·rw [e] at q';cases q'
   ·exact ⟨c,q⟩
  obtain ⟨d0,e0⟩:=this;obtain ⟨a,s,n,w,_⟩:=R.ino i d0 e0;rw [eF];exact ⟨a,s,n,w,ht i d a hm s⟩
 ·have e0:env[i]?=some (.ro d):=by
   rcases k.2 i with q | ⟨c,c',q,q'⟩ | ⟨c,c',q,q'⟩
   ·rw [<- q];exact e
   ·rw [e] at q';cases q'
   ·rw [e] at q';cases q'
  obtain ⟨a,s,t⟩:=R.ro i d e0;rw [eF,eI];exact ⟨a,s,t.pr p (fun _ z=>z) (fun _ z=>z) hk⟩
 ·by_cases z:IA env σ b
  ·obtain ⟨i,m,s⟩:=z;have m':=k.symm.kp.mu m;obtain ⟨d,m'⟩:=m';obtain ⟨o,q,_⟩:=(ht i d b (mc m') s).wr;rw [q];exact nofun
  ·cases e:H b with
   | none=>exact absurd e (R.dom b h)
   | some o=>rw [hk b o e z];exact nofun
 ·refine hk b o (R.gw b o h n) fun z=>?_;rcases R.iaI z with q | q
  ·rw [h] at q;cases q
  ·exact n q
end
open PySem
section
variable {K:Fg} {F F' I I' F0:Addr->Prop} {H H' H₀:Hp} {env env':En} {σ σ':St} {ga:Nat->V} {gd:List PyData}
theorem get_set {α:Type} {l:List α} {i j:Nat} {x y:α} (h:(l.set i x)[j]?=some y):(i=j/\x=y)\/(i≠j/\l[j]?=some y):=by
 by_cases z:i=j
 ·subst z;by_cases hi:i < l.length
  ·rw [Kf hi] at h;exact .inl ⟨rfl,KN h⟩
  ·rw [List.getElem?_eq_none (by rw [KA];omega)] at h;cases h
 ·rw [J4 z] at h;exact .inr ⟨z,h⟩
theorem Rel.sub (R:Rel K F0 H₀ I env σ H) (i:Nat) (x:Option V):(∀ b,FF F0 (env.set i .un) (σ.set i x) b->FF F0 env σ b)/\(∀ b,IA (env.set i .un) (σ.set i x) b->IA env σ b):=by
 constructor
 ·rintro b (h | ⟨j,d,e,s⟩)
  ·exact .inl h
  ·rcases get_set e with ⟨_,z⟩ | ⟨n,e⟩
   ·cases z
   ·rw [J4 n] at s;exact .inr ⟨j,d,e,s⟩
 ·rintro b ⟨j,⟨d,e⟩,s⟩;have:∃ d,(env[j]?=some (.own d)\/env[j]?=some (.ino d))/\i≠j:=by
   rcases e with e | e
   ·rcases get_set e with ⟨_,z⟩ | ⟨n,e⟩
    ·cases z
    ·exact ⟨d,.inl e,n⟩
   ·rcases get_set e with ⟨_,z⟩ | ⟨n,e⟩
    ·cases z
    ·exact ⟨d,.inr e,n⟩
  obtain ⟨d,e,n⟩:=this;rw [J4 n] at s;exact ⟨j,⟨d,e⟩,s⟩
theorem Rel.forget (R:Rel K F0 H₀ I env σ H) (i:Nat) (x:Option V):Rel K F0 H₀ I (env.set i .un) (σ.set i x) H:=by
 obtain ⟨hf,hi⟩:=R.sub i x;have mm:∀ j,mu (env.set i .un) j->mu env j/\i≠j:=fun j h=>by
  obtain ⟨d,e | e⟩:=h
  ·rcases get_set e with ⟨_,z⟩ | ⟨n,e⟩
   ·cases z
   ·exact ⟨⟨d,.inl e⟩,n⟩
  ·rcases get_set e with ⟨_,z⟩ | ⟨n,e⟩
   ·cases z
   ·exact ⟨⟨d,.inr e⟩,n⟩
 refine ⟨by rw [KA,KA];exact R.len,fun j d e=>?_,fun j d e=>?_,fun j d e=>?_,fun j d e=>?_,fun j k a h1 h2 h3 h4=>?_,R.dom,R.gw⟩
 ·rcases get_set e with ⟨_,z⟩ | ⟨n,e⟩
  ·cases z
  obtain ⟨v,s,r⟩:=R.dat j d e;exact ⟨v,by rw [J4 n];exact s,r.mono hf⟩
 ·rcases get_set e with ⟨_,z⟩ | ⟨n,e⟩
  ·cases z
  obtain ⟨a,s,q,w,t⟩:=R.own j d e;exact ⟨a,by rw [J4 n];exact s,q,w,t.pr Pr.refl hf fun _ z=>z⟩
 ·rcases get_set e with ⟨_,z⟩ | ⟨n,e⟩
  ·cases z
  obtain ⟨a,s,q,w,t⟩:=R.ino j d e;exact ⟨a,by rw [J4 n];exact s,q,w,t.pr Pr.refl hf fun _ z=>z⟩
 ·rcases get_set e with ⟨_,z⟩ | ⟨n,e⟩
  ·cases z
  obtain ⟨a,s,t⟩:=R.ro j d e;exact ⟨a,by rw [J4 n];exact s,t.pr Pr.refl hf hi fun _ _ z _=>z⟩
 ·obtain ⟨m1,n1⟩:=mm j h1;obtain ⟨m2,n2⟩:=mm k h2;rw [J4 n1] at h3;rw [J4 n2] at h4;exact R.sep j k a m1 m2 h3 h4
theorem mK {i:Nat} {s:Sl} {x:Option V} (hu:env[i]?=some .un) (hs:∀ d,s≠.own d):FF F0 (env.set i s) (σ.set i x)=FF F0 env σ:=by
 funext b;apply propext;constructor
 ·rintro (h | ⟨j,d,e,q⟩)
  ·exact .inl h
  ·rcases get_set e with ⟨_,z⟩ | ⟨n,e⟩
   ·exact absurd z (hs d)
   ·rw [J4 n] at q;exact .inr ⟨j,d,e,q⟩
 ·rintro (h | ⟨j,d,e,q⟩)
  ·exact .inl h
  ·have n:i≠j:=fun z=>by subst z;rw [hu] at e;cases e
   exact .inr ⟨j,d,by rw [J4 n];exact e,by rw [J4 n];exact q⟩
theorem uU {i:Nat} {s:Sl} {x:Option V} (hu:env[i]?=some .un) (hs:∀ d,s≠.own d/\s≠.ino d):IA (env.set i s) (σ.set i x)=IA env σ:=by
 funext b;apply propext;constructor
 ·rintro ⟨j,⟨d,e | e⟩,q⟩
  ·rcases get_set e with ⟨_,z⟩ | ⟨n,e⟩
   ·exact absurd z (hs d).1
   ·rw [J4 n] at q;exact ⟨j,⟨d,.inl e⟩,q⟩
  ·rcases get_set e with ⟨_,z⟩ | ⟨n,e⟩
   ·exact absurd z (hs d).2
   ·rw [J4 n] at q;exact ⟨j,⟨d,.inr e⟩,q⟩
 ·rintro ⟨j,⟨d,e⟩,q⟩;have n:i≠j:=fun z=>by subst z;rw [hu] at e;rcases e with e | e <;> cases e
  refine ⟨j,⟨d,?_⟩,by rw [J4 n];exact q⟩;rw [J4 n];exact e
theorem Rel.putD (R:Rel K F0 H₀ I env σ H) {i:Nat} {d:PyData} {v:V} (hu:env[i]?=some .un) (h:Dm K (FF F0 env σ) H d v):Rel K F0 H₀ I (env.set i (.dat d)) (σ.set i (some v)) H:=by
 have hi:i < env.length:=(Ka.mp hu).1;have eF:FF F0 (env.set i (.dat d)) (σ.set i (some v))=FF F0 env σ:=mK hu (fun _=>nofun);have eI:IA (env.set i (.dat d)) (σ.set i (some v))=IA env σ:=uU hu (fun _=>⟨nofun,nofun⟩);have mm:∀ j,mu (env.set i (.dat d)) j->mu env j/\i≠j:=fun j h=>by
  obtain ⟨c,e | e⟩:=h
  ·rcases get_set e with ⟨_,z⟩ | ⟨n,e⟩
   ·cases z
   ·exact ⟨⟨c,.inl e⟩,n⟩
  ·rcases get_set e with ⟨_,z⟩ | ⟨n,e⟩
   ·cases z
   ·exact ⟨⟨c,.inr e⟩,n⟩
 refine ⟨by rw [KA,KA];exact R.len,fun j c e=>?_,fun j c e=>?_,fun j c e=>?_,fun j c e=>?_,fun j k a h1 h2 h3 h4=>?_,R.dom,R.gw⟩
 ·rw [eF];rcases get_set e with ⟨z,y⟩ | ⟨n,e⟩
  ·subst z;cases y;exact ⟨v,Kf (by rw [<- R.len];exact hi),h⟩
  obtain ⟨w,s,r⟩:=R.dat j c e;exact ⟨w,by rw [J4 n];exact s,r⟩
 ·rw [eF];rcases get_set e with ⟨_,z⟩ | ⟨n,e⟩
  ·cases z
  obtain ⟨a,s,q,w,t⟩:=R.own j c e;exact ⟨a,by rw [J4 n];exact s,q,w,t⟩
 ·rw [eF];rcases get_set e with ⟨_,z⟩ | ⟨n,e⟩
  ·cases z
  obtain ⟨a,s,q,w,t⟩:=R.ino j c e;exact ⟨a,by rw [J4 n];exact s,q,w,t⟩
 ·rw [eF,eI];rcases get_set e with ⟨_,z⟩ | ⟨n,e⟩
  ·cases z
  obtain ⟨a,s,t⟩:=R.ro j c e;exact ⟨a,by rw [J4 n];exact s,t⟩
 ·obtain ⟨m1,n1⟩:=mm j h1;obtain ⟨m2,n2⟩:=mm k h2;rw [J4 n1] at h3;rw [J4 n2] at h4;exact R.sep j k a m1 m2 h3 h4
theorem Rel.Ir {i:Nat} {d:PyData} {a:Addr} (hu:env[i]?=some .un) (h:jT K F0 H₀ I env σ H (.frs d) (.ref a)):Rel K F0 H₀ I (env.set i (.own d)) (σ.set i (some (.ref a))) H:=by
 obtain ⟨a',ea,R,t,w,nF,hino,hro⟩:=h;cases ea;have hi:i < env.length:=(Ka.mp hu).1;have his:i < σ.length:=by rw [<- R.len];exact hi
 have eF:FF F0 (env.set i (.own d)) (σ.set i (some (.ref a)))=fun b=>FF F0 env σ b\/b=a:=by
  funext b;apply propext;constructor
  ·rintro (h | ⟨j,c,e,q⟩)
   ·exact .inl (.inl h)
   ·rcases get_set e with ⟨z,y⟩ | ⟨n,e⟩
    ·subst z;rw [Kf his] at q;cases q;exact .inr rfl
    ·rw [J4 n] at q;exact .inl (.inr ⟨j,c,e,q⟩)
  ·rintro ((h | ⟨j,c,e,q⟩) | rfl)
   ·exact .inl h
   ·have n:i≠j:=fun z=>by subst z;rw [hu] at e;cases e
    exact .inr ⟨j,c,by rw [J4 n];exact e,by rw [J4 n];exact q⟩
   ·exact .inr ⟨i,d,Kf hi,Kf his⟩
 have eF2:FF (fun b=>F0 b\/b=a) env σ=fun b=>FF F0 env σ b\/b=a:=k7;have mm:∀ j,mu (env.set i (.own d)) j->i=j\/(mu env j/\i≠j):=fun j h=>by
  obtain ⟨c,e | e⟩:=h
  ·rcases get_set e with ⟨z,_⟩ | ⟨n,e⟩
   ·exact .inl z
   ·exact .inr ⟨⟨c,.inl e⟩,n⟩
  ·rcases get_set e with ⟨z,_⟩ | ⟨n,e⟩
   ·exact .inl z
   ·exact .inr ⟨⟨c,.inr e⟩,n⟩
 have eI:∀ b,IA (env.set i (.own d)) (σ.set i (some (.ref a))) b->IA env σ b\/b=a:=by
  rintro b ⟨j,m,q⟩;rcases mm j m with z | ⟨m',n⟩
  ·subst z;rw [Kf his] at q;cases q;exact .inr rfl
  ·rw [J4 n] at q;exact .inl ⟨j,m',q⟩
 have na:∀ j,mu env j->σ[j]?≠some (some (.ref a)):=fun j m q=>by
  obtain ⟨c,e | e⟩:=m
  ·exact nF (.inr ⟨j,c,e,q⟩)
  ·exact hino j c e q
 refine ⟨by rw [KA,KA];exact R.len,fun j c e=>?_,fun j c e=>?_,fun j c e=>?_,fun j c e=>?_,fun j k b h1 h2 h3 h4=>?_,fun b h=>R.dom b (.inl h),R.gw⟩
 ·rw [eF];rcases get_set e with ⟨_,z⟩ | ⟨n,e⟩
  ·cases z
  obtain ⟨x,s,r⟩:=R.dat j c e;rw [eF2] at r;exact ⟨x,by rw [J4 n];exact s,r⟩
 ·rw [eF];rcases get_set e with ⟨z,y⟩ | ⟨n,e⟩
  ·subst z;cases y;exact ⟨a,Kf his,fun z=>nF (.inl z),w,t⟩
  obtain ⟨b,s,q,w',t'⟩:=R.own j c e;rw [eF2] at t';exact ⟨b,by rw [J4 n];exact s,fun z=>q (.inl z),w',t'⟩
 ·rw [eF];rcases get_set e with ⟨_,z⟩ | ⟨n,e⟩
  ·cases z
  obtain ⟨b,s,q,w',t'⟩:=R.ino j c e;rw [eF2] at t';refine ⟨b,by rw [J4 n];exact s,?_,w',t'⟩;rcases q with q | q
  ·exact q
  ·subst q;exact absurd s (hino j c e)
 ·rw [eF];rcases get_set e with ⟨_,z⟩ | ⟨n,e⟩
  ·cases z
  obtain ⟨b,s,t'⟩:=hro j c e;exact ⟨b,by rw [J4 n];exact s,t'.pr Pr.refl (fun _ z=>z) eI fun _ _ z _=>z⟩
 ·rcases mm j h1 with z1 | ⟨m1,n1⟩
  ·rcases mm k h2 with z2 | ⟨m2,n2⟩
   ·rw [<- z1,<-z2]
   ·rw [<- z1,Kf his] at h3;cases h3;rw [J4 n2] at h4;exact absurd h4 (na k m2)
  ·rw [J4 n1] at h3;rcases mm k h2 with z2 | ⟨m2,n2⟩
   ·rw [<- z2,Kf his] at h4;cases h4;exact absurd h3 (na j m1)
   ·rw [J4 n2] at h4;exact R.sep j k b m1 m2 h3 h4
theorem Rel.take (R:Rel K F0 H₀ I env σ H) {i:Nat} {d:PyData} (e:env[i]?=some (.own d)):∃ a,σ[i]?=some (some (.ref a))/\jT K F0 H₀ I (env.set i .un) σ H (.frs d) (.ref a):=by
 obtain ⟨a,s,nF0,w,t⟩:=R.own i d e;have hi:i < env.length:=(Ka.mp e).1;have mm:∀ j,mu (env.set i .un) j->mu env j/\i≠j:=fun j h=>by
  obtain ⟨c,e | e⟩:=h
  ·rcases get_set e with ⟨_,z⟩ | ⟨n,e⟩
   ·cases z
   ·exact ⟨⟨c,.inl e⟩,n⟩
  ·rcases get_set e with ⟨_,z⟩ | ⟨n,e⟩
   ·cases z
   ·exact ⟨⟨c,.inr e⟩,n⟩
 have eF:FF F0 env σ=fun b=>FF F0 (env.set i .un) σ b\/b=a:=by
  funext b;apply propext;constructor
  ·rintro (h | ⟨j,c,e',q⟩)
   ·exact .inl (.inl h)
   ·by_cases n:i=j
    ·subst n;rw [s] at q;cases q;exact .inr rfl
    ·exact .inl (.inr ⟨j,c,by rw [J4 n];exact e',q⟩)
  ·rintro ((h | ⟨j,c,e',q⟩) | rfl)
   ·exact .inl h
   ·rcases get_set e' with ⟨_,z⟩ | ⟨n,e'⟩
    ·cases z
    ·exact .inr ⟨j,c,e',q⟩
   ·exact .inr ⟨i,d,e,s⟩
 have eF2:FF (fun b=>F0 b\/b=a) (env.set i .un) σ=FF F0 env σ:=by rw [k7];exact eF.symm
 have na:∀ j,mu (env.set i .un) j->σ[j]?≠some (some (.ref a)):=fun j m q=>by
  obtain ⟨m',n⟩:=mm j m;exact n (R.sep i j a ⟨d,.inl e⟩ m' s q)
 have nF:¬FF F0 (env.set i .un) σ a:=by
  rintro (h | ⟨j,c,e',q⟩)
  ·exact nF0 h
  ·exact na j ⟨c,.inl e'⟩ q
 have ia:∀ b,IA (env.set i .un) σ b->IA env σ b:=fun b ⟨j,m,q⟩=>⟨j,(mm j m).1,q⟩;have ia2:∀ b,(IA (env.set i .un) σ b\/b=a)->IA env σ b:=fun b h=>h.elim (ia b) fun z=>z▸⟨i,⟨d,.inl e⟩,s⟩;have R':Rel K (fun b=>F0 b\/b=a) H₀ I (env.set i .un) σ H:=by
  refine ⟨by rw [KA];exact R.len,fun j c e'=>?_,fun j c e'=>?_,fun j c e'=>?_,fun j c e'=>?_,fun j k b h1 h2 h3 h4=>R.sep j k b (mm j h1).1 (mm k h2).1 h3 h4,fun b h=>?_,R.gw⟩
  ·rw [eF2];rcases get_set e' with ⟨_,z⟩ | ⟨n,e'⟩
   ·cases z
   exact R.dat j c e'
  ·rw [eF2];have m:=e';rcases get_set e' with ⟨_,z⟩ | ⟨n,e'⟩
   ·cases z
   obtain ⟨b,s',q,w',t'⟩:=R.own j c e';exact ⟨b,s',fun z=>z.elim q fun z=>na j ⟨c,.inl m⟩ (z▸s'),w',t'⟩
  ·rw [eF2];rcases get_set e' with ⟨_,z⟩ | ⟨n,e'⟩
   ·cases z
   obtain ⟨b,s',q,w',t'⟩:=R.ino j c e';exact ⟨b,s',.inl q,w',t'⟩
  ·rw [eF2];rcases get_set e' with ⟨_,z⟩ | ⟨n,e'⟩
   ·cases z
   obtain ⟨b,s',t'⟩:=R.ro j c e';exact ⟨b,s',t'.pr Pr.refl (fun _ z=>z) ia fun _ _ z _=>z⟩
  ·rcases h with h | h
   ·exact R.dom b h
   ·obtain ⟨o,q,_⟩:=t.wr;rw [h,q];exact nofun
 refine ⟨a,s,a,rfl,R',by rw [eF] at t;exact t,w,nF,fun j c e'=>na j ⟨c,.inr e'⟩,fun j c e'=>?_⟩;rcases get_set e' with ⟨_,z⟩ | ⟨n,e'⟩
 ·cases z
 obtain ⟨b,s',t'⟩:=R.ro j c e';rw [eF] at t';exact ⟨b,s',t'.pr Pr.refl (fun _ z=>z) ia2 fun _ _ z _=>z⟩
theorem jT.rel {d:PyData} {v:V} (h:jT K F0 H₀ I env σ H (.frs d) v):Rel K F0 H₀ I env σ H:=by
 obtain ⟨a,_,R,_,_,_,hi,_⟩:=h;exact R.less hi
theorem set_same {α:Type} {l:List α} {i:Nat} {x:α} (h:l[i]?=some x):l.set i x=l:=by
 have hi:i < l.length:=(Ka.mp h).1;apply List.ext_getElem?;intro j;by_cases z:i=j
 ·subst z;rw [Kf hi,h]
 ·rw [J4 z]
theorem Rel.mov (R:Rel K F0 H₀ I env σ H) {i:Nat} {d:PyData} (e:env[i]?=some (.own d)):∃ a,σ[i]?=some (some (.ref a))/\Rel K F0 H₀ I (env.set i (.dat d)) σ H/\Dm K (FF F0 (env.set i (.dat d)) σ) H d (.ref a):=by
 have hi:i < env.length:=(Ka.mp e).1;obtain ⟨a,s,h⟩:=R.take e;have R1:=h.rel;have hu:(env.set i .un)[i]?=some .un:=Kf hi;have hd:Dm K (FF F0 (env.set i .un) σ) H d (.ref a):=jT.av h;have R2:=R1.putD hu hd;rw [Lj,set_same s] at R2;refine ⟨a,s,R2,?_⟩;have eF:FF F0 (env.set i (.dat d)) σ=FF F0 (env.set i .un) σ:=by
  have:=mK (F0:=F0) (σ:=σ) (s:=.dat d) (x:=some (.ref a)) hu (fun _=>nofun);rw [Lj,set_same s] at this;exact this
 rw [eF];exact hd
theorem zN {i:Nat} {s s':Sl} (e:env[i]?=some s) (v:Evo s s'):KpE env (env.set i s'):=by
 have hi:i < env.length:=(Ka.mp e).1;refine ⟨KA,fun j t h=>?_⟩;by_cases z:i=j
 ·subst z;rw [e] at h;cases h;exact ⟨s',Kf hi,v⟩
 ·exact ⟨t,by rw [J4 z];exact h,.refl t⟩
end
open PySem
theorem aI (x y:Str):(x++y).cps=x.cps++y.cps:=rfl
theorem p8 {x y:Str} (h:PyData.strOk x=true) (q:PyData.strOk y=true):PyData.strOk (x++y)=true:=by
 unfold PyData.strOk at h q ⊢;rw [aI,Array.all_append,h,q];rfl
def SE (K:Fg) (ga:Nat->V) (gd:List PyData) (e:XE):Prop:=∀ (env:En) (rv:RV) (env':En),dE gd e env=some (rv,env')->∀ (F0:Addr->Prop) (H₀:Hp) (I:Addr->Prop) (σ:St) (H:Hp) (Q:VK),Rel K F0 H₀ I env σ H ->
 (∀ v H',Rel K F0 H₀ I env' σ H'->KpE env env'->jT K F0 H₀ I env' σ H' rv v->Q v H')->rE K ga e σ H Q
def SA (K:Fg) (ga:Nat->V) (gd:List PyData) (e:XA):Prop:=∀ (env:En) (rv:List AV) (env':En),dA gd e env=some (rv,env')->∀ (F0:Addr->Prop) (H₀:Hp) (I:Addr->Prop) (σ:St) (H:Hp) (Q:List V->Hp->Prop),Rel K F0 H₀ I env σ H ->
 (∀ v H',Rel K F0 H₀ I env' σ H'->KpE env env'->jL K F0 env' σ H' rv v->Q v H')->rA K ga e σ H Q
def SF (K:Fg) (ga:Nat->V) (gd:List PyData) (e:XA):Prop:=∀ (out:Str) (env:En) (x:Str) (env':En),dF gd e out env=some (x,env')->∀ (F0:Addr->Prop) (H₀:Hp) (I:Addr->Prop) (σ:St) (H:Hp) (Q:VK),Rel K F0 H₀ I env σ H ->
 PyData.strOk out=true->(∀ H',Rel K F0 H₀ I env' σ H'->KpE env env'->x.length<=sizeLine->PyData.strOk x=true->Q (.str x) H')->tFs (rF K ga e) out σ H Q
def Ic (K:Fg) (F:Addr->Prop) (H:Hp):List (Key×PyData)->List (Key×V)->Prop
 | [],vs=>vs=[]
 | (k,d) :: ds,vs=>∃ v r,vs=(k,v) :: r/\Dm K F H (kD k) (kV k)/\Dm K F H d v/\Ic K F H ds r
def SPs (K:Fg) (ga:Nat->V) (gd:List PyData) (e:XP):Prop:=∀ (env:En) (kvs:List (Key×PyData)) (env':En),dP gd e env=some (kvs,env')->∀ (F0:Addr->Prop) (H₀:Hp) (I:Addr->Prop) (σ:St) (H:Hp) (Q:List (V×V)->Hp->Prop),Rel K F0 H₀ I env σ H ->
 (∀ vs H',Rel K F0 H₀ I env' σ H'->KpE env env'->Ic K (FF F0 env' σ) H' kvs vs->Q (vs.map fun kv=>(kV kv.1,kv.2)) H')->zB (rP K ga e) σ H Q
def ST (K:Fg) (ga:Nat->V) (gd:List PyData) (e:XT):Prop:=∀ (env:En) (b:Bool) (env':En),dT gd e env=some (b,env')->∀ (F0:Addr->Prop) (H₀:Hp) (I:Addr->Prop) (σ:St) (H:Hp) (Q:Bool->Hp->Prop),Rel K F0 H₀ I env σ H ->
 (∀ H',Rel K F0 H₀ I env' σ H'->KpE env env'->Q b H')->rT K ga e σ H Q
def ItY (K:Fg) (F:Addr->Prop) (H H' H'':Hp) (d:PyData) (x:V):Prop:=(H''=H'/\Dm K F H d x)\/∃ p u v d1 d2,d=.tuple [d1,d2]/\x=.ref p/\H' p=none/\H''=upd H' p (.tup [u,v])/\Dm K F H d1 u/\Dm K F H d2 v
theorem ItY.dm {K:Fg} {F F2:Addr->Prop} {H H' H'':Hp} {d:PyData} {x:V} (h:ItY K F H H' H'' d x) (T:∀ d v,Dm K F H d v->Dm K F2 H' d v):bj H' H''/\Dm K F2 H'' d x:=by
 rcases h with ⟨rfl,h⟩ | ⟨p,u,v,d1,d2,rfl,rfl,hp,rfl,h1,h2⟩
 ·exact ⟨fun _ _ e=>e,T _ _ h⟩
 ·have sm:bj H' (upd H' p (.tup [u,v])):=fun b o e=>by rw [au (fun z=>by rw [z,hp] at e;cases e)];exact e
  refine ⟨sm,p,[u,v],rfl,SqT.of aH,K7 rfl,u,_,rfl,?_,v,_,rfl,?_,rfl⟩
  ·exact (T _ _ h1).pr (fun b o e _=>sm b o e) fun _ z=>z
  ·exact (T _ _ h2).pr (fun b o e _=>sm b o e) fun _ z=>z
def yu (K:Fg) (F I:Addr->Prop) (H:Hp) (J:It) (ds:List PyData):Prop:=ds.length<=sizeLine/\∀ H',(∀ b o,H b=some o->¬I b->H' b=some o)->∀ k,(k < ds.length->J.go k H'/\∀ x H'',J.yld k H' x H''->∃ d,ds[k]?=some d/\ItY K F H H' H'' d x)/\(ds.length<=k->J.stop k H')
theorem nQ {K:Fg} {F I:Addr->Prop} {H:Hp} {J:It} {ds:List PyData} {vs:List V} (hd:DmL K F H ds vs) (hl:vs.length<=sizeLine) (h:∀ H',(∀ b o,H b=some o->¬I b->H' b=some o)->∀ k,(k < vs.length->J.go k H'/\∀ x H'',J.yld k H' x H''->H''=H'/\vs[k]?=some x)/\(vs.length<=k->J.stop k H')):yu K F I H J ds:=by
 have e:=hd.len;refine ⟨by omega,fun H' k j=>⟨fun hj=>?_,fun hj=>((h H' k j).2 (by omega))⟩⟩;obtain ⟨g,y⟩:=(h H' k j).1 (by omega);refine ⟨g,fun x H'' hx=>?_⟩;obtain ⟨e0,hx2⟩:=y x H'' hx;obtain ⟨d,h1,h2⟩:=hd.get' hx2;exact ⟨d,h1,.inl ⟨e0,h2⟩⟩
def SI (K:Fg) (ga:Nat->V) (gd:List PyData) (e:XI):Prop:=∀ (env:En) (ds:List PyData) (lock:Option Nat) (env':En),dI gd e env=some (ds,lock,env')->∀ (F0:Addr->Prop) (H₀:Hp) (I:Addr->Prop) (σ:St) (H:Hp) (R:It->Hp->Prop),Rel K F0 H₀ I env σ H ->
 (∀ J H',Rel K F0 H₀ I env' σ H'->KpE env env'->(∀ i,lock=some i->∃ d,cont env' i=some d)->yu K (FF F0 env' σ) (fun b=>IA env' σ b/\∀ i,lock=some i->mu env' i->σ[i]?≠some (some (.ref b))) H' J ds->R J H')->rI_ K ga e σ H R
section
variable {K:Fg} {F F' I I' F0:Addr->Prop} {H H' H₀:Hp} {env env':En} {σ σ':St} {ga:Nat->V} {gd:List PyData}
theorem GQ (i:Nat):SE K ga gd (.var i):=by
 intro env rv env' h F0 H₀ I σ H Q R q;simp only [dE] at h;split at h
 ·rename_i d e;cases h;obtain ⟨v,s,r⟩:=R.dat i d e;exact ⟨v,s,q v H R (KpE.refl _) r⟩
 ·rename_i d e;cases h;obtain ⟨a,s,_⟩:=R.own i d e;exact ⟨_,s,q _ H R (KpE.refl _) s⟩
 ·rename_i d e;cases h;obtain ⟨a,s,_⟩:=R.ino i d e;exact ⟨_,s,q _ H R (KpE.refl _) s⟩
 ·rename_i d e;cases h;obtain ⟨a,s,_⟩:=R.ro i d e;exact ⟨_,s,q _ H R (KpE.refl _) s⟩
 ·cases h
theorem GL (i:Nat):SE K ga gd (.mov i):=by
 intro env rv env' h F0 H₀ I σ H Q R q;simp only [dE] at h;split at h
 ·rename_i d e;cases h;obtain ⟨a,s,R',r⟩:=R.mov e;exact ⟨_,s,q _ H R' (zN e (.inr (.inl ⟨d,rfl⟩))) r⟩
 ·cases h
theorem Fs (i:Nat):SE K ga gd (.tke i):=by
 intro env rv env' h F0 H₀ I σ H Q R q;simp only [dE] at h;split at h
 ·rename_i d e;cases h;obtain ⟨a,s,r⟩:=R.take e;exact ⟨_,s,q _ H r.rel (zN e (.inr (.inr rfl))) r⟩
 ·cases h
theorem Hq (c:Cst):SE K ga gd (.cst c):=by
 intro env rv env' h F0 H₀ I σ H Q R q;simp only [dE] at h;cases h;exact q _ H R (KpE.refl _) (c.ok _ _ _)
theorem Gh (hg:∀ g d,gd[g]?=some d->∀ F H,Dm K F H d (ga g)) (g:Nat):SE K ga gd (.glb g):=by
 intro env rv env' h F0 H₀ I σ H Q R q;simp only [dE] at h;split at h
 ·rename_i d e;cases h;exact q _ H R (KpE.refl _) (hg g d e _ _)
 ·cases h
theorem Hj {p:Prm} {as:XA} (ih:SA K ga gd as):SE K ga gd (.prm p as):=by
 intro env rv env' h F0 H₀ I σ H Q R q;simp only [dE] at h;split at h
 ·rename_i avs e1 h1;split at h
  ·rename_i ds h2;split at h
   ·rename_i pr h3;cases h;refine ih _ _ _ h1 F0 H₀ I σ H _ R fun vs H1 R1 k1 a1=>?_;refine p.ok K _ H1 ds vs pr Q h3 (a1.vw R1 h2) (fun b z=>R1.fJ z) fun v H2 s2 hp=>?_;exact q v H2 (R1.same s2) k1 (R1.qu s2 hp)
   ·cases h
  ·cases h
 ·cases h
theorem Gr {m:Mtd} {o:XE} {as:XA} (io:SE K ga gd o) (ih:SA K ga gd as):SE K ga gd (.met m o as):=by
 intro env rv env' h F0 H₀ I σ H Q R q;simp only [dE] at h;split at h
 ·rename_i rv0 e1 h1;split at h
  ·rename_i d0 h2;split at h
   ·rename_i hty;split at h
    ·rename_i avs e2 h3;split at h
     ·rename_i d ds h4 h5;split at h
      ·rename_i pr h6;cases h;refine io _ _ _ h1 F0 H₀ I σ H _ R fun v H1 R1 k1 a1=>?_;refine ⟨m.xE K _ H1 d0 v hty (a1.av.vw R1 h2),?_⟩;refine ih _ _ _ h3 F0 _ _ σ H1 _ R1.rebase fun vs H2 S2 k2 a2=>?_;have R2:=R1.bV S2;refine m.ok K _ H2 d v ds vs pr Q h6 ((a1.av.keep R1 S2 k2).vw R2 h4) (a2.vw R2 h5) (fun b z=>R2.fJ z) fun v H3 s3 hp=>?_;exact q v H3 (R2.same s3) (k1.trans k2) (R2.qu s3 hp)
      ·cases h
     ·cases h
    ·cases h
   ·cases h
  ·cases h
 ·cases h
theorem Rel.IK (R:Rel K F0 H₀ I env σ H) {i:Nat} {d d':PyData} {a:Addr} (hm:aT env i=some d) (s:σ[i]?=some (some (.ref a))) (hk:∀ b o,b≠a->H b=some o->H' b=some o) (ht:Top K (FF F0 env σ) H' d' a):Rel K F0 H₀ I (gT env i d') σ H':=by
 obtain ⟨m,a',s',_,_⟩:=R.eT hm;rw [s] at s';cases s';have hia:IA env σ a:=⟨i,m,s⟩;refine R.chg (fO env i d') (fun b o e n=>hk b o (fun z=>n (z▸hia)) e) fun j c b hc hs=>?_;by_cases z:j=i
 ·subst z;rw [m4 m] at hc;cases hc;rw [s] at hs;cases hs;exact ht
 ·have hc':aT env j=some c:=by
   unfold aT at hc ⊢
   rwa [oe z] at hc
  obtain ⟨m2,b',s2,_,t2⟩:=R.eT hc';rw [hs] at s2;cases s2;have nb:b≠a:=fun y=>z (R.sep j i a m2 m (y▸hs) s);refine t2.pr (R.qK fun b' o e n=>hk b' o (fun z=>n (z▸hia)) e) (fun _ z=>z) fun o e=>hk b o nb e
theorem Gm {m:Mtr} {i:Nat} {as:XA} (ih:SA K ga gd as):SE K ga gd (.mtr m i as):=by
 intro env rv env' h F0 H₀ I σ H Q R q;simp only [dE] at h;split at h
 ·rename_i d0 h0;split at h
  ·rename_i hty;split at h
   ·rename_i avs e1 h1;split at h
    ·rename_i d ds h2 h3;split at h
     ·rename_i d' pr h4;cases h;obtain ⟨_,a,s,f,t⟩:=R.eT h0;refine ⟨.ref a,s,m.xE K _ H d0 a hty t,?_⟩;refine ih _ _ _ h1 F0 H₀ I σ H _ R fun vs H1 R1 k1 a1=>?_;obtain ⟨m1,a',s',f1,t1⟩:=R1.eT h2;rw [s] at s';cases s';refine m.ok K _ H1 d a ds vs d' pr Q h4 f1 t1 (fun b z=>R1.fJ z) (a1.mv R1 h3) fun v H2 hk ht hp=>?_;refine q v H2 (R1.IK h2 s hk ht) (k1.trans (wN _ _ _)) ?_;show Dm K (FF F0 (gT e1 i d') σ) H2 pr v;rw [(fO e1 i d').ff (F0:=F0) (σ:=σ)];exact hp
     ·cases h
    ·cases h
   ·cases h
  ·cases h
 ·cases h
noncomputable def adr (σ:St) (i:Nat):Addr:=match σ[i]? with | some (some (.ref a))=>a | _=>0
theorem i9 {i:Nat} {a:Addr} (h:σ[i]?=some (some (.ref a))):adr σ i=a:=by unfold adr;rw [h]
theorem mG {ms:List PM} {as:List AV} {ds:List PyData} {m:PM} {a:AV} (h:jJ env (m :: ms) (a :: as)=some ds):∃ d r,ds=d :: r/\HF env m a=some d/\jJ env ms as=some r:=by
 unfold jJ at h;split at h
 ·rename_i d r e1 e2;cases h;exact ⟨d,r,rfl,e1,e2⟩
 ·cases h
theorem iG.bor {G I:Addr->Prop} {d:PyData} {a:Addr} (h:iG K G I H d a):As K G I H d (.ref a):=by cases d <;> first | exact ⟨a,rfl,h⟩ | exact absurd h id
theorem CK (R:Rel K F0 H₀ I env σ H) (all:List Nat) (hall:∀ i∈all,mu env i):∀ {ms:List PM} {as:List AV} {ds:List PyData} {vs:List V},jJ env ms as=some ds->jL K F0 env σ H as vs->(dt ms as).Nodup->(∀ i∈uw ms as,i ∉ all)->(∀ i∈dt ms as,i∈all) ->
  bW K (FF F0 env σ) (·∈all.map (adr σ)) H ms ds vs ((dt ms as).map (adr σ)):=by
 have iAll:∀ b,b∈all.map (adr σ)->IA env σ b:=fun b hb=>by
  obtain ⟨i,hi,e⟩:=Ll.mp hb;have m:=hall i hi;obtain ⟨d,m'⟩:=m;have:∃ a,σ[i]?=some (some (.ref a)):=by
   rcases m' with z | z
   ·obtain ⟨a,s,_⟩:=R.own i d z;exact ⟨a,s⟩
   ·obtain ⟨a,s,_⟩:=R.ino i d z;exact ⟨a,s⟩
  obtain ⟨a,s⟩:=this;rw [i9 s] at e;subst e;exact ⟨i,hall i hi,s⟩
 intro ms;induction ms with
 | nil =>
  intro as ds vs h q _ _ _;cases as with
  | nil=>cases h;rw [show vs=[] from q];rfl
  | cons a as=>cases h
 | cons m ms ih =>
  intro as ds vs h q nd hb hi;cases as with
  | nil=>cases h
  | cons a as =>
   obtain ⟨d,r,rfl,h1,h2⟩:=mG h;obtain ⟨v,vr,rfl,q1,q2⟩:=q;cases m with
   | dat =>
    cases a with
    | bor i=>cases h1
    | dat d' =>
     cases h1;exact ⟨q1,ih h2 q2 (by simpa [dt] using nd) (by simpa [uw] using hb) (by simpa [dt] using hi)⟩
   | bor =>
    cases a with
    | dat d' =>
     by_cases ct:∃ ts,d'=.tuple ts
     ·obtain ⟨ts,rfl⟩:=ct;cases h1;exact ⟨q1,ih h2 q2 (by simpa [dt] using nd) (by simpa [uw] using hb) (by simpa [dt] using hi)⟩
     have l:d'=d/\((∃ ds,d=.list ds)\/∃ ds,d=.dict ds):=by
      cases d' <;> first | exact absurd ⟨_,rfl⟩ ct | (cases h1;exact ⟨rfl,.inl ⟨_,rfl⟩⟩) | (cases h1;exact ⟨rfl,.inr ⟨_,rfl⟩⟩) | cases h1
     obtain ⟨rfl,l⟩:=l;obtain ⟨b,e,t⟩:=Dm.ro (I:=(·∈all.map (adr σ))) q1 (fun b z=>R.ia (iAll b z)) l;exact ⟨by rcases l with ⟨_,rfl⟩ | ⟨_,rfl⟩ <;> exact ⟨b,e,t⟩,ih h2 q2 (by simpa [dt] using nd) (by simpa [uw] using hb) (by simpa [dt] using hi)⟩
    | bor i =>
     have h1:cont env i=some d:=h1;have hb':i ∉ all:=hb i (by simp [uw]);refine ⟨?_,ih h2 q2 (by simpa [dt] using nd) (fun j hj=>hb j (by simp [uw,hj])) (by simpa [dt] using hi)⟩;unfold cont at h1;have na:∀ a,mu env i->σ[i]?=some (some (.ref a))->a ∉ all.map (adr σ):=fun a m s z=>by
      obtain ⟨j,hj,e⟩:=Ll.mp z;obtain ⟨k,mk,sk⟩:=iAll a z;obtain ⟨dj,mj⟩:=hall j hj;have:∃ c,σ[j]?=some (some (.ref c)):=by
       rcases mj with z | z
       ·obtain ⟨a,s,_⟩:=R.own j dj z;exact ⟨a,s⟩
       ·obtain ⟨a,s,_⟩:=R.ino j dj z;exact ⟨a,s⟩
      obtain ⟨c,sj⟩:=this;rw [i9 sj] at e;subst e;have:=R.sep i j c m ⟨dj,mj⟩ s sj;subst this;exact hb' hj
     split at h1
     ·rename_i d' e;cases h1;obtain ⟨a,s,_,_,t⟩:=R.own i d e;rw [show σ[i]?=some (some v) from q1] at s;cases s;exact iG.bor (t.ro (na a ⟨d,.inl e⟩ q1))
     ·rename_i d' e;cases h1;obtain ⟨a,s,_,_,t⟩:=R.ino i d e;rw [show σ[i]?=some (some v) from q1] at s;cases s;exact iG.bor (t.ro (na a ⟨d,.inr e⟩ q1))
     ·rename_i d' e;cases h1;obtain ⟨a,s,t⟩:=R.ro i d e;rw [show σ[i]?=some (some v) from q1] at s;cases s;exact iG.bor (t.pr Pr.refl (fun _ z=>z) iAll fun _ _ z _=>z)
     ·cases h1
   | ino =>
    cases a with
    | dat d'=>cases h1
    | bor i =>
     have h1:aT env i=some d:=h1;obtain ⟨m,b,s,f,t⟩:=R.eT h1;rw [show σ[i]?=some (some v) from q1] at s;cases s;have nd':i ∉ dt ms as/\(dt ms as).Nodup:=by simpa [dt] using nd
     refine ⟨b,(dt ms as).map (adr σ),rfl,by simp [dt,i9 q1],f,t,fun z=>?_,ih h2 q2 nd'.2 (by simpa [uw] using hb) (fun j hj=>hi j (by simp [dt,hj]))⟩;obtain ⟨j,hj,e⟩:=Ll.mp z;obtain ⟨dj,mj⟩:=hall j (hi j (by simp [dt,hj]));have:∃ c,σ[j]?=some (some (.ref c)):=by
      rcases mj with z | z
      ·obtain ⟨a,s,_⟩:=R.own j dj z;exact ⟨a,s⟩
      ·obtain ⟨a,s,_⟩:=R.ino j dj z;exact ⟨a,s⟩
     obtain ⟨c,sj⟩:=this;rw [i9 sj] at e;subst e;have:=R.sep i j c m ⟨dj,mj⟩ q1 sj;subst this;exact nd'.1 hj
theorem vm:∀ {ms:List PM} {as:List AV} {ds:List PyData},jJ env ms as=some ds->∀ i∈dt ms as,mu env i
 | [],[],_,_,i,h=>by simp [dt] at h
 | [],_ :: _,_,h,_,_=>by cases h
 | _ :: _,[],_,h,_,_=>by cases h
 | m :: ms,a :: as,_,h,i,hi=>by
  obtain ⟨d,r,rfl,h1,h2⟩:=mG h;have ih:=vm h2 i;cases m with
  | dat=>exact ih (by simpa [dt] using hi)
  | bor=>exact ih (by simpa [dt] using hi)
  | ino =>
   cases a with
   | dat d'=>cases h1
   | bor j =>
    simp only [dt,Kd] at hi;rcases hi with rfl | hi
    ·rcases sU h1 with e | e
     ·exact ⟨d,.inl e⟩
     ·exact ⟨d,.inr e⟩
    ·exact ih hi
theorem qb:∀ (env:En) (is:List Nat) (ds:List PyData),SmK env (dG env is ds)
 | env,[],ds=>by unfold dG;exact SmK.refl _
 | env,i :: is,[]=>by unfold dG;exact SmK.refl _
 | env,i :: is,d :: ds=>by unfold dG;exact (fO env i d).trans (qb _ is ds)
theorem kU:∀ (env:En) (is:List Nat) (ds:List PyData) (j:Nat),j ∉ is->(dG env is ds)[j]?=env[j]?
 | env,[],ds,j,_=>by unfold dG;rfl
 | env,i :: is,[],j,_=>by unfold dG;rfl
 | env,i :: is,d :: ds,j,h=>by
  unfold dG;have n:j≠i:=fun z=>h (by rw [z];exact Ki);rw [kU _ is ds j (fun z=>h (Kb _ z)),oe n]
theorem nk {G:Addr->Prop}:∀ {env:En} {is:List Nat} {ds:List PyData} {j:Nat} {c:PyData},is.Nodup->(∀ i∈is,mu env i)->kA K G H ds (is.map (adr σ))->j∈is->aT (dG env is ds) j=some c->Top K G H c (adr σ j)
 | env,[],ds,j,c,_,_,_,h,_=>by simp at h
 | env,i :: is,[],j,c,_,_,h,_,_=>by simp [kA] at h
 | env,i :: is,d :: ds,j,c,nd,hm,h,hj,hc=>by
  obtain ⟨n1,nd'⟩:=Lc.mp nd;have h':Top K G H d (adr σ i)/\kA K G H ds (is.map (adr σ)):=h;unfold dG at hc;rcases Kd.mp hj with rfl | hj
  ·have e:=kU (gT env j d) is ds j n1;have:aT (gT env j d) j=some c:=by unfold aT at hc ⊢;rwa [e] at hc
   rw [m4 (hm j Ki)] at this;cases this;exact h'.1
  ·exact nk (env:=gT env i d) nd' (fun k hk=>(fO env i d).symm.kp.mu (hm k (Kb _ hk))) h'.2 hj hc
theorem jS:∀ {is:List Nat},Bj is=true->is.Nodup
 | [],_=>List.nodup_nil
 | x :: xs,h=>by
  have h':xs.contains x=false/\Bj xs=true:=by simpa [Bj] using h
  exact Lc.mpr ⟨fun z=>by simp [z] at h',jS h'.2⟩
theorem BG {is bs:List Nat} {n:Nat} (h:ckA is bs n=true):is.Nodup/\(∀ i∈bs,i ∉ is)/\n=is.length:=by
 unfold ckA at h;simp only [KC,Lg,LF] at h;exact ⟨jS h.1,fun i hi z=>by have:=h.2.1 i hi;simp [z] at this,h.2.2⟩
theorem s_call {f:Fn} {as:XA} (ih:SA K ga gd as):SE K ga gd (.call f as):=by
 intro env rv env' h F0 H₀ I σ H Q R q;simp only [dE] at h;split at h
 ·rename_i avs e1 h1;unfold yC at h;split at h
  ·cases h
  ·rename_i ds h2;split at h
   ·cases h
   ·rename_i pr outs h3;split at h
    ·rename_i hc;obtain ⟨nd,hb,hl⟩:=BG hc;cases h;refine ih _ _ _ h1 F0 H₀ I σ H _ R fun vs H1 R1 k1 a1=>?_;show bH f K (vs++[]) H1 Q NoE;rw [K6];have hmu:=vm h2;refine ⟨FF F0 e1 σ,ds,(dt f.ms avs).map (adr σ),pr,outs,h3,CK R1 (dt f.ms avs) hmu h2 a1 nd hb (fun _ z=>z),fun b z=>R1.fJ z,fun v H2 hk hr=>?_⟩;have k:=qb e1 (dt f.ms avs) outs;have eF:=k.ff (F0:=F0) (σ:=σ);have eI:=k.ia (σ:=σ);have isIA:∀ b,b∈(dt f.ms avs).map (adr σ)->IA e1 σ b:=fun b hb=>by
      obtain ⟨i,hi,e⟩:=Ll.mp hb;obtain ⟨d,m'⟩:=hmu i hi;have:∃ a,σ[i]?=some (some (.ref a)):=by
       rcases m' with z | z
       ·obtain ⟨a,s,_⟩:=R1.own i d z;exact ⟨a,s⟩
       ·obtain ⟨a,s,_⟩:=R1.ino i d z;exact ⟨a,s⟩
      obtain ⟨a,s⟩:=this;rw [i9 s] at e;subst e;exact ⟨i,hmu i hi,s⟩
     have hk':∀ b o,H1 b=some o->¬IA e1 σ b->H2 b=some o:=fun b o e n=>hk b o e fun z=>n (isIA b z);have mH:∀ j d a,j ∉ dt f.ms avs->aT (dG e1 (dt f.ms avs) outs) j=some d->σ[j]?=some (some (.ref a))->aT e1 j=some d/\a ∉ (dt f.ms avs).map (adr σ):=fun j d a hj hm hs=>by
      have hm':aT e1 j=some d:=by unfold aT at hm ⊢;rwa [kU _ _ _ _ hj] at hm
      refine ⟨hm',fun z=>?_⟩;obtain ⟨i,hi,e⟩:=Ll.mp z;obtain ⟨i',m2,s2⟩:=isIA a z;obtain ⟨di,mi⟩:=hmu i hi;have:∃ a,σ[i]?=some (some (.ref a)):=by
       rcases mi with z | z
       ·obtain ⟨a,s,_⟩:=R1.own i di z;exact ⟨a,s⟩
       ·obtain ⟨a,s,_⟩:=R1.ino i di z;exact ⟨a,s⟩
      obtain ⟨c,sc⟩:=this;rw [i9 sc] at e;subst e;have:=R1.sep j i c (R1.eT hm').1 ⟨di,mi⟩ hs sc;subst this;exact hj hi
     cases pr with
     | dat d =>
      obtain ⟨hd,ht⟩:=hr;refine q v H2 (R1.chg k hk' fun j c a hm hs=>?_) (k1.trans k.kp) (show Dm K _ H2 d v by rw [eF];exact hd);by_cases hj:j∈dt f.ms avs
      ·have:=nk nd hmu ht hj hm
       rwa [i9 hs] at this
      ·obtain ⟨hm',ha⟩:=mH j c a hj hm hs;obtain ⟨_,a',s',_,t'⟩:=R1.eT hm';rw [hs] at s';cases s';exact t'.pr (R1.qK hk') (fun _ z=>z) fun o e=>hk a o e ha
     | frs d =>
      obtain ⟨c,ev,hn,td,ht⟩:=hr;obtain ⟨o,ho,_⟩:=td.wr;have sm:bj H1 (upd H1 c o):=bj.nw o hn;have R1c:=R1.fresh (c:=c) hn sm (by rw [aH];exact nofun);have cIA:¬IA e1 σ c:=fun z=>by obtain ⟨o',z,_⟩:=R1.iaT z;rw [hn] at z;cases z
      have hkc:∀ b o',upd H1 c o b=some o'->¬IA e1 σ b->H2 b=some o':=fun b o' e n=>by
       by_cases z:b=c
       ·subst z;rw [aH] at e;cases e;exact ho
       ·rw [au z] at e;exact hk' b o' e n
      have pF:Pr (fun b=>FF F0 e1 σ b\/b=c) H1 H2:=fun b o' e n=>hk' b o' e fun y=>by
       rcases n with n | n
       ·exact n (.inl (R1.ia y))
       ·obtain ⟨o2,h2,w2⟩:=R1.iaT y;rw [e] at h2;cases h2;rw [n] at w2;cases w2
      have R2c:Rel K (fun b=>F0 b\/b=c) H₀ I (dG e1 (dt f.ms avs) outs) σ H2:=by
       refine R1c.chg k hkc fun j c' a hm hs=>?_;rw [k7];by_cases hj:j∈dt f.ms avs
       ·have:=nk nd hmu ht hj hm
        rwa [i9 hs] at this
       ·obtain ⟨hm',ha⟩:=mH j c' a hj hm hs;obtain ⟨_,a',s',_,t'⟩:=R1.eT hm';rw [hs] at s';cases s';exact (t'.fresh hn).pr pF (fun _ z=>z) fun o e=>hk a o e ha
      have nino:∀ (i:Nat) (d':PyData),(dG e1 (dt f.ms avs) outs)[i]?=some (.ino d')->σ[i]?≠some (some (.ref c)):=fun i d' e' z=>cIA ⟨i,k.kp.mu ⟨d',.inr e'⟩,z⟩;have rv:jT K F0 H₀ I (dG e1 (dt f.ms avs) outs) σ H2 (.frs d) v:=by
       refine ⟨c,ev,R2c,by rw [eF];exact td,R1.oi (.inl hn),fun z=>?_,nino,fun i d' e'=>?_⟩
       ·rw [eF] at z;exact R1.fJ z hn
       ·have e0:e1[i]?=some (.ro d'):=by
         rcases k.2 i with y | ⟨_,_,_,y⟩ | ⟨_,_,_,y⟩
         ·rw [<- y];exact e'
         ·rw [e'] at y;cases y
         ·rw [e'] at y;cases y
        obtain ⟨b,s,t⟩:=R1.ro i d' e0;rw [eF,eI];exact ⟨b,s,((t.fresh hn).zI hn).pr pF (fun _ z=>z) (fun _ z=>z) fun b o' e n=>hk' b o' e fun z=>n (.inl z)⟩
      exact q v H2 rv.rel (k1.trans k.kp) rv
    ·cases h
 ·cases h
theorem HA {as:XA} (ih:SA K ga gd as):SE K ga gd (.tup as):=by
 intro env rv env' h F0 H₀ I σ H Q R q;simp only [dE] at h;split at h
 ·rename_i avs e1 h1;split at h
  ·rename_i ds h2;split at h
   ·rename_i hl;cases h;refine ih _ _ _ h1 F0 H₀ I σ H _ R fun vs H1 R1 k1 a1=>?_;have dl:=a1.GA h2;have hl':vs.length<=sizeLine:=by rw [dl.len];exact hl
    refine ⟨hl',fun p hp=>?_⟩;have s:=bj.nw (.tup vs) hp;exact q _ _ (R1.same s) k1 ⟨p,vs,rfl,.inl (.inl aH),hl',dl.pr (Pr.of_same s) fun _ z=>z⟩
   ·cases h
  ·cases h
 ·cases h
theorem GP {as:XA} (ih:SA K ga gd as):SE K ga gd (.lst as):=by
 intro env rv env' h F0 H₀ I σ H Q R q;simp only [dE] at h;split at h
 ·rename_i avs e1 h1;split at h
  ·rename_i ds h2;split at h
   ·rename_i hl;cases h;refine ih _ _ _ h1 F0 H₀ I σ H _ R fun vs H1 R1 k1 a1=>?_;have dl:=a1.GA h2;have hl':vs.length<=sizeLine:=by rw [dl.len];exact hl
    refine ⟨hl',fun p hp=>?_⟩;have s:=bj.nw (.lst vs) hp;exact q _ _ (R1.same s) k1 (R1.qu (pr:=.frs (.list ds)) s ⟨p,rfl,hp,vs,aH,hl',(dl.fresh hp).pr (Pr.of_same s) fun _ z=>z⟩)
   ·cases h
  ·cases h
 ·cases h
theorem GK {as:XA} (ih:SF K ga gd as):SE K ga gd (.fst as):=by
 intro env rv env' h F0 H₀ I σ H Q R q;simp only [dE] at h;split at h
 ·rename_i x e1 h1;cases h;exact ih _ _ _ _ h1 F0 H₀ I σ H _ R (show PyData.strOk ⟨#[]⟩=true by simp [PyData.strOk]) fun H1 R1 k1 hl ho=>q _ H1 R1 k1 ⟨rfl,hl,ho⟩
 ·cases h
theorem GB:SF K ga gd .nil:=by
 intro out env x env' h F0 H₀ I σ H Q R ok q;simp only [dF] at h;split at h
 ·rename_i hl;cases h;exact ⟨hl,q H R (KpE.refl _) hl ok⟩
 ·cases h
theorem Ed {e:XE} {r:XA} (ie:SE K ga gd e) (ir:SF K ga gd r):SF K ga gd (.cons e r):=by
 intro out env x env' h F0 H₀ I σ H Q R ok q;simp only [dF] at h;split at h
 ·rename_i y e1 h1;split at h
  ·rename_i hl;refine ie _ _ _ h1 F0 H₀ I σ H _ R fun v H1 R1 k1 a1=>?_;obtain ⟨rfl,_,oky⟩:=(show v=.str y/\y.length<=sizeLine/\PyData.strOk y=true from a1);refine ⟨y,rfl,hl,?_⟩;exact ir _ _ _ _ h F0 H₀ I σ H1 _ R1 (p8 ok oky) fun H2 R2 k2 hx=>q H2 R2 (k1.trans k2) hx
  ·cases h
 ·cases h
theorem HI:SA K ga gd .nil:=by
 intro env rv env' h F0 H₀ I σ H Q R q;simp only [dA] at h;cases h;exact q [] H R (KpE.refl _) rfl
theorem CP {e:XE} {r:XA} (ie:SE K ga gd e) (ir:SA K ga gd r):SA K ga gd (.cons e r):=by
 intro env rv env' h F0 H₀ I σ H Q R q;simp only [dA] at h;split at h
 ·rename_i rv0 e1 h1;split at h
  ·rename_i avs e2 h2;cases h;refine ie _ _ _ h1 F0 H₀ I σ H _ R fun v H1 R1 k1 a1=>?_;refine ir _ _ _ h2 F0 _ _ σ H1 _ R1.rebase fun vs H2 S2 k2 a2=>?_;exact q (v :: vs) H2 (R1.bV S2) (k1.trans k2) ⟨v,vs,rfl,a1.av.keep R1 S2 k2,a2⟩
  ·cases h
 ·cases h
end
open PySem
section
variable {K:Fg} {F F' I I' F0:Addr->Prop} {H H' H₀:Hp} {env env':En} {σ σ':St} {ga:Nat->V} {gd:List PyData}
theorem FV {c:XT} {a b:XE} (ic:ST K ga gd c) (ia:SE K ga gd a) (ib:SE K ga gd b):SE K ga gd (.ifx c a b):=by
 intro env rv env' h F0 H₀ I σ H Q R q;simp only [dE] at h;split at h
 ·rename_i e1 h1;refine ic _ _ _ h1 F0 H₀ I σ H _ R fun H1 R1 k1=>?_;rw [Km rfl];exact ia _ _ _ h F0 H₀ I σ H1 _ R1 fun v H2 R2 k2 r=>q v H2 R2 (k1.trans k2) r
 ·rename_i e1 h1;refine ic _ _ _ h1 F0 H₀ I σ H _ R fun H1 R1 k1=>?_;rw [Kr (by decide)];exact ib _ _ _ h F0 H₀ I σ H1 _ R1 fun v H2 R2 k2 r=>q v H2 R2 (k1.trans k2) r
 ·cases h
theorem BY {a b:XE} (ia:SE K ga gd a) (ib:SE K ga gd b):SE K ga gd (.uL a b):=by
 intro env rv env' h F0 H₀ I σ H Q R q;simp only [dE] at h;split at h
 ·rename_i e1 h1;refine ia _ _ _ h1 F0 H₀ I σ H _ R fun v H1 R1 k1 r1=>⟨true,r1,?_⟩;rw [Km rfl];exact ib _ _ _ h F0 H₀ I σ H1 _ R1 fun v H2 R2 k2 r=>q v H2 R2 (k1.trans k2) r
 ·rename_i e1 h1;cases h;refine ia _ _ _ h1 F0 H₀ I σ H _ R fun v H1 R1 k1 r1=>⟨false,r1,?_⟩;rw [Kr (by decide)];exact q _ H1 R1 k1 rfl
 ·cases h
theorem HV {a b:XE} (ia:SE K ga gd a) (ib:SE K ga gd b):SE K ga gd (.orv a b):=by
 intro env rv env' h F0 H₀ I σ H Q R q;simp only [dE] at h;split at h
 ·rename_i e1 h1;cases h;refine ia _ _ _ h1 F0 H₀ I σ H _ R fun v H1 R1 k1 r1=>⟨true,r1,?_⟩;rw [Km rfl];exact q _ H1 R1 k1 rfl
 ·rename_i e1 h1;refine ia _ _ _ h1 F0 H₀ I σ H _ R fun v H1 R1 k1 r1=>⟨false,r1,?_⟩;rw [Kr (by decide)];exact ib _ _ _ h F0 H₀ I σ H1 _ R1 fun v H2 R2 k2 r=>q v H2 R2 (k1.trans k2) r
 ·cases h
theorem Ck {a:XE} (ia:SE K ga gd a):SE K ga gd (.BU a):=by
 intro env rv env' h F0 H₀ I σ H Q R q;simp only [dE] at h;split at h
 ·rename_i x e1 h1;cases h;exact ia _ _ _ h1 F0 H₀ I σ H _ R fun v H1 R1 k1 r1=>⟨x,r1,q _ H1 R1 k1 rfl⟩
 ·cases h
theorem Hn {x y:PyData} {u v:V} (hx:Vw K F H x u) (hy:Vw K F H y v):VwL K F H [x,y] [u,v]:=⟨u,[v],rfl,hx,v,[],rfl,hy,rfl⟩
theorem FU {p p':Prm} {a b c:XE} (ia:SE K ga gd a) (ib:SE K ga gd b) (ic:SE K ga gd c):SE K ga gd (.chn p p' a b c):=by
 intro env rv env' h F0 H₀ I σ H Q R q;simp only [dE] at h;split at h
 ·rename_i ra e1 h1;split at h
  ·rename_i rb e2 h2;split at h
   ·rename_i x y hx hy;refine ia _ _ _ h1 F0 H₀ I σ H _ R fun v H1 R1 k1 r1=>?_;refine ib _ _ _ h2 F0 _ _ σ H1 _ R1.rebase fun u H2 S2 k2 r2=>?_;have R2:=R1.bV S2;have a1:=r1.av.keep R1 S2 k2;have a2:=r2.av;rw [hx] at a1;rw [hy] at a2;have dx:Dm K (FF F0 e2 σ) H2 x v:=a1;have dy:Dm K (FF F0 e2 σ) H2 y u:=a2;split at h
    ·rename_i hp;split at h
     ·rename_i rc e3 h3;split at h
      ·rename_i z hz;split at h
       ·rename_i pr hq;cases h;refine p.ok K _ H2 _ _ _ _ hp (Hn dx.vw dy.vw) (fun b z=>R2.fJ z) fun w H3 s3 hw=>⟨true,hw,?_⟩;rw [Km rfl];have R3:=R2.same s3;have dy3:Dm K (FF F0 e2 σ) H3 y u:=dy.pr (Pr.of_same s3) fun _ z=>z;refine ic _ _ _ h3 F0 _ _ σ H3 _ R3.rebase fun t H4 S4 k4 r4=>?_;have R4:=R3.bV S4;have a4:=r4.av;rw [hz] at a4;have dz:Dm K (FF F0 env' σ) H4 z t:=a4;refine p'.ok K _ H4 _ _ _ _ hq (Hn (R3.r9 S4 k4 dy3).vw dz.vw) (fun b z=>R4.fJ z) fun w H5 s5 hw=>?_;exact q w H5 (R4.same s5) ((k1.trans k2).trans k4) (R4.qu s5 hw)
       ·cases h
      ·cases h
     ·cases h
    ·rename_i hp;cases h;refine p.ok K _ H2 _ _ _ _ hp (Hn dx.vw dy.vw) (fun b z=>R2.fJ z) fun w H3 s3 hw=>⟨false,hw,?_⟩;rw [Kr (by decide)];exact q _ H3 (R2.same s3) (k1.trans k2) rfl
    ·cases h
   ·cases h
  ·cases h
 ·cases h
theorem GN {p:Int->Int->Prm} {a b c:XE} (ia:SE K ga gd a) (ib:SE K ga gd b) (ic:SE K ga gd c):SE K ga gd (.sl2 p a b c):=by
 intro env rv env' h F0 H₀ I σ H Q R q;simp only [dE] at h;split at h
 ·rename_i ra e1 h1;split at h
  ·rename_i i e2 h2;split at h
   ·rename_i j e3 h3;split at h
    ·rename_i d hv;split at h
     ·rename_i pr hp;cases h;refine ia _ _ _ h1 F0 H₀ I σ H _ R fun v H1 R1 k1 r1=>?_;refine ib _ _ _ h2 F0 _ _ σ H1 _ R1.rebase fun u H2 S2 k2 r2=>⟨i,r2,?_⟩;have R2:=R1.bV S2;have a1:=r1.av.keep R1 S2 k2;refine ic _ _ _ h3 F0 _ _ σ H2 _ R2.rebase fun w H3 S3 k3 r3=>⟨j,r3,?_⟩;have R3:=R2.bV S3;have a2:=a1.keep R2 S3 k3;refine (p i j).ok K _ H3 [d] [v] pr Q hp ⟨v,[],rfl,a2.vw R3 hv,rfl⟩ (fun b z=>R3.fJ z) fun w H4 s4 hw=>?_;exact q w H4 (R3.same s4) ((k1.trans k2).trans k3) (R3.qu s4 hw)
     ·cases h
    ·cases h
   ·cases h
  ·cases h
 ·cases h
theorem HB {e:XE} (ie:SE K ga gd e):ST K ga gd (.tst e):=by
 intro env b env' h F0 H₀ I σ H Q R q;simp only [dT] at h;split at h
 ·rename_i x e1 h1;cases h;exact ie _ _ _ h1 F0 H₀ I σ H _ R fun v H1 R1 k1 r1=>⟨_,r1,q H1 R1 k1⟩
 ·cases h
theorem mE {ds:List PyData} {vs:List V} (h:DmL K F H ds vs):vs.isEmpty=ds.isEmpty:=by
 cases ds with
 | nil=>rw [show vs=[] from h];rfl
 | cons d ds=>obtain ⟨v,r,rfl,_⟩:=h;rfl
theorem Vw.tru {d:PyData} {v:V} (h:Vw K F H d v) (nd:Fq d≠true):Fl K v H (Gw d):=by
 cases d with
 | none=>rw [show v=.non from h];rfl
 | bool b=>rw [show v=.bl b from h];rfl
 | int i=>rw [show v=.int i from h];rfl
 | str x=>obtain ⟨rfl,hl,_⟩:=(show v=.str x/\x.length<=sizeLine/\PyData.strOk x=true from h);exact ⟨hl,rfl⟩
 | list ds=>obtain ⟨a,rfl,xs,e,_,r⟩:=h;exact .inl ⟨xs,e,by rw [mE r];rfl⟩
 | tuple ds=>obtain ⟨a,xs,rfl,e,_,r⟩:=h;exact .inr (.inl ⟨xs,e,by rw [mE r];rfl⟩)
 | dict ds=>exact absurd rfl nd
theorem GW {e:XE} (ie:SE K ga gd e):ST K ga gd (.tru e):=by
 intro env b env' h F0 H₀ I σ H Q R q;simp only [dT] at h;split at h
 ·rename_i x e1 h1;split at h
  ·rename_i d h2;split at h
   ·cases h
   ·rename_i nd;cases h;exact ie _ _ _ h1 F0 H₀ I σ H _ R fun v H1 R1 k1 r1=>⟨_,(r1.av.vw R1 h2).tru nd,q H1 R1 k1⟩
  ·cases h
 ·cases h
theorem F6 {a b:XT} (ia:ST K ga gd a) (ib:ST K ga gd b):ST K ga gd (.and a b):=by
 intro env x env' h F0 H₀ I σ H Q R q;simp only [dT] at h;split at h
 ·rename_i e1 h1;refine ia _ _ _ h1 F0 H₀ I σ H _ R fun H1 R1 k1=>?_;rw [Km rfl];exact ib _ _ _ h F0 H₀ I σ H1 _ R1 fun H2 R2 k2=>q H2 R2 (k1.trans k2)
 ·rename_i e1 h1;cases h;refine ia _ _ _ h1 F0 H₀ I σ H _ R fun H1 R1 k1=>?_;rw [Kr (by decide)];exact q H1 R1 k1
 ·cases h
theorem IZ {a b:XT} (ia:ST K ga gd a) (ib:ST K ga gd b):ST K ga gd (.or a b):=by
 intro env x env' h F0 H₀ I σ H Q R q;simp only [dT] at h;split at h
 ·rename_i e1 h1;cases h;refine ia _ _ _ h1 F0 H₀ I σ H _ R fun H1 R1 k1=>?_;rw [Km rfl];exact q H1 R1 k1
 ·rename_i e1 h1;refine ia _ _ _ h1 F0 H₀ I σ H _ R fun H1 R1 k1=>?_;rw [Kr (by decide)];exact ib _ _ _ h F0 H₀ I σ H1 _ R1 fun H2 R2 k2=>q H2 R2 (k1.trans k2)
 ·cases h
theorem Gd {a:XT} (ia:ST K ga gd a):ST K ga gd (.not a):=by
 intro env x env' h F0 H₀ I σ H Q R q;simp only [dT] at h;split at h
 ·rename_i b e1 h1;cases h;exact ia _ _ _ h1 F0 H₀ I σ H _ R fun H1 R1 k1=>q H1 R1 k1
 ·cases h
theorem GI:ST K ga gd .yes:=by
 intro env x env' h F0 H₀ I σ H Q R q;simp only [dT] at h;cases h;exact q H R (KpE.refl _)
theorem zZ {a:Addr} {vs:List V} {ds:List PyData} (hd:DmL K F H ds vs) (hl:vs.length<=sizeLine) (h:∀ H',(∀ b o,H b=some o->¬I b->H' b=some o)->SqL K H' a vs):yu K F I H (Itl K a) ds :=
 nQ hd hl fun H' k j=>⟨fun hj=>⟨⟨vs,vs[j],h H' k,J9 hj⟩,fun x H'' y=>⟨y.1,y.2 vs (h H' k)⟩⟩,fun hj=>⟨vs,h H' k,hj⟩⟩
theorem Cq {a:Addr} {vs:List V} {ds:List PyData} (hd:DmL K F H ds vs) (hl:vs.length<=sizeLine) (h:∀ H',(∀ b o,H b=some o->¬I b->H' b=some o)->SqT K H' a vs):yu K F I H (Itt K a) ds :=
 nQ hd hl fun H' k j=>⟨fun hj=>⟨⟨vs,vs[j],h H' k,J9 hj⟩,fun x H'' y=>⟨y.1,y.2 vs (h H' k)⟩⟩,fun hj=>⟨vs,h H' k,hj⟩⟩
theorem AI {e:XE} (ie:SE K ga gd e):SI K ga gd (.lst e):=by
 intro env ds lock env' h F0 H₀ I σ H Q R q;simp only [dI] at h;split at h
 ·rename_i rv e1 h1;split at h
  ·rename_i ds' hv;cases h;refine ie _ _ _ h1 F0 H₀ I σ H _ R fun v H1 R1 k1 r1=>?_;have a1:=r1.av;rw [hv] at a1;obtain ⟨a,xs,rfl,l,z,r⟩:=(show Dm K (FF F0 env' σ) H1 (.list ds) v from a1);refine ⟨a,rfl,⟨xs,l.elim (fun q=>.inl q.2) .inr⟩,q _ H1 R1 k1 (fun i z=>by cases z) (zZ r z fun H' k=>?_)⟩;rcases l with ⟨n,l | ⟨o,l⟩⟩ | l
   ·exact .inl (.inl (k _ _ l fun z=>n (R1.ia z.1)))
   ·exact .inl (.inr ⟨o,k _ _ l fun z=>n (R1.ia z.1)⟩)
   ·exact .inr l
  ·cases h
  ·rename_i i hv;split at h
   ·rename_i ds' hc;cases h;refine ie _ _ _ h1 F0 H₀ I σ H _ R fun v H1 R1 k1 r1=>?_;have a1:=r1.av;rw [hv] at a1;have s:σ[i]?=some (some v):=a1;unfold cont at hc;have fin:∀ a xs,v=.ref a->DmL K (FF F0 env' σ) H1 ds xs->xs.length<=sizeLine->(∀ H',(∀ b o,H1 b=some o->¬(IA env' σ b/\∀ j,some i=some j->mu env' j->σ[j]?≠some (some (.ref b)))->H' b=some o)->SqL K H' a xs)->(∃ d,cont env' i=some d) ->
      ∃ a,v=.ref a/\(∃ xs,SqL K H1 a xs)/\Q (Itl K a) H1:=fun a xs ev r z k hcd =>
     ⟨a,ev,⟨xs,k H1 fun _ _ e _=>e⟩,q _ H1 R1 k1 (fun j hj=>by cases hj;exact hcd) (zZ r z k)⟩
    split at hc
    ·rename_i d e;cases hc;obtain ⟨a,s',_,_,xs,t,z,r⟩:=R1.own i _ e;rw [s] at s';cases s';exact fin a xs rfl r z (fun H' k=>.inl (.inl (k _ _ t fun y=>y.2 i rfl ⟨_,.inl e⟩ s))) ⟨_,by unfold cont;rw [e]⟩
    ·rename_i d e;cases hc;obtain ⟨a,s',_,_,xs,t,z,r⟩:=R1.ino i _ e;rw [s] at s';cases s';exact fin a xs rfl r z (fun H' k=>.inl (.inl (k _ _ t fun y=>y.2 i rfl ⟨_,.inr e⟩ s))) ⟨_,by unfold cont;rw [e]⟩
    ·rename_i d e;cases hc;obtain ⟨a,s',xs,l,z,r⟩:=R1.ro i _ e;rw [s] at s';cases s';refine fin a xs rfl r z (fun H' k=>?_) ⟨_,by unfold cont;rw [e]⟩;rcases l with ⟨n,l | ⟨o,l⟩⟩ | l
     ·exact .inl (.inl (k _ _ l fun z=>n z.1))
     ·exact .inl (.inr ⟨o,k _ _ l fun z=>n z.1⟩)
     ·exact .inr l
    ·cases hc
   ·cases h
 ·cases h
theorem F4 {e:XE} (ie:SE K ga gd e):SI K ga gd (.dct e):=by
 intro env ds lock env' h F0 H₀ I σ H Q R q;simp only [dI] at h;cases h
theorem Ci {a:Addr} {xs:List V} {ds:List PyData} (hd:DmL K F H ds xs) (hl:xs.length<=sizeLine) (h1:∀ H',(∀ b o,H b=some o->¬I b->H' b=some o)->SqL K H' a xs):yu K F I H (Ite K a xs) (ds.zipIdx.map fun p=>.tuple [.int p.2,p.1]):=by
 have e1:=hd.len;have el:(ds.zipIdx.map fun p=>PyData.tuple [.int p.2,p.1]).length=xs.length:=by rw [J5,List.length_zipIdx,e1]
 refine ⟨by rw [el];exact hl,fun H' k j=>⟨fun hj=>?_,fun hj=>?_⟩⟩
 ·rw [el] at hj;refine ⟨⟨h1 H' k,hj⟩,?_⟩;rintro x H'' ⟨p,u,hp,rfl,hu,rfl⟩;obtain ⟨d,d1,d2⟩:=hd.get' hu;refine ⟨.tuple [.int j,d],?_,.inr ⟨p,.int j,u,.int j,d,rfl,rfl,hp,rfl,rfl,d2⟩⟩;rw [Kt,List.getElem?_zipIdx,d1];simp
 ·rw [el] at hj;exact ⟨h1 H' k,hj⟩
theorem F7 {e:XE} (ie:SE K ga gd e):SI K ga gd (.itm e):=by
 intro env ds lock env' h F0 H₀ I σ H Q R q;simp only [dI] at h;split at h
 ·rename_i rv e1 h1;split at h
  ·rename_i ds' hv;cases h;refine ie _ _ _ h1 F0 H₀ I σ H _ R fun v H1 R1 k1 r1=>?_;have a1:=r1.av;rw [hv] at a1;obtain ⟨a,xs,rfl,l,z,r⟩:=(show Dm K (FF F0 env' σ) H1 (.list ds') v from a1);refine ⟨a,xs,rfl,l.elim (fun q=>.inl q.2) .inr,q _ H1 R1 k1 (fun i z=>by cases z) (Ci r z fun H' k=>?_)⟩;rcases l with ⟨n,l | ⟨o,l⟩⟩ | l
   ·exact .inl (.inl (k _ _ l fun z=>n (R1.ia z.1)))
   ·exact .inl (.inr ⟨o,k _ _ l fun z=>n (R1.ia z.1)⟩)
   ·exact .inr l
  ·cases h
 ·cases h
theorem Em {e:XE} (ie:SE K ga gd e):SI K ga gd (.tup e):=by
 intro env ds lock env' h F0 H₀ I σ H Q R q;simp only [dI] at h;split at h
 ·rename_i rv e1 h1;split at h
  ·rename_i ds' hv;cases h;refine ie _ _ _ h1 F0 H₀ I σ H _ R fun v H1 R1 k1 r1=>?_;have a1:=r1.av;rw [hv] at a1;obtain ⟨a,xs,rfl,l,z,r⟩:=(show Dm K (FF F0 env' σ) H1 (.tuple ds) v from a1);refine ⟨a,rfl,⟨xs,l⟩,q _ H1 R1 k1 (fun i z=>by cases z) (Cq r z fun H' k=>?_)⟩;exact l.pr (R1.qK fun b o e n=>k b o e fun z=>n z.1)
  ·cases h
 ·cases h
theorem Jw {e:XE} (ie:SE K ga gd e):SI K ga gd (.sq e):=by
 intro env ds lock env' h F0 H₀ I σ H Q R q;simp only [dI] at h;split at h
 ·rename_i rv e1 h1;split at h
  ·rename_i ds' hv;exact .inl (AI ie env ds lock env' (by simp only [dI,h1,hv];exact h) F0 H₀ I σ H Q R q)
  ·rename_i ds' hv;exact .inr (Em ie env ds lock env' (by simp only [dI,h1,hv];exact h) F0 H₀ I σ H Q R q)
  ·cases h
  ·rename_i i hv;exact .inl (AI ie env ds lock env' (by simp only [dI,h1,hv];exact h) F0 H₀ I σ H Q R q)
 ·cases h
theorem Bz:∀ {cs:List Nat},(∀ c∈cs,c < 0x110000)->DmL K F H (cs.map fun c=>.str ⟨#[c]⟩) (cs.map fun c=>.str ⟨#[c]⟩)
 | [],_=>rfl
 | c :: cs,h=>⟨_,_,rfl,⟨rfl,by show 1<=sizeLine;decide,by have:=h c Ki;simp [PyData.strOk,this]⟩,Bz fun x hx=>h x (Kb _ hx)⟩
theorem hZ {x:Str} (h:PyData.strOk x=true):∀ c∈x.cps.toList,c < 0x110000:=fun c hc=>by
 unfold PyData.strOk at h;have:=LY.mp h c (by simpa using hc);simpa using this
theorem FK {e:XE} (ie:SE K ga gd e):SI K ga gd (.str e):=by
 intro env ds lock env' h F0 H₀ I σ H Q R q;simp only [dI] at h;split at h
 ·rename_i rv e1 h1;split at h
  ·rename_i x hv;cases h;refine ie _ _ _ h1 F0 H₀ I σ H _ R fun v H1 R1 k1 r1=>?_;have a1:=r1.av;rw [hv] at a1;obtain ⟨rfl,hl,ok⟩:=(show v=.str x/\x.length<=sizeLine/\PyData.strOk x=true from a1);have ez:x.cps.toList.length=x.length:=by simp [Str.length]
   refine ⟨x,rfl,q _ H1 R1 k1 (fun i z=>by cases z) (nQ (Bz (hZ ok)) (by rw [J5,ez];exact hl) fun H' k j=>⟨fun hj=>?_,fun hj=>?_⟩)⟩
   ·rw [J5,ez] at hj;refine ⟨hj,fun y H'' hy=>?_⟩;obtain ⟨e,c,hc,rfl⟩:=hy;refine ⟨e,?_⟩;rw [Kt];have:x.cps.toList[j]?=some c:=by rw [<- hc];simp
    rw [this];rfl
   ·rw [J5,ez] at hj;exact hj
  ·cases h
 ·cases h
theorem zM {f:Nat->Int}:∀ {cs:List Nat},DmL K F H (cs.map fun c=>.int (f c)) (cs.map fun c=>.int (f c))
 | []=>rfl
 | c :: cs=>⟨_,_,rfl,rfl,zM⟩
theorem zu {lo:Int} {n:Nat} (hn:n<=sizeLine):yu K F I H (Itr lo n) ((List.range n).map fun (k:Nat)=>.int (lo+(k:Int))):=by
 refine nQ (vs:=(List.range n).map fun (k:Nat)=>.int (lo+(k:Int))) (zM (f:=fun k=>lo+(k:Int))) (by rw [J5,LD];exact hn) fun H' k j=>⟨fun hj=>?_,fun hj=>?_⟩
 ·rw [J5,LD] at hj;refine ⟨hj,fun y H'' hy=>⟨hy.1,?_⟩⟩;rw [Kt,List.getElem?_range hj,hy.2];rfl
 ·rw [J5,LD] at hj;exact hj
theorem B6 {as:XA} (ia:SA K ga gd as):SI K ga gd (.rng1 as):=by
 intro env ds lock env' h F0 H₀ I σ H Q R q;simp only [dI] at h;split at h
 ·rename_i avs e1 h1;split at h
  ·rename_i j;split at h
   ·rename_i hj;cases h;refine ia _ _ _ h1 F0 H₀ I σ H _ R fun vs H1 R1 k1 a1=>?_;obtain ⟨v,r,rfl,hv,rfl⟩:=a1;have hv:v=.int j:=hv;subst hv;refine ⟨j,rfl,hj.1,by have:=hj.2;omega,q _ H1 R1 k1 (fun i z=>by cases z) (zu ?_)⟩;have:=hj.2;show j.toNat<=2 ^ 24;omega
   ·cases h
  ·cases h
 ·cases h
theorem DK {a b:Addr} {xs ys:List V} {ds es:List PyData} (hd:DmL K F H ds xs) (he:DmL K F H es ys) (hn:ds.length=es.length) (hl:xs.length<=sizeLine) (h1:∀ H',(∀ b o,H b=some o->¬I b->H' b=some o)->SqT K H' a xs) (h2:∀ H',(∀ b o,H b=some o->¬I b->H' b=some o)->SqT K H' b ys):yu K F I H (Itz K a b xs ys) ((ds.zip es).map fun p=>.tuple [p.1,p.2]):=by
 have e1:=hd.len;have e2:=he.len;have el:((ds.zip es).map fun p=>PyData.tuple [p.1,p.2]).length=min xs.length ys.length:=by rw [J5,List.length_zip,e1,e2]
 refine ⟨by rw [el];omega,fun H' k j=>⟨fun hj=>?_,fun hj=>?_⟩⟩
 ·rw [el] at hj;refine ⟨⟨h1 H' k,h2 H' k,by omega,by omega⟩,?_⟩;rintro x H'' ⟨p,u,v,hp,rfl,hu,hv,rfl⟩;obtain ⟨d,d1,d2⟩:=hd.get' hu;obtain ⟨e,e3,e4⟩:=he.get' hv;refine ⟨.tuple [d,e],?_,.inr ⟨p,u,v,d,e,rfl,rfl,hp,rfl,d2,e4⟩⟩;rw [Kt,show (ds.zip es)[j]?=some (d,e) from List.getElem?_zip_eq_some.mpr ⟨d1,e3⟩];rfl
 ·rw [el] at hj;exact ⟨h1 H' k,h2 H' k,by omega⟩
theorem GR {as:XA} (ia:SA K ga gd as):SI K ga gd (.zip as):=by
 intro env ds lock env' h F0 H₀ I σ H Q R q;simp only [dI] at h;split at h
 ·rename_i avs e1 h1;split at h
  ·rename_i xs ys;split at h
   ·rename_i hn;cases h;refine ia _ _ _ h1 F0 H₀ I σ H _ R fun vs H1 R1 k1 a1=>?_;obtain ⟨v,r,rfl,hv,w,r2,rfl,hw,rfl⟩:=a1;obtain ⟨a,us,rfl,la,za,ra⟩:=(show Dm K (FF F0 env' σ) H1 (.tuple xs) v from hv);obtain ⟨b,ws,rfl,lb,zb,rb⟩:=(show Dm K (FF F0 env' σ) H1 (.tuple ys) w from hw);exact ⟨a,b,us,ws,rfl,la,lb,q _ H1 R1 k1 (fun i z=>by cases z) (DK ra rb hn za (fun H' k=>la.pr (R1.qK fun b o e n=>k b o e fun z=>n z.1)) (fun H' k=>lb.pr (R1.qK fun b o e n=>k b o e fun z=>n z.1)))⟩
   ·cases h
  ·cases h
 ·cases h
theorem Er {as:XA} (ia:SA K ga gd as):SI K ga gd (.rng2 as):=by
 intro env ds lock env' h F0 H₀ I σ H Q R q;simp only [dI] at h;split at h
 ·rename_i avs e1 h1;split at h
  ·rename_i i j;split at h
   ·rename_i hj;cases h;refine ia _ _ _ h1 F0 H₀ I σ H _ R fun vs H1 R1 k1 a1=>?_;obtain ⟨v,r,rfl,hv,w,r2,rfl,hw,rfl⟩:=a1;have hv:v=.int i:=hv;have hw:w=.int j:=hw;subst hv hw;refine ⟨i,j,rfl,⟨hj.1,hj.2.1,hj.2.2.1,hj.2.2.2.1⟩,q _ H1 R1 k1 (fun i z=>by cases z) (zu ?_)⟩;have:=hj.2.2.2.2;show (j - i).toNat<=2 ^ 24;omega
   ·cases h
  ·cases h
 ·cases h
end
open PySem
section
variable {K:Fg} {F F' I I' F0:Addr->Prop} {H H' H₀:Hp} {env env':En} {σ σ':St} {ga:Nat->V} {gd:List PyData}
theorem HW:SPs K ga gd .nil:=by
 intro env kvs env' h F0 H₀ I σ H Q R q;simp only [dP] at h;cases h;exact q [] H R (KpE.refl _) rfl
theorem Cf {k e:XE} {r:XP} (ik:SE K ga gd k) (ie:SE K ga gd e) (ir:SPs K ga gd r):SPs K ga gd (.cons k e r):=by
 intro env kvs env' h F0 H₀ I σ H Q R q;simp only [dP] at h;split at h
 ·rename_i rk e1 h1;split at h
  ·rename_i rv e2 h2;split at h
   ·rename_i kvs' e3 h3;split at h
    ·rename_i dk d hk hd;split at h
     ·rename_i key hkey;cases h;refine ik _ _ _ h1 F0 H₀ I σ H _ R fun v H1 R1 k1 r1=>?_;refine ie _ _ _ h2 F0 _ _ σ H1 _ R1.rebase fun u H2 S2 k2 r2=>?_;have R2:=R1.bV S2;refine ir _ _ _ h3 F0 _ _ σ H2 _ R2.rebase fun vs H3 S3 k3 r3=>?_;have a1:=r1.av;rw [hk] at a1;have a2:=r2.av;rw [hd] at a2;have ev:v=kV key:=by
       cases dk with
       | int i=>cases hkey;exact (show v=.int i from a1)
       | str x=>cases hkey;exact (show v=.str x/\_ from a1).1
       | _=>cases hkey
      have dd:Dm K (FF F0 env' σ) H3 d u:=R2.r9 S3 k3 a2;have dk':Dm K (FF F0 env' σ) H3 (kD key) (kV key):=by
       cases dk with
       | int i=>cases hkey;rfl
       | str x=>cases hkey;exact ⟨rfl,(show v=.str x/\_ from a1).2⟩
       | _=>cases hkey
      rw [ev];exact q ((key,u) :: vs) H3 (R2.bV S3) ((k1.trans k2).trans k3) ⟨u,vs,rfl,dk',dd,r3⟩
     ·cases h
    ·cases h
   ·cases h
  ·cases h
 ·cases h
theorem Gj {as:XP} (ih:SPs K ga gd as):SE K ga gd (.dsp as):=by
 intro env rv env' h F0 H₀ I σ H Q R q;simp only [dE] at h;cases h
end
open PySem
section
variable {K:Fg} {F F' I I' F0:Addr->Prop} {H H' H₀:Hp} {env env':En} {σ σ':St} {ga:Nat->V} {gd:List PyData}
theorem ou {α:Type}:∀ {l:List α} {i j:Nat} {x:α},l.Nodup->l[i]?=some x->l[j]?=some x->i=j
 | [],_,_,_,_,h,_=>by simp at h
 | y :: l,0,0,_,_,_,_=>rfl
 | y :: l,0,j+1,x,nd,h1,h2=>by
  simp at h1 h2;subst h1;exact absurd (KQ h2) (Lc.mp nd).1
 | y :: l,i+1,0,x,nd,h1,h2=>by
  simp at h1 h2;subst h2;exact absurd (KQ h1) (Lc.mp nd).1
 | y :: l,i+1,j+1,x,nd,h1,h2=>by
  simp at h1 h2;rw [ou (Lc.mp nd).2 h1 h2]
def noOwn (env:En):Prop:=∀ (i:Nat) (d:PyData),env[i]?≠some (.own d)
theorem eE (h:noOwn env):FF F0 env σ=F0:=by
 funext b;apply propext;constructor
 ·rintro (q | ⟨i,d,e,_⟩)
  ·exact q
  ·exact absurd e (h i d)
 ·exact .inl
theorem noOwn.kp (h:noOwn env) (k:KpE env env'):noOwn env':=fun i d e=>by
 obtain ⟨d',e'⟩:=k.own e;exact h i d' e'
def uq:Sl->Prop | .dat _=>True | .un=>True | _=>False
theorem jY {pre:En} {ps:St} (hp:∀ s∈pre,uq s) (hl:pre.length=ps.length):FF F0 (pre++env) (ps++σ)=FF F0 env σ:=by
 funext b;apply propext;constructor
 ·rintro (q | ⟨i,d,e,s⟩)
  ·exact .inl q
  ·by_cases hi:i < pre.length
   ·rw [KO hi] at e;have:=hp _ (KQ e);exact absurd this id
   ·rw [Kk (by omega)] at e;rw [Kk (by omega),<-hl] at s;exact .inr ⟨_,d,e,s⟩
 ·rintro (q | ⟨i,d,e,s⟩)
  ·exact .inl q
  ·refine .inr ⟨pre.length+i,d,?_,?_⟩
   ·rw [Kk (by omega)];simpa using e
   ·rw [Kk (by omega),hl];simpa using s
theorem nP {pre:En} (hp:∀ s∈pre,uq s) {i:Nat} (h:mu (pre++env) i):pre.length<=i/\mu env (i - pre.length):=by
 obtain ⟨d,h⟩:=h;by_cases hi:i < pre.length
 ·rw [KO hi] at h;rcases h with h | h <;> exact absurd (hp _ (KQ h)) id
 ·rw [Kk (by omega)] at h;exact ⟨by omega,d,h⟩
theorem sX {pre:En} {ps:St} (hp:∀ s∈pre,uq s) (hl:pre.length=ps.length):IA (pre++env) (ps++σ)=IA env σ:=by
 funext b;apply propext;constructor
 ·rintro ⟨i,m,s⟩;obtain ⟨hi,m'⟩:=nP hp m;rw [Kk (by omega),<-hl] at s;exact ⟨_,m',s⟩
 ·rintro ⟨i,⟨d,m⟩,s⟩;refine ⟨pre.length+i,⟨d,?_⟩,?_⟩
  ·rw [Kk (by omega)];simpa using m
  ·rw [Kk (by omega),hl];simpa using s
theorem Rel.front (R:Rel K F0 H₀ I env σ H) {ds:List PyData} {vs:List V} (h:DmL K (FF F0 env σ) H ds vs):Rel K F0 H₀ I (ds.map .dat++env) (vs.map some++σ) H:=by
 have hp:∀ s∈(ds.map Sl.dat),uq s:=fun s hs=>by obtain ⟨d,_,rfl⟩:=Ll.mp hs;trivial
 have hl:(ds.map Sl.dat).length=(vs.map some).length:=by rw [J5,J5,h.len]
 have hl2:(ds.map Sl.dat).length=ds.length:=J5 _;have eF:=jY (F0:=F0) (env:=env) (σ:=σ) hp hl;have eI:=sX (env:=env) (σ:=σ) hp hl;have back:∀ {i:Nat} {s:Sl},(ds.map Sl.dat++env)[i]?=some s->(∀ d,s≠.dat d)->(ds.map Sl.dat).length<=i/\env[i - (ds.map Sl.dat).length]?=some s:=fun {i s} e n=>by
  by_cases hi:i < (ds.map Sl.dat).length
  ·rw [KO hi] at e;obtain ⟨d,_,z⟩:=Ll.mp (KQ e);exact absurd z.symm (n d)
  ·rw [Kk (by omega)] at e;exact ⟨by omega,e⟩
 have fs:∀ {i:Nat} {x:Option V},(ds.map Sl.dat).length<=i->σ[i - (ds.map Sl.dat).length]?=some x->(vs.map some++σ)[i]?=some x:=fun {i x} hi e=>by
  rw [Kk (by omega),<-hl];exact e
 refine ⟨by rw [J6,J6,hl,R.len],fun i d e=>?_,fun i d e=>?_,fun i d e=>?_,fun i d e=>?_,fun i j a h1 h2 h3 h4=>?_,R.dom,R.gw⟩
 ·rw [eF];by_cases hi:i < (ds.map Sl.dat).length
  ·rw [KO hi,Kt] at e;cases e2:ds[i]? with
   | none=>rw [e2] at e;cases e
   | some d' =>
    rw [e2] at e;cases e;obtain ⟨v,q,r⟩:=h.get e2;refine ⟨v,?_,r⟩;rw [KO (by omega),Kt,q];rfl
  ·rw [Kk (by omega)] at e;obtain ⟨v,s,r⟩:=R.dat _ d e;exact ⟨v,fs (by omega) s,r⟩
 ·rw [eF];obtain ⟨hi,e⟩:=back e (fun _=>nofun);obtain ⟨a,s,q⟩:=R.own _ d e;exact ⟨a,fs hi s,q⟩
 ·rw [eF];obtain ⟨hi,e⟩:=back e (fun _=>nofun);obtain ⟨a,s,q⟩:=R.ino _ d e;exact ⟨a,fs hi s,q⟩
 ·rw [eF,eI];obtain ⟨hi,e⟩:=back e (fun _=>nofun);obtain ⟨a,s,q⟩:=R.ro _ d e;exact ⟨a,fs hi s,q⟩
 ·obtain ⟨i1,m1⟩:=nP hp h1;obtain ⟨i2,m2⟩:=nP hp h2;rw [Kk (by omega),<-hl] at h3 h4;have:=R.sep _ _ a m1 m2 h3 h4;omega
theorem Rel.behind {pre:En} {ps:St} (R:Rel K F0 H₀ I (pre++env) (ps++σ) H) (hp:∀ s∈pre,uq s) (hl:pre.length=ps.length):Rel K F0 H₀ I env σ H:=by
 have eF:=jY (F0:=F0) (env:=env) (σ:=σ) hp hl;have eI:=sX (env:=env) (σ:=σ) hp hl;have up:∀ {i:Nat} {s:Sl},env[i]?=some s->(pre++env)[pre.length+i]?=some s:=fun {i s} e=>by
  rw [Kk (by omega)];simpa using e
 have dn:∀ {i:Nat} {x:Option V},(ps++σ)[pre.length+i]?=some x->σ[i]?=some x:=fun {i x} e=>by
  rw [Kk (by omega),hl] at e;simpa using e
 have us:∀ {i:Nat} {x:Option V},σ[i]?=some x->(ps++σ)[pre.length+i]?=some x:=fun {i x} e=>by
  rw [Kk (by omega),hl];simpa using e
 refine ⟨by have:=R.len;rw [J6,J6,hl] at this;omega,fun i d e=>?_,fun i d e=>?_,fun i d e=>?_,fun i d e=>?_,fun i j a h1 h2 h3 h4=>?_,R.dom,R.gw⟩
 ·obtain ⟨v,s,r⟩:=R.dat _ d (up e);rw [eF] at r;exact ⟨v,dn s,r⟩
 ·obtain ⟨v,s,r⟩:=R.own _ d (up e);rw [eF] at r;exact ⟨v,dn s,r⟩
 ·obtain ⟨v,s,r⟩:=R.ino _ d (up e);rw [eF] at r;exact ⟨v,dn s,r⟩
 ·obtain ⟨v,s,r⟩:=R.ro _ d (up e);rw [eF,eI] at r;exact ⟨v,dn s,r⟩
 ·obtain ⟨d1,m1⟩:=h1;obtain ⟨d2,m2⟩:=h2;have:=R.sep (pre.length+i) (pre.length+j) a ⟨d1,m1.imp up up⟩ ⟨d2,m2.imp up up⟩ (us h3) (us h4);omega
theorem KpE.front {ds:List PyData} {e':En} (k:KpE (ds.map .dat++env) e'):∃ env',e'=ds.map .dat++env'/\KpE env env':=by
 have hlen:=k.1;rw [J6,J5] at hlen;refine ⟨e'.drop ds.length,?_,?_,fun i s e=>?_⟩
 ·apply List.ext_getElem?;intro i;by_cases hi:i < ds.length
  ·have hm:(ds.map Sl.dat++env)[i]?=some (.dat ds[i]):=by
    rw [KO (by rw [J5];exact hi),Kt,J9 hi];rfl
   obtain ⟨s',h',ev⟩:=k.2 i _ hm;have ev:s'=.dat ds[i]:=ev;rw [h',ev,KO (by rw [J5];exact hi),Kt,J9 hi];rfl
  ·rw [Kk (by rw [J5];omega),List.getElem?_drop,J5];congr 1;omega
 ·rw [Lp];omega
 ·obtain ⟨s',h',ev⟩:=k.2 (ds.length+i) s (by rw [Kk (by rw [J5];omega),J5];simpa using e);exact ⟨s',by rw [List.getElem?_drop];exact h',ev⟩
theorem iw {lock:Option Nat} {js:List Nat} {k:Nat} {s:Sl} (h:(fT env lock js)[k]?=some s):∃ j,js[k]?=some j/\s=qI (decide (lock=some j)) (env[j]?.getD .un):=by
 unfold fT at h;rw [Kt] at h;cases e:js[k]? with
 | none=>rw [e] at h;cases h
 | some j=>rw [e] at h;cases h;exact ⟨j,rfl,rfl⟩
theorem tm {js:List Nat} {k j:Nat} (h:js[k]?=some j):(bK js σ)[k]?=some ((σ[j]?).getD none):=by
 unfold bK;rw [Kt,h];rfl
theorem dC {lock:Option Nat} {js:List Nat}:noOwn (fT env lock js):=fun k d e=>by
 obtain ⟨j,_,e'⟩:=iw e;cases h:env[j]?.getD .un with
 | un=>rw [h] at e';cases e'
 | dat _=>rw [h] at e';cases e'
 | own c=>rw [h] at e';unfold qI at e';simp only at e';split at e' <;> cases e'
 | ino c=>rw [h] at e';unfold qI at e';simp only at e';split at e' <;> cases e'
 | ro _=>rw [h] at e';cases e'
theorem getD_some {j:Nat} {s:Sl} (h:env[j]?.getD .un=s) (n:s≠.un):env[j]?=some s:=by
 cases e:env[j]? with
 | none=>rw [e] at h;exact absurd h.symm n
 | some t=>rw [e] at h;cases h;rfl
theorem rQ {lock:Option Nat} {js:List Nat} {k:Nat} {d:PyData} (h:(fT env lock js)[k]?=some (.ino d)):∃ j,js[k]?=some j/\lock≠some j/\(env[j]?=some (.own d)\/env[j]?=some (.ino d)):=by
 obtain ⟨j,hj,e'⟩:=iw h;refine ⟨j,hj,?_⟩;cases h:env[j]?.getD .un with
 | un=>rw [h] at e';cases e'
 | dat _=>rw [h] at e';cases e'
 | own c =>
  rw [h] at e';unfold qI at e';simp only at e';split at e'
  ·cases e'
  ·rename_i n;cases e';exact ⟨by simpa using n,.inl (getD_some h nofun)⟩
 | ino c =>
  rw [h] at e';unfold qI at e';simp only at e';split at e'
  ·cases e'
  ·rename_i n;cases e';exact ⟨by simpa using n,.inr (getD_some h nofun)⟩
 | ro _=>rw [h] at e';cases e'
theorem fL {lock:Option Nat} {js:List Nat} {k:Nat} (h:mu (fT env lock js) k):∃ j,js[k]?=some j/\lock≠some j/\mu env j:=by
 obtain ⟨d,h | h⟩:=h
 ·exact absurd h (dC k d)
 ·obtain ⟨j,h1,h2,h3⟩:=rQ h;exact ⟨j,h1,h2,d,h3⟩
theorem b4 {js:List Nat} {k j:Nat} {a:Addr} (h:js[k]?=some j) (e:(bK js σ)[k]?=some (some (.ref a))):σ[j]?=some (some (.ref a)):=by
 rw [tm h] at e;cases q:σ[j]? with
 | none=>rw [q] at e;cases e
 | some x=>rw [q] at e;cases e;rfl
theorem dw {js:List Nat} {k j:Nat} {v:V} (h:js[k]?=some j) (e:σ[j]?=some (some v)):(bK js σ)[k]?=some (some v):=by rw [tm h,e];rfl
theorem Rel.bK (R:Rel K F0 H₀ I env σ H) {lock:Option Nat} {js:List Nat} (nd:js.Nodup):Rel K (FF F0 env σ) H (IA (fT env lock js) (L2.bK js σ)) (fT env lock js) (L2.bK js σ) H:=by
 have eF:FF (FF F0 env σ) (fT env lock js) (L2.bK js σ)=FF F0 env σ:=eE dC;have sub:∀ b,IA (fT env lock js) (L2.bK js σ) b->IA env σ b:=fun b ⟨k,m,s⟩=>by
  obtain ⟨j,hj,_,mj⟩:=fL m;exact ⟨j,mj,b4 hj s⟩
 refine ⟨by unfold fT L2.bK;rw [J5,J5],fun k d e=>?_,fun k d e=>absurd e (dC k d),fun k d e=>?_,fun k d e=>?_,fun k l a h1 h2 h3 h4=>?_,fun b h=>R.fJ h,fun _ _ h _=>h⟩
 ·rw [eF];obtain ⟨j,hj,e'⟩:=iw e;have ej:env[j]?=some (.dat d):=by
   cases h:env[j]?.getD .un with
   | un=>rw [h] at e';cases e'
   | dat c=>rw [h] at e';cases e';exact getD_some h nofun
   | own c=>rw [h] at e';unfold qI at e';simp only at e';split at e' <;> cases e'
   | ino c=>rw [h] at e';unfold qI at e';simp only at e';split at e' <;> cases e'
   | ro _=>rw [h] at e';cases e'
  obtain ⟨v,s,r⟩:=R.dat j d ej;exact ⟨v,dw hj s,r⟩
 ·rw [eF];obtain ⟨j,hj,_,ej⟩:=rQ e;have:∃ a,σ[j]?=some (some (.ref a))/\FF F0 env σ a/\Top K (FF F0 env σ) H d a:=by
   rcases ej with ej | ej
   ·obtain ⟨a,s,_,_,t⟩:=R.own j d ej;exact ⟨a,s,.inr ⟨j,d,ej,s⟩,t⟩
   ·obtain ⟨a,s,f,_,t⟩:=R.ino j d ej;exact ⟨a,s,.inl f,t⟩
  obtain ⟨a,s,f,t⟩:=this;exact ⟨a,dw hj s,f,⟨k,⟨d,.inr e⟩,dw hj s⟩,t⟩
 ·rw [eF];obtain ⟨j,hj,e'⟩:=iw e;have lk:∀ a,lock=some j->mu env j->σ[j]?=some (some (.ref a))->¬IA (fT env lock js) (L2.bK js σ) a:=fun a hl m s ⟨k',m',s'⟩=>by
   obtain ⟨j',hj',hn,mj'⟩:=fL m';have:=R.sep j' j a mj' m (b4 hj' s') s;subst this;exact hn hl
  cases h:env[j]?.getD .un with
  | un=>rw [h] at e';cases e'
  | dat c=>rw [h] at e';cases e'
  | own c =>
   rw [h] at e';unfold qI at e';simp only at e';split at e'
   ·rename_i n;cases e';have ej:=getD_some h nofun;obtain ⟨a,s,_,_,t⟩:=R.own j d ej;exact ⟨a,dw hj s,t.ro (lk a (by simpa using n) ⟨d,.inl ej⟩ s)⟩
   ·cases e'
  | ino c =>
   rw [h] at e';unfold qI at e';simp only at e';split at e'
   ·rename_i n;cases e';have ej:=getD_some h nofun;obtain ⟨a,s,_,_,t⟩:=R.ino j d ej;exact ⟨a,dw hj s,t.ro (lk a (by simpa using n) ⟨d,.inr ej⟩ s)⟩
   ·cases e'
  | ro c =>
   rw [h] at e';cases e';obtain ⟨a,s,t⟩:=R.ro j d (getD_some h nofun);exact ⟨a,dw hj s,t.pr Pr.refl (fun _ z=>z) sub fun _ _ z _=>z⟩
 ·obtain ⟨j1,e1,_,m1⟩:=fL h1;obtain ⟨j2,e2,_,m2⟩:=fL h2;have:=R.sep j1 j2 a m1 m2 (b4 e1 h3) (b4 e2 h4);subst this;exact ou nd e1 e2
theorem bq:∀ (env:En) (js:List Nat) (es:En),SmK env (aW env js es)
 | env,[],es=>by unfold aW;exact SmK.refl _
 | env,j :: js,[]=>by unfold aW;exact SmK.refl _
 | env,j :: js,s :: es=>by
  cases s with
  | ino d=>unfold aW;exact (fO env j d).trans (bq _ js es)
  | un=>unfold aW;exact bq _ js es
  | dat _=>unfold aW;exact bq _ js es
  | own _=>unfold aW;exact bq _ js es
  | ro _=>unfold aW;exact bq _ js es
theorem br:∀ (env:En) (js:List Nat) (es:En) (i:Nat),i ∉ js->(aW env js es)[i]?=env[i]?
 | env,[],es,i,_=>by unfold aW;rfl
 | env,j :: js,[],i,_=>by unfold aW;rfl
 | env,j :: js,s :: es,i,h=>by
  have n:i≠j:=fun z=>h (by rw [z];exact Ki);have n':i ∉ js:=fun z=>h (Kb _ z);cases s with
  | ino d=>unfold aW;rw [br _ js es i n',oe n]
  | un=>unfold aW;exact br _ js es i n'
  | dat _=>unfold aW;exact br _ js es i n'
  | own _=>unfold aW;exact br _ js es i n'
  | ro _=>unfold aW;exact br _ js es i n'
theorem fN:∀ (env:En) (js:List Nat) (es:En) (k i:Nat) (s:Sl),js.Nodup->js[k]?=some i->es[k]?=some s->(∀ d,s=.ino d->mu env i->aT (aW env js es) i=some d)/\((∀ d,s≠.ino d)->(aW env js es)[i]?=env[i]?)
 | env,[],es,k,i,s,_,h,_=>by simp at h
 | env,j :: js,[],k,i,s,_,_,h=>by simp at h
 | env,j :: js,t :: es,0,i,s,nd,h,h'=>by
  obtain ⟨n1,nd'⟩:=Lc.mp nd;simp at h h';subst h h';constructor
  ·rintro d rfl m;unfold aW;have:=br (gT env j d) js es j n1;unfold aT;rw [this];exact m4 m
  ·intro hn;cases t with
   | ino d=>exact absurd rfl (hn d)
   | un=>unfold aW;exact br _ js es j n1
   | dat _=>unfold aW;exact br _ js es j n1
   | own _=>unfold aW;exact br _ js es j n1
   | ro _=>unfold aW;exact br _ js es j n1
 | env,j :: js,t :: es,k+1,i,s,nd,h,h'=>by
  obtain ⟨n1,nd'⟩:=Lc.mp nd;simp at h h';have hi:i∈js:=KQ h;have ne:i≠j:=fun z=>n1 (z▸hi);cases t with
  | ino d =>
   unfold aW;have ih:=fN (gT env j d) js es k i s nd' h h';refine ⟨fun d' e m=>ih.1 d' e ((fO env j d).symm.kp.mu m),fun hn=>?_⟩;rw [ih.2 hn,oe ne]
  | un=>unfold aW;exact fN env js es k i s nd' h h'
  | dat _=>unfold aW;exact fN env js es k i s nd' h h'
  | own _=>unfold aW;exact fN env js es k i s nd' h h'
  | ro _=>unfold aW;exact fN env js es k i s nd' h h'
theorem KpE.Hf (k:KpE env env') {i:Nat} {d:PyData} (e:env[i]?=some (.ino d)):∃ d',env'[i]?=some (.ino d'):=by
 obtain ⟨s',h,ev⟩:=k.2 i _ e;obtain ⟨d',rfl⟩:=ev;exact ⟨d',h⟩
theorem Rel.back (R:Rel K F0 H₀ I env σ H) {lock:Option Nat} {js:List Nat} {ec:En} (nd:js.Nodup) (S:Rel K (FF F0 env σ) H (IA (fT env lock js) (L2.bK js σ)) ec (L2.bK js σ) H') (k:KpE (fT env lock js) ec):Rel K F0 H₀ I (aW env js ec) σ H':=by
 have sub:∀ b,IA (fT env lock js) (L2.bK js σ) b->IA env σ b:=fun b ⟨k,m,s⟩=>by
  obtain ⟨j,hj,_,mj⟩:=fL m;exact ⟨j,mj,b4 hj s⟩
 have hk:∀ b o,H b=some o->¬IA env σ b->H' b=some o:=fun b o e n=>S.gw b o e fun z=>n (sub b z);have eFc:FF (FF F0 env σ) ec (L2.bK js σ)=FF F0 env σ:=eE (dC.kp k);refine R.chg (bq env js ec) hk fun i d a hm hs=>?_;have sm:=bq env js ec;have mi:mu env i:=sm.kp.mu ((sU hm).elim (fun e=>⟨d,.inl e⟩) fun e=>⟨d,.inr e⟩);have mH:(aW env js ec)[i]?=env[i]?->¬IA (fT env lock js) (L2.bK js σ) a->Top K (FF F0 env σ) H' d a:=fun e n=>by
  have hm':aT env i=some d:=by unfold aT at hm ⊢;rwa [e] at hm
  obtain ⟨_,a',s',_,t⟩:=R.eT hm';rw [hs] at s';cases s';exact t.pr (R.qK hk) (fun _ z=>z) fun o e=>S.gw a o e n
 by_cases hi:i∈js
 ·obtain ⟨p,hp⟩:=List.mem_iff_getElem?.mp hi;have hlen:ec.length=js.length:=by rw [k.1];unfold fT;rw [J5]
  have hpl:p < js.length:=(Ka.mp hp).1;have he:ec[p]?=some (ec[p]'(by omega)):=J9 _;obtain ⟨b1,b2⟩:=fN env js ec p i _ nd hp he;by_cases hl:lock=some i
  ·-- locked
   refine mH (b2 fun d' z=>?_) ?_
   ·rw [z] at he;obtain ⟨s,e0,ev⟩:=k.back he;obtain ⟨j,hj,e'⟩:=iw e0;rw [hp] at hj;cases hj;obtain ⟨c,hc | hc⟩:=mi
    ·rw [hc] at e';simp only [Option.getD_some,qI,hl,decide_true,LO] at e';subst e';cases ev
    ·rw [hc] at e';simp only [Option.getD_some,qI,hl,decide_true,LO] at e';subst e';cases ev
   ·rintro ⟨q,mq,sq⟩;obtain ⟨j',hj',hn,mj'⟩:=fL mq;have:=R.sep j' i a mj' mi (b4 hj' sq) hs;subst this;exact hn hl
  ·have:∃ c,(fT env lock js)[p]?=some (.ino c):=by
    unfold fT;rw [Kt,hp];obtain ⟨c,hc | hc⟩:=mi
    ·exact ⟨c,by rw [L7,hc];simp [qI,hl]⟩
    ·exact ⟨c,by rw [L7,hc];simp [qI,hl]⟩
   obtain ⟨c,hc⟩:=this;obtain ⟨d',hd'⟩:=k.Hf hc;rw [he] at hd';have ed:=b1 d' (KN hd') mi;rw [hm] at ed;cases ed;obtain ⟨a',s',_,_,t⟩:=S.ino p d (by rw [he];exact hd');have:=b4 hp s';rw [hs] at this;cases this
   rwa [eFc] at t
 ·refine mH (br env js ec i hi) ?_;rintro ⟨q,mq,sq⟩;obtain ⟨j',hj',hn,mj'⟩:=fL mq;have:=R.sep j' i a mj' mi (b4 hj' sq) hs;subst this;exact hi (KQ hj')
end
open PySem
section
variable {K:Fg} {F F' I I' F0:Addr->Prop} {H H' H₀ H1:Hp} {env env' e1:En} {σ σ':St} {ga:Nat->V} {gd:List PyData}
def HP (K:Fg) (F:Addr->Prop) (H:Hp) (acc:List V):Option PyData->List V->Prop
 | none,acc'=>acc'=acc
 | some d,acc'=>∃ v,acc'=acc++[v]/\Dm K F H d v
theorem vM {step:PyData->En->Option (Option PyData×En)} {ds ys:List PyData} {ec:En} {lock:Option Nat} {js:List Nat} {J:It} {Q:VK} {τ:Type} {TI:τ->Prop} {t0:τ} {body:τ->List V->V->Hp->(τ->List V->Hp->Prop)->Prop} (ht0:TI t0)
  (R1:Rel K F0 H₀ I e1 σ H1) (nd:js.Nodup) (hit:yu K (FF F0 e1 σ) (fun b=>IA e1 σ b/\∀ i,lock=some i->mu e1 i->σ[i]?≠some (some (.ref b))) H1 J ds) (h2:rN step ds (fT e1 lock js)=some (ys,ec))
  (turn:∀ t acc d envc y envc' x H',TI t->step d envc=some (y,envc')->Rel K (FF F0 e1 σ) H1 (IA (fT e1 lock js) (bK js σ)) envc (bK js σ) H'->noOwn envc->Dm K (FF F0 e1 σ) H' d x->∀ N:τ->List V->Hp->Prop,
   (∀ t' acc' H2,TI t'->Rel K (FF F0 e1 σ) H1 (IA (fT e1 lock js) (bK js σ)) envc' (bK js σ) H2->KpE envc envc'->Pr (FF F0 e1 σ) H' H2->HP K (FF F0 e1 σ) H2 acc y acc'->N t' acc' H2)->body t acc x H' N)
  (fin:∀ acc H',Rel K F0 H₀ I (aW e1 js ec) σ H'->DmL K (FF F0 e1 σ) H' ys acc->acc.length<=sizeLine->∀ p,H' p=none->Q (.ref p) (upd H' p (.lst acc))) :
  ∃ W:Nat->Nat->τ->List V->Hp->Prop,(∃ m,W 0 m t0 [] H1)/\∀ i m t acc H,W i m t acc H ->
   (J.stop i H/\acc.length<=sizeLine/\∀ p,H p=none->Q (.ref p) (upd H p (.lst acc)))\/(J.go i H/\acc.length < sizeLine/\∀ x H',J.yld i H x H'->body t acc x H' fun t' acc' H2=>∃ m',m' < m/\W (i+1) m' t' acc' H2):=by
 obtain ⟨hvl,hturn⟩:=hit;have sub:∀ b,IA (fT e1 lock js) (bK js σ) b->IA e1 σ b/\∀ i,lock=some i->mu e1 i->σ[i]?≠some (some (.ref b)):=fun b ⟨k,m,s⟩=>by
  obtain ⟨j,hj,hn,mj⟩:=fL m;refine ⟨⟨j,mj,b4 hj s⟩,fun i hl mi si=>?_⟩;have:=R1.sep j i b mj mi (b4 hj s) si;subst this;exact hn hl
 have Rc0:=R1.bK (lock:=lock) nd
 refine ⟨fun i m t acc H'=>TI t/\m=ds.length - i/\i<=ds.length/\acc.length<=i/\∃ envc done rest,rN step (ds.drop i) envc=some (rest,ec)/\ys=done++rest/\Rel K (FF F0 e1 σ) H1 (IA (fT e1 lock js) (bK js σ)) envc (bK js σ) H'/\KpE (fT e1 lock js) envc/\DmL K (FF F0 e1 σ) H' done acc,
  ⟨ds.length,ht0,rfl,Lu _,Ke _,fT e1 lock js,[],ys,h2,rfl,Rc0,KpE.refl _,rfl⟩,?_⟩
 rintro i m t acc H' ⟨hti,rfl,hi,hal,envc,done,rest,hc,hy,Rc,kc,hacc⟩;have hkept:∀ b o,H1 b=some o->¬(IA e1 σ b/\∀ i,lock=some i->mu e1 i->σ[i]?≠some (some (.ref b)))->H' b=some o:=fun b o e n=>Rc.gw b o e fun z=>n (sub b z);by_cases hlt:i < ds.length
 ·right;obtain ⟨go,yld⟩:=(hturn H' hkept i).1 (by omega);refine ⟨go,by omega,fun x H'' hx=>?_⟩;obtain ⟨d,hd,hy9⟩:=yld x H'' hx;obtain ⟨sm,hdx'⟩:=hy9.dm (F2:=FF F0 e1 σ) fun d v h=>h.pr (R1.qK fun b o e n=>hkept b o e fun z=>n z.1) fun _ z=>z;have Rc:=Rc.same sm;have hacc:=hacc.pr (fun b o e _=>sm b o e) fun _ z=>z;have ed:ds.drop i=d :: ds.drop (i+1):=by
   rw [Lr hlt];obtain ⟨_,q⟩:=Ka.mp hd;rw [q]
  rw [ed] at hc;unfold rN at hc;split at hc
  ·rename_i y envc' hs;split at hc
   ·rename_i ys' e2 hr;cases hc;refine turn t acc d envc y envc' x H'' hti hs Rc (dC.kp kc) hdx' _ fun t' acc' H2 ht' R2 k2 p2 ha=>⟨_,by omega,ht',rfl,by omega,?_,envc',done++y.toList,ys',hr,by rw [hy,Kq],R2,kc.trans k2,?_⟩
    ·cases y with
     | none=>rw [show acc'=acc from ha];omega
     | some dy=>obtain ⟨v,rfl,_⟩:=ha;rw [J6];simp;omega
    ·have hacc':=hacc.pr p2 fun _ z=>z;cases y with
     | none=>rw [show acc'=acc from ha];simpa using hacc'
     | some dy=>obtain ⟨v,rfl,hv⟩:=ha;exact hacc'.snoc hv
   ·cases hc
  ·cases hc
 ·left;have e:i=ds.length:=by omega
  subst e;have hz:acc.length<=sizeLine:=by omega
  rw [List.drop_length] at hc;unfold rN at hc;cases hc;rw [K6] at hy;subst hy;exact ⟨(hturn H' hkept _).2 (by omega),hz,fin acc H' (R1.back nd Rc kc) hacc hz⟩
theorem HG {js:List Nat} {it:XI} {c:XT} {e:XE} (ii:SI K ga gd it) (ic:ST K ga gd c) (ie:SE K ga gd e):SE K ga gd (.cmp js it c e):=by
 intro env rv env' h F0 H₀ I σ H Q R q;simp only [dE] at h;split at h
 ·rename_i ds lock e1 h1;split at h
  ·rename_i nd;split at h
   ·rename_i ys ec h2;cases h;refine ii _ _ _ _ h1 F0 H₀ I σ H _ R fun J H1 R1 k1 _ hit=>?_;refine Exists.elim (vM (Q:=Q) (τ:=Unit) (TI:=fun _=>True) (t0:=()) (body:=fun _ acc x H' N=>rT K ga c (some x :: bK js σ) H' fun b H2=>if b=true then rE K ga e (some x :: bK js σ) H2 fun y H3=>N () (acc++[y]) H3 else N () acc H2) trivial R1 nd hit h2 ?_ ?_) fun W hw=>?_
    rotate_right 1
    ·obtain ⟨w0,hW⟩:=hw;exact ⟨fun i m acc H=>W i m () acc H,w0,fun i m acc H w=>hW i m () acc H w⟩
    ·intro _ acc d envc y envc' x H' _ hs Rc no hd N hN;have eF:FF (FF F0 e1 σ) envc (bK js σ)=FF F0 e1 σ:=eE no;have Rx:Rel K (FF F0 e1 σ) H1 (IA (fT e1 lock js) (bK js σ)) (.dat d :: envc) (some x :: bK js σ) H':=Rc.front (ds:=[d]) (vs:=[x]) ⟨x,[],rfl,by rw [eF];exact hd,rfl⟩;have frontF:∀ {e2:En},KpE envc e2->FF (FF F0 e1 σ) (.dat d :: e2) (some x :: bK js σ)=FF F0 e1 σ:=fun {e2} k=>by
      have:=jY (F0:=FF F0 e1 σ) (env:=e2) (σ:=bK js σ) (pre:=[.dat d]) (ps:=[some x]) (fun s hs=>by rw [Kc.mp hs];trivial) rfl;exact this.trans (eE (no.kp k))
     unfold j5 at hs;split at hs
     ·rename_i e2 hT;split at hs
      ·rename_i rv e3 hE;split at hs
       ·rename_i dy hv;cases hs;refine ic _ _ _ hT _ _ _ _ H' _ Rx.rebase fun H2 S2 k2=>?_;rw [Km rfl];have R2:=Rx.bV S2;refine ie _ _ _ hE _ _ _ _ H2 _ R2.rebase fun v H3 S3 k3 r3=>?_;have R3:=R2.bV S3;obtain ⟨ex,e3',kx⟩:=(k2.trans k3).front (ds:=[d]);have k23:=k2.trans k3;subst e3';have ht:(([d].map Sl.dat)++ex).tail=ex:=rfl;obtain ⟨e2x,e2',k2x⟩:=k2.front (ds:=[d]);have p12:Pr (FF F0 e1 σ) H' H2:=by have:=Rx.qK S2.gw;rwa [frontF (KpE.refl _)] at this
        have p23:Pr (FF F0 e1 σ) H2 H3:=by
         have:=R2.qK S3.gw;rw [e2'] at this
         rwa [show FF (FF F0 e1 σ) ([d].map Sl.dat++e2x) (some x :: bK js σ)=FF F0 e1 σ from frontF k2x] at this
        have a3:=r3.av;rw [hv] at a3;have dv:Dm K (FF F0 e1 σ) H3 dy v:=by
         have:Dm K (FF (FF F0 e1 σ) ([d].map Sl.dat++ex) (some x :: bK js σ)) H3 dy v:=a3
         rwa [show FF (FF F0 e1 σ) ([d].map Sl.dat++ex) (some x :: bK js σ)=FF F0 e1 σ from frontF kx] at this
        exact hN () _ H3 trivial (R3.behind (pre:=[.dat d]) (ps:=[some x]) (fun s hs=>by rw [Kc.mp hs];trivial) rfl) kx (p12.trans p23 fun _ z=>z) ⟨v,rfl,dv⟩
       ·cases hs
      ·cases hs
     ·rename_i e2 hT;cases hs;refine ic _ _ _ hT _ _ _ _ H' _ Rx.rebase fun H2 S2 k2=>?_;rw [Kr (by decide)];have R2:=Rx.bV S2;obtain ⟨ex,e2',kx⟩:=k2.front (ds:=[d]);subst e2';have p12:Pr (FF F0 e1 σ) H' H2:=by have:=Rx.qK S2.gw;rwa [frontF (KpE.refl _)] at this
      exact hN () _ H2 trivial (R2.behind (pre:=[.dat d]) (ps:=[some x]) (fun s hs=>by rw [Kc.mp hs];trivial) rfl) kx p12 rfl
     ·cases hs
    ·intro acc H' R' hd hz p hp;have eF:=(bq e1 js ec).ff (F0:=F0) (σ:=σ);have s:=bj.nw (.lst acc) hp;exact q _ _ (R'.same s) (k1.trans (bq e1 js ec).kp) (R'.qu (pr:=.frs (.list ys)) s ⟨p,rfl,hp,acc,aH,hz,by rw [eF];exact (hd.fresh hp).pr (Pr.of_same s) fun _ z=>z⟩)
   ·cases h
  ·cases h
 ·cases h
noncomputable def CQ:St->Nat->List V->St
 | σ,_,[]=>σ
 | σ,k,v :: vs=>CQ (σ.set k (some v)) (k+1) vs
theorem oy:∀ {vs:List V} {k:Nat} {σ:St} {H:Hp} {Q:St->Hp->Prop},Q (CQ σ k vs) H->gNs (List.range' k vs.length) vs σ H Q
 | [],_,_,_,_,h=>⟨rfl,h⟩
 | v :: vs,k,σ,H,Q,h=>⟨v,vs,rfl,oy (vs:=vs) (k:=k+1) h⟩
theorem sr:∀ {vs:List V} {pre hd tl:St},hd.length=vs.length->CQ (pre++(hd++tl)) pre.length vs=pre++(vs.map some++tl)
 | [],pre,hd,tl,h=>by
  have:hd=[]:=List.eq_nil_of_length_eq_zero h;subst this;rfl
 | v :: vs,pre,[],tl,h=>by cases h
 | v :: vs,pre,x :: hd,tl,h=>by
  have hl:hd.length=vs.length:=by simpa using h
  have e:(pre++(x :: hd++tl)).set pre.length (some v)=(pre++[some v])++(hd++tl):=by
   rw [List.set_append_right _ _ (Ke _)];simp
  unfold CQ;rw [e];have:=sr (vs:=vs) (pre:=pre++[some v]) (hd:=hd) (tl:=tl) hl;rw [J6] at this;rw [show pre.length+1=pre.length+[some v].length from rfl,this];simp
theorem xA (n:List Str):(iN n).length=n.length:=by unfold iN;rw [J5]
theorem De {n:List Str} {js:List Nat} {it:XI} {e:XE} (ii:SI K ga gd it) (ie:SE K ga gd e):SE K ga gd (.zV n js it e):=by
 intro env rv env' h F0 H₀ I σ H Q R q;simp only [dE] at h;split at h
 ·rename_i ds lock e1 h1;split at h
  ·rename_i nd;split at h
   ·rename_i ys ec h2;cases h;refine ii _ _ _ _ h1 F0 H₀ I σ H _ R fun J H1 R1 k1 _ hit=>?_;refine Exists.elim (vM (Q:=Q) (τ:=St) (TI:=fun t=>∃ hd:St,hd.length=n.length/\t=hd++bK js σ) (t0:=iN n++bK js σ) (body:=fun t acc x H' N=>gTp K (List.range n.length) x t H' fun σ2 H2=>rE K ga e σ2 H2 fun y H3=>N σ2 (acc++[y]) H3) ⟨iN n,xA n,rfl⟩ R1 nd hit h2 ?_ ?_) fun W hw=>?_
    rotate_right 1
    ·obtain ⟨w0,hW⟩:=hw;exact ⟨W,w0,hW⟩
    ·rintro t acc d envc y envc' x H' ⟨hd,hl,rfl⟩ hs Rc no hdx N hN;have eF:FF (FF F0 e1 σ) envc (bK js σ)=FF F0 e1 σ:=eE no;unfold g7 at hs;split at hs
     ·rename_i xs;split at hs
      ·rename_i hxl;split at hs
       ·rename_i rv e3 hE;split at hs
        ·rename_i dy hv;cases hs;obtain ⟨a,vs,rfl,hq,hz,hdl⟩:=hdx;have hvl:vs.length=n.length:=by rw [hdl.len,hxl]
         refine ⟨a,vs,rfl,hq,by rw [LD];exact hvl,?_⟩;rw [List.range_eq_range',<-hvl];refine oy ?_;have es:CQ (hd++bK js σ) 0 vs=vs.map some++bK js σ:=sr (pre:=[]) (by rw [hl,hvl]);rw [es];have Rx:Rel K (FF F0 e1 σ) H1 (IA (fT e1 lock js) (bK js σ)) (xs.map .dat++envc) (vs.map some++bK js σ) H':=Rc.front (by rw [eF];exact hdl);have hpre:∀ s∈(xs.map Sl.dat),uq s:=fun s hs=>by obtain ⟨d,_,rfl⟩:=Ll.mp hs;trivial
         have hpl:(xs.map Sl.dat).length=(vs.map some).length:=by rw [J5,J5,hdl.len]
         have frontF:∀ {e2:En},KpE envc e2->FF (FF F0 e1 σ) (xs.map .dat++e2) (vs.map some++bK js σ)=FF F0 e1 σ:=fun {e2} k=>(jY hpre hpl).trans (eE (no.kp k));refine ie _ _ _ hE _ _ _ _ H' _ Rx.rebase fun v H3 S3 k3 r3=>?_;have R3:=Rx.bV S3;obtain ⟨ex,e3',kx⟩:=k3.front;subst e3';have p:Pr (FF F0 e1 σ) H' H3:=by have:=Rx.qK S3.gw;rwa [frontF (KpE.refl _)] at this
         have a3:=r3.av;rw [hv] at a3;have dv:Dm K (FF F0 e1 σ) H3 dy v:=by
          have:Dm K (FF (FF F0 e1 σ) (xs.map .dat++ex) (vs.map some++bK js σ)) H3 dy v:=a3
          rwa [frontF kx] at this
         have ed:(xs.map Sl.dat++ex).drop n.length=ex:=by rw [<- hxl,<-J5 (f:=Sl.dat),List.drop_left]
         rw [ed] at hN;exact hN _ _ H3 ⟨vs.map some,by rw [J5];exact hvl,rfl⟩ (R3.behind hpre hpl) kx p ⟨v,rfl,dv⟩
        ·cases hs
       ·cases hs
      ·cases hs
     ·cases hs
    ·intro acc H' R' hd hz p hp;have eF:=(bq e1 js ec).ff (F0:=F0) (σ:=σ);have s:=bj.nw (.lst acc) hp;exact q _ _ (R'.same s) (k1.trans (bq e1 js ec).kp) (R'.qu (pr:=.frs (.list ys)) s ⟨p,rfl,hp,acc,aH,hz,by rw [eF];exact (hd.fresh hp).pr (Pr.of_same s) fun _ z=>z⟩)
   ·cases h
  ·cases h
 ·cases h
mutual
theorem sE (hg:∀ g d,gd[g]?=some d->∀ F H,Dm K F H d (ga g)):∀ e:XE,SE K ga gd e
 | .var i=>GQ i | .mov i=>GL i | .tke i=>Fs i | .cst c=>Hq c | .glb g=>Gh hg g
 | .prm p as=>Hj (sA hg as) | .met m o as=>Gr (sE hg o) (sA hg as) | .mtr m i as=>Gm (sA hg as) | .call f as=>s_call (sA hg as)
 | .tup as=>HA (sA hg as) | .lst as=>GP (sA hg as) | .dsp as=>Gj (sPs hg as) | .fst as=>GK (sF hg as)
 | .ifx c a b=>FV (sT hg c) (sE hg a) (sE hg b) | .uL a b=>BY (sE hg a) (sE hg b) | .orv a b=>HV (sE hg a) (sE hg b) | .BU a=>Ck (sE hg a)
 | .chn p q a b c=>FU (sE hg a) (sE hg b) (sE hg c) | .sl2 p a b c=>GN (sE hg a) (sE hg b) (sE hg c)
 | .cmp js it c e=>HG (sI hg it) (sT hg c) (sE hg e) | .zV n js it e=>De (sI hg it) (sE hg e)
theorem sA (hg:∀ g d,gd[g]?=some d->∀ F H,Dm K F H d (ga g)):∀ e:XA,SA K ga gd e
 | .nil=>HI | .cons e r=>CP (sE hg e) (sA hg r)
theorem sF (hg:∀ g d,gd[g]?=some d->∀ F H,Dm K F H d (ga g)):∀ e:XA,SF K ga gd e
 | .nil=>GB | .cons e r=>Ed (sE hg e) (sF hg r)
theorem sPs (hg:∀ g d,gd[g]?=some d->∀ F H,Dm K F H d (ga g)):∀ e:XP,SPs K ga gd e
 | .nil=>HW | .cons k e r=>Cf (sE hg k) (sE hg e) (sPs hg r)
theorem sT (hg:∀ g d,gd[g]?=some d->∀ F H,Dm K F H d (ga g)):∀ e:XT,ST K ga gd e
 | .tst e=>HB (sE hg e) | .tru e=>GW (sE hg e) | .and a b=>F6 (sT hg a) (sT hg b) | .or a b=>IZ (sT hg a) (sT hg b) | .not a=>Gd (sT hg a) | .yes=>GI
theorem sI (hg:∀ g d,gd[g]?=some d->∀ F H,Dm K F H d (ga g)):∀ e:XI,SI K ga gd e
 | .lst e=>AI (sE hg e) | .tup e=>Em (sE hg e) | .str e=>FK (sE hg e) | .rng1 as=>B6 (sA hg as) | .rng2 as=>Er (sA hg as) | .dct e=>F4 (sE hg e) | .sq e=>Jw (sE hg e) | .itm e=>F7 (sE hg e) | .zip as=>GR (sA hg as)
end
end
open PySem
section
variable {K:Fg} {F F' I I' F0:Addr->Prop} {H H' H₀ H1:Hp} {env env' e1:En} {σ σ':St} {ga:Nat->V} {gd:List PyData}
theorem LsF.bA {a:Addr} {xs:List V} (h:LsF K F H a xs):LsF K (fun b=>F b\/H b=none) H a xs:=by
 rcases h with ⟨n,h⟩ | h
 ·refine .inl ⟨fun z=>z.elim n fun e=>?_,h⟩;rcases h with h | ⟨o,h⟩ <;> (rw [e] at h;cases h)
 ·exact .inr h
mutual
theorem Dm.bA:∀ {d:PyData} {v:V},Dm K F H d v->Dm K (fun b=>F b\/H b=none) H d v
 | .none,v,h=>h
 | .bool b,v,h=>h
 | .int i,v,h=>h
 | .str x,v,h=>h
 | .list ds,v,h=>by
  obtain ⟨a,xs,e,l,z,r⟩:=h;exact ⟨a,xs,e,l.bA,z,DmL.bA r⟩
 | .tuple ds,v,h=>by
  obtain ⟨a,xs,e,l,z,r⟩:=h;exact ⟨a,xs,e,l,z,DmL.bA r⟩
 | .dict kvs,v,h=>by
  obtain ⟨a,ep,xs,e,n,l,z,r⟩:=h;exact ⟨a,ep,xs,e,fun q=>q.elim n fun q=>(by rw [q] at l;cases l),l,z,DmP.bA r⟩
theorem DmL.bA:∀ {ds:List PyData} {vs:List V},DmL K F H ds vs->DmL K (fun b=>F b\/H b=none) H ds vs
 | [],vs,h=>h
 | d :: ds,vs,h=>by
  obtain ⟨v,r,e,h1,h2⟩:=h;exact ⟨v,r,e,Dm.bA h1,DmL.bA h2⟩
theorem DmP.bA:∀ {ds:List (PyData×PyData)} {vs:List (PyData×V×V)},DmP K F H ds vs->DmP K (fun b=>F b\/H b=none) H ds vs
 | [],vs,h=>h
 | (k,d) :: ds,vs,h=>by
  obtain ⟨j,v,r,e,e2,h0,h1,h2⟩:=h;exact ⟨j,v,r,e,e2,Dm.bA h0,Dm.bA h1,DmP.bA h2⟩
end
theorem Top.bA {d:PyData} {a:Addr} (h:Top K F H d a):Top K (fun b=>F b\/H b=none) H d a:=by
 cases d with
 | list ds=>obtain ⟨xs,e,z,r⟩:=h;exact ⟨xs,e,z,r.bA⟩
 | dict ds=>obtain ⟨ep,xs,e,z,r⟩:=h;exact ⟨ep,xs,e,z,r.bA⟩
 | _=>exact absurd h id
theorem iG.bA {d:PyData} {a:Addr} (h:iG K F I H d a):iG K (fun b=>F b\/H b=none) (fun b=>I b\/H b=none) H d a:=by
 cases d with
 | list ds=>obtain ⟨xs,e,z,r⟩:=h;exact ⟨xs,e.bA,z,r.bA⟩
 | dict ds =>
  obtain ⟨ep,xs,n,e,z,r⟩:=h;exact ⟨ep,xs,fun q=>q.elim n fun q=>(by rw [q] at e;cases e),e,z,r.bA⟩
 | _=>exact absurd h id
theorem Pr.Ih (p:Pr F H H') (h:∀ b,F b->F' b):Pr F' H H':=fun b o e n=>p b o e (n.imp (fun z q=>z (h _ q)) id)
def Evs:Sl->Sl->Prop
 | .ino _,s=>∃ d,s=.ino d
 | .ro d,s=>s=.ro d
 | _,s=>(∀ d,s≠.ino d)/\∀ d,s≠.ro d
def CW:Sl->Prop | .ino _=>True | .ro _=>True | _=>False
def KpS (env:En) (σ:St) (env':En) (σ':St):Prop:=env'.length=env.length/\∀ (i:Nat) (s:Sl),env[i]?=some s->∃ s',env'[i]?=some s'/\Evs s s'/\(CW s->σ'[i]?=σ[i]?)
theorem Evs.refl:∀ s,Evs s s
 | .un=>⟨fun _=>nofun,fun _=>nofun⟩
 | .dat _=>⟨fun _=>nofun,fun _=>nofun⟩
 | .own d=>⟨fun _=>nofun,fun _=>nofun⟩
 | .ino d=>⟨d,rfl⟩
 | .ro _=>rfl
def soft (s:Sl):Prop:=(∀ d,s≠.ino d)/\∀ d,s≠.ro d
theorem Evs.soft {s s':Sl} (h:Evs s s') (q:L2.soft s):L2.soft s':=by
 cases s with
 | ino d=>exact absurd rfl (q.1 d)
 | ro d=>exact absurd rfl (q.2 d)
 | _=>exact h
theorem Evs.of {s s':Sl} (q:L2.soft s) (q':L2.soft s'):Evs s s':=by
 cases s with
 | ino d=>exact absurd rfl (q.1 d)
 | ro d=>exact absurd rfl (q.2 d)
 | _=>exact q'
theorem Evs.trans {a b c:Sl} (h:Evs a b) (q:Evs b c):Evs a c:=by
 cases a with
 | ino d=>obtain ⟨d',rfl⟩:=h;exact q
 | ro d=>rw [show b=.ro d from h] at q;exact q
 | un=>exact Evs.of ⟨fun _=>nofun,fun _=>nofun⟩ (q.soft h)
 | dat _=>exact Evs.of ⟨fun _=>nofun,fun _=>nofun⟩ (q.soft h)
 | own _=>exact Evs.of ⟨fun _=>nofun,fun _=>nofun⟩ (q.soft h)
theorem Evs.CW {a b:Sl} (h:Evs a b) (q:L2.CW a):L2.CW b:=by
 cases a with
 | ino d=>obtain ⟨d',rfl⟩:=h;trivial
 | ro d=>rw [show b=.ro d from h];trivial
 | _=>exact absurd q id
theorem KpS.refl (env:En) (σ:St):KpS env σ env σ:=⟨rfl,fun i s e=>⟨s,e,.refl s,fun _=>rfl⟩⟩
theorem KpS.trans {a b c:En} {x y z:St} (h:KpS a x b y) (q:KpS b y c z):KpS a x c z:=⟨q.1.trans h.1,fun i s e=>by
 obtain ⟨s1,e1,v1,w1⟩:=h.2 i s e;obtain ⟨s2,e2,v2,w2⟩:=q.2 i s1 e1
 exact ⟨s2,e2,v1.trans v2,fun t=>(w2 (v1.CW t)).trans (w1 t)⟩⟩
theorem KpE.s (k:KpE env env'):KpS env σ env' σ:=⟨k.1,fun i s e=>by
 obtain ⟨s',e',v⟩:=k.2 i s e;refine ⟨s',e',?_,fun _=>rfl⟩;cases s with
 | un=>rw [show s'=.un from v];exact .refl _
 | dat d=>rw [show s'=.dat d from v];exact .refl _
 | own d=>rcases v with ⟨d',rfl⟩ | ⟨d',rfl⟩ | rfl <;> exact ⟨fun _=>nofun,fun _=>nofun⟩
 | ino d=>exact v
 | ro d=>exact v⟩
theorem lg {i:Nat} (h:free env i=true):∃ s,env[i]?=some s/\L2.soft s:=by
 unfold free at h;split at h
 ·rename_i e;exact ⟨_,e,fun _=>nofun,fun _=>nofun⟩
 ·rename_i e;exact ⟨_,e,fun _=>nofun,fun _=>nofun⟩
 ·rename_i e;exact ⟨_,e,fun _=>nofun,fun _=>nofun⟩
 ·cases h
theorem uT {i:Nat} {s s':Sl} {x:Option V} (e:env[i]?=some s) (q:L2.soft s) (q':L2.soft s'):KpS env σ (env.set i s') (σ.set i x):=by
 have hi:i < env.length:=(Ka.mp e).1;refine ⟨KA,fun j t h=>?_⟩;by_cases z:i=j
 ·subst z;rw [e] at h;cases h;refine ⟨s',Kf hi,.of q q',fun t=>?_⟩;cases s with
  | ino d=>exact absurd rfl (q.1 d)
  | ro d=>exact absurd rfl (q.2 d)
  | _=>exact absurd t id
 ·exact ⟨t,by rw [J4 z];exact h,.refl t,fun _=>by rw [J4 z]⟩
def pf (K:Fg) (F0:Addr->Prop) (H₀:Hp) (I:Addr->Prop) (env:En) (σ:St) (D:Ends):Out->Prop
 | .nx e=>∀ σ' H',Rel K F0 H₀ I e σ' H'->KpS env σ e σ'->D.nx σ' H'
 | .bk e=>∀ σ' H',Rel K F0 H₀ I e σ' H'->KpS env σ e σ'->D.bk σ' H'
 | .ct e=>∀ σ' H',Rel K F0 H₀ I e σ' H'->KpS env σ e σ'->D.ct σ' H'
 | .rt rv e=>∀ v σ' H',Rel K F0 H₀ I e σ' H'->KpS env σ e σ'->jT K F0 H₀ I e σ' H' rv v->D.rt v H'
def SS (K:Fg) (ga:Nat->V) (gd:List PyData) (s:XS):Prop:=∀ (env:En) (out:Out),dS gd s env=some out->∀ (F0:Addr->Prop) (H₀:Hp) (I:Addr->Prop) (σ:St) (H:Hp) (D:Ends),Rel K F0 H₀ I env σ H->pf K F0 H₀ I env σ D out->rS K ga s D σ H
theorem pf.from {D:Ends} {out:Out} (k:KpS env σ env' σ') (h:pf K F0 H₀ I env σ D out):pf K F0 H₀ I env' σ' D out:=by
 cases out with
 | nx e=>exact fun s h1 r q=>h s h1 r (k.trans q)
 | bk e=>exact fun s h1 r q=>h s h1 r (k.trans q)
 | ct e=>exact fun s h1 r q=>h s h1 r (k.trans q)
 | rt rv e=>exact fun v s h1 r q w=>h v s h1 r (k.trans q) w
theorem Ey {a b:XS} (ia:SS K ga gd a) (ib:SS K ga gd b):SS K ga gd (.seq a b):=by
 intro env out h F0 H₀ I σ H D R q;simp only [dS] at h;split at h
 ·rename_i e h1;refine ia _ _ h1 F0 H₀ I σ H _ R fun σ' H' R' k'=>?_;exact ib _ _ h F0 H₀ I σ' H' D R' (q.from k')
 ·rename_i hn;refine ia _ _ h F0 H₀ I σ H _ R ?_;cases out with
  | nx e=>exact absurd h (hn e)
  | bk e=>exact q
  | ct e=>exact q
  | rt rv e=>exact q
theorem Rel.Hm (R:Rel K F0 H₀ I env σ H) {i:Nat} {d:PyData} {v:V} (hf:free env i=true) (h:Dm K (FF F0 env σ) H d v):Rel K F0 H₀ I (env.set i (.dat d)) (σ.set i (some v)) H/\KpS env σ (env.set i (.dat d)) (σ.set i (some v)):=by
 obtain ⟨s,e,q⟩:=lg hf;have hi:i < env.length:=(Ka.mp e).1;have R1:=R.forget i (some v);have:=R1.putD (i:=i) (d:=d) (v:=v) (Kf hi) (h.mono (R.sub i _).1);rw [Lj,Lj] at this;exact ⟨this,uT e q ⟨fun _=>nofun,fun _=>nofun⟩⟩
theorem AG {i:Nat} {e:XE} (ie:SE K ga gd e):SS K ga gd (.bf i e):=by
 intro env out h F0 H₀ I σ H D R q;simp only [dS] at h;split at h
 ·rename_i rv e1 h1;split at h
  ·rename_i d hv;split at h
   ·rename_i hf;cases h;refine ie _ _ _ h1 F0 H₀ I σ H _ R fun v H1 R1 k1 r1=>?_;have a1:=r1.av;rw [hv] at a1;obtain ⟨R2,k2⟩:=R1.Hm hf (show Dm K _ H1 d v from a1);exact q _ H1 R2 (k1.s.trans k2)
   ·cases h
  ·cases h
 ·cases h
theorem jT.forget {d:PyData} {v:V} (h:jT K F0 H₀ I env σ H (.frs d) v) (i:Nat) (x:Option V) (hs:∀ s,env[i]?=some s->L2.soft s):jT K F0 H₀ I (env.set i .un) (σ.set i x) H (.frs d) v:=by
 obtain ⟨a,ea,R,t,w,nF,hi,hr⟩:=h;have R0:=R.less hi;obtain ⟨hf,hia⟩:=R0.sub i x;have hf':∀ b,(FF F0 (env.set i .un) (σ.set i x) b\/b=a)->(FF F0 env σ b\/b=a):=fun b z=>z.imp (hf b) id;refine ⟨a,ea,R.forget i x,t.pr Pr.refl hf' fun _ z=>z,w,fun z=>nF (hf _ z),fun j c e s=>?_,fun j c e=>?_⟩
 ·rcases get_set e with ⟨_,z⟩ | ⟨n,e⟩
  ·cases z
  ·rw [J4 n] at s;exact hi j c e s
 ·rcases get_set e with ⟨_,z⟩ | ⟨n,e⟩
  ·cases z
  ·obtain ⟨b,s,r⟩:=hr j c e;exact ⟨b,by rw [J4 n];exact s,r.pr Pr.refl hf' (fun b z=>z.imp (hia b) id) fun _ _ z _=>z⟩
theorem Ap {i:Nat} {e:XE} (ie:SE K ga gd e):SS K ga gd (.qp i e):=by
 intro env out h F0 H₀ I σ H D R q;simp only [dS] at h;split at h
 ·rename_i d e1 h1;split at h
  ·rename_i hf;cases h;refine ie _ _ _ h1 F0 H₀ I σ H _ R fun v H1 R1 k1 r1=>?_;obtain ⟨s,e,qs⟩:=lg hf;have hi:i < e1.length:=(Ka.mp e).1;have ev:∃ a,v=.ref a:=let ⟨a,e,_⟩:=r1;⟨a,e⟩
   obtain ⟨a,rfl⟩:=ev;have r2:=r1.forget i (some (.ref a)) (fun s' h=>by rw [e] at h;cases h;exact qs);have R2:=Rel.Ir (i:=i) (Kf hi) r2;rw [Lj,Lj] at R2;exact q _ H1 R2 (k1.s.trans (uT e qs ⟨fun _=>nofun,fun _=>nofun⟩))
  ·cases h
 ·cases h
theorem qS:∀ {is:List Nat} {ds:List PyData} {vs:List V} {env env':En} {σ:St} {Q:St->Hp->Prop},gU env is ds=some env'->Rel K F0 H₀ I env σ H->DmL K (FF F0 env σ) H ds vs->(∀ σ',Rel K F0 H₀ I env' σ' H->KpS env σ env' σ'->Q σ' H)->gNs is vs σ H Q
 | [],[],vs,env,env',σ,Q,h,R,hd,q=>by
  cases h;exact ⟨hd,q σ R (KpS.refl _ _)⟩
 | [],d :: ds,vs,env,env',σ,Q,h,R,hd,q=>by cases h
 | i :: is,[],vs,env,env',σ,Q,h,R,hd,q=>by cases h
 | i :: is,d :: ds,vs,env,env',σ,Q,h,R,hd,q=>by
  unfold gU at h;split at h
  ·rename_i hf;obtain ⟨v,r,rfl,h1,h2⟩:=hd;obtain ⟨R1,k1⟩:=R.Hm hf h1;obtain ⟨s,e,qs⟩:=lg hf;refine ⟨v,r,rfl,?_⟩;refine qS h R1 (h2.mono fun b z=>?_) fun σ' R' k'=>q σ' R' (k1.trans k');rcases z with z | ⟨j,c,e',s'⟩
   ·exact .inl z
   ·rcases get_set e' with ⟨_,y⟩ | ⟨n,e'⟩
    ·cases y
    ·rw [J4 n] at s';exact .inr ⟨j,c,e',s'⟩
  ·cases h
theorem AZ {is:List Nat} {e:XE} (ie:SE K ga gd e):SS K ga gd (.CF is e):=by
 intro env out h F0 H₀ I σ H D R q;simp only [dS] at h;split at h
 ·rename_i rv e1 h1;split at h
  ·rename_i ds hv;split at h
   ·rename_i e2 hset;cases h;refine ie _ _ _ h1 F0 H₀ I σ H _ R fun v H1 R1 k1 r1=>?_;have a1:=r1.av;rw [hv] at a1;obtain ⟨a,xs,rfl,l,z,r⟩:=(show Dm K (FF F0 e1 σ) H1 (.tuple ds) v from a1);have hlen:∀ {is:List Nat} {ds:List PyData} {e e':En},gU e is ds=some e'->is.length=ds.length:=by
     intro is;induction is with
     | nil=>intro ds e e' h;cases ds with
      | nil=>rfl
      | cons _ _=>cases h
     | cons i is ih=>intro ds e e' h;cases ds with
      | nil=>cases h
      | cons d ds =>
       unfold gU at h;split at h
       ·rw [J8,J8,ih h]
       ·cases h
    exact ⟨a,xs,rfl,l,by rw [r.len,hlen hset],qS hset R1 r fun σ' R' k'=>q σ' H1 R' (k1.s.trans k')⟩
   ·cases h
  ·cases h
 ·cases h
theorem BB {e:XE} (ie:SE K ga gd e):SS K ga gd (.drop e):=by
 intro env out h F0 H₀ I σ H D R q;simp only [dS] at h;split at h
 ·rename_i rv e1 h1;cases h;exact ie _ _ _ h1 F0 H₀ I σ H _ R fun v H1 R1 k1 r1=>q σ H1 R1 k1.s
 ·cases h
theorem C6 {e:XE} (ie:SE K ga gd e):SS K ga gd (.ret e):=by
 intro env out h F0 H₀ I σ H D R q;simp only [dS] at h;split at h
 ·rename_i rv e1 h1;cases h;exact ie _ _ _ h1 F0 H₀ I σ H _ R fun v H1 R1 k1 r1=>q v σ H1 R1 k1.s r1
 ·cases h
theorem Dr {c:XT} {a b:XS} (ic:ST K ga gd c) (ia:SS K ga gd a) (ib:SS K ga gd b):SS K ga gd (.ifs c a b):=by
 intro env out h F0 H₀ I σ H D R q;simp only [dS] at h;split at h
 ·rename_i e1 h1;refine ic _ _ _ h1 F0 H₀ I σ H _ R fun H1 R1 k1=>?_;rw [Km rfl];exact ia _ _ h F0 H₀ I σ H1 D R1 (q.from k1.s)
 ·rename_i e1 h1;refine ic _ _ _ h1 F0 H₀ I σ H _ R fun H1 R1 k1=>?_;rw [Kr (by decide)];exact ib _ _ h F0 H₀ I σ H1 D R1 (q.from k1.s)
 ·cases h
theorem Dw {m:yz} {i:Nat} {k e:XE} (ik:SE K ga gd k) (ie:SE K ga gd e):SS K ga gd (.sto m i k e):=by
 intro env out h F0 H₀ I σ H D R q;simp only [dS] at h;split at h
 ·rename_i rv e1 h1;split at h
  ·rename_i x hv;split at h
   ·rename_i d0 hm0;split at h
    ·rename_i rk e2 h2;split at h
     ·rename_i dk d hvk hm;split at h
      ·rename_i d' hf;cases h;refine ie _ _ _ h1 F0 H₀ I σ H _ R fun v H1 R1 k1 r1=>?_;obtain ⟨_,a,s,_⟩:=R1.eT hm0;refine ⟨.ref a,s,?_⟩;refine ik _ _ _ h2 F0 _ _ σ H1 _ R1.rebase fun u H2 S2 k2 r2=>?_;have R2:=R1.bV S2;have a1:=r1.av;rw [hv] at a1;have dx:=R1.r9 S2 k2 (show Dm K _ H1 x v from a1);obtain ⟨m2,a',s',f2,t2⟩:=R2.eT hm;rw [s] at s';cases s';refine m.ok K _ H2 d a dk x u v d' _ hf f2 t2 (r2.av.vw R2 hvk) dx fun H3 hk ht=>?_;exact q σ H3 (R2.IK hm s hk ht) ((k1.trans k2).trans (wN _ _ _)).s
      ·cases h
     ·cases h
    ·cases h
   ·cases h
  ·cases h
 ·cases h
theorem Ge {n:Nat} {c:XT} {b:XS} (ic:ST K ga gd c) (ib:SS K ga gd b):SS K ga gd (.wh n c b):=by
 intro env out h F0 H₀ I σ H D R q;simp only [dS] at h;refine ⟨fun m σ' H'=>∃ env',whL (dT gd c) (dS gd b) m env'=some out/\Rel K F0 H₀ I env' σ' H'/\KpS env σ env' σ',⟨n,env,h,R,KpS.refl _ _⟩,?_⟩;rintro m σ' H' ⟨env',hw,R',k'⟩;cases m with
 | zero=>cases hw
 | succ m =>
  unfold whL at hw;split at hw
  ·rename_i e1 h1;refine ic _ _ _ h1 F0 H₀ I σ' H' _ R' fun H2 R2 k2=>?_;rw [Km rfl];refine ⟨fun σ3 H3=>∃ env3,whL (dT gd c) (dS gd b) m env3=some out/\Rel K F0 H₀ I env3 σ3 H3/\KpS env σ env3 σ3,fun σ3 H3 z=>⟨m,Ln _,z⟩,?_⟩;split at hw
   ·rename_i e hb;exact ib _ _ hb F0 H₀ I σ' H2 _ R2 fun σ3 H3 R3 k3=>⟨e,hw,R3,(k'.trans k2.s).trans k3⟩
   ·rename_i e hb;exact ib _ _ hb F0 H₀ I σ' H2 _ R2 fun σ3 H3 R3 k3=>⟨e,hw,R3,(k'.trans k2.s).trans k3⟩
   ·rename_i e hb;cases hw;exact ib _ _ hb F0 H₀ I σ' H2 _ R2 fun σ3 H3 R3 k3=>q σ3 H3 R3 ((k'.trans k2.s).trans k3)
   ·rename_i r e hb;cases hw;exact ib _ _ hb F0 H₀ I σ' H2 _ R2 fun v σ3 H3 R3 k3 r3=>q v σ3 H3 R3 ((k'.trans k2.s).trans k3) r3
   ·cases hw
  ·rename_i e1 h1;cases hw;refine ic _ _ _ h1 F0 H₀ I σ' H' _ R' fun H2 R2 k2=>?_;rw [Kr (by decide)];exact q σ' H2 R2 (k'.trans k2.s)
  ·cases hw
end
open PySem
section
variable {K:Fg} {F F' I I' F0:Addr->Prop} {H H' H₀ H1:Hp} {env env' e1:En} {σ σ':St} {ga:Nat->V} {gd:List PyData}
theorem Rel.HH (R:Rel K F0 H₀ I env σ H) (h:∀ b,I b->I' b):Rel K F0 H₀ I' env σ H :=
 ⟨R.len,R.dat,fun i d e=>let ⟨a,s,n,w,t⟩:=R.own i d e;⟨a,s,n,w.imp id (h _),t⟩,fun i d e=>let ⟨a,s,n,w,t⟩:=R.ino i d e;⟨a,s,n,h _ w,t⟩,R.ro,R.sep,R.dom,fun b o e n=>R.gw b o e fun z=>n (h _ z)⟩
theorem Rel.eqF {F1:Addr->Prop} (R:Rel K F0 H₀ I env σ H) (h:∀ b,F0 b↔F1 b):Rel K F1 H₀ I env σ H:=by
 have:F0=F1:=funext fun b=>propext (h b);exact this▸R
theorem Rel.Ho (R:Rel K F0 H₀ I env σ H) {i:Nat} {d:PyData} {a:Addr} (hu:env[i]?=some .un) (s:σ[i]?=some (some (.ref a))) (h:iG K (FF F0 env σ) (IA env σ) H d a):Rel K F0 H₀ I (env.set i (.ro d)) σ H:=by
 have hi:i < env.length:=(Ka.mp hu).1;have eF:FF F0 (env.set i (.ro d)) σ=FF F0 env σ:=by
  have:=mK (F0:=F0) (σ:=σ) (s:=.ro d) (x:=some (.ref a)) hu (fun _=>nofun)
  rwa [set_same s] at this
 have eI:IA (env.set i (.ro d)) σ=IA env σ:=by
  have:=uU (σ:=σ) (s:=.ro d) (x:=some (.ref a)) hu (fun _=>⟨nofun,nofun⟩)
  rwa [set_same s] at this
 have mm:∀ j,mu (env.set i (.ro d)) j->mu env j:=fun j h=>by
  obtain ⟨c,e | e⟩:=h
  ·rcases get_set e with ⟨_,z⟩ | ⟨n,e⟩
   ·cases z
   ·exact ⟨c,.inl e⟩
  ·rcases get_set e with ⟨_,z⟩ | ⟨n,e⟩
   ·cases z
   ·exact ⟨c,.inr e⟩
 refine ⟨by rw [KA];exact R.len,fun j c e=>?_,fun j c e=>?_,fun j c e=>?_,fun j c e=>?_,fun j k b h1 h2 h3 h4=>R.sep j k b (mm j h1) (mm k h2) h3 h4,R.dom,R.gw⟩
 ·rw [eF];rcases get_set e with ⟨_,z⟩ | ⟨n,e⟩
  ·cases z
  exact R.dat j c e
 ·rw [eF];rcases get_set e with ⟨_,z⟩ | ⟨n,e⟩
  ·cases z
  exact R.own j c e
 ·rw [eF];rcases get_set e with ⟨_,z⟩ | ⟨n,e⟩
  ·cases z
  exact R.ino j c e
 ·rw [eF,eI];rcases get_set e with ⟨z,y⟩ | ⟨n,e⟩
  ·subst z;cases y;exact ⟨a,s,h⟩
  exact R.ro j c e
theorem Rel.JJ (R:Rel K F0 H₀ I env σ H) {i:Nat} {d:PyData} {a:Addr} (hu:env[i]?=some .un) (s:σ[i]?=some (some (.ref a))) (h:Top K (FF F0 env σ) H d a) (hF:F0 a) (hI:I a) (na:∀ j,mu env j->σ[j]?≠some (some (.ref a)))
  (hro:∀ (j:Nat) (c:PyData),env[j]?=some (.ro c)->∃ b,σ[j]?=some (some (.ref b))/\iG K (FF F0 env σ) (fun b=>IA env σ b\/b=a) H c b):Rel K F0 H₀ I (env.set i (.ino d)) σ H:=by
 have hi:i < env.length:=(Ka.mp hu).1;have eF:FF F0 (env.set i (.ino d)) σ=FF F0 env σ:=by
  have:=mK (F0:=F0) (σ:=σ) (s:=.ino d) (x:=some (.ref a)) hu (fun _=>nofun)
  rwa [set_same s] at this
 have mm:∀ j,mu (env.set i (.ino d)) j->i=j\/(mu env j/\i≠j):=fun j h=>by
  obtain ⟨c,e | e⟩:=h
  ·rcases get_set e with ⟨z,_⟩ | ⟨n,e⟩
   ·exact .inl z
   ·exact .inr ⟨⟨c,.inl e⟩,n⟩
  ·rcases get_set e with ⟨z,_⟩ | ⟨n,e⟩
   ·exact .inl z
   ·exact .inr ⟨⟨c,.inr e⟩,n⟩
 have eI:∀ b,IA (env.set i (.ino d)) σ b->IA env σ b\/b=a:=by
  rintro b ⟨j,m,q⟩;rcases mm j m with z | ⟨m',n⟩
  ·subst z;rw [s] at q;cases q;exact .inr rfl
  ·exact .inl ⟨j,m',q⟩
 refine ⟨by rw [KA];exact R.len,fun j c e=>?_,fun j c e=>?_,fun j c e=>?_,fun j c e=>?_,fun j k b h1 h2 h3 h4=>?_,R.dom,R.gw⟩
 ·rw [eF];rcases get_set e with ⟨_,z⟩ | ⟨n,e⟩
  ·cases z
  exact R.dat j c e
 ·rw [eF];rcases get_set e with ⟨_,z⟩ | ⟨n,e⟩
  ·cases z
  exact R.own j c e
 ·rw [eF];rcases get_set e with ⟨z,y⟩ | ⟨n,e⟩
  ·subst z;cases y;exact ⟨a,s,hF,hI,h⟩
  exact R.ino j c e
 ·rw [eF];rcases get_set e with ⟨_,z⟩ | ⟨n,e⟩
  ·cases z
  obtain ⟨b,q,r⟩:=hro j c e;exact ⟨b,q,r.pr Pr.refl (fun _ z=>z) eI fun _ _ z _=>z⟩
 ·rcases mm j h1 with z1 | ⟨m1,n1⟩
  ·rcases mm k h2 with z2 | ⟨m2,n2⟩
   ·rw [<- z1,<-z2]
   ·rw [<- z1,s] at h3;cases h3;exact absurd h4 (na k m2)
  ·rcases mm k h2 with z2 | ⟨m2,n2⟩
   ·rw [<- z2,s] at h4;cases h4;exact absurd h3 (na j m1)
   ·exact R.sep j k b m1 m2 h3 h4
structure Lk (K:Fg) (F0:Addr->Prop) (H₀:Hp) (I:Addr->Prop) (e1:En) (σ:St) (H1:Hp) (lock:Option Nat) (F1:Addr->Prop):Prop where
 rel:Rel K F1 H₀ I (cf e1 lock) σ H1
 ff:FF F1 (cf e1 lock) σ=FF F0 e1 σ
 ia:∀ b,IA (cf e1 lock) σ b->IA e1 σ b/\∀ i,lock=some i->mu e1 i->σ[i]?≠some (some (.ref b))
 un:∀ env' σ' H',Rel K F1 H1 (IA (cf e1 lock) σ) env' σ' H'->KpS (cf e1 lock) σ env' σ'->Rel K F0 H₀ I (aE e1 lock env') σ' H'/\KpS e1 σ (aE e1 lock env') σ'/\FF F0 (aE e1 lock env') σ'=FF F1 env' σ'
theorem Lk.vC (R:Rel K F0 H₀ I e1 σ H1) {lock:Option Nat} (h1:cf e1 lock=e1) (h2:∀ env',aE e1 lock env'=env') (h3:∀ i,lock=some i->¬mu e1 i):Lk K F0 H₀ I e1 σ H1 lock F0 :=
 ⟨by rw [h1];exact R,by rw [h1],fun b hb=>by rw [h1] at hb;exact ⟨hb,fun i hi m=>absurd m (h3 i hi)⟩,fun env' σ' H' S k=>by rw [h1] at S k;rw [h2];exact ⟨R.bV S,k,rfl⟩⟩
theorem Lk.CO (R:Rel K F0 H₀ I e1 σ H1) {i:Nat} {d:PyData} {a:Addr} (e:e1[i]?=some (.own d)\/e1[i]?=some (.ino d)) (s:σ[i]?=some (some (.ref a))):Lk K F0 H₀ I e1 σ H1 (some i) (fun b=>F0 b\/b=a):=by
 have hi:i < e1.length:=by rcases e with e | e <;> exact (Ka.mp e).1
 have mi:mu e1 i:=⟨d,e⟩;have el:cf e1 (some i)=e1.set i (.ro d):=by simp only [cf];rcases e with e | e <;> rw [e]
 have hm:aT e1 i=some d:=by unfold aT;rcases e with e | e <;> rw [e]
 obtain ⟨_,a',s',fa,ta⟩:=R.eT hm;rw [s] at s';cases s';have hu:(e1.set i .un)[i]?=some .un:=Kf hi;have mmu:∀ j,mu (e1.set i .un) j->mu e1 j/\i≠j:=fun j h=>by
  obtain ⟨c,e | e⟩:=h
  ·rcases get_set e with ⟨_,z⟩ | ⟨n,e⟩
   ·cases z
   ·exact ⟨⟨c,.inl e⟩,n⟩
  ·rcases get_set e with ⟨_,z⟩ | ⟨n,e⟩
   ·cases z
   ·exact ⟨⟨c,.inr e⟩,n⟩
 have nIA:¬IA (e1.set i .un) σ a:=fun ⟨j,m,q⟩=>(mmu j m).2 (R.sep i j a mi (mmu j m).1 s q);have eFu:FF (fun b=>F0 b\/b=a) (e1.set i .un) σ=FF F0 e1 σ:=by
  funext b;apply propext;constructor
  ·rintro ((h | h) | ⟨j,c,e',q⟩)
   ·exact .inl h
   ·exact h▸fa
   ·rcases get_set e' with ⟨_,z⟩ | ⟨n,e'⟩
    ·cases z
    ·exact .inr ⟨j,c,e',q⟩
  ·rintro (h | ⟨j,c,e',q⟩)
   ·exact .inl (.inl h)
   ·by_cases n:i=j
    ·subst n;rw [s] at q;cases q;exact .inl (.inr rfl)
    ·exact .inr ⟨j,c,by rw [J4 n];exact e',q⟩
 have Ru:Rel K (fun b=>F0 b\/b=a) H₀ I (e1.set i .un) σ H1:=by
  rcases e with e | e
  ·obtain ⟨a2,s2,r⟩:=R.take e;rw [s] at s2;cases s2;obtain ⟨a3,ea,R',_⟩:=r;cases ea;exact R'
  ·have:=R.forget i (some (.ref a));rw [set_same s] at this;obtain ⟨a2,s2,f2,_⟩:=R.ino i d e;rw [s] at s2;cases s2;exact this.eqF fun b=>⟨.inl,fun z=>z.elim id fun z=>z▸f2⟩
 have Rl:Rel K (fun b=>F0 b\/b=a) H₀ I (e1.set i (.ro d)) σ H1:=by
  have:=Ru.Ho (d:=d) hu s (by rw [eFu];exact ta.ro nIA)
  rwa [Lj] at this
 have eFl:FF (fun b=>F0 b\/b=a) (e1.set i (.ro d)) σ=FF F0 e1 σ:=by
  rw [<- eFu];have:=mK (F0:=fun b=>F0 b\/b=a) (σ:=σ) (s:=.ro d) (x:=some (.ref a)) hu (fun _=>nofun)
  rwa [set_same s,Lj] at this
 have eIl:IA (e1.set i (.ro d)) σ=IA (e1.set i .un) σ:=by
  have:=uU (σ:=σ) (s:=.ro d) (x:=some (.ref a)) hu (fun _=>⟨nofun,nofun⟩)
  rwa [set_same s,Lj] at this
 have iaSub:∀ b,IA (e1.set i (.ro d)) σ b->IA e1 σ b:=fun b hb=>by rw [eIl] at hb;obtain ⟨j,m,q⟩:=hb;exact ⟨j,(mmu j m).1,q⟩
 refine ⟨by rw [el];exact Rl,by rw [el];exact eFl,fun b hb=>?_,fun env' σ' H' S k=>?_⟩
 ·rw [el,eIl] at hb;obtain ⟨j,m,q⟩:=hb;refine ⟨⟨j,(mmu j m).1,q⟩,fun i' hi' mi' si'=>?_⟩;cases hi';exact (mmu j m).2 (R.sep i j b mi (mmu j m).1 si' q)
 ·rw [el] at S k;have hro:(e1.set i (.ro d))[i]?=some (.ro d):=Kf hi;obtain ⟨si,he,hv,hs⟩:=k.2 i _ hro;have hv:si=.ro d:=hv;subst hv;have hs:=(hs trivial).trans s;have hi':i < env'.length:=(Ka.mp he).1;have na1:¬IA (e1.set i (.ro d)) σ a:=by rw [eIl];exact nIA
  have keepA:∀ o,H1 a=some o->H' a=some o:=fun o z=>S.gw a o z na1;have fSub:∀ b,FF (fun b=>F0 b\/b=a) env' σ' b->(FF F0 e1 σ b\/H1 b=none):=fun b z=>by
   rcases z with (z | z) | ⟨j,c,e',q⟩
   ·exact .inl (.inl z)
   ·exact .inl (z▸fa)
   ·obtain ⟨b',q',_,w,_⟩:=S.own j c e';rw [q] at q';cases q';rcases w with w | w
    ·exact .inr w
    ·exact .inl (R.ia (iaSub b w))
  have pF:Pr (fun b=>FF F0 e1 σ b\/H1 b=none) H1 H':=(R.qK fun b o z n=>S.gw b o z fun y=>n (iaSub b y)).Ih fun b z=>.inl z;have tA:Top K (FF (fun b=>F0 b\/b=a) env' σ') H' d a:=ta.bA.pr pF fSub keepA;have iaEnd:∀ b,IA env' σ' b->(IA e1 σ b\/H1 b=none):=fun b z=>by
   rcases S.iaI z with w | w
   ·exact .inr w
   ·exact .inl (iaSub b w)
  have roOld:∀ (j:Nat) (c:PyData),env'[j]?=some (.ro c)->i≠j->∃ b,σ'[j]?=some (some (.ref b))/\iG K (FF (fun b=>F0 b\/b=a) env' σ') (fun b=>IA env' σ' b\/b=a) H' c b:=fun j c e' n=>by
   have hj:j < e1.length:=by
    have:=(Ka.mp e').1;rw [k.1,KA] at this;exact this
   have e0:(e1.set i (.ro d))[j]?=some e1[j]:=by rw [J4 n];exact J9 hj
   obtain ⟨s',h',v',w'⟩:=k.2 j _ e0;rw [e'] at h';cases h';have es:e1[j]=.ro c:=by
    cases hh:e1[j] with
    | ino _=>rw [hh] at v';obtain ⟨_,z⟩:=v';cases z
    | ro c'=>rw [hh] at v';have:Sl.ro c=.ro c':=v';rw [this]
    | un=>rw [hh] at v';exact absurd rfl (v'.2 c)
    | dat _=>rw [hh] at v';exact absurd rfl (v'.2 c)
    | own _=>rw [hh] at v';exact absurd rfl (v'.2 c)
   have er:e1[j]?=some (.ro c):=by rw [J9 hj,es]
   obtain ⟨b,q,r⟩:=R.ro j c er;rw [es] at w';refine ⟨b,(w' trivial).trans q,r.bA.pr pF fSub (fun b z=>?_) fun b o z n=>S.gw b o z fun y=>n (.inl (iaSub b y))⟩;rcases z with z | z
   ·exact iaEnd b z
   ·exact .inl (z▸⟨i,mi,s⟩)
  have inoNe:∀ (j:Nat) (c:PyData),env'[j]?=some (.ino c)->σ'[j]?≠some (some (.ref a)):=fun j c e' q=>by
   have n:i≠j:=fun z=>by subst z;rw [he] at e';cases e'
   have hj:j < e1.length:=by
    have:=(Ka.mp e').1;rw [k.1,KA] at this;exact this
   have e0:(e1.set i (.ro d))[j]?=some e1[j]:=by rw [J4 n];exact J9 hj
   obtain ⟨s',h',v',w'⟩:=k.2 j _ e0;rw [e'] at h';cases h';have es:∃ c',e1[j]=.ino c':=by
    cases hh:e1[j] with
    | ino c'=>exact ⟨c',rfl⟩
    | ro c'=>rw [hh] at v';cases v'
    | un=>rw [hh] at v';exact absurd rfl (v'.1 c)
    | dat _=>rw [hh] at v';exact absurd rfl (v'.1 c)
    | own _=>rw [hh] at v';exact absurd rfl (v'.1 c)
   obtain ⟨c',es⟩:=es;have er:e1[j]?=some (.ino c'):=by rw [J9 hj,es]
   rw [es] at w';rw [w' trivial] at q;exact n (R.sep i j a mi ⟨c',.inr er⟩ s q)
  have Sf:Rel K (fun b=>F0 b\/b=a) H1 (IA e1 σ) (env'.set i .un) σ' H':=by
   have:=S.forget i (some (.ref a));rw [set_same hs] at this;exact this.HH iaSub
  have hu':(env'.set i .un)[i]?=some .un:=Kf hi';have eFe:FF (fun b=>F0 b\/b=a) (env'.set i .un) σ'=FF (fun b=>F0 b\/b=a) env' σ':=by
   funext b;apply propext;constructor
   ·rintro (h | ⟨j,c,e',q⟩)
    ·exact .inl h
    ·rcases get_set e' with ⟨_,z⟩ | ⟨n,e'⟩
     ·cases z
     ·exact .inr ⟨j,c,e',q⟩
   ·rintro (h | ⟨j,c,e',q⟩)
    ·exact .inl h
    ·have n:i≠j:=fun z=>by subst z;rw [he] at e';cases e'
     exact .inr ⟨j,c,by rw [J4 n];exact e',q⟩
  have iaE:∀ b,IA (env'.set i .un) σ' b->IA env' σ' b:=by
   rintro b ⟨j,⟨c,m⟩,q⟩;refine ⟨j,⟨c,?_⟩,q⟩;rcases m with m | m
   ·rcases get_set m with ⟨_,z⟩ | ⟨n,m⟩
    ·cases z
    ·exact .inl m
   ·rcases get_set m with ⟨_,z⟩ | ⟨n,m⟩
    ·cases z
    ·exact .inr m
  have kEnd:∀ t:Sl,Evs (e1[i]) t->KpS e1 σ (env'.set i t) σ':=fun t ht=>by
   refine ⟨by rw [KA,k.1,KA],fun j s0 e0=>?_⟩;by_cases z:i=j
   ·subst z;rw [J9 hi] at e0;cases e0;exact ⟨t,Kf hi',ht,fun _=>hs.trans s.symm⟩
   ·obtain ⟨s',h',v',w'⟩:=k.2 j s0 (by rw [J4 z];exact e0);exact ⟨s',by rw [J4 z];exact h',v',w'⟩
  rcases e with e | e
  ·have eu:aE e1 (some i) env'=env'.set i (.own d):=by simp only [aE];rw [e,he]
   obtain ⟨a2,s2,nF,_⟩:=R.own i d e;rw [s] at s2;cases s2;have nFF:¬FF F0 (env'.set i .un) σ' a:=by
    rintro (h | ⟨j,c,e',q⟩)
    ·exact nF h
    ·obtain ⟨b',q',n',_⟩:=Sf.own j c e';rw [q] at q';cases q';exact n' (.inr rfl)
   have rv:jT K F0 H1 (IA e1 σ) (env'.set i .un) σ' H' (.frs d) (.ref a):=by
    refine ⟨a,rfl,Sf,?_,.inr ⟨i,mi,s⟩,nFF,fun j c e' q=>?_,fun j c e'=>?_⟩
    ·rw [<- k7,eFe];exact tA
    ·rcases get_set e' with ⟨_,z⟩ | ⟨n,e'⟩
     ·cases z
     ·exact inoNe j c e' q
    ·rcases get_set e' with ⟨_,z⟩ | ⟨n,e'⟩
     ·cases z
     ·obtain ⟨b,q,r⟩:=roOld j c e' n;refine ⟨b,q,?_⟩;rw [<- k7,eFe];exact r.pr Pr.refl (fun _ z=>z) (fun b z=>z.imp (iaE b) id) fun _ _ z _=>z
   have Rn:=Rel.Ir hu' rv;rw [Lj,set_same hs] at Rn;rw [eu];refine ⟨R.bV Rn,kEnd _ ?_,?_⟩
   ·have:e1[i]=.own d:=by have:=J9 hi;rw [e] at this;exact (KN this).symm
    rw [this];exact ⟨fun _=>nofun,fun _=>nofun⟩
   ·rw [<- eFe,k7];funext b;apply propext;constructor
    ·rintro (h | ⟨j,c,e',q⟩)
     ·exact .inl (.inl h)
     ·rcases get_set e' with ⟨z,_⟩ | ⟨n,e'⟩
      ·subst z;rw [hs] at q;cases q;exact .inr rfl
      ·exact .inl (.inr ⟨j,c,by rw [J4 n];exact e',q⟩)
    ·rintro ((h | ⟨j,c,e',q⟩) | rfl)
     ·exact .inl h
     ·rcases get_set e' with ⟨_,z⟩ | ⟨n,e'⟩
      ·cases z
      ·exact .inr ⟨j,c,by rw [J4 n];exact e',q⟩
     ·exact .inr ⟨i,d,Kf hi',hs⟩
  ·have eu:aE e1 (some i) env'=env'.set i (.ino d):=by simp only [aE];rw [e,he]
   obtain ⟨a2,s2,f2,i2,_⟩:=R.ino i d e;rw [s] at s2;cases s2;have Sf2:Rel K F0 H1 (IA e1 σ) (env'.set i .un) σ' H':=Sf.eqF fun b=>⟨fun z=>z.elim id fun z=>z▸f2,.inl⟩;have eF0:FF F0 (env'.set i .un) σ'=FF (fun b=>F0 b\/b=a) env' σ':=by
    rw [<- eFe];have:(fun b=>F0 b\/b=a)=F0:=funext fun b=>propext ⟨fun z=>z.elim id fun z=>z▸f2,.inl⟩;rw [this]
   have Rn:=Sf2.JJ (d:=d) hu' hs (by rw [eF0];exact tA) f2 ⟨i,mi,s⟩ (fun j m q=>?_) (fun j c e'=>?_)
   ·rw [Lj] at Rn;rw [eu];refine ⟨R.bV Rn,kEnd _ ?_,?_⟩
    ·have:e1[i]=.ino d:=by have:=J9 hi;rw [e] at this;exact (KN this).symm
     rw [this];exact ⟨d,rfl⟩
    ·rw [<- eF0];have:=mK (F0:=F0) (σ:=σ') (s:=.ino d) (x:=some (.ref a)) hu' (fun _=>nofun)
     rwa [set_same hs,Lj] at this
   ·obtain ⟨c,m | m⟩:=m
    ·obtain ⟨b',q',n',_⟩:=Sf.own j c m;rw [q] at q';cases q';exact n' (.inr rfl)
    ·rcases get_set m with ⟨_,z⟩ | ⟨n,m⟩
     ·cases z
     ·exact inoNe j c m q
   ·rcases get_set e' with ⟨_,z⟩ | ⟨n,e'⟩
    ·cases z
    ·obtain ⟨b,q,r⟩:=roOld j c e' n;refine ⟨b,q,?_⟩;rw [eF0];exact r.pr Pr.refl (fun _ z=>z) (fun b z=>z.imp (iaE b) id) fun _ _ z _=>z
theorem Lk.of (R:Rel K F0 H₀ I e1 σ H1) (lock:Option Nat):∃ F1,Lk K F0 H₀ I e1 σ H1 lock F1/\(lkd e1 lock=false->F1=F0/\cf e1 lock=e1/\∀ env',aE e1 lock env'=env'):=by
 cases lock with
 | none=>exact ⟨F0,Lk.vC R rfl (fun _=>rfl) (fun i z=>by cases z),fun _=>⟨rfl,rfl,fun _=>rfl⟩⟩
 | some i =>
  cases e:e1[i]? with
  | none =>
   have h1:cf e1 (some i)=e1:=by simp only [cf];rw [e]
   have h2:∀ env',aE e1 (some i) env'=env':=fun env'=>by simp only [aE];rw [e]
   exact ⟨F0,Lk.vC R h1 h2 (fun j z m=>by cases z;obtain ⟨d,m | m⟩:=m <;> (rw [e] at m;cases m)),fun _=>⟨rfl,h1,h2⟩⟩
  | some s =>
   cases s with
   | own d =>
    obtain ⟨a,q,_⟩:=R.own i d e;exact ⟨_,Lk.CO R (.inl e) q,fun z=>by simp only [lkd] at z;rw [e] at z;cases z⟩
   | ino d =>
    obtain ⟨a,q,_⟩:=R.ino i d e;exact ⟨_,Lk.CO R (.inr e) q,fun z=>by simp only [lkd] at z;rw [e] at z;cases z⟩
   | un =>
    have h1:cf e1 (some i)=e1:=by simp only [cf];rw [e]
    have h2:∀ env',aE e1 (some i) env'=env':=fun env'=>by simp only [aE];rw [e]
    exact ⟨F0,Lk.vC R h1 h2 (fun j z m=>by cases z;obtain ⟨d,m | m⟩:=m <;> (rw [e] at m;cases m)),fun _=>⟨rfl,h1,h2⟩⟩
   | dat d =>
    have h1:cf e1 (some i)=e1:=by simp only [cf];rw [e]
    have h2:∀ env',aE e1 (some i) env'=env':=fun env'=>by simp only [aE];rw [e]
    exact ⟨F0,Lk.vC R h1 h2 (fun j z m=>by cases z;obtain ⟨d,m | m⟩:=m <;> (rw [e] at m;cases m)),fun _=>⟨rfl,h1,h2⟩⟩
   | ro d =>
    have h1:cf e1 (some i)=e1:=by simp only [cf];rw [e]
    have h2:∀ env',aE e1 (some i) env'=env':=fun env'=>by simp only [aE];rw [e]
    exact ⟨F0,Lk.vC R h1 h2 (fun j z m=>by cases z;obtain ⟨d,m | m⟩:=m <;> (rw [e] at m;cases m)),fun _=>⟨rfl,h1,h2⟩⟩
theorem wu {b:PyData->En->Option Out} {ds:List PyData} {out:Out} {J:It} {F1 I1:Addr->Prop} {el:En} {g:TG} {tb:TS} {D:Ends} (R:Rel K F1 H1 I1 el σ H1) (hI:I1=IA el σ) (hit:yu K (FF F1 el σ) I1 H1 J ds) (h:forL b ds el=some out)
  (turn:∀ d o env' σ' H' x,b d env'=some o->Rel K F1 H1 I1 env' σ' H'->KpS el σ env' σ'->Dm K (FF F1 env' σ') H' d x->∀ D':Ends,pf K F1 H1 I1 env' σ' D' o->g x σ' H' fun σ2 H2=>tb D' σ2 H2)
  (q:pf K F1 H1 I1 el σ D out) :
  ∃ W:Nat->Nat->St->Hp->Prop,(∃ m,W 0 m σ H1)/\∀ i m σ H,W i m σ H ->
   (J.stop i H/\D.nx σ H)\/(J.go i H/\∃ N:St->Hp->Prop,(∀ σ' H',N σ' H'->∃ m',m' < m/\W (i+1) m' σ' H')/\∀ x H',J.yld i H x H'->g x σ H' fun σ2 H2=>tb { D with nx:=N,ct:=N,bk:=D.nx } σ2 H2):=by
 subst hI;obtain ⟨hvl,hturn⟩:=hit;refine ⟨fun i m σ' H'=>m=ds.length - i/\i<=ds.length/\∃ env',forL b (ds.drop i) env'=some out/\Rel K F1 H1 (IA el σ) env' σ' H'/\KpS el σ env' σ',⟨ds.length,rfl,Lu _,el,h,R,KpS.refl _ _⟩,?_⟩;rintro i m σ' H' ⟨rfl,hi,env',hf,R',k'⟩;have hkept:∀ b o,H1 b=some o->¬IA el σ b->H' b=some o:=R'.gw;by_cases hlt:i < ds.length
 ·right;obtain ⟨go,yld⟩:=(hturn H' hkept i).1 (by omega);refine ⟨go,fun σ3 H3=>(ds.length - (i+1))=ds.length - (i+1)/\i+1<=ds.length/\∃ env',forL b (ds.drop (i+1)) env'=some out/\Rel K F1 H1 (IA el σ) env' σ3 H3/\KpS el σ env' σ3,fun σ3 H3 z=>⟨ds.length - (i+1),by omega,z⟩,fun x H'' hx=>?_⟩;obtain ⟨d,hd,hy9⟩:=yld x H'' hx;have fSub:∀ b,FF F1 env' σ' b->(FF F1 el σ b\/H1 b=none):=fun b z=>by
   rcases z with z | ⟨j,c,e',s'⟩
   ·exact .inl (.inl z)
   ·obtain ⟨b',q',_,w,_⟩:=R'.own j c e';rw [s'] at q';cases q';exact w.elim .inr fun w=>.inl (R.ia w)
  obtain ⟨sm,hdx'⟩:=hy9.dm (F2:=FF F1 env' σ') fun d v h=>h.bA.pr ((R.qK hkept).Ih fun b z=>.inl z) fSub;have R':=R'.same sm;have ed:ds.drop i=d :: ds.drop (i+1):=by
   rw [Lr hlt];obtain ⟨_,z⟩:=Ka.mp hd;rw [z]
  rw [ed] at hf;unfold forL at hf;split at hf
  ·rename_i e hb;exact turn d _ env' σ' H'' x hb R' k' hdx' _ fun σ3 H3 R3 k3=>⟨rfl,by omega,e,hf,R3,k'.trans k3⟩
  ·rename_i e hb;exact turn d _ env' σ' H'' x hb R' k' hdx' _ fun σ3 H3 R3 k3=>⟨rfl,by omega,e,hf,R3,k'.trans k3⟩
  ·rename_i e hb;cases hf;exact turn d _ env' σ' H'' x hb R' k' hdx' _ fun σ3 H3 R3 k3=>q σ3 H3 R3 (k'.trans k3)
  ·rename_i r e hb;cases hf;exact turn d _ env' σ' H'' x hb R' k' hdx' _ fun v σ3 H3 R3 k3 r3=>q v σ3 H3 R3 (k'.trans k3) r3
  ·cases hf
 ·left;have e:i=ds.length:=by omega
  subst e;rw [List.drop_length] at hf;unfold forL at hf;cases hf;exact ⟨(hturn H' hkept _).2 (by omega),q σ' H' R' k'⟩
theorem jT.unl {rv:RV} {v:V} {F1:Addr->Prop} {e2:En} (h:jT K F1 H₀ I env σ H rv v) (hn:∀ d,rv≠.frs d) (eF:FF F0 e2 σ=FF F1 env σ) {H₁:Hp} {I₁:Addr->Prop}:jT K F0 H₁ I₁ e2 σ H rv v:=by
 cases rv with
 | dat d=>show Dm K _ H d v;rw [eF];exact h
 | bor i=>exact h
 | frs d=>exact absurd rfl (hn d)
theorem jT.H0 {rv:RV} {v:V} (h:jT K F0 H₀ I env σ H rv v):jT K F0 H₀ I env σ H (rv.soft true) v:=by
 cases rv with
 | dat d=>exact h
 | bor i=>exact h
 | frs d=>exact h.av
theorem jT.bV {rv:RV} {v:V} (R:Rel K F0 H₀ I env σ H) (h:jT K F0 H (IA env σ) env' σ' H' rv v):jT K F0 H₀ I env' σ' H' rv v:=by
 cases rv with
 | dat d=>exact h
 | bor i=>exact h
 | frs d =>
  obtain ⟨a,ea,S,t,w,nF,hi,hr⟩:=h;have S0:=R.bV (S.less hi);refine ⟨a,ea,⟨S.len,S.dat,fun i c e=>?_,fun i c e=>?_,S.ro,S.sep,S.dom,S0.gw⟩,t,R.oi w,nF,hi,hr⟩
  ·obtain ⟨b,s,n,w',t'⟩:=S.own i c e;exact ⟨b,s,n,R.oi w',t'⟩
  ·obtain ⟨b,s,n,w',t'⟩:=S.ino i c e;obtain ⟨b2,s2,_,i2,_⟩:=S0.ino i c e;rw [s] at s2;cases s2;exact ⟨b,s,n,i2,t'⟩
theorem Lk.out {lock:Option Nat} {F1:Addr->Prop} {D:Ends} {out:Out} (R1:Rel K F0 H₀ I e1 σ H1) (L:Lk K F0 H₀ I e1 σ H1 lock F1) (hno:lkd e1 lock=false->F1=F0/\cf e1 lock=e1/\∀ env',aE e1 lock env'=env')
  (q:pf K F0 H₀ I e1 σ D (out.map (lkd e1 lock) (aE e1 lock))):pf K F1 H1 (IA (cf e1 lock) σ) (cf e1 lock) σ D out:=by
 cases out with
 | nx e=>exact fun σ' H' R' k'=>let ⟨A,B,_⟩:=L.un e σ' H' R' k';q σ' H' A B
 | bk e=>exact fun σ' H' R' k'=>let ⟨A,B,_⟩:=L.un e σ' H' R' k';q σ' H' A B
 | ct e=>exact fun σ' H' R' k'=>let ⟨A,B,_⟩:=L.un e σ' H' R' k';q σ' H' A B
 | rt rv e =>
  intro v σ' H' R' k' r;obtain ⟨A,B,C⟩:=L.un e σ' H' R' k';refine q v σ' H' A B ?_;cases hl:lkd e1 lock with
  | true=>exact r.H0.unl (fun d z=>by cases rv <;> cases z) C
  | false =>
   obtain ⟨rfl,h1,h2⟩:=hno hl;rw [h1] at r;rw [h2];have:rv.soft false=rv:=by cases rv <;> rfl
   rw [this];exact r.bV R1
theorem Hi {i:Nat} {it:XI} {b:XS} (ii:SI K ga gd it) (ib:SS K ga gd b):SS K ga gd (.fr i it b):=by
 intro env out h F0 H₀ I σ H D R q;simp only [dS] at h;split at h
 ·rename_i ds lock e1 h1;cases ho:forL (mN i (dS gd b)) ds (cf e1 lock) with
  | none=>rw [ho] at h;cases h
  | some o =>
   rw [ho] at h;cases h;refine ii _ _ _ _ h1 F0 H₀ I σ H _ R fun J H1 R1 k1 _ hit=>?_;obtain ⟨F1,L,hno⟩:=Lk.of R1 lock;have Rb:=L.rel.rebase;refine wu Rb rfl ?_ ho ?_ (L.out R1 hno (q.from k1.s))
   ·rw [L.ff];obtain ⟨a2,a3⟩:=hit;exact ⟨a2,fun H' hk=>a3 H' fun b o e n=>hk b o e fun z=>n (L.ia b z)⟩
   ·intro d o env' σ' H' x hb R' k' hd D' hD;unfold mN at hb;split at hb
    ·rename_i hf;obtain ⟨R2,k2⟩:=R'.Hm hf hd;exact ib _ _ hb _ _ _ _ H' D' R2 (hD.from k2)
    ·cases hb
 ·cases h
theorem Cu {is:List Nat} {it:XI} {b:XS} (ii:SI K ga gd it) (ib:SS K ga gd b):SS K ga gd (.frT is it b):=by
 intro env out h F0 H₀ I σ H D R q;simp only [dS] at h;split at h
 ·rename_i ds lock e1 h1
  ·obtain ⟨o,ho,e0⟩:=Kz.mp h;subst e0;refine ii _ _ _ _ h1 F0 H₀ I σ H _ R fun J H1 R1 k1 _ hit=>?_;obtain ⟨F1,L,hno⟩:=Lk.of R1 lock;have Rb:=L.rel.rebase;refine wu Rb rfl ?_ ho ?_ (L.out R1 hno (q.from k1.s))
   ·rw [L.ff];obtain ⟨a2,a3⟩:=hit;exact ⟨a2,fun H' hk=>a3 H' fun b o e n=>hk b o e fun z=>n (L.ia b z)⟩
   ·intro d o env' σ' H' x hb R' k' hd D' hD;unfold lC at hb;split at hb
    ·rename_i xs;split at hb
     ·rename_i e2 hset;obtain ⟨a,vs,rfl,l,z,r⟩:=hd;have hlen:∀ {is:List Nat} {ds:List PyData} {e e':En},gU e is ds=some e'->is.length=ds.length:=by
       intro is;induction is with
       | nil=>intro ds e e' h;cases ds with
        | nil=>rfl
        | cons _ _=>cases h
       | cons i is ih=>intro ds e e' h;cases ds with
        | nil=>cases h
        | cons d ds =>
         unfold gU at h;split at h
         ·rw [J8,J8,ih h]
         ·cases h
      exact ⟨a,vs,rfl,l,by rw [r.len,hlen hset],qS hset R' r fun σ2 R2 k2=>ib _ _ hb _ _ _ _ H' D' R2 (hD.from k2)⟩
     ·cases hb
    ·cases hb
 ·cases h
theorem sS (hg:∀ g d,gd[g]?=some d->∀ F H,Dm K F H d (ga g)):∀ s:XS,SS K ga gd s
 | .skip=>fun env out h F0 H₀ I σ H D R q=>by cases h;exact q σ H R (KpS.refl _ _)
 | .seq a b=>Ey (sS hg a) (sS hg b)
 | .bf i e=>AG (sE hg e) | .qp i e=>Ap (sE hg e) | .CF is e=>AZ (sE hg e) | .drop e=>BB (sE hg e) | .ret e=>C6 (sE hg e)
 | .Fe=>fun env out h F0 H₀ I σ H D R q=>by cases h;exact q .non σ H R (KpS.refl _ _) rfl
 | .ifs c a b=>Dr (sT hg c) (sS hg a) (sS hg b)
 | .fr i it b=>Hi (sI hg it) (sS hg b) | .frT is it b=>Cu (sI hg it) (sS hg b) | .wh n c b=>Ge (sT hg c) (sS hg b)
 | .brk=>fun env out h F0 H₀ I σ H D R q=>by cases h;exact q σ H R (KpS.refl _ _)
 | .cnt=>fun env out h F0 H₀ I σ H D R q=>by cases h;exact q σ H R (KpS.refl _ _)
 | .nev=>fun env out h F0 H₀ I σ H D R q=>by cases h
 | .sto m i k e=>Dw (sE hg k) (sE hg e)
end
open PySem
section
variable {K:Fg} {F F' G I I' F0:Addr->Prop} {H H' H₀ H1:Hp} {env env' e1:En} {σ σ':St} {ga:Nat->V} {gd:List PyData}
theorem dN:∀ {ms:List PM} {ds:List PyData} {n:Nat},ds.length=ms.length->ms.length<=n->(aw ms ds n).length=n
 | [],[],n,_,_=>by simp [aw]
 | [],_ :: _,n,h,_=>by cases h
 | _ :: _,[],n,h,_=>by cases h
 | m :: ms,d :: ds,n,h,hn=>by
  have ih:=dN (ms:=ms) (ds:=ds) (n:=n - 1) (by simpa using h) (by simp at hn;omega);simp at hn;cases m <;> (simp only [aw,J8,ih];omega)
theorem bW.len:∀ {ms:List PM} {ds:List PyData} {vs:List V} {is:List Addr},bW K G I H ms ds vs is->ds.length=ms.length/\vs.length=ms.length
 | [],[],[],_,_=>⟨rfl,rfl⟩
 | [],[],_ :: _,_,h=>by exact absurd h id
 | [],_ :: _,_,_,h=>by exact absurd h id
 | m :: ms,[],_,_,h=>by cases m <;> exact absurd h id
 | m :: ms,d :: ds,[],_,h=>by cases m <;> exact absurd h id
 | .dat :: ms,d :: ds,v :: vs,is,h=>by obtain ⟨a,b⟩:=bW.len h.2;exact ⟨by simp [a],by simp [b]⟩
 | .bor :: ms,d :: ds,v :: vs,is,h=>by obtain ⟨a,b⟩:=bW.len h.2;exact ⟨by simp [a],by simp [b]⟩
 | .ino :: ms,d :: ds,v :: vs,is,h=>by obtain ⟨_,_,_,_,_,_,_,h⟩:=h;obtain ⟨a,b⟩:=bW.len h;exact ⟨by simp [a],by simp [b]⟩
def At (K:Fg) (G I:Addr->Prop) (H:Hp) (is:List Addr) (s:Sl) (x:Option V):Prop:=match s with
 | .un=>True
 | .dat d=>∃ v,x=some v/\Dm K G H d v
 | .ino d=>∃ a,x=some (.ref a)/\a∈is/\G a/\Top K G H d a
 | .ro d=>∃ a,x=some (.ref a)/\iG K G I H d a
 | .own _=>False
theorem At.more {is is':List Addr} {s:Sl} {x:Option V} (h:At K G I H is s x) (q:∀ a∈is,a∈is'):At K G I H is' s x:=by
 cases s with
 | ino d=>obtain ⟨a,e,m,r⟩:=h;exact ⟨a,e,q a m,r⟩
 | _=>exact h
theorem cI:∀ {ms:List PM} {ds:List PyData} {vs:List V} {is:List Addr} {n:Nat} {tl:St},bW K G I H ms ds vs is->∀ {i:Nat} {s:Sl},(aw ms ds n)[i]?=some s->∀ {x:Option V},(vs.map some++tl)[i]?=some x->At K G I H is s x
 | [],[],[],is,n,tl,h,i,s,e,x,_=>by
  simp only [aw,List.getElem?_replicate] at e;split at e
  ·cases e;trivial
  ·cases e
 | [],[],_ :: _,_,_,_,h,_,_,_,_,_=>by exact absurd h id
 | [],_ :: _,_,_,_,_,h,_,_,_,_,_=>by exact absurd h id
 | m :: ms,[],_,_,_,_,h,_,_,_,_,_=>by cases m <;> exact absurd h id
 | m :: ms,d :: ds,[],_,_,_,h,_,_,_,_,_=>by cases m <;> exact absurd h id
 | .dat :: ms,d :: ds,v :: vs,is,n,tl,h,0,s,e,x,ex=>by
  simp [aw] at e ex;subst e ex;exact ⟨v,rfl,h.1⟩
 | .dat :: ms,d :: ds,v :: vs,is,n,tl,h,i+1,s,e,x,ex=>by
  simp [aw] at e;exact cI h.2 e (by simpa using ex)
 | .bor :: ms,d :: ds,v :: vs,is,n,tl,h,0,s,e,x,ex=>by
  simp [aw] at e ex;subst e ex;have h1:As K G I H d v:=h.1;cases d <;> first | exact h1 | exact ⟨v,rfl,h1⟩ | (obtain ⟨a,rfl,r⟩:=h1;exact ⟨a,rfl,r⟩)
 | .bor :: ms,d :: ds,v :: vs,is,n,tl,h,i+1,s,e,x,ex=>by
  simp [aw] at e;exact cI h.2 e (by simpa using ex)
 | .ino :: ms,d :: ds,v :: vs,is,n,tl,h,0,s,e,x,ex=>by
  simp [aw] at e ex;subst e ex;obtain ⟨a,r,rfl,rfl,g,t,_,_⟩:=h;exact ⟨a,rfl,Ki,g,t⟩
 | .ino :: ms,d :: ds,v :: vs,is,n,tl,h,i+1,s,e,x,ex=>by
  simp [aw] at e;obtain ⟨a,r,rfl,rfl,g,t,_,h⟩:=h;exact (cI h e (by simpa using ex)).more fun b hb=>Kb _ hb
theorem mL:∀ {ms:List PM} {ds:List PyData} {vs:List V} {is:List Addr} {n:Nat} {tl:St},bW K G I H ms ds vs is->∀ {i j:Nat} {c c':PyData} {a:Addr},(aw ms ds n)[i]?=some (.ino c)->(aw ms ds n)[j]?=some (.ino c') ->
  (vs.map some++tl)[i]?=some (some (.ref a))->(vs.map some++tl)[j]?=some (some (.ref a))->i=j
 | [],[],[],is,n,tl,h,i,j,c,c',a,e,_,_,_=>by
  simp only [aw,List.getElem?_replicate] at e;split at e <;> cases e
 | [],[],_ :: _,_,_,_,h,_,_,_,_,_,_,_,_,_=>by exact absurd h id
 | [],_ :: _,_,_,_,_,h,_,_,_,_,_,_,_,_,_=>by exact absurd h id
 | m :: ms,[],_,_,_,_,h,_,_,_,_,_,_,_,_,_=>by cases m <;> exact absurd h id
 | m :: ms,d :: ds,[],_,_,_,h,_,_,_,_,_,_,_,_,_=>by cases m <;> exact absurd h id
 | m :: ms,d :: ds,v :: vs,is,n,tl,h,0,0,c,c',a,e,e',s,s'=>rfl
 | m :: ms,d :: ds,v :: vs,is,n,tl,h,i+1,j+1,c,c',a,e,e',s,s'=>by
  have hr:∃ r,bW K G I H ms ds vs r:=by
   cases m with
   | dat=>exact ⟨is,h.2⟩
   | bor=>exact ⟨is,h.2⟩
   | ino=>obtain ⟨_,r,_,_,_,_,_,h⟩:=h;exact ⟨r,h⟩
  obtain ⟨r,hr⟩:=hr;have:i=j:=mL (n:=n - 1) (tl:=tl) hr (by cases m <;> simpa [aw] using e) (by cases m <;> simpa [aw] using e') (by simpa using s) (by simpa using s');rw [this]
 | m :: ms,d :: ds,v :: vs,is,n,tl,h,0,j+1,c,c',a,e,e',s,s'=>by
  cases m with
  | dat=>simp [aw] at e
  | bor=>cases d <;> simp [aw,BD] at e
  | ino =>
   obtain ⟨b,r,rfl,rfl,g,t,nr,h⟩:=h;simp [aw] at e' s;subst s;obtain ⟨a',ea,m',_⟩:=cI (tl:=tl) h e' (by simpa using s');cases ea;exact absurd m' nr
 | m :: ms,d :: ds,v :: vs,is,n,tl,h,i+1,0,c,c',a,e,e',s,s'=>by
  cases m with
  | dat=>simp [aw] at e'
  | bor=>cases d <;> simp [aw,BD] at e'
  | ino =>
   obtain ⟨b,r,rfl,rfl,g,t,nr,h⟩:=h;simp [aw] at e s';subst s';obtain ⟨a',ea,m',_⟩:=cI (tl:=tl) h e (by simpa using s);cases ea;exact absurd m' nr
theorem iR {G':Addr->Prop}:∀ {ms:List PM} {ds:List PyData} {vs:List V} {is:List Addr} {n:Nat} {tl:St} {env':En} {σ':St} {outs:List PyData},bW K G I H ms ds vs is->ms.length<=env'.length ->
  (∀ (i:Nat) (c:PyData),(aw ms ds n)[i]?=some (.ino c)->∃ c',env'[i]?=some (.ino c')/\σ'[i]?=(vs.map some++tl)[i]?)->(∀ (i:Nat) (c:PyData) (a:Addr),env'[i]?=some (.ino c)->σ'[i]?=some (some (.ref a))->Top K G' H' c a) ->
  kM ms env'=some outs->kA K G' H' outs is
 | [],[],[],is,n,tl,env',σ',outs,h,_,_,_,e=>by
  rw [show is=[] from h];cases env' <;> (simp only [kM] at e;cases e;trivial)
 | [],[],_ :: _,_,_,_,_,_,_,h,_,_,_,_=>by exact absurd h id
 | [],_ :: _,_,_,_,_,_,_,_,h,_,_,_,_=>by exact absurd h id
 | m :: ms,[],_,_,_,_,_,_,_,h,_,_,_,_=>by cases m <;> exact absurd h id
 | m :: ms,d :: ds,[],_,_,_,_,_,_,h,_,_,_,_=>by cases m <;> exact absurd h id
 | m :: ms,d :: ds,v :: vs,is,n,tl,[],σ',outs,h,hl,h1,h2,e=>by simp at hl
 | m :: ms,d :: ds,v :: vs,is,n,tl,s :: es,σ',outs,h,hl,h1,h2,e=>by
  have hl':ms.length<=es.length:=by simpa using hl
  have t1:∀ (i:Nat) (c:PyData),(aw ms ds (n - 1))[i]?=some (.ino c)->∃ c',es[i]?=some (.ino c')/\σ'.tail[i]?=(vs.map some++tl)[i]?:=fun i c z=>by
   obtain ⟨c',e',q⟩:=h1 (i+1) c (by cases m <;> simpa [aw] using z);exact ⟨c',by simpa using e',by simpa using q⟩
  have t2:∀ (i:Nat) (c:PyData) (a:Addr),es[i]?=some (.ino c)->σ'.tail[i]?=some (some (.ref a))->Top K G' H' c a:=fun i c a z q=>h2 (i+1) c a (by simpa using z) (by simpa using q);cases m with
  | dat=>exact iR h.2 hl' t1 t2 (by simpa [kM] using e)
  | bor=>exact iR h.2 hl' t1 t2 (by simpa [kM] using e)
  | ino =>
   obtain ⟨b,r,rfl,rfl,g,t,nr,h⟩:=h;obtain ⟨c',e',q⟩:=h1 0 d (by simp [aw]);simp at e' q;subst e';simp only [kM] at e;split at e
   ·rename_i os ho;cases e;exact ⟨h2 0 c' b (by simp) (by simpa using q),iR h hl' t1 t2 ho⟩
   ·cases e
theorem AL (hg:∀ g d,gd[g]?=some d->∀ F H,Dm K F H d (ga g)) {ms:List PM} {N:List Str} {b:XS} {vs:List V} {H:Hp} {Q:VK} {E:XK} (h:bH (bX gd ms N.length b) K vs H Q E) (hn:ms.length<=N.length) :
  rS K ga b { nx:=fun _ H'=>Q .non H',rt:=Q } (start N vs) H:=by
 obtain ⟨G,ds,is,pr,outs,hF,ha,hd,post⟩:=h;have ha:bW K G (·∈is) H ms ds vs is:=ha;obtain ⟨hl1,hl2⟩:=ha.len;have hstart:start N vs=vs.map some++List.replicate (N.length - vs.length) none:=rfl;have no:noOwn (aw ms ds N.length):=fun i d e=>by
  have hi:i < (aw ms ds N.length).length:=(Ka.mp e).1;rw [dN hl1 hn] at hi;have hx:(vs.map some++List.replicate (N.length - vs.length) none)[i]?=some ((vs.map some++List.replicate (N.length - vs.length) none)[i]'(by rw [J6,J5,L9];omega)):=J9 _;exact (cI ha e hx:False)
 have at':∀ {i:Nat} {s:Sl},(aw ms ds N.length)[i]?=some s->∃ x,(start N vs)[i]?=some x/\At K G (·∈is) H is s x:=fun {i s} e=>by
  have hi:i < (aw ms ds N.length).length:=(Ka.mp e).1;rw [dN hl1 hn] at hi;have hx:(start N vs)[i]?=some ((start N vs)[i]'(by rw [hstart,J6,J5,L9];omega)):=J9 _;exact ⟨_,hx,cI ha e hx⟩
 have eF:FF G (aw ms ds N.length) (start N vs)=G:=eE no;have muI:∀ i,mu (aw ms ds N.length) i->∃ c,(aw ms ds N.length)[i]?=some (.ino c):=fun i ⟨c,m⟩=>m.elim (fun z=>absurd z (no i c)) fun z=>⟨c,z⟩;have R:Rel K G H (·∈is) (aw ms ds N.length) (start N vs) H:=by
  refine ⟨by rw [dN hl1 hn,hstart,J6,J5,L9];omega,fun i d e=>?_,fun i d e=>absurd e (no i d),fun i d e=>?_,fun i d e=>?_,fun i j a h1 h2 h3 h4=>?_,hd,fun _ _ h _=>h⟩
  ·rw [eF];obtain ⟨x,hx,v,rfl,r⟩:=at' e;exact ⟨v,hx,r⟩
  ·rw [eF];obtain ⟨x,hx,a,rfl,m,g,t⟩:=at' e;exact ⟨a,hx,g,m,t⟩
  ·rw [eF];obtain ⟨x,hx,a,rfl,r⟩:=at' e;refine ⟨a,hx,r.pr Pr.refl (fun _ z=>z) (fun b hb=>?_) fun _ _ z _=>z⟩;obtain ⟨j,m,s⟩:=hb;obtain ⟨c,m⟩:=muI j m;obtain ⟨x,hx,a,rfl,m,g,t⟩:=at' m;rw [s] at hx;cases hx;exact m
  ·obtain ⟨c,m1⟩:=muI i h1;obtain ⟨c',m2⟩:=muI j h2;exact mL ha m1 m2 h3 h4
 simp only [bX] at hF;rw [Km hl1] at hF
 ·have inoK:∀ {env':En} {σ':St},KpS (aw ms ds N.length) (start N vs) env' σ'->∀ (i:Nat) (c:PyData),(aw ms ds N.length)[i]?=some (.ino c)->∃ c',env'[i]?=some (.ino c')/\σ'[i]?=(vs.map some++List.replicate (N.length - vs.length) none)[i]?:=fun {env' σ'} k i c e=>by
   obtain ⟨s',e',v,w⟩:=k.2 i _ e;obtain ⟨c',rfl⟩:=v;exact ⟨c',e',w trivial⟩
  have hlE:∀ {env':En} {σ':St},KpS (aw ms ds N.length) (start N vs) env' σ'->ms.length<=env'.length:=fun {env' σ'} k=>by rw [k.1,dN hl1 hn];exact hn
  split at hF
  ·rename_i rv env' hS;split at hF
   ·rename_i pr' outs' hpr houts;cases hF;refine sS hg b _ _ hS G H (·∈is) _ H _ R fun v σ' H' R' k' r'=>?_;have mono:∀ b,G b->FF G env' σ' b:=fun b z=>.inl z;cases rv with
    | bor i=>cases hpr
    | dat d =>
     cases hpr
     exact post v H' (fun b o e n=>R'.gw b o e n) ⟨Dm.mono mono r',iR ha (hlE k') (inoK k') (fun i c a e s=>by
      obtain ⟨a',s',_,_,t⟩:=R'.ino i c e;rw [s] at s';cases s'
      exact t.pr Pr.refl mono fun _ z=>z) houts⟩
    | frs d =>
     cases hpr;obtain ⟨a,rfl,Ra,t,w,nF,hino,_⟩:=r';have mono':∀ b,(G b\/b=a)->FF (fun b=>G b\/b=a) env' σ' b:=fun b z=>.inl z
     refine post _ H' (fun b o e n=>R'.gw b o e n) ⟨a,rfl,?_,t.pr Pr.refl (fun b z=>z.imp (mono b) id) (fun _ z=>z),iR ha (hlE k') (inoK k') (fun i c a' e s=>by
      obtain ⟨a2,s',_,_,t'⟩:=Ra.ino i c e;rw [s] at s';cases s'
      exact t'.pr Pr.refl mono' fun _ z=>z) houts⟩
     rcases w with w | w
     ·exact w
     ·-- it would be one that was handed in to be changed
      exfalso;have key:∀ {ms:List PM} {ds:List PyData} {vs:List V} {is:List Addr} {I:Addr->Prop} {n:Nat} {tl:St},bW K G I H ms ds vs is->a∈is->∃ (i:Nat) (c:PyData),(aw ms ds n)[i]?=some (.ino c)/\(vs.map some++tl)[i]?=some (some (.ref a)):=by
       intro ms;induction ms with
       | nil =>
        intro ds vs is I n tl h m;cases ds with
        | cons _ _=>exact absurd h id
        | nil=>cases vs with
         | cons _ _=>exact absurd h id
         | nil=>rw [show is=[] from h] at m;cases m
       | cons p ms ih =>
        intro ds vs is I n tl h m;cases ds with
        | nil=>cases p <;> exact absurd h id
        | cons d ds =>
         cases vs with
         | nil=>cases p <;> exact absurd h id
         | cons v vs =>
          cases p with
          | dat=>obtain ⟨i,c,e,s⟩:=ih (n:=n - 1) (tl:=tl) h.2 m;exact ⟨i+1,c,by simpa [aw] using e,by simpa using s⟩
          | bor=>obtain ⟨i,c,e,s⟩:=ih (n:=n - 1) (tl:=tl) h.2 m;exact ⟨i+1,c,by simpa [aw] using e,by simpa using s⟩
          | ino =>
           obtain ⟨b,r,rfl,rfl,g,t,nr,h⟩:=h;rcases Kd.mp m with rfl | m
           ·exact ⟨0,d,by simp [aw],by simp⟩
           ·obtain ⟨i,c,e,s⟩:=ih (n:=n - 1) (tl:=tl) h m;exact ⟨i+1,c,by simpa [aw] using e,by simpa using s⟩
      obtain ⟨i,c,e,s⟩:=key (n:=N.length) (tl:=List.replicate (N.length - vs.length) none) ha w;obtain ⟨c',e',s'⟩:=inoK k' i c e;exact hino i c' e' (s'.trans s)
   ·cases hF
  ·rename_i env' hS;split at hF
   ·rename_i outs' houts;cases hF;refine sS hg b _ _ hS G H (·∈is) _ H _ R fun σ' H' R' k'=>?_;have mono:∀ b,G b->FF G env' σ' b:=fun b z=>.inl z
    exact post .non H' (fun b o e n=>R'.gw b o e n) ⟨rfl,iR ha (hlE k') (inoK k') (fun i c a e s=>by
      obtain ⟨a',s',_,_,t⟩:=R'.ino i c e;rw [s] at s';cases s'
      exact t.pr Pr.refl mono fun _ z=>z) houts⟩
   ·cases hF
  ·cases hF
theorem yN {f:Fn} {vs:List V} {H:Hp} {Q:VK} {E:XK} (h:bH f K vs H Q E):vs.length=f.ms.length:=by
 obtain ⟨G,ds,is,pr,outs,_,ha,_⟩:=h;exact ha.len.2
end
open PySem PySem.Spec PyProof.Rows
noncomputable def Prm.two (r:Fg->R2) (f:PyData->PyData->Option PR) (ok:∀ (K:Fg) (F:Addr->Prop) (H:Hp) (x y:PyData) (u v:V) (pr:PR) (Q:VK),f x y=some pr->Vw K F H x u->Vw K F H y v->(∀ b,F b->H b≠none)->(∀ w H',bj H H'->zA K F H H' pr w->Q w H')->r K u v H Q):Prm where
 r:=fun K vs H Q=>match vs with | [u,v]=>r K u v H Q | _=>False
 f:=fun ds=>match ds with | [x,y]=>f x y | _=>none
 ok:=fun K F H ds vs pr Q hf hv hd q=>by
  match ds,hf with
  | [x,y],hf =>
   obtain ⟨u,r1,rfl,h1,v,r2,rfl,h2,rfl⟩:=hv;exact ok K F H x y u v pr Q hf h1 h2 hd q
noncomputable def Prm.one (r:Fg->V->Hp->VK->Prop) (f:PyData->Option PR) (ok:∀ (K:Fg) (F:Addr->Prop) (H:Hp) (x:PyData) (u:V) (pr:PR) (Q:VK),f x=some pr->Vw K F H x u->(∀ b,F b->H b≠none)->(∀ w H',bj H H'->zA K F H H' pr w->Q w H')->r K u H Q):Prm where
 r:=fun K vs H Q=>match vs with | [u]=>r K u H Q | _=>False
 f:=fun ds=>match ds with | [x]=>f x | _=>none
 ok:=fun K F H ds vs pr Q hf hv hd q=>by
  match ds,hf with
  | [x],hf =>
   obtain ⟨u,r1,rfl,h1,rfl⟩:=hv;exact ok K F H x u pr Q hf h1 hd q
section
variable {K:Fg} {F F':Addr->Prop} {H:Hp}
theorem vInt {i:Int} {v:V} (h:Vw K F H (.int i) v):v=.int i:=h
theorem vBl {b:Bool} {v:V} (h:Vw K F H (.bool b) v):v=.bl b:=h
theorem ER {v:V} (h:Vw K F H .none v):v=.non:=h
theorem vStr {x:Str} {v:V} (h:Vw K F H (.str x) v):v=.str x/\x.length<=sizeLine/\PyData.strOk x=true:=h
theorem sW {ds:List PyData} {v:V} (h:Vw K F H (.list ds) v):∃ a xs,v=.ref a/\SqL K H a xs/\xs.length<=sizeLine/\DmL K F H ds xs:=let ⟨a,e,xs,r⟩:=h;⟨a,xs,e,r⟩
theorem vR {ds:List PyData} {v:V} (h:Vw K F H (.tuple ds) v):∃ a xs,v=.ref a/\SqT K H a xs/\xs.length<=sizeLine/\DmL K F H ds xs:=h
theorem A4 {p:Addr} {xs:List V} {ds:List PyData} (hp:H p=none) (hz:xs.length<=sizeLine) (h:DmL K F H ds xs):zA K F H (upd H p (.lst xs)) (.frs (.list ds)) (.ref p) :=
 ⟨p,rfl,hp,xs,aH,hz,(h.fresh hp).pr (Pr.of_same (bj.nw _ hp)) fun _ z=>z⟩
theorem Ha {p:Addr} {xs:List V} {ds:List PyData} (hp:H p=none) (hz:xs.length<=sizeLine) (h:DmL K F H ds xs):zA K F H (upd H p (.tup xs)) (.dat (.tuple ds)) (.ref p) :=
 ⟨p,xs,rfl,.inl (.inl aH),hz,h.pr (Pr.of_same (bj.nw _ hp)) fun _ z=>z⟩
end
noncomputable def Iw:PyData->PyData->Option PR
 | .int i,.int j=>some (.dat (.int (i+j)))
 | .str x,.str y=>if x.length+y.length<=sizeLine then some (.dat (.str (x++y))) else none
 | .list xs,.list ys=>if xs.length+ys.length<=sizeLine then some (.frs (.list (xs++ys))) else none
 | .tuple (x :: xs),.tuple ys=>if (x :: xs).length+ys.length<=sizeLine then some (.dat (.tuple ((x :: xs)++ys))) else none
 | _,_=>none
def Gq (K:Fg):R2:=rOr (rI0 fun i j=>.int (i+j)) (rOr Cc (rOr (C4 K) (Cb K)))
theorem b3 (x y:Str):(x++y).length=x.length+y.length:=by
 show (x.cps++y.cps).size=_;rw [Array.size_append];rfl
noncomputable def cL:Prm:=Prm.two Gq Iw fun K F H x y u v pr Q hf hx hy hd q=>by
 unfold Iw at hf;split at hf
 ·cases hf;rw [vInt hx,vInt hy];exact .inl ⟨_,_,rfl,rfl,q _ H (bj.rf H) rfl⟩
 ·split at hf
  ·rename_i x y hl;cases hf;obtain ⟨rfl,l1,o1⟩:=vStr hx;obtain ⟨rfl,l2,o2⟩:=vStr hy;exact .inr (.inl ⟨_,_,rfl,rfl,hl,q _ H (bj.rf H) ⟨rfl,by rw [b3];exact hl,p8 o1 o2⟩⟩)
  ·cases hf
 ·split at hf
  ·rename_i xs ys hl;cases hf;obtain ⟨a,us,rfl,s1,z1,d1⟩:=sW hx;obtain ⟨b,ws,rfl,s2,z2,d2⟩:=sW hy;have hl':us.length+ws.length<=sizeLine:=by rw [d1.len,d2.len];exact hl
   exact .inr (.inr (.inl ⟨a,b,us,ws,rfl,rfl,s1,s2,hl',fun p hp=>q _ _ (bj.nw _ hp) (A4 hp (by rw [J6];exact hl') (d1.app d2))⟩))
  ·cases hf
 ·split at hf
  ·rename_i x xs ys hl;cases hf;obtain ⟨a,us,rfl,s1,z1,d1⟩:=vR hx;obtain ⟨b,ws,rfl,s2,z2,d2⟩:=vR hy;have hl':us.length+ws.length<=sizeLine:=by rw [d1.len,d2.len];exact hl
   have hne:us≠[]:=fun z=>by rw [z] at d1;obtain ⟨v,r,e,_⟩:=d1;cases e
   refine .inr (.inr (.inr ⟨a,b,us,ws,rfl,rfl,s1,s2,hne,hl',fun z=>?_,fun z p hp=>q _ _ (bj.nw _ hp) (Ha hp (by rw [J6];exact hl') (d1.app d2))⟩));subst z;have hys:ys=[]:=by
    cases ys with
    | nil=>rfl
    | cons y ys=>obtain ⟨v,r,e,_⟩:=d2;cases e
   subst hys;exact q _ H (bj.rf H) ⟨a,us,rfl,s1,z1,by rw [K6];exact d1⟩
  ·cases hf
 ·cases hf
theorem ao {X:Cx}:OpR X (binaryOp .Add) (fun x y=>cL.r X.K [x,y]):=orR Ew (orR Br (orR BJ AX))
noncomputable def zt (c:Int->Int->Bool) (g:Int->Int->PyData):PyData->PyData->Option PR
 | .int i,.int j=>if c i j=true then some (.dat (g i j)) else none
 | _,_=>none
noncomputable def Prm.ints (C:Int->Int->Prop) (c:Int->Int->Bool) (hc:∀ i j,c i j=true->C i j) (g:Int->Int->Int):Prm:=Prm.two (fun _=>rI C fun i j=>.int (g i j)) (zt c fun i j=>.int (g i j)) fun K F H x y u v pr Q hf hx hy hd q=>by
 unfold zt at hf;split at hf
 ·split at hf
  ·rename_i h;cases hf;rw [vInt hx,vInt hy];exact ⟨_,_,rfl,rfl,hc _ _ h,q _ H (bj.rf H) rfl⟩
  ·cases hf
 ·cases hf
noncomputable def Prm.CU (g:Int->Int->Bool):Prm:=Prm.two (fun _=>rI0 fun i j=>.bl (g i j)) (zt (fun _ _=>true) fun i j=>.bool (g i j)) fun K F H x y u v pr Q hf hx hy hd q=>by
 unfold zt at hf;split at hf
 ·rw [Km rfl] at hf;cases hf;rw [vInt hx,vInt hy];exact ⟨_,_,rfl,rfl,q _ H (bj.rf H) rfl⟩
 ·cases hf
noncomputable def lF:Prm:=Prm.two (fun _=>rI0 fun i j=>.int (i - j)) (zt (fun _ _=>true) fun i j=>.int (i - j)) fun K F H x y u v pr Q hf hx hy hd q=>by
 unfold zt at hf;split at hf
 ·rw [Km rfl] at hf;cases hf;rw [vInt hx,vInt hy];exact ⟨_,_,rfl,rfl,q _ H (bj.rf H) rfl⟩
 ·cases hf
theorem aS {X:Cx}:OpR X (binaryOp .Sub) (fun x y=>lF.r X.K [x,y]):=Dh
noncomputable def mulC (i j:Int):Bool:=(decide (-(2 ^ 64) < i)&&decide (i < 2 ^ 64))||(decide (-(2 ^ 64) < j)&&decide (j < 2 ^ 64))
noncomputable def uG:Prm:=Prm.ints EF mulC (fun i j h=>by simpa [mulC,EF,LB,KC,KH] using h) (fun i j=>i*j)
theorem dg {X:Cx}:OpR X (binaryOp .Mult) (fun x y=>uG.r X.K [x,y]):=B7
noncomputable def uJ:Prm:=Prm.ints (fun _ j=>0 < j) (fun _ j=>decide (0 < j)) (fun i j h=>by simpa using h) (fun i j=>i % j)
theorem cK {X:Cx}:OpR X (binaryOp .Mod) (fun x y=>uJ.r X.K [x,y]):=DZ
noncomputable def xT:Prm:=Prm.ints (fun _ j=>0 < j/\j.natAbs.log2 < 9000) (fun _ j=>decide (0 < j)&&decide (j < 2 ^ 200)) (fun i j h=>by
 simp only [KC,KH] at h;refine ⟨h.1,?_⟩;have hz:j.natAbs≠0:=by omega
 have:j.natAbs < 2 ^ 200:=by omega
 exact Kh ((Nat.log2_lt hz).mpr this) (by decide)) (fun i j=>i / j)
theorem nE {X:Cx}:OpR X (binaryOp .FloorDiv) (fun x y=>xT.r X.K [x,y]):=yh
noncomputable def zg:Prm:=Prm.ints Ii (fun i j=>decide (0<=j)&&decide (j<=1000000)&&decide (i.natAbs < 2 ^ 64)) (fun i j h=>by simp only [KC,KH] at h;exact ⟨h.1.1,h.1.2,h.2⟩) (fun i j=>i ^ j.toNat)
theorem fH {X:Cx}:OpR X (binaryOp .Pow) (fun x y=>zg.r X.K [x,y]):=DR
noncomputable def Iu:Prm:=Prm.one (fun _=>rU fun i=>.int (-i)) (fun x=>match x with | .int i=>some (.dat (.int (-i))) | _=>none) fun K F H x u pr Q hf hx hd q=>by
 split at hf
 ·cases hf;rw [vInt hx];exact ⟨_,rfl,q _ H (bj.rf H) rfl⟩
 ·cases hf
noncomputable def E6 (g:Int->Int->Bool) (h:Str->Str->Bool):PyData->PyData->Option PR
 | .int i,.int j=>some (.dat (.bool (g i j)))
 | .str x,.str y=>some (.dat (.bool (h x y)))
 | _,_=>none
noncomputable def ltS (x y:Str):Bool:=decide (x.cps.toList < y.cps.toList)
noncomputable def leS (x y:Str):Bool:=!decide (y.cps.toList < x.cps.toList)
noncomputable def ltP:Prm:=Prm.two (fun _=>rOr (rI0 fun i j=>.bl (decide (i < j))) IC) (E6 (fun i j=>decide (i < j)) ltS) fun K F H x y u v pr Q hf hx hy hd q=>by
 unfold E6 at hf;split at hf
 ·cases hf;rw [vInt hx,vInt hy];exact .inl ⟨_,_,rfl,rfl,q _ H (bj.rf H) rfl⟩
 ·cases hf;rw [(vStr hx).1,(vStr hy).1];exact .inr ⟨_,_,rfl,rfl,q _ H (bj.rf H) rfl⟩
 ·cases hf
theorem ke {X:Cx}:OpR X (compareOp .Lt) (fun x y=>ltP.r X.K [x,y]):=orR Gp Ex
noncomputable def leP:Prm:=Prm.two (fun _=>rOr (rI0 fun i j=>.bl (decide (i<=j))) IU) (E6 (fun i j=>decide (i<=j)) leS) fun K F H x y u v pr Q hf hx hy hd q=>by
 unfold E6 at hf;split at hf
 ·cases hf;rw [vInt hx,vInt hy];exact .inl ⟨_,_,rfl,rfl,q _ H (bj.rf H) rfl⟩
 ·cases hf;rw [(vStr hx).1,(vStr hy).1];exact .inr ⟨_,_,rfl,rfl,q _ H (bj.rf H) rfl⟩
 ·cases hf
theorem jC {X:Cx}:OpR X (compareOp .LtE) (fun x y=>leP.r X.K [x,y]):=orR HD Dk
noncomputable def gtP:Prm:=Prm.CU fun i j=>decide (i > j)
theorem u4 {X:Cx}:OpR X (compareOp .Gt) (fun x y=>gtP.r X.K [x,y]):=Fz
noncomputable def geP:Prm:=Prm.CU fun i j=>decide (i>=j)
theorem zO {X:Cx}:OpR X (compareOp .GtE) (fun x y=>geP.r X.K [x,y]):=HZ
mutual
noncomputable def noD:PyData->Bool
 | .dict _=>false
 | .list xs=>iF xs
 | .tuple xs=>iF xs
 | _=>true
noncomputable def iF:List PyData->Bool
 | []=>true
 | x :: xs=>noD x&&iF xs
end
section
variable {K:Fg} {F:Addr->Prop} {H:Hp}
mutual
theorem Dm.lay:∀ {d:PyData} {v:V},Dm K F H d v->noD d=true->d.canLay0=true
 | .none,v,h,_=>by simp [PyData.canLay0]
 | .bool b,v,h,_=>by simp [PyData.canLay0]
 | .int i,v,h,_=>by simp [PyData.canLay0]
 | .str x,v,h,_=>by simpa [PyData.canLay0] using h.2.2
 | .list ds,v,h,n=>by obtain ⟨a,xs,e,l,z,r⟩:=h;simpa [PyData.canLay0] using DmL.lay r (by simpa [noD] using n)
 | .tuple ds,v,h,n=>by obtain ⟨a,xs,e,l,z,r⟩:=h;simpa [PyData.canLay0] using DmL.lay r (by simpa [noD] using n)
 | .dict kvs,v,h,n=>by simp [noD] at n
theorem DmL.lay:∀ {ds:List PyData} {vs:List V},DmL K F H ds vs->iF ds=true->PyData.canLayAll0 ds=true
 | [],vs,h,_=>by simp [PyData.canLayAll0]
 | d :: ds,vs,h,n=>by
  obtain ⟨v,r,e,h1,h2⟩:=h;have n':noD d=true/\iF ds=true:=by simpa [iF] using n
  simp [PyData.canLayAll0,Dm.lay h1 n'.1,DmL.lay h2 n'.2]
end
theorem Vw.lay {d:PyData} {v:V} (h:Vw K F H d v) (n:noD d=true):d.canLay0=true:=by
 cases d with
 | list ds=>obtain ⟨a,xs,e,l,z,r⟩:=sW h;simpa [PyData.canLay0] using DmL.lay r (by simpa [noD] using n)
 | dict ds=>simp [noD] at n
 | _=>exact Dm.lay (K:=K) (F:=F) (H:=H) h n
variable {X:Cx} {pins:List (Addr×Obj)} {σ:St} {s:Shared}
mutual
theorem Dm.reads (I:Inv X pins σ H s):∀ {d:PyData} {v:V} {u:Value},Dm X.K F H d v->noD d=true->RelV v u->∃ as,Reads s.heap u d as
 | .none,v,u,hd,_,r=>by
  have e:v=.non:=hd;subst e;cases (show u=Value.none from r);exact ⟨_,.none⟩
 | .bool b,v,u,hd,_,r=>by
  have e:v=.bl b:=hd;subst e;cases (show u=Value.bool b from r);exact ⟨_,.bool b⟩
 | .int i,v,u,hd,_,r=>by
  have e:v=.int i:=hd;subst e;obtain ⟨t,e⟩:=(show ∃ t,u=Value.int i t from r);subst e;exact ⟨_,.int i t⟩
 | .str y,v,u,hd,_,r=>by
  have e:v=.str y:=hd.1;subst e;obtain ⟨t,e⟩:=(show ∃ t,u=Value.str y t from r);subst e;exact ⟨_,.str y t⟩
 | .list ds,v,u,hd,n,r=>by
  obtain ⟨a,xs,e,l,z,rs⟩:=hd;subst e;cases (show u=Value.ref a from r);obtain ⟨its,rv,⟨o,k,h1,h2,h3,h4⟩,_⟩:=I.list (l.elim (fun q=>.inl q.2) .inr);obtain ⟨as,ra⟩:=DmL.reads I rs (by simpa [noD] using n) rv;exact ⟨_,.list h1 h2 h4 (by simpa using ra)⟩
 | .tuple ds,v,u,hd,n,r=>by
  obtain ⟨a,xs,e,l,z,rs⟩:=hd;subst e;cases (show u=Value.ref a from r);obtain ⟨its,rv,⟨o,h1,h2,k,h4⟩,_⟩:=I.tuple l;obtain ⟨as,ra⟩:=DmL.reads I rs (by simpa [noD] using n) rv;exact ⟨_,.tuple h1 h2 h4 (by simpa using ra)⟩
 | .dict kvs,v,u,hd,n,r=>by simp [noD] at n
theorem DmL.reads (I:Inv X pins σ H s):∀ {ds:List PyData} {vs:List V} {us:List Value},DmL X.K F H ds vs->iF ds=true->Vals vs us->∃ as,ReadsAll s.heap us ds as
 | [],vs,us,hd,_,r=>by
  have e:vs=[]:=hd;subst e;cases r;exact ⟨_,.nil⟩
 | d :: ds,vs,us,hd,n,r=>by
  obtain ⟨v,rr,e,h1,h2⟩:=hd;have n':noD d=true/\iF ds=true:=by simpa [iF] using n
  subst e;cases r with
  | cons r1 r2 =>
   obtain ⟨as,q1⟩:=Dm.reads I h1 n'.1 r1;obtain ⟨bs,q2⟩:=DmL.reads I h2 n'.2 r2;exact ⟨_,.cons q1 q2⟩
end
theorem Vw.reads (I:Inv X pins σ H s) {d:PyData} {v:V} {u:Value} (h:Vw X.K F H d v) (n:noD d=true) (r:RelV v u):∃ as,Reads s.heap u d as:=by
 cases d with
 | list ds =>
  obtain ⟨a,xs,rfl,l,z,rs⟩:=sW h;cases (show u=Value.ref a from r);obtain ⟨its,rv,⟨o,k,h1,h2,h3,h4⟩,_⟩:=I.list l;obtain ⟨as,ra⟩:=DmL.reads I rs (by simpa [noD] using n) rv;exact ⟨_,.list h1 h2 h4 (by simpa using ra)⟩
 | dict ds=>simp [noD] at n
 | _=>exact Dm.reads (F:=F) I h n r
end
noncomputable def xI (d:PyData):Bool:=noD d&&decide (d.depth<=64)
def Jb (neg:Bool) (K:Fg):R2:=fun x y H Q=>∃ F d e,Vw K F H d x/\Vw K F H e y/\xI d=true/\xI e=true/\Q (.bl (if neg then !PyData.eqv d e else PyData.eqv d e)) H
noncomputable def eqD (neg:Bool) (d e:PyData):Option PR:=if xI d=true/\xI e=true then some (.dat (.bool (if neg then !PyData.eqv d e else PyData.eqv d e))) else none
noncomputable def Fj (neg:Bool):Prm:=Prm.two (Jb neg) (eqD neg) fun K F H x y u v pr Q hf hx hy hd q=>by
 unfold eqD at hf;split at hf
 ·rename_i h;cases hf;exact ⟨F,x,y,hx,hy,h.1,h.2,q _ H (bj.rf H) rfl⟩
 ·cases hf
noncomputable abbrev eqP:Prm:=Fj false
noncomputable abbrev neP:Prm:=Fj true
theorem gZ {K:Fg} {F:Addr->Prop} {H:Hp} {d:PyData} {v:V} (h:Vw K F H d v) (o:xI d=true):SeqAt.shaped d=true:=by
 have o':noD d=true/\d.depth<=64:=by simpa [xI] using o
 simp [SeqAt.shaped,h.lay o'.1,o'.2]
theorem aB {X:Cx} (hu:X.A.units+64 < cLine):OpR X (compareOp .Eq) (fun x y=>eqP.r X.K [x,y]):=by
 intro pins s σ H x y v u Q I rx ry h;obtain ⟨F,d,e,h1,h2,o1,o2,hq⟩:=h;obtain ⟨as,r1⟩:=h1.reads I (by have:=o1;simp [xI] at this;exact this.1) rx;obtain ⟨bs,r2⟩:=h2.reads I (by have:=o2;simp [xI] at this;exact this.1) ry;exact SeqAt.compareEq_shaped r1 r2 (gZ h1 o1) (gZ h2 o2) hu ⟨.bl _,H,I,rfl,hq⟩
theorem u3 {X:Cx} (hu:X.A.units+64 < cLine):OpR X (compareOp .NotEq) (fun x y=>neP.r X.K [x,y]):=by
 intro pins s σ H x y v u Q I rx ry h;obtain ⟨F,d,e,h1,h2,o1,o2,hq⟩:=h;obtain ⟨as,r1⟩:=h1.reads I (by have:=o1;simp [xI] at this;exact this.1) rx;obtain ⟨bs,r2⟩:=h2.reads I (by have:=o2;simp [xI] at this;exact this.1) ry;exact SeqAt.compareNe_shaped r1 r2 (gZ h1 o1) (gZ h2 o2) hu ⟨.bl _,H,I,rfl,hq⟩
noncomputable def wH:PyData->Bool | .none=>true | _=>false
theorem x4 {K:Fg} {F:Addr->Prop} {H:Hp} {d:PyData} {v:V} (h:Vw K F H d v):decide (v=.non)=wH d:=by
 cases d with
 | none=>rw [ER h];rfl
 | bool b=>rw [vBl h];rfl
 | int i=>rw [vInt h];rfl
 | str x=>rw [(vStr h).1];rfl
 | list ds=>obtain ⟨a,xs,rfl,_⟩:=sW h;rfl
 | tuple ds=>obtain ⟨a,xs,rfl,_⟩:=vR h;rfl
 | dict ds=>obtain ⟨a,rfl,_⟩:=h;rfl
noncomputable def isP:Prm:=Prm.two (fun _=>IH) (fun x y=>match y with | .none=>some (.dat (.bool (wH x))) | _=>none) fun K F H x y u v pr Q hf hx hy hd q=>by
 split at hf
 ·cases hf;exact ⟨ER hy,q _ H (bj.rf H) (by rw [x4 hx];rfl)⟩
 ·cases hf
theorem sd {X:Cx}:OpR X (compareOp .Is) (fun x y=>isP.r X.K [x,y]):=Bv
noncomputable def ixD:PyData->PyData->Option PR
 | .list xs,.int i=>(atI xs i).map .dat
 | .tuple xs,.int i=>(atI xs i).map .dat
 | .str x,.int i=>(atI x.cps.toList i).map fun c=>.dat (.str ⟨#[c]⟩)
 | _,_=>none
theorem z8 {K:Fg} {F:Addr->Prop} {H:Hp} {ds:List PyData} {xs:List V} {i:Int} {d:PyData} (h:DmL K F H ds xs) (e:atI ds i=some d):∃ v,atI xs i=some v/\Dm K F H d v:=by
 unfold atI at e ⊢;rw [h.len];cases q:ixN ds.length i with
 | none=>rw [q] at e;cases e
 | some j =>
  rw [q] at e;have e:ds[j]?=some d:=e;exact h.get e
theorem Bw {α:Type} {xs:List α} {i:Int} {x:α} (e:atI xs i=some x):x∈xs:=by
 unfold atI at e;cases q:ixN xs.length i with
 | none=>rw [q] at e;cases e
 | some j=>rw [q] at e;exact KQ (show xs[j]?=some x from e)
noncomputable def ixP:Prm:=Prm.two rIx ixD fun K F H x y u v pr Q hf hx hy hd q=>by
 unfold ixD at hf;split at hf
 ·obtain ⟨d,e,rfl⟩:=Kz.mp hf;obtain ⟨a,us,rfl,s1,z1,d1⟩:=sW hx;rw [vInt hy];obtain ⟨v,ev,dv⟩:=z8 d1 e;exact .inl ⟨a,us,_,v,rfl,rfl,s1,ev,q _ H (bj.rf H) dv⟩
 ·obtain ⟨d,e,rfl⟩:=Kz.mp hf;obtain ⟨a,us,rfl,s1,z1,d1⟩:=vR hx;rw [vInt hy];obtain ⟨v,ev,dv⟩:=z8 d1 e;exact .inr (.inl ⟨a,us,_,v,rfl,rfl,s1,ev,q _ H (bj.rf H) dv⟩)
 ·rename_i x i;obtain ⟨c,e,rfl⟩:=Kz.mp hf;obtain ⟨rfl,l1,o1⟩:=vStr hx;rw [vInt hy];have hc:=hZ o1 c (Bw e);exact .inr (.inr ⟨_,_,c,rfl,rfl,l1,e,q _ H (bj.rf H) ⟨rfl,by show 1<=sizeLine;decide,by simp [PyData.strOk,hc]⟩⟩)
 ·cases hf
theorem cM {X:Cx}:IxR X (fun x y=>ixP.r X.K [x,y]):=Dj
noncomputable def cutD {α:Type} (xs:List α) (lo hi:Option Int):List α:=(xs.drop (HT.sIx xs.length 0 lo)).take (HT.sIx xs.length xs.length hi - HT.sIx xs.length 0 lo)
noncomputable def slD (lo hi:Option Int):PyData->Option PR
 | .list xs=>some (.frs (.list (cutD xs lo hi)))
 | .tuple xs=>if HT.sIx xs.length 0 lo=0/\HT.sIx xs.length xs.length hi=xs.length then none else some (.dat (.tuple (cutD xs lo hi)))
 | .str x=>some (.dat (.str (jU x lo hi)))
 | _=>none
def E8 (K:Fg) (lo hi:Option Int):V->Hp->VK->Prop:=fun x H Q=>B3 F9 (B3 (Gk K) (Hy K)) x lo hi H Q
section
variable {K:Fg} {F:Addr->Prop} {H:Hp}
theorem DmL.drop:∀ {ds:List PyData} {xs:List V} (n:Nat),DmL K F H ds xs->DmL K F H (ds.drop n) (xs.drop n)
 | ds,xs,0,h=>h
 | [],xs,n+1,h=>by rw [show xs=[] from h];rfl
 | d :: ds,xs,n+1,h=>by obtain ⟨v,r,rfl,_,h2⟩:=h;exact DmL.drop n h2
theorem DmL.take:∀ {ds:List PyData} {xs:List V} (n:Nat),DmL K F H ds xs->DmL K F H (ds.take n) (xs.take n)
 | ds,xs,0,h=>by rw [List.take_zero,List.take_zero];rfl
 | [],xs,n+1,h=>by rw [show xs=[] from h];rfl
 | d :: ds,xs,n+1,h=>by obtain ⟨v,r,rfl,h1,h2⟩:=h;exact ⟨v,_,rfl,h1,DmL.take n h2⟩
theorem DmL.cut {ds:List PyData} {xs:List V} (lo hi:Option Int) (h:DmL K F H ds xs):DmL K F H (cutD ds lo hi) (xD xs lo hi):=by
 unfold cutD xD;rw [h.len];exact (h.drop _).take _
theorem sy (xs:List V) (lo hi:Option Int):(xD xs lo hi).length<=xs.length:=by
 unfold xD;rw [K9,Lp];omega
theorem vh {x:Str} (lo hi:Option Int) (h:PyData.strOk x=true):PyData.strOk (jU x lo hi)=true:=by
 have hm:=hZ h;unfold PyData.strOk jU;rw [LY];intro c hc;have:c∈(x.cps.toList.drop (HT.sIx x.length 0 lo)).take (HT.sIx x.length x.length hi - HT.sIx x.length 0 lo):=by simpa using hc
 have:=hm c (List.mem_of_mem_drop (List.mem_of_mem_take this));simpa using this
theorem AD {lo hi:Option Int} {x:PyData} {u:V} {pr:PR} {Q:VK} (hf:slD lo hi x=some pr) (hx:Vw K F H x u) (q:∀ w H',bj H H'->zA K F H H' pr w->Q w H'):E8 K lo hi u H Q:=by
 unfold slD at hf;split at hf
 ·cases hf;obtain ⟨a,us,rfl,s1,z1,d1⟩:=sW hx;exact .inr (.inl ⟨a,us,rfl,s1,fun p hp=>q _ _ (bj.nw _ hp) (A4 hp (Ks (sy _ _ _) z1) (d1.cut lo hi))⟩)
 ·split at hf
  ·cases hf
  rename_i hn;cases hf;obtain ⟨a,us,rfl,s1,z1,d1⟩:=vR hx;exact .inr (.inr ⟨a,us,rfl,s1,by rw [d1.len];exact hn,fun p hp=>q _ _ (bj.nw _ hp) (Ha hp (Ks (sy _ _ _) z1) (d1.cut lo hi))⟩)
 ·cases hf;obtain ⟨rfl,l1,o1⟩:=vStr hx;exact .inl ⟨_,rfl,l1,q _ H (bj.rf H) ⟨rfl,Ks (dX _ _ _) l1,vh lo hi o1⟩⟩
 ·cases hf
end
noncomputable def DN:Prm:=Prm.two (fun K x y H Q=>∃ i,y=.int i/\E8 K (some i) none x H Q) (fun x y=>match y with | .int i=>slD (some i) none x | _=>none) fun K F H x y u v pr Q hf hx hy hd q=>by
 split at hf
 ·exact ⟨_,vInt hy,AD hf hx q⟩
 ·cases hf
noncomputable def IE:Prm:=Prm.two (fun K x y H Q=>∃ i,y=.int i/\E8 K none (some i) x H Q) (fun x y=>match y with | .int i=>slD none (some i) x | _=>none) fun K F H x y u v pr Q hf hx hy hd q=>by
 split at hf
 ·exact ⟨_,vInt hy,AD hf hx q⟩
 ·cases hf
noncomputable def IL (i j:Int):Prm:=Prm.one (fun K=>E8 K (some i) (some j)) (slD (some i) (some j)) fun K F H x u pr Q hf hx hd q=>AD hf hx q
noncomputable def Iz:PyData->Option PR
 | .str x=>some (.dat (.int x.length))
 | .list xs=>some (.dat (.int xs.length))
 | .tuple xs=>some (.dat (.int xs.length))
 | _=>none
noncomputable def md:Prm:=Prm.one (fun K x=>DB K [x]) Iz fun K F H x u pr Q hf hx hd q=>by
 unfold Iz at hf;split at hf
 ·cases hf;obtain ⟨rfl,l1,o1⟩:=vStr hx;exact DG l1 (q _ H (bj.rf H) rfl)
 ·cases hf;obtain ⟨a,us,rfl,s1,z1,d1⟩:=sW hx;exact Ce s1 (q _ H (bj.rf H) (by rw [d1.len];rfl))
 ·cases hf;obtain ⟨a,us,rfl,s1,z1,d1⟩:=vR hx;exact Du s1 (q _ H (bj.rf H) (by rw [d1.len];rfl))
 ·cases hf
theorem kF {X:Cx} {f:Value} {r:List V->Hp->VK->Prop} {r':V->Hp->VK->Prop} (h:aZ X f r) (e:∀ x H Q,r' x H Q->r [x] H Q):aZ X f (fun vs H Q=>match vs with | [u]=>r' u H Q | _=>False):=by
 intro pins s σ H xs us Q I rv q
 match xs,q with
 | [x],q=>exact h pins s σ H [x] us Q I rv (e x H Q q)
theorem bE {X:Cx}:aZ X (.builtin "len") (md.r X.K):=kF vf fun _ _ _ h=>h
noncomputable def Fd:Prm:=Prm.one (fun _ x=>GC [x]) (fun x=>match x with | .int i=>some (.dat (.int (if i < 0 then -i else i))) | _=>none) fun K F H x u pr Q hf hx hd q=>by
 split at hf
 ·cases hf;rw [vInt hx];exact F3 (q _ H (bj.rf H) rfl)
 ·cases hf
theorem qB {X:Cx}:aZ X (.builtin "abs") (Fd.r X.K):=kF xj fun _ _ _ h=>h
noncomputable def Fu:Prm:=Prm.one (fun _ x=>A3 [x]) (fun x=>match x with | .int i=>some (.dat (.int i)) | .bool k=>some (.dat (.int (if k then 1 else 0))) | _=>none) fun K F H x u pr Q hf hx hd q=>by
 split at hf
 ·cases hf;rw [vInt hx];exact .inl ⟨_,rfl,q _ H (bj.rf H) rfl⟩
 ·cases hf;rw [vBl hx];exact .inr ⟨_,rfl,q _ H (bj.rf H) rfl⟩
 ·cases hf
theorem Bo {X:Cx}:aZ X (.type "int") (Fu.r X.K):=kF xg fun _ _ _ h=>h
noncomputable def Fi:Prm:=Prm.two (fun _ x y=>Dx [x,y]) (zt (fun _ _=>true) fun i j=>.int (if j < i then j else i)) fun K F H x y u v pr Q hf hx hy hd q=>by
 unfold zt at hf;split at hf
 ·rw [Km rfl] at hf;cases hf;rw [vInt hx,vInt hy];exact ⟨_,_,rfl,q _ H (bj.rf H) rfl⟩
 ·cases hf
theorem ED {X:Cx} {f:Value} {r:List V->Hp->VK->Prop} {r':R2} (h:aZ X f r) (e:∀ x y H Q,r' x y H Q->r [x,y] H Q):aZ X f (fun vs H Q=>match vs with | [u,v]=>r' u v H Q | _=>False):=by
 intro pins s σ H xs us Q I rv q
 match xs,q with
 | [x,y],q=>exact h pins s σ H [x,y] us Q I rv (e x y H Q q)
theorem rG {X:Cx} (hc:X.calm=true):aZ X (.builtin "min") (Fi.r X.K):=ED (t7 hc) fun _ _ _ _ h=>h
noncomputable def xh (T:String) (x:PyData):Option PR:=match T with
 | "str" => some (.dat (.bool (isS x)))
 | "int" => some (.dat (.bool (isI x)))
 | "bool" => some (.dat (.bool (isB x)))
 | "tuple" => some (.dat (.bool (isT x)))
 | "list" => some (.dat (.bool (isL x)))
 | _=>none
noncomputable def EY (T:String):PyData->Option PR
 | .dict _=>none
 | x=>xh T x
def Gg (T:String) (K:Fg):V->Hp->VK->Prop:=fun x H Q=>∃ F d b,Vw K F H d x/\EY T d=some (.dat (.bool b))/\Q (.bl b) H
theorem Fy {T:String} {d:PyData} {pr:PR} (h:EY T d=some pr):∃ b,pr=.dat (.bool b):=by
 have h:xh T d=some pr:=by cases d <;> first | exact h | cases h
 unfold xh at h;split at h <;> first | (cases h;exact ⟨_,rfl⟩) | cases h
noncomputable def lB (T:String):Prm:=Prm.one (Gg T) (EY T) fun K F H x u pr Q hf hx hd q=>by
 obtain ⟨b,rfl⟩:=Fy hf;exact ⟨F,x,b,hx,hf,q _ H (bj.rf H) rfl⟩
theorem BE {K:Fg} {T:String} {d:PyData} {b:Bool} (h:EY T d=some (.dat (.bool b))):PySem.W.kitOne K (.type (tyN d)) (.type T)=some b:=by
 have h:xh T d=some (.dat (.bool b)):=by cases d <;> first | exact h | cases h
 unfold xh at h;split at h
 ·cases h;exact Hk d
 ·cases h;exact FI d
 ·cases h;exact Gs d
 ·cases h;exact FW d
 ·cases h;exact Hu d
 ·cases h
def Jq (K:Fg):List V->Hp->VK->Prop:=fun vs H Q=>match vs with | [x,.ty T]=>(lB T).r K [x] H Q | _=>False
theorem Ba {X:Cx}:aZ X (.builtin "isinstance") (Jq X.K):=by
 intro pins s σ H xs us Q I r h
 match xs,h with
 | [x,.ty T'],h =>
  obtain ⟨F,d,b,hv,hb,q⟩:=h;obtain ⟨u,w',rfl,r1,r2⟩:=vals2 r;cases (show w'=Value.type T' from r2);have e:=BE (K:=X.K) hb;have fin:∀ tk,EP X pins σ Q (.bool b) { s with toks:=tk }:=fun tk=>⟨.bl b,H,I.tok _,rfl,q⟩;cases d with
  | none=>rw [ER hv] at r1;cases (show u=Value.none from r1);exact LS PySem.W.kitx_none I.kIn True.intro e (fun z=>nomatch z) fin
  | bool y=>rw [vBl hv] at r1;cases (show u=Value.bool y from r1);exact LS PySem.W.kitx_bool I.kIn True.intro e (fun z=>nomatch z) fin
  | int i=>rw [vInt hv] at r1;obtain ⟨t,q⟩:=(show ∃ t,u=Value.int i t from r1);cases q;exact LS PySem.W.kitx_int I.kIn True.intro e (fun z=>nomatch z) fin
  | str y=>rw [(vStr hv).1] at r1;obtain ⟨t,q⟩:=(show ∃ t,u=Value.str y t from r1);cases q;exact LS PySem.W.kitx_str I.kIn True.intro e (fun z=>nomatch z) fin
  | list ds =>
   obtain ⟨a,xs,rfl,l,z,rs⟩:=sW hv;cases (show u=Value.ref a from r1);obtain ⟨its,rv,⟨o,k,h1,h2,h3,h4⟩,_⟩:=I.list l;exact LS PySem.W.kitx_list I.kIn ⟨o,h1,h2⟩ e (fun z=>nomatch z) fin
  | tuple ds =>
   obtain ⟨a,xs,rfl,l,z,rs⟩:=vR hv;cases (show u=Value.ref a from r1);obtain ⟨its,rv,⟨o,h1,h2,k,h4⟩,_⟩:=I.tuple l;exact LS PySem.W.kitx_tuple I.kIn ⟨o,h1,h2⟩ e (fun z=>nomatch z) fin
  | dict ds=>cases hb
noncomputable def chars (x:Str):List PyData:=x.cps.toList.map fun c=>.str ⟨#[c]⟩
noncomputable def g6 (x:Str):List V:=x.cps.toList.map fun c=>.str ⟨#[c]⟩
def Dt (K:Fg):V->Hp->VK->Prop:=fun x H Q=>Dp K [x] H Q\/∃ z,x=.str z/\z.length<=sizeLine/\∀ p,H p=none->Q (.ref p) (upd H p (.lst (g6 z)))
noncomputable def C5:PyData->Option PR
 | .list xs=>some (.frs (.list xs))
 | .tuple xs=>some (.frs (.list xs))
 | .str x=>some (.frs (.list (chars x)))
 | _=>none
noncomputable def DS:Prm:=Prm.one Dt C5 fun K F H x u pr Q hf hx hd q=>by
 unfold C5 at hf;split at hf
 ·cases hf;obtain ⟨a,us,rfl,s1,z1,d1⟩:=sW hx;exact .inl ⟨a,us,rfl,.inl s1,fun p hp=>q _ _ (bj.nw _ hp) (A4 hp z1 d1)⟩
 ·cases hf;obtain ⟨a,us,rfl,s1,z1,d1⟩:=vR hx;exact .inl ⟨a,us,rfl,.inr s1,fun p hp=>q _ _ (bj.nw _ hp) (A4 hp z1 d1)⟩
 ·cases hf;obtain ⟨rfl,l1,o1⟩:=vStr hx;refine .inr ⟨_,rfl,l1,fun p hp=>q _ _ (bj.nw _ hp) (A4 hp ?_ (Bz (hZ o1)))⟩;rw [show (g6 _).length=_ from J5 _];simpa [Str.length] using l1
 ·cases hf
theorem sP:∀ {xs:List V} {us:List Value},xs.length=us.length->(∀ (i:Nat) (x:V) (u:Value),xs[i]?=some x->us[i]?=some u->RelV x u)->Vals xs us
 | [],[],_,_=>.nil
 | [],_ :: _,h,_=>by cases h
 | _ :: _,[],h,_=>by cases h
 | x :: xs,u :: us,h,q=>.cons (q 0 x u rfl rfl) (sP (by simpa using h) fun i y w h1 h2=>q (i+1) y w (by simpa using h1) (by simpa using h2))
theorem ub {z:Str} {acc:Array Value} (h:ItemsOf (SignAt z) acc z.cps.size):Vals (g6 z) acc.toList:=by
 refine sP ?_ fun i x u h1 h2=>?_
 ·rw [show (g6 z).length=_ from J5 _];simp [h.1]
 ·obtain ⟨c,t,hc,rfl⟩:=h.2 i u (by simpa using h2);unfold g6 at h1;rw [Kt] at h1;have:z.cps.toList[i]?=some c:=by rw [<- hc];simp
  rw [this] at h1;cases h1;exact ⟨t,rfl⟩
theorem oJ {X:Cx} (hc:X.calm=true):aZ X (.type "list") (fun xs H Q=>∃ z,xs=[.str z]/\z.length<=sizeLine/\∀ p,H p=none->Q (.ref p) (upd H p (.lst (g6 z)))):=by
 intro pins s σ H xs us Q I r h;obtain ⟨z,rfl,hl,q⟩:=h;obtain ⟨u,rfl,r1⟩:=vals1 r;obtain ⟨t,rfl⟩:=r1;have hz:(g6 z).length<=sizeLine:=by rw [show (g6 z).length=_ from J5 _];simpa [Str.length] using hl
 refine call_list_str (I.ok.hd hc) z t (fun h' tk acc' c' hk hS hacc=>?_) hl;refine ⟨.ref s.heap.objs.size,_,I.laid (t':=tk) hk (Ke _) (show fG X.prog X.w _ h' _ (.lst (g6 z)) from ⟨hz,acc'.toList,c',?_,by rw [Array.toArray_toList];exact hS⟩),rfl,q _ (I.hok.fresh (Ke _))⟩;exact ub hacc
theorem x8 {X:Cx} {f:Value} {r r':List V->Hp->VK->Prop} (h:aZ X f r) (h':aZ X f r'):aZ X f (fun xs H Q=>r xs H Q\/r' xs H Q):=by
 intro pins s σ H xs us Q I rv q;rcases q with q | q
 ·exact h pins s σ H xs us Q I rv q
 ·exact h' pins s σ H xs us Q I rv q
theorem yt {X:Cx} (hc:X.calm=true):aZ X (.type "list") (DS.r X.K):=kF (x8 tw (oJ hc)) fun x H Q h=>h.imp id fun ⟨z,e,r⟩=>⟨z,by rw [e],r⟩
noncomputable def zD:PyData->Option PR
 | .list xs=>some (.dat (.tuple xs))
 | .tuple xs=>some (.dat (.tuple xs))
 | _=>none
noncomputable def jq:Prm:=Prm.one (fun K x=>zJ K [x]) zD fun K F H x u pr Q hf hx hd q=>by
 unfold zD at hf;split at hf
 ·cases hf;obtain ⟨a,us,rfl,s1,z1,d1⟩:=sW hx;exact ⟨a,us,rfl,.inl ⟨s1,fun p hp=>q _ _ (bj.nw _ hp) (Ha hp z1 d1)⟩⟩
 ·cases hf;obtain ⟨a,us,rfl,s1,z1,d1⟩:=vR hx;exact ⟨a,us,rfl,.inr ⟨s1,q _ H (bj.rf H) ⟨a,us,rfl,s1,z1,d1⟩⟩⟩
 ·cases hf
theorem cD {X:Cx}:aZ X (.type "tuple") (jq.r X.K):=kF rn fun _ _ _ h=>h
noncomputable def ag (i:Int):Str:=Str.ofString (toString i)
theorem tU {i:Int} {k:Nat} (hk:0 < k) (h:i.natAbs < 10 ^ k):(ag i).length<=k+1:=by
 unfold ag;rw [PySem.ofString_length];exact int_text_length_le10 hk h
theorem cy (s:String):PyData.strOk (Str.ofString s)=true:=by
 rw [Str.ofString_eq_toList];unfold PyData.strOk;rw [LY];intro c hc;have:c∈s.toList.map Char.toNat:=by simpa using hc
 obtain ⟨ch,_,rfl⟩:=Ll.mp this;have:=ch.valid;simp only [KH];rcases this with h | ⟨_,h⟩
 ·show ch.val.toNat < _;have:ch.val.toNat < 0xD800:=h;omega
 ·exact h
noncomputable def H9:PyData->Option PR
 | .int i=>if i.natAbs < 10 ^ 400 then some (.dat (.str (ag i))) else none
 | .str x=>some (.dat (.str x))
 | .none=>some (.dat (.str "None"))
 | _=>none
noncomputable def uK:Prm:=Prm.one (fun _ x=>EJ [x]) H9 fun K F H x u pr Q hf hx hd q=>by
 unfold H9 at hf;split at hf
 ·split at hf
  ·rename_i i hi;cases hf;rw [vInt hx];have hlog:i.natAbs.log2 < 1920:=by
    by_cases e:i.natAbs=0
    ·rw [e];decide
    ·exact Kh ((Nat.log2_lt e).mpr (Nat.lt_trans hi (by decide +kernel:(10:Nat) ^ 400 < 2 ^ 1900))) (by decide)
   exact .inl ⟨i,rfl,hlog,q _ H (bj.rf H) ⟨rfl,Ks (tU (k:=400) (by decide) hi) (by decide),cy _⟩⟩
  ·cases hf
 ·cases hf;obtain ⟨rfl,l1,o1⟩:=vStr hx;exact .inr (.inr ⟨_,rfl,q _ H (bj.rf H) ⟨rfl,l1,o1⟩⟩)
 ·cases hf;rw [ER hx];exact .inr (.inl ⟨rfl,q _ H (bj.rf H) ⟨rfl,by decide,cy _⟩⟩)
 ·cases hf
theorem c8 {X:Cx}:aZ X (.type "str") (uK.r X.K):=kF vq fun _ _ _ h=>h
noncomputable def kj:List PyData->Option (List Bool)
 | []=>some []
 | .bool b :: r=>match kj r with | some bs=>some (b :: bs) | none=>none
 | _ :: _=>none
theorem vH {K:Fg} {F:Addr->Prop} {H:Hp}:∀ {ds:List PyData} {xs:List V} {bs:List Bool},kj ds=some bs->DmL K F H ds xs->xs=bs.map V.bl
 | [],xs,bs,h,q=>by cases h;exact q
 | .bool b :: r,xs,bs,h,q=>by
  unfold kj at h;split at h
  ·rename_i bs' h';cases h;obtain ⟨v,vr,rfl,h1,h2⟩:=q;rw [vH h' h2,show v=.bl b from h1];rfl
  ·cases h
 | .none :: r,xs,bs,h,q=>by cases h
 | .int _ :: r,xs,bs,h,q=>by cases h
 | .str _ :: r,xs,bs,h,q=>by cases h
 | .list _ :: r,xs,bs,h,q=>by cases h
 | .tuple _ :: r,xs,bs,h,q=>by cases h
 | .dict _ :: r,xs,bs,h,q=>by cases h
noncomputable def EX:Prm:=Prm.one (fun K x=>Iv K [x]) (fun x=>match x with | .list ds=>(kj ds).map fun bs=>.dat (.bool (bs.all id)) | _=>none) fun K F H x u pr Q hf hx hd q=>by
 split at hf
 ·obtain ⟨bs,e,rfl⟩:=Kz.mp hf;obtain ⟨a,us,rfl,s1,z1,d1⟩:=sW hx;rw [vH e d1] at s1;exact ⟨a,bs,rfl,s1,q _ H (bj.rf H) rfl⟩
 ·cases hf
theorem w5 {X:Cx} (hc:X.calm=true):aZ X (.builtin "all") (EX.r X.K):=kF (wX hc) fun _ _ _ h=>h
theorem B8 {K:Fg} {F:Addr->Prop} {H:Hp} {k:PyData}:∀ {ds:List (PyData×PyData)} {xs:List (PyData×V×V)},DmP K F H ds xs->(∀ d,getD ds k=some d->∃ v,GS xs k=some v/\Dm K F H d v)/\(getD ds k=none->GS xs k=none)
 | [],xs,h=>by
  rw [show xs=[] from h];exact ⟨fun d e=>(nomatch e),fun _=>rfl⟩
 | (k',d') :: ds,xs,h=>by
  obtain ⟨j,v,r,rfl,e,_,h1,h2⟩:=h;have ih:=B8 (k:=k) h2;unfold getD GS at ih ⊢;rw [List.find?_cons,List.find?_cons];cases PyData.eqv k' k with
  | true=>exact ⟨fun d e=>(by cases e;exact ⟨v,rfl,h1⟩),fun e=>(nomatch e)⟩
  | false=>exact ih
theorem zw {K:Fg} {F:Addr->Prop} {H:Hp}:∀ {ds:List (PyData×PyData)} {xs:List (PyData×V×V)},DmP K F H ds xs->xs.length=ds.length
 | [],xs,h=>by rw [show xs=[] from h];rfl
 | (k,d) :: ds,xs,h=>by obtain ⟨j,v,r,rfl,_,_,_,h2⟩:=h;rw [J8,J8,zw h2]
theorem wq {F:Addr->Prop} {H:Hp} {a:Addr} {o o':HO} (ha:F a) (e:H a=some o') (w:Wr o'=true):Pr F H (upd H a o):=fun b u q n=>by
 by_cases y:b=a
 ·subst y;rcases n with n | n
  ·exact absurd ha n
  ·rw [e] at q;cases q;rw [n] at w;cases w
 ·rw [au y];exact q
theorem DmL.set {K:Fg} {F:Addr->Prop} {H:Hp}:∀ {ds:List PyData} {xs:List V} {d:PyData} {v:V} (j:Nat),DmL K F H ds xs->Dm K F H d v->DmL K F H (ds.set j d) (xs.set j v)
 | [],xs,d,v,j,h,q=>by rw [show xs=[] from h];rfl
 | e :: ds,xs,d,v,0,h,q=>by obtain ⟨w,r,rfl,_,h2⟩:=h;exact ⟨v,r,rfl,q,h2⟩
 | e :: ds,xs,d,v,j+1,h,q=>by obtain ⟨w,r,rfl,h1,h2⟩:=h;exact ⟨w,_,rfl,h1,DmL.set j h2 q⟩
noncomputable def rg:yz where
 r:=fun _ o i x H Q=>D9 o i x H Q
 f:=fun d k x=>match d,k with
  | .list xs,.int i=>(ixN xs.length i).map fun j=>.list (xs.set j x)
  | _,_=>none
 ok:=fun K F H d a k x vk vx d' Q hf ha ht hk hx q=>by
  split at hf
  ·obtain ⟨j,e,rfl⟩:=Kz.mp hf;obtain ⟨xs,ea,z,r⟩:=ht;rw [vInt hk];refine ⟨a,xs,_,j,rfl,rfl,ea,by rw [r.len];exact e,q _ (fun b o n e=>by rw [au n];exact e) ⟨_,aH,by rw [KA];exact z,(r.set j hx).pr (wq ha ea rfl) fun _ z=>z⟩⟩
  ·cases hf
theorem EG {K:Fg} {F:Addr->Prop} {H:Hp} {d:PyData} {a:Addr} (h:isL d=true) (t:Top K F H d a):tyV K "list" (.ref a) H:=by
 cases d with
 | list ds=>obtain ⟨xs,e,_⟩:=t;exact .inl ⟨rfl,xs,.inl (.inl e)⟩
 | _=>cases h
noncomputable def we:Mtr where
 T := "list"
 r:=fun _=>vI
 ty:=isL
 f:=fun d as=>match d,as with
  | .list xs,[(true,x)]=>if xs.length < sizeLine then some (.list (xs++[x]),.none) else none
  | _,_=>none
 xE:=fun K F H d a h t=>EG h t
 ok:=fun K F H d a as vs d' x Q hf ha ht _hd hv q=>by
  split at hf
  ·split at hf
   ·rename_i hl;cases hf;obtain ⟨v,r,rfl,hv,rfl⟩:=hv;obtain ⟨xs,ea,z,rx⟩:=ht;refine ⟨a,xs,v,rfl,rfl,ea,by rw [rx.len];exact hl,q _ _ (fun b o n e=>by rw [au n];exact e) ⟨_,aH,by rw [J6,rx.len];simp;omega,(rx.snoc hv).pr (wq ha ea rfl) fun _ z=>z⟩ rfl⟩
   ·cases hf
  ·cases hf
noncomputable def strsOf:List PyData->Option (List Str)
 | []=>some []
 | .str x :: r=>match strsOf r with | some xs=>some (x :: xs) | none=>none
 | _ :: _=>none
theorem wY {K:Fg} {F:Addr->Prop} {H:Hp}:∀ {ds:List PyData} {xs:List V} {ss:List Str},strsOf ds=some ss->DmL K F H ds xs->xs=ss.map V.str/\∀ s∈ss,PyData.strOk s=true
 | [],xs,bs,h,q=>by cases h;exact ⟨q,fun s z=>by cases z⟩
 | .str b :: r,xs,bs,h,q=>by
  unfold strsOf at h;split at h
  ·rename_i bs' h';cases h;obtain ⟨v,vr,rfl,h1,h2⟩:=q;obtain ⟨i1,i2⟩:=wY h' h2;refine ⟨by rw [i1,show v=.str b from h1.1];rfl,fun s z=>?_⟩;rcases Kd.mp z with rfl | z
   ·exact h1.2.2
   ·exact i2 s z
  ·cases h
 | .none :: r,xs,bs,h,q=>by cases h
 | .int _ :: r,xs,bs,h,q=>by cases h
 | .bool _ :: r,xs,bs,h,q=>by cases h
 | .list _ :: r,xs,bs,h,q=>by cases h
 | .tuple _ :: r,xs,bs,h,q=>by cases h
 | .dict _ :: r,xs,bs,h,q=>by cases h
theorem oM (g:Array Nat):∀ (ps:List Str) (acc:Array Nat),(ps.foldl (fun acc p=>acc++g++p.cps) acc).size=acc.size+(ps.map fun p=>p.length).sum+ps.length*g.size
 | [],acc=>by simp
 | p :: ps,acc=>by
  rw [List.foldl_cons,oM g ps];simp only [List.map_cons,Kw,J8,Array.size_append,Nat.succ_mul];show acc.size+g.size+p.cps.size+_+_=acc.size+(p.cps.size+_)+_;omega
theorem bh (z:Str) (ss:List Str):(Txt.join z ss).length<=(ss.map (·.length)).sum+ss.length*z.length:=by
 cases ss with
 | nil =>
  have:(Txt.join z []).length=0:=rfl;rw [this];exact Lu _
 | cons x r =>
  show ((r.foldl (fun acc p=>acc++z.cps++p.cps) x.cps)).size<=_;rw [oM];simp only [List.map_cons,Kw,J8,Nat.succ_mul];show x.cps.size+_+r.length*z.cps.size<=x.cps.size+_+(r.length*z.cps.size+z.cps.size);omega
theorem rL {g:Array Nat} (hg:g.all (· < 0x110000)=true):∀ (ps:List Str) (acc:Array Nat),(∀ p∈ps,PyData.strOk p=true)->acc.all (· < 0x110000)=true->(ps.foldl (fun acc p=>acc++g++p.cps) acc).all (· < 0x110000)=true
 | [],acc,_,h=>h
 | p :: ps,acc,hp,h=>by
  rw [List.foldl_cons];refine rL hg ps _ (fun q hq=>hp q (Kb _ hq)) ?_;rw [Array.all_append,Array.all_append,h,hg,show p.cps.all (· < 0x110000)=true from hp p Ki];rfl
theorem vA {z:Str} {ss:List Str} (hz:PyData.strOk z=true) (hs:∀ s∈ss,PyData.strOk s=true):PyData.strOk (Txt.join z ss)=true:=by
 cases ss with
 | nil=>exact cy ""
 | cons x r=>exact rL hz r _ (fun q hq=>hs q (Kb _ hq)) (hs x Ki)
noncomputable def cJ (z:Str) (ss:List Str):Bool:=decide ((ss.map (·.length)).sum+ss.length*z.length<=16777216)
noncomputable def C8:PyData->List PyData->Option PR
 | .str z,[.list ds]=>match strsOf ds with | some ss=>if cJ z ss=true then some (.dat (.str (Txt.join z ss))) else none | none=>none
 | .str z,[.tuple ds]=>match strsOf ds with | some ss=>if cJ z ss=true then some (.dat (.str (Txt.join z ss))) else none | none=>none
 | _,_=>none
theorem ty_str {K:Fg} {F:Addr->Prop} {H:Hp} {d:PyData} {v:V} (h:isS d=true) (t:Vw K F H d v):tyV K "str" v H:=by
 cases d with
 | str x=>rw [(vStr t).1];rfl
 | _=>cases h
noncomputable def joinM:Mtd where
 T := "str"
 r:=z6
 ty:=isS
 f:=C8
 xE:=fun K F H d v h t=>ty_str h t
 ok:=fun K F H d v ds vs pr Q hf hx hv hd q=>by
  unfold C8 at hf;split at hf
  ·rename_i z ds;split at hf
   ·rename_i ss hss;split at hf
    ·rename_i hok;cases hf;obtain ⟨rfl,l1,o1⟩:=vStr hx;obtain ⟨w,r,rfl,hw,rfl⟩:=hv;obtain ⟨a,us,rfl,s1,z1,d1⟩:=sW hw;obtain ⟨e,os⟩:=wY hss d1;rw [e] at s1;have hok':(ss.map (·.length)).sum+ss.length*z.length<=16777216:=by simpa [cJ] using hok
     exact ⟨z,a,ss,rfl,rfl,.inl s1,hok',q _ H (bj.rf H) ⟨rfl,Ks (bh z ss) hok',vA o1 os⟩⟩
    ·cases hf
   ·cases hf
  ·rename_i z ds;split at hf
   ·rename_i ss hss;split at hf
    ·rename_i hok;cases hf;obtain ⟨rfl,l1,o1⟩:=vStr hx;obtain ⟨w,r,rfl,hw,rfl⟩:=hv;obtain ⟨a,us,rfl,s1,z1,d1⟩:=vR hw;obtain ⟨e,os⟩:=wY hss d1;rw [e] at s1;have hok':(ss.map (·.length)).sum+ss.length*z.length<=16777216:=by simpa [cJ] using hok
     exact ⟨z,a,ss,rfl,rfl,.inr s1,hok',q _ H (bj.rf H) ⟨rfl,Ks (bh z ss) hok',vA o1 os⟩⟩
    ·cases hf
   ·cases hf
  ·cases hf
noncomputable def fvP:Prm:=Prm.one (fun _ x H Q=>∃ y,x=.str y/\y.length<=sizeLine/\Q (.str y) H) (fun x=>match x with | .str y=>some (.dat (.str y)) | _=>none) fun K F H x u pr Q hf hx hd q=>by
 split at hf
 ·cases hf;obtain ⟨rfl,l1,o1⟩:=vStr hx;exact ⟨_,rfl,l1,q _ H (bj.rf H) ⟨rfl,l1,o1⟩⟩
 ·cases hf
noncomputable def Fn.no (ms:List PM):Fn:=⟨ms,fun _=>none⟩
theorem zF {K:Fg} {F:Addr->Prop} {H:Hp}:∀ {ns:List Int},DmL K F H (ns.map .int) (ns.map .int)
 | []=>rfl
 | n :: ns=>⟨_,_,rfl,rfl,zF⟩
theorem D8 {f:Fn} {K:Fg} {H:Hp} {a:Addr} {ns:List Int} (hm:f.ms=[.dat]) (hl:ns.length<=63) (hS:SqL K H a (ns.map V.int)) (hF:f.F [.list (ns.map .int)]=some (.dat (.bool true),[])):bH f K [.ref a] H (fun v _=>v=.bl true) fun _ _ _=>False:=by
 refine ⟨fun _=>False,[.list (ns.map .int)],[],.dat (.bool true),[],hF,?_,fun _ h=>absurd h id,fun v' H' _ r=>r.1⟩;rw [hm];refine ⟨⟨a,ns.map .int,rfl,?_,?_,zF⟩,rfl⟩
 ·rcases hS with hS | hS
  ·exact .inl ⟨id,hS⟩
  ·exact .inr hS
 ·rw [J5];exact Ks hl (by decide)
open PySem PySem.Spec PyProof.Rows
section
variable {X:Cx} {pos:Pos} {s:Stmt}
theorem g0:JS X s xq:=⟨fun _ _ _ _ _ _ h=>absurd h id⟩
end
open PySem PySem.Spec PyProof.Rows
noncomputable def zq (f:Str):List (PyData×PyData)->Option PyData
 | (.str g,d) :: r=>if g=f then some d else zq f r
 | _=>none
noncomputable def tX (f:Str) (x:PyData):List (PyData×PyData)->Option (List (PyData×PyData))
 | []=>some [(.str f,x)]
 | (.str g,d) :: r=>if g=f then some ((.str g,x) :: r) else (tX f x r).map ((.str g,d) :: ·)
 | _=>none
section
variable {K:Fg} {F:Addr->Prop} {H:Hp} {f:Str}
theorem CD {ds:List (PyData×PyData)} {d:PyData}:∀ {xs:List (PyData×V×V)},DmP K F H ds xs->zq f ds=some d->∃ v,(qh xs).lookup f=some v/\Dm K F H d v:=by
 induction ds with
 | nil=>intro xs h e;cases e
 | cons p ds ih =>
  obtain ⟨k0,d'⟩:=p;intro xs h e;obtain ⟨j,v,r,rfl,_,_,h1,h2⟩:=h;cases k0 with
  | str g =>
   have e:(if g=f then some d' else zq f ds)=some d:=e;show ∃ v',List.lookup f ((g,v) :: qh r)=some v'/\_;by_cases q:g=f
   ·rw [Km q] at e;cases e;subst q;exact ⟨v,by rw [Ly,beq_self_eq_true],h1⟩
   ·rw [Kr q] at e;rw [Ly,show (f==g)=false from Lw.mpr fun z=>q z.symm];exact ih h2 e
  | _=>cases e
theorem Ef {x:PyData} {u:V} (hx:Dm K F H x u) (hf:f.length<=sizeLine/\PyData.strOk f=true) {ds:List (PyData×PyData)}:∀ {ds':List (PyData×PyData)} {xs:List (PyData×V×V)},DmP K F H ds xs->tX f x ds=some ds'->∃ xs',DmP K F H ds' xs'/\qh xs'=oq f u (qh xs)/\xs'.length<=xs.length+1:=by
 induction ds with
 | nil =>
  intro ds' xs h e;cases e;rw [show xs=[] from h];refine ⟨[(.str f,.str f,u)],?_,rfl,Ke _⟩;exact ⟨.str f,u,[],rfl,rfl,⟨rfl,hf⟩,hx,rfl⟩
 | cons p ds ih =>
  obtain ⟨k0,d⟩:=p;intro ds' xs h e;obtain ⟨j,v,r,rfl,k,h0,h1,h2⟩:=h;cases k0 with
  | str g =>
   have e:(if g=f then some ((PyData.str g,x) :: ds) else (tX f x ds).map ((PyData.str g,d) :: ·))=some ds':=e;show ∃ xs',_/\qh xs'=(if g=f then (g,u) :: qh r else (g,v) :: oq f u (qh r))/\_;by_cases q:g=f
   ·rw [Km q] at e ⊢;cases e;refine ⟨(.str g,j,u) :: r,?_,rfl,Nat.le_succ _⟩;exact ⟨j,u,r,rfl,k,h0,hx,h2⟩
   ·rw [Kr q] at e ⊢;obtain ⟨ds2,e2,rfl⟩:=Kz.mp e;obtain ⟨xs',a,b,c⟩:=ih h2 e2;refine ⟨(.str g,j,v) :: xs',?_,by rw [<- b];rfl,Nat.succ_le_succ c⟩;exact ⟨j,v,xs',rfl,k,h0,h1,a⟩
  | _=>cases e
end
def Ju (f:Str) (K:Fg):V->Hp->VK->Prop:=fun x H Q=>∃ a dx fs v,x=.ref a/\H a=some (.ins clsAt dx fs)/\fs.lookup f=some v/\Q v H
noncomputable def gJ (f:Str):Prm:=Prm.one (Ju f) (fun d=>match d with | .dict kvs=>(zq f kvs).map .dat | _=>none) fun K F H x u pr Q hf hx hd q=>by
 split at hf
 ·obtain ⟨d,e,rfl⟩:=Kz.mp hf;obtain ⟨a,rfl,ep,xs,ea,_,r⟩:=hx;obtain ⟨v,ev,dv⟩:=CD r e;exact ⟨a,ep,_,v,rfl,ea,ev,q _ H (bj.rf H) dv⟩
 ·cases hf
noncomputable def uC (f:Str):yz where
 r:=fun K o _ x H Q=>∃ a dx fs,o=.ref a/\H a=some (.ins clsAt dx fs)/\fs.length < 1000/\Q (upd H a (.ins clsAt dx (oq f x fs)))
 f:=fun d _ x=>match d with
  | .dict kvs=>if f.length<=sizeLine/\PyData.strOk f=true/\kvs.length < 1000 then (tX f x kvs).map .dict else none
  | _=>none
 ok:=fun K F H d a k x vk vx d' Q hf ha ht hk hx q=>by
  split at hf
  ·split at hf
   ·rename_i kvs h;obtain ⟨ds',e,rfl⟩:=Kz.mp hf;obtain ⟨ep,xs,ea,z,r⟩:=ht;obtain ⟨xs',r',b,c⟩:=Ef hx ⟨h.1,h.2.1⟩ r e;have hl:xs.length < 1000:=by rw [zw r];exact h.2.2
    refine ⟨a,ep,qh xs,rfl,ea,by unfold qh;rw [J5];exact hl,q _ (fun b o n e=>by rw [au n];exact e) ⟨ep,xs',by rw [b];exact aH,by rw [LZ];omega,r'.pr (wq ha ea rfl) fun _ z=>z⟩⟩
   ·cases hf
  ·cases hf
section
variable {X:Cx} {o e value:Expr} {f:Str} {pos pos':Pos} {ta tv:TE}
theorem Jx (c:Cls X.K clsAt) (n:fh X.K clsAt f) (he:JE X e ta) (hb:attributeBase e f X.env (eval e X.env)=eval e X.env):JE X (.Attribute e f pos) (fun σ H Q=>ta σ H fun x H1=>(gJ f).r X.K [x] H1 Q):=⟨by
 intro pins s σ H Q I h;refine Be hb (thn (he.h pins s σ H _ I h) fun u s1 ⟨x,H1,I1,rx,a,dx,fs,v,ex,ea,l,q⟩=>?_);subst ex;obtain rfl:u=Value.ref a:=rx
 exact um I1 ea c n l fun u' s2 I2 ru=>⟨v,H1,I2,ru,q⟩⟩
theorem FE (c:Cls X.K clsAt) (n:fh X.K clsAt f) (ha:JE X o ta) (hv:JE X value tv) (hs:swapsWith value (some (.Attribute o f pos')) pos.line X.env=pure false) :
  JS X (.Assign [.Attribute o f pos'] value pos) (fun D σ H=>tv σ H fun x H1=>ta σ H1 fun y H2=>(uC f).r X.K y .non x H2 (D.nx σ)):=⟨by
 intro pins s σ H D I h;refine plainObj_wpAny_Assign_Attribute (thn (hv.h pins s σ H _ I h) fun u s1 ⟨y,H1,I1,ry,q⟩=>thn (ha.h pins s1 σ H1 _ I1 q) fun ov s2 ⟨x,H2,I2,rx,a,dx,fs,ex,ea,l,q2⟩=>?_) hs;subst ex;obtain rfl:ov=Value.ref a:=rx
 exact t8 I2 ea c n l ry fun s3 I3=>⟨σ,_,I3,q2⟩⟩
end
open PySem PySem.Spec PyProof.Rows
noncomputable def HM:PyData->Bool
 | .list _=>false
 | .dict _=>false
 | _=>true
noncomputable def IG:PyData->Bool
 | .str _=>true
 | .int _=>true
 | _=>false
noncomputable def qD:List PM->List (Bool×PyData)->Bool
 | [],[]=>true
 | .dat :: r,p :: s=>(p.1||HM p.2)&&qD r s
 | _,_=>false
noncomputable def Al:List PM->List PyData->Bool
 | [],[]=>true
 | .dat :: r,p :: s=>IG p&&Al r s
 | _,_=>false
noncomputable def E2 (m:Str):List (PyData×PyData)->Bool
 | []=>true
 | (.str g,_) :: r=>!(g==m)&&E2 m r
 | _=>false
section
variable {K:Fg} {F:Addr->Prop} {H:Hp}
theorem FR {d:PyData} {v:V} (h:Vw K F H d v) (e:HM d=true):Dm K F H d v:=by
 cases d <;> first | exact h | cases e
theorem Ar {I:Addr->Prop} {ms:List PM}:∀ {as:List (Bool×PyData)} {vs:List V},MvL K F H as vs->qD ms as=true->bW K F I H ms (as.map (·.2)) vs []:=by
 induction ms with
 | nil =>
  intro as vs h e;cases as with
  | nil=>rw [show vs=[] from h];rfl
  | cons=>cases e
 | cons m ms ih =>
  intro as vs h e;cases as with
  | nil=>cases m <;> cases e
  | cons p as =>
   cases m with
   | dat =>
    obtain ⟨b,d⟩:=p;have e:((b||HM d)&&qD ms as)=true:=e;rw [KC] at e;cases b with
    | true=>obtain ⟨v,r,rfl,h1,h2⟩:=h;exact ⟨h1,ih h2 e.2⟩
    | false=>obtain ⟨v,r,rfl,h1,h2⟩:=h;exact ⟨FR h1 e.1,ih h2 e.2⟩
   | _=>cases e
theorem A1 {I F':Addr->Prop} {H':Hp} {ms:List PM}:∀ {ds:List PyData} {vs:List V},VwL K F H ds vs->Al ms ds=true->bW K F' I H' ms ds vs []:=by
 induction ms with
 | nil =>
  intro ds vs h e;cases ds with
  | nil=>rw [show vs=[] from h];rfl
  | cons=>cases e
 | cons m ms ih =>
  intro ds vs h e;cases ds with
  | nil=>cases m <;> cases e
  | cons d ds =>
   cases m with
   | dat =>
    have e:(IG d&&Al ms ds)=true:=e;rw [KC] at e;obtain ⟨v,r,rfl,h1,h2⟩:=h;refine ⟨?_,ih h2 e.2⟩;cases d with
    | str x=>exact h1
    | int i=>exact h1
    | _=>cases e.1
   | _=>cases e
theorem Gx {m:Str} {ds:List (PyData×PyData)}:∀ {xs:List (PyData×V×V)},DmP K F H ds xs->E2 m ds=true->(qh xs).lookup m=none:=by
 induction ds with
 | nil=>intro xs h _;rw [show xs=[] from h];rfl
 | cons p ds ih =>
  obtain ⟨k0,d⟩:=p;intro xs h e;obtain ⟨j,v,r,rfl,_,_,h1,h2⟩:=h;cases k0 with
  | str g =>
   have e:(!(g==m)&&E2 m ds)=true:=e;rw [KC] at e;show List.lookup m ((g,v) :: qh r)=none;rw [Ly];have q:¬g=m:=fun z=>by have:=e.1;rw [z,beq_self_eq_true] at this;cases this
   rw [show (m==g)=false from Lw.mpr fun z=>q z.symm];exact ih h2 e.2
  | _=>cases e
end
noncomputable def bD (m:Str) (f:Fn):Mtr where
 T := ""
 tq:=fun _ x H=>∃ a dx fs,x=.ref a/\H a=some (.ins clsAt dx fs)/\fs.lookup m=none
 r:=fun K x vs H Q=>bH f K (x :: vs) H Q NoE
 ty:=fun d=>match d with | .dict kvs=>E2 m kvs | _=>false
 f:=fun d as=>match f.ms with
  | .ino :: ms=>if qD ms as=true then match f.F (d :: as.map (·.2)) with | some (.dat x,[d'])=>some (d',x) | _=>none else none
  | _=>none
 xE:=fun K F H d a h t=>by
  cases d with
  | dict kvs=>obtain ⟨ep,xs,ea,_,r⟩:=t;exact ⟨a,ep,_,rfl,ea,Gx r h⟩
  | _=>cases h
 ok:=fun K F H d a as vs d' x Q hf ha ht hd hv q=>by
  split at hf
  ·rename_i ms hms;split at hf
   ·rename_i hm;split at hf
    ·rename_i x' d'' hF;cases hf;refine ⟨F,d :: as.map (·.2),[a],.dat x,[d'],hF,?_,hd,fun v' H' hk hr=>?_⟩
     ·rw [hms];exact ⟨a,[],rfl,rfl,ha,ht,by simp,Ar hv hm⟩
     ·exact q v' H' (fun b o n e=>hk b o e (by simp [n])) hr.2.1 hr.1
    ·cases hf
   ·cases hf
  ·cases hf
noncomputable def Fm (f:Fn):Prm where
 r:=fun K vs H Q=>∀ x dx,H x=none->H dx=none->dx≠x->bH f K (.ref x :: vs) (upd (upd H dx (.own x)) x (.ins clsAt dx [])) (fun v H2=>v=.non/\Q (.ref x) H2) NoE
 f:=fun ds=>match f.ms with
  | .ino :: ms=>if Al ms ds=true then match f.F (.dict [] :: ds) with | some (.dat .none,[d])=>some (.frs d) | _=>none else none
  | _=>none
 ok:=fun K F H ds vs pr Q hf hv hd q=>by
  split at hf
  ·rename_i ms hms;split at hf
   ·rename_i hm;split at hf
    ·rename_i d hF;cases hf;intro x dx hx hdx ne;have kp:∀ b o,H b=some o->b≠x/\upd (upd H dx (.own x)) x (.ins clsAt dx []) b=some o:=fun b o e=>by
      have n1:b≠x:=fun z=>by rw [z,hx] at e;cases e
      have n2:b≠dx:=fun z=>by rw [z,hdx] at e;cases e
      exact ⟨n1,by rw [au n1,au n2];exact e⟩
     refine ⟨fun b=>F b\/b=x,.dict [] :: ds,[x],.dat .none,[d],hF,?_,?_,fun v' H' hk hr=>?_⟩
     ·rw [hms];exact ⟨x,[],rfl,rfl,.inr rfl,⟨dx,[],aH,Lu _,rfl⟩,by simp,A1 hv hm⟩
     ·rintro b (z | rfl)
      ·cases e:H b with
       | none=>exact absurd e (hd b z)
       | some o=>rw [(kp b o e).2];exact fun z=>nomatch z
      ·rw [aH];exact fun z=>nomatch z
     ·exact ⟨hr.1,q (.ref x) H' (fun b o e=>hk b o (kp b o e).2 (by simp [(kp b o e).1])) ⟨x,rfl,hx,hr.2.1⟩⟩
    ·cases hf
   ·cases hf
  ·cases hf
section
variable {X:Cx} {CX:CXT} {k:Nat} {f:Addr} {fd:FuncData} {ps:List Str} {fn:Fn} {x m:Str} {p pos apos:Pos} {e o:Expr} {es:List Expr} {i:Nat} {t:TA}
theorem Jt {pl:Sem Bool} (he:JE X o (cU i)) (c:Cls X.K clsAt) (hm:Meth X.K clsAt m f) (F:aQ X.prog X.w X.K X.mg X.base CX k f fd ps (bH fn X.K)) (hr:eX k X.A) (hb:Binds X.K fd ps []) (hx:Passes CX X NoE) (ha:JA X (e :: es) t)
  (hst:starEach (e :: es) X.env=(false,eval e X.env) :: starEach es X.env) (hpl:(backTo pos (starEach es X.env)).any (·.1)=false)
  (ht:eval (.Call (.Attribute o m apos) (e :: es) [] pos) X.env=(do
   let ov<-eval o X.env
   standAt apos.atName
   let (f,first)<-holding [ov] (getMethod ov m pl)
   callWith pos f first (backTo pos (starEach (e :: es) X.env)) (backToKw pos (keywordEach [] X.env)))) :
  JE X (.Call (.Attribute o m apos) (e :: es) [] pos) (fun σ H Q=>cU i σ H fun x H1=>(bD m fn).tq X.K x H1/\t σ H1 fun xs H2=>(bD m fn).r X.K x xs H2 Q):=⟨fun pins s σ H Q I h=>by
 refine Bm (pl:=pl) he.h c hm F hr hb .nil hx ha.h hst hpl ht pins s σ H Q I ?_;obtain ⟨v,hv,⟨a,dx,fs,e1,e2,e3⟩,q⟩:=h;refine ⟨v,hv,a,dx,fs,e1,e2,e3,?_⟩;simp only [K6]
 exact q⟩
theorem HK {pl:Sem Bool} (he:JE X o (cU i)) (c:Cls X.K clsAt) (hm:Meth X.K clsAt m f) (F:aQ X.prog X.w X.K X.mg X.base CX k f fd ps (bH fn X.K)) (hr:eX k X.A) (hb:Binds X.K fd ps []) (hx:Passes CX X NoE)
  (ht:eval (.Call (.Attribute o m apos) [] [] pos) X.env=(do
   let ov<-eval o X.env
   standAt apos.atName
   let (f,first)<-holding [ov] (getMethod ov m pl)
   callWith pos f first (backTo pos (starEach [] X.env)) (backToKw pos (keywordEach [] X.env)))) :
  JE X (.Call (.Attribute o m apos) [] [] pos) (fun σ H Q=>cU i σ H fun x H1=>(bD m fn).tq X.K x H1/\gC σ H1 fun xs H2=>(bD m fn).r X.K x xs H2 Q):=⟨fun pins s σ H Q I h=>by
 refine yL (pl:=pl) he.h c hm F hr hb .nil hx ht pins s σ H Q I ?_;obtain ⟨v,hv,⟨a,dx,fs,e1,e2,e3⟩,q⟩:=h
 exact ⟨v,hv,a,dx,fs,e1,e2,e3,q⟩⟩
theorem eNew (M:Mk X.K clsAt f) (F:aQ X.prog X.w X.K X.mg X.base CX k f fd ps (bH fn X.K)) (hr:eX (k+1) X.A) (hg:Gl X x) (hm:X.mg x=some (.ref clsAt)) (hb:Binds X.K fd ps []) (hx:Passes CX X NoE)
  (ha:JA X (e :: es) t) (hdb:(x==("__debug__" : Str))=false) (he:starEach (e :: es) X.env=(false,eval e X.env) :: starEach es X.env) (hpl:(backTo pos (starEach es X.env)).any (·.1)=false) :
  JE X (.Call (.Name x p) (e :: es) [] pos) (tCB ((Fm fn).r X.K) t):=⟨fun pins s σ H Q I h=>by
 refine Bg M F hr hg hm hb .nil hx ha.h hdb he hpl pins s σ H Q I ?_;show t σ H fun vs H1=>_;simp only [K6]
 exact h⟩
end
open PySem PySem.Spec PyProof.Rows
noncomputable def vV (d:PyData):Bool:=noD d&&decide (d.depth<=32)
noncomputable def tF (ds:List PyData) (x:PyData):Bool:=ds.any fun d=>PyData.eqv d x
noncomputable def ngB (neg b:Bool):Bool:=if neg then !b else b
def Jv (neg:Bool) (K:Fg):R2:=rOr (fun x y H Q=>∃ i j,x=.str i/\y=.str j/\Q (.bl (ngB neg (!(Builtin.Str.occurrences j i 0 j.length 1).isEmpty))) H)
 fun x y H Q=>∃ (p:Addr) (xs:List V) (F:Addr->Prop) (d:PyData) (ds:List PyData),y=.ref p/\(SqL K H p xs\/SqT K H p xs)/\Vw K F H d x/\DmL K F H ds xs/\vV d=true/\iF ds=true/\Q (.bl (ngB neg (tF ds d))) H
noncomputable def inD (neg:Bool):PyData->PyData->Option PR
 | .str i,.str j=>some (.dat (.bool (ngB neg (!(Builtin.Str.occurrences j i 0 j.length 1).isEmpty))))
 | x,.list ds=>if vV x=true/\iF ds=true then some (.dat (.bool (ngB neg (tF ds x)))) else none
 | x,.tuple ds=>if vV x=true/\iF ds=true then some (.dat (.bool (ngB neg (tF ds x)))) else none
 | _,_=>none
noncomputable def E9 (neg:Bool):Prm:=Prm.two (Jv neg) (inD neg) fun K F H x y u v pr Q hf hx hy hd q=>by
 unfold inD at hf;split at hf
 ·cases hf;exact .inl ⟨_,_,(vStr hx).1,(vStr hy).1,q _ H (bj.rf H) rfl⟩
 ·split at hf
  ·rename_i h;cases hf;obtain ⟨a,us,rfl,s1,z1,d1⟩:=sW hy;exact .inr ⟨a,us,F,_,_,rfl,.inl s1,hx,d1,h.1,h.2,q _ H (bj.rf H) rfl⟩
  ·cases hf
 ·split at hf
  ·rename_i h;cases hf;obtain ⟨a,us,rfl,s1,z1,d1⟩:=vR hy;exact .inr ⟨a,us,F,_,_,rfl,.inr s1,hx,d1,h.1,h.2,q _ H (bj.rf H) rfl⟩
  ·cases hf
 ·cases hf
noncomputable abbrev inP:Prm:=E9 false
noncomputable abbrev pE:Prm:=E9 true
open Classical in
noncomputable def eqR (h:Heap) (x:PyData) (u:Value):Bool:=if q:∃ d as,Reads h u d as then PyData.eqv (Classical.choose q) x else false
theorem zK {h:Heap} {x d:PyData} {u:Value} {as:List Addr} (r:Reads h u d as):eqR h x u=PyData.eqv d x:=by
 have q:∃ d as,Reads h u d as:=⟨d,as,r⟩;unfold eqR;rw [dif_pos q];obtain ⟨bs,r2⟩:=Classical.choose_spec q;rw [(PySem.Reads.unique r _ _ r2).1]
section
variable {X:Cx} {pins:List (Addr×Obj)} {σ:St} {s:Shared} {H:Hp} {F:Addr->Prop}
theorem km (I:Inv X pins σ H s) (x:PyData):∀ {ds:List PyData} {xs:List V} {us:List Value},DmL X.K F H ds xs->iF ds=true->Vals xs us->us.any (eqR s.heap x)=tF ds x
 | [],xs,us,h,_,r=>by rw [show xs=[] from h] at r;cases r;rfl
 | d :: ds,xs,us,h,n,r=>by
  obtain ⟨v,t,rfl,h1,h2⟩:=h;have n':noD d=true/\iF ds=true:=by simpa [iF] using n
  cases r with
  | cons r1 r2 =>
   obtain ⟨as,ra⟩:=h1.reads I n'.1 r1;rw [List.any_cons,zK ra,km I x h2 n'.2 r2];rfl
theorem kn (I:Inv X pins σ H s) {A:Around} {x:PyData} {b:Value} {bs:List Addr} (rb:Reads s.heap b x bs) (hb:x.canLay0=true) (hu:A.units+x.depth < cLine):∀ {ds:List PyData} {xs:List V} {us:List Value},DmL X.K F H ds xs->iF ds=true->Vals xs us->∀ u∈us,SeqAt.EqAt A s u b (eqR s.heap x u)
 | [],xs,us,h,_,r=>by rw [show xs=[] from h] at r;cases r;intro u hu;cases hu
 | d :: ds,xs,us,h,n,r=>by
  obtain ⟨v,t,rfl,h1,h2⟩:=h;have n':noD d=true/\iF ds=true:=by simpa [iF] using n
  cases r with
  | cons r1 r2 =>
   intro u hm;rcases Kd.mp hm with rfl | hm
   ·obtain ⟨as,ra⟩:=h1.reads I n'.1 r1;rw [zK ra];exact SeqAt.eqAt_reads d x A s _ b as bs ra rb (h1.lay n'.1) hb (by omega)
   ·exact kn I rb hb hu h2 n'.2 r2 u hm
end
theorem eU {X:Cx} (hu:X.A.units+64 < cLine):OpR X (compareOp .In) (fun x y=>inP.r X.K [x,y]):=by
 refine orR Ca ?_;intro pins s σ H x y v u Q I rx ry h;obtain ⟨p,xs,F,d,ds,rfl,hq,hd,hs,o1,o2,q⟩:=h;have o1':noD d=true/\d.depth<=32:=by simpa [vV] using o1
 cases ry;obtain ⟨bs,rb⟩:=hd.reads I o1'.1 rx;rcases hq with hq | hq
 ·obtain ⟨its,r,pl,hz⟩:=I.list hq;refine SeqAt.in_listAt (eqR s.heap d) pl.isList (fun w hw=>kn I rb (hd.lay o1'.1) (by have:X.A.in1.units=X.A.units+1:=rfl;omega) hs o2 r w (by simpa using hw)) ⟨.bl _,H,I,rfl,?_⟩;rw [show its.toArray.any (eqR s.heap d)=its.any (eqR s.heap d) by simp,km I d hs o2 r];exact q
 ·obtain ⟨its,r,pl,hz⟩:=I.tuple hq;refine SeqAt.in_tupleAt (eqR s.heap d) pl (fun w hw=>kn I rb (hd.lay o1'.1) (by have:X.A.in1.units=X.A.units+1:=rfl;omega) hs o2 r w (by simpa using hw)) ⟨.bl _,H,I,rfl,?_⟩;rw [show its.toArray.any (eqR s.heap d)=its.any (eqR s.heap d) by simp,km I d hs o2 r];exact q
theorem ph {X:Cx} (hu:X.A.units+64 < cLine):OpR X (compareOp .NotIn) (fun x y=>pE.r X.K [x,y]):=by
 refine orR wz ?_;intro pins s σ H x y v u Q I rx ry h;obtain ⟨p,xs,F,d,ds,rfl,hq,hd,hs,o1,o2,q⟩:=h;have o1':noD d=true/\d.depth<=32:=by simpa [vV] using o1
 cases ry;obtain ⟨bs,rb⟩:=hd.reads I o1'.1 rx;rcases hq with hq | hq
 ·obtain ⟨its,r,pl,hz⟩:=I.list hq;refine SeqAt.notIn_listAt (eqR s.heap d) pl.isList (fun w hw=>kn I rb (hd.lay o1'.1) (by have:X.A.in1.units=X.A.units+1:=rfl;omega) hs o2 r w (by simpa using hw)) ⟨.bl _,H,I,rfl,?_⟩;rw [show its.toArray.any (eqR s.heap d)=its.any (eqR s.heap d) by simp,km I d hs o2 r];exact q
 ·obtain ⟨its,r,pl,hz⟩:=I.tuple hq;refine SeqAt.notIn_tupleAt (eqR s.heap d) pl (fun w hw=>kn I rb (hd.lay o1'.1) (by have:X.A.in1.units=X.A.units+1:=rfl;omega) hs o2 r w (by simpa using hw)) ⟨.bl _,H,I,rfl,?_⟩;rw [show its.toArray.any (eqR s.heap d)=its.any (eqR s.heap d) by simp,km I d hs o2 r];exact q
theorem aQ.no {P:Program} {w:World} {K:Fg} {mg:Str->Option Value} {base:Heap} {k:Nat} {f:Addr} {fd:FuncData} {ps:List Str} {sp:Sp} {x qual:Str} {st:Stmt} {N:List Str} (F:Fun K x qual st f fd) (S:ai N ps (aa st)) (h:∀ vs H Q E,¬sp vs H Q E):aQ P w K mg base CX0 (k+1) f fd ps sp :=
 F.okJ S (fun vs H Q E z=>(h vs H Q E z).elim) (fun cdv A outer s H vs Q E hr z=>(h vs H Q E z).elim)
open PySem
structure Kn where
 nx:En->Prop
 rt:RV->En->Prop
 bk:En->Prop
 ct:En->Prop
def Kn.at (E:Kn):Out->Prop | .nx e=>E.nx e | .rt r e=>E.rt r e | .bk e=>E.bk e | .ct e=>E.ct e
def WS (gd:List PyData) (s:XS) (env:En) (E:Kn):Prop:=∃ o,dS gd s env=some o/\E.at o
def WE (gd:List PyData) (e:XE) (env:En) (Q:RV->En->Prop):Prop:=∃ r e',dE gd e env=some (r,e')/\Q r e'
def WA (gd:List PyData) (e:XA) (env:En) (Q:List AV->En->Prop):Prop:=∃ r e',dA gd e env=some (r,e')/\Q r e'
def WT (gd:List PyData) (e:XT) (env:En) (Q:Bool->En->Prop):Prop:=∃ r e',dT gd e env=some (r,e')/\Q r e'
def WI (gd:List PyData) (e:XI) (env:En) (Q:List PyData->Option Nat->En->Prop):Prop:=∃ ds lk e',dI gd e env=some (ds,lk,e')/\Q ds lk e'
def WF (f:Fn) (ds:List PyData) (Q:PR->List PyData->Prop):Prop:=∃ pr outs,f.F ds=some (pr,outs)/\Q pr outs
def WPr (p:Prm) (avs:List AV) (e:En) (Q:RV->En->Prop):Prop:=∃ ds pr,aU e avs=some ds/\p.f ds=some pr/\Q pr.rv e
def jE (i:Nat) (r:RV) (e:En) (N:En->Prop):Prop:=∃ d,r.av=.dat d/\free e i=true/\N (e.set i (.dat d))
def xf (i:Nat) (r:RV) (e:En) (N:En->Prop):Prop:=∃ d,r=.frs d/\free e i=true/\N (e.set i (.own d))
def Hh (b:PyData->En->Option Out) (ds:List PyData) (lk:Option Nat) (e1:En) (E:Kn):Prop:=∃ o,forL b ds (cf e1 lk)=some o/\E.at (o.map (lkd e1 lk) (aE e1 lk))
def oa (f:Fn) (avs:List AV) (e:En) (Q:RV->En->Prop):Prop:=∃ rv e',yC f avs e=some (rv,e')/\Q rv e'
def ES (ms:List PM) (QF:PR->List PyData->Prop) (r:RV) (e:En):Prop:=∃ pr outs,r.pr=some pr/\kM ms e=some outs/\QF pr outs
def yg (ms:List PM) (QF:PR->List PyData->Prop) (e:En):Prop:=∃ outs,kM ms e=some outs/\QF (.dat .none) outs
def Ea (m:yz) (i:Nat) (v:PyData) (rk:RV) (e2:En) (N:En->Prop):Prop:=∃ dk d d',rk.view e2=some dk/\aT e2 i=some d/\m.f d dk v=some d'/\N (gT e2 i d')
def EO (gd:List PyData) (m:yz) (i:Nat) (a:XE) (r:RV) (e:En) (N:En->Prop):Prop:=∃ v,r.av=.dat v/\(aT e i).isSome=true/\WE gd a e fun rk e2=>Ea m i v rk e2 N
def Aa (m:Mtd) (r:RV) (avs:List AV) (e2:En) (Q:RV->En->Prop):Prop:=∃ d ds pr,r.view e2=some d/\aU e2 avs=some ds/\m.f d ds=some pr/\Q pr.rv e2
def EU (gd:List PyData) (m:Mtd) (as:XA) (r:RV) (e:En) (Q:RV->En->Prop):Prop:=∃ d0,r.view e=some d0/\m.ty d0=true/\WA gd as e fun avs e2=>Aa m r avs e2 Q
def WMr (m:Mtr) (i:Nat) (avs:List AV) (e2:En) (Q:RV->En->Prop):Prop:=∃ d ds d' x,aT e2 i=some d/\cq e2 avs=some ds/\m.f d ds=some (d',x)/\Q (.dat x) (gT e2 i d')
def WTp (mk:List PyData->RV) (avs:List AV) (e:En) (Q:RV->En->Prop):Prop:=∃ ds,oS avs=some ds/\ds.length<=sizeLine/\Q (mk ds) e
def E4 (is:List Nat) (r:RV) (e:En) (N:En->Prop):Prop:=∃ ds e2,r.av=.dat (.tuple ds)/\gU e is ds=some e2/\N e2
section
variable {gd:List PyData} {env e1:En} {E:Kn} {Q:RV->En->Prop} {QA:List AV->En->Prop} {QT:Bool->En->Prop} {QI:List PyData->Option Nat->En->Prop} {i:Nat} {d:PyData} {a b c:XE} {as:XA} {s t:XS} {p:Prm} {f:Fn} {x y:XT}
theorem cG {ms:List PM} {n:Nat} {ds:List PyData} {QF:PR->List PyData->Prop} (hl:ds.length=ms.length) (h:WS gd s (aw ms ds n) ⟨yg ms QF,ES ms QF,fun _=>False,fun _=>False⟩):WF (bX gd ms n s) ds QF:=by
 obtain ⟨o,ho,q⟩:=h;unfold WF bX;simp only;rw [Km hl,ho];cases o with
 | nx e=>obtain ⟨outs,h1,h2⟩:=q;simp only [h1];exact ⟨_,_,rfl,h2⟩
 | rt r e=>obtain ⟨pr,outs,h1,h2,h3⟩:=q;simp only [h1,h2];exact ⟨_,_,rfl,h3⟩
 | bk e=>exact absurd q id
 | ct e=>exact absurd q id
theorem pV (h:WS gd s env { E with nx:=fun e=>WS gd t e E }):WS gd (.seq s t) env E:=by
 obtain ⟨o,ho,q⟩:=h;unfold WS;simp only [dS,ho];cases o with
 | nx e=>exact q
 | rt r e=>exact ⟨_,rfl,q⟩
 | bk e=>exact ⟨_,rfl,q⟩
 | ct e=>exact ⟨_,rfl,q⟩
theorem fc (h:∀ N:En->Prop,N=(fun e=>WS gd t e E)->WS gd s env { E with nx:=N }):WS gd (.seq s t) env E:=pV (h _ rfl)
theorem tI {e:En} {x y:AV} {i:Int} {xs:List PyData} (h1:aU e [x,y]=some [.list xs,.int i]) (h:atI xs i=some d) (q:Q (.dat d) e):WPr ixP [x,y] e Q:=⟨_,.dat d,h1,by show (atI xs i).map PR.dat=_;rw [h];rfl,q⟩
theorem wU {e:En} {x y:AV} {i:Int} {z:Str} {c:Nat} (h1:aU e [x,y]=some [.str z,.int i]) (h:atI z.cps.toList i=some c) (q:Q (.dat (.str ⟨#[c]⟩)) e):WPr ixP [x,y] e Q:=⟨_,.dat (.str ⟨#[c]⟩),h1,by show (atI z.cps.toList i).map _=_;rw [h];rfl,q⟩
theorem Df (h:E.nx env):WS gd .skip env E:=⟨_,rfl,h⟩
theorem HS (h:E.bk env):WS gd .brk env E:=⟨_,rfl,h⟩
theorem Hb (h:E.ct env):WS gd .cnt env E:=⟨_,rfl,h⟩
theorem D5 (h:E.rt (.dat .none) env):WS gd .Fe env E:=⟨_,rfl,h⟩
theorem zY (h:WE gd a env fun r e=>jE i r e E.nx):WS gd (.bf i a) env E:=by
 obtain ⟨r,e',h1,d,h2,h3,h4⟩:=h;unfold WS;simp only [dS,h1,h2];rw [Km h3];exact ⟨_,rfl,h4⟩
theorem Ep (h:WE gd a env fun r e=>xf i r e E.nx):WS gd (.qp i a) env E:=by
 obtain ⟨r,e',h1,d,rfl,h3,h4⟩:=h;unfold WS;simp only [dS,h1];rw [Km h3];exact ⟨_,rfl,h4⟩
theorem Dz {is:List Nat} (h:WE gd a env fun r e=>E4 is r e E.nx):WS gd (.CF is a) env E:=by
 obtain ⟨r,e',h1,ds,e2,h2,h3,h4⟩:=h;unfold WS;simp only [dS,h1,h2,h3];exact ⟨_,rfl,h4⟩
theorem Eg (h:WE gd a env fun _ e=>E.nx e):WS gd (.drop a) env E:=by
 obtain ⟨r,e',h1,h2⟩:=h;unfold WS;simp only [dS,h1];exact ⟨_,rfl,h2⟩
theorem Gv (h:WE gd a env E.rt):WS gd (.ret a) env E:=by
 obtain ⟨r,e',h1,h2⟩:=h;unfold WS;simp only [dS,h1];exact ⟨_,rfl,h2⟩
theorem F5 (h:WT gd x env fun b e=>if b=true then WS gd s e E else WS gd t e E):WS gd (.ifs x s t) env E:=by
 obtain ⟨b,e',h1,h2⟩:=h;unfold WS;simp only [dS,h1];cases b with
 | true=>exact h2
 | false=>exact h2
theorem Jm {it:XI} (h:WI gd it env fun ds lk e=>Hh (mN i (dS gd s)) ds lk e E):WS gd (.fr i it s) env E:=by
 obtain ⟨ds,lk,e',h1,o,h2,h3⟩:=h;unfold WS;simp only [dS,h1,h2];exact ⟨_,rfl,h3⟩
theorem HE {is:List Nat} {it:XI} (h:WI gd it env fun ds lk e=>Hh (lC is (dS gd s)) ds lk e E):WS gd (.frT is it s) env E:=by
 obtain ⟨ds,lk,e',h1,o,h2,h3⟩:=h;unfold WS;simp only [dS,h1,h2];exact ⟨_,rfl,h3⟩
theorem Fv {m:yz} (h:WE gd b env fun r e=>EO gd m i a r e E.nx):WS gd (.sto m i a b) env E:=by
 obtain ⟨r,e',h1,v,h2,h3,rk,e2,h4,dk,d,d',h5,h6,h7,h8⟩:=h;obtain ⟨d0,hd0⟩:=Option.isSome_iff_exists.mp h3;unfold WS;simp only [dS,h1,h2,hd0,h4,h5,h6,h7];exact ⟨_,rfl,h8⟩
theorem E1 {n:Nat} (Inv:Nat->En->Prop) (m:Nat) (hm:m < n) (h0:Inv m env) (hs:∀ k e,k<=m->Inv k e->WT gd x e fun b e1=>if b=true then WS gd s e1 ⟨fun e2=>∃ j,j < k/\Inv j e2,E.rt,E.nx,fun e2=>∃ j,j < k/\Inv j e2⟩ else E.nx e1):WS gd (.wh n x s) env E:=by
 unfold WS;simp only [dS];induction n generalizing m env with
 | zero=>omega
 | succ n ih =>
  unfold whL;obtain ⟨b,e1,h1,h2⟩:=hs m env (Ke _) h0;rw [h1];cases b with
  | false=>exact ⟨_,rfl,h2⟩
  | true =>
   rw [Km rfl] at h2;obtain ⟨o,h3,h4⟩:=h2;simp only [h3];have step:∀ e2,(∃ j,j < m/\Inv j e2)->∃ o,whL (dT gd x) (dS gd s) n e2=some o/\E.at o:=fun e2 ⟨j,hj,hi⟩=>ih j (by omega) hi fun k e hk=>hs k e (by omega);cases o with
   | nx e=>exact step e h4
   | ct e=>exact step e h4
   | bk e=>exact ⟨_,rfl,h4⟩
   | rt r e=>exact ⟨_,rfl,h4⟩
theorem w_var (h:env[i]?=some (.dat d)) (q:Q (.dat d) env):WE gd (.var i) env Q:=⟨_,_,by simp only [dE,h],q⟩
theorem CJ (h:env[i]?=some (.own d)) (q:Q (.bor i) env):WE gd (.var i) env Q:=⟨_,_,by simp only [dE,h],q⟩
theorem CZ (h:env[i]?=some (.ino d)) (q:Q (.bor i) env):WE gd (.var i) env Q:=⟨_,_,by simp only [dE,h],q⟩
theorem C2 (h:env[i]?=some (.ro d)) (q:Q (.bor i) env):WE gd (.var i) env Q:=⟨_,_,by simp only [dE,h],q⟩
theorem GJ (h:env[i]?=some (.own d)) (q:Q (.dat d) (env.set i (.dat d))):WE gd (.mov i) env Q:=⟨_,_,by simp only [dE,h],q⟩
theorem FN (h:env[i]?=some (.own d)) (q:Q (.frs d) (env.set i .un)):WE gd (.tke i) env Q:=⟨_,_,by simp only [dE,h],q⟩
theorem yF {c:Cst} (q:Q (.dat c.d) env):WE gd (.cst c) env Q:=⟨_,_,rfl,q⟩
theorem FZ {g:Nat} (h:gd[g]?=some d) (q:Q (.dat d) env):WE gd (.glb g) env Q:=⟨_,_,by simp only [dE,h],q⟩
theorem Au (h:WA gd as env fun avs e=>WPr p avs e Q):WE gd (.prm p as) env Q:=by
 obtain ⟨avs,e',h1,ds,pr,h2,h3,h4⟩:=h;exact ⟨_,_,by simp only [dE,h1,h2,h3],h4⟩
theorem Eu (h:WA gd as env fun avs e=>oa f avs e Q):WE gd (.call f as) env Q:=by
 obtain ⟨avs,e',h1,rv,e2,h2,h3⟩:=h;exact ⟨_,_,by simp only [dE,h1];exact h2,h3⟩
theorem ab {avs:List AV} {ds:List PyData} {is:List Nat} (h1:jJ e1 f.ms avs=some ds) (h2:dt f.ms avs=is) (h:WF f ds fun pr outs=>ckA is (uw f.ms avs) outs.length=true/\Q pr.rv (dG e1 is outs)):oa f avs e1 Q:=by
 obtain ⟨pr,outs,h3,h4,h5⟩:=h;subst h2;unfold oa yC;simp only [h1,h3];rw [Km h4];exact ⟨_,_,rfl,h5⟩
theorem Hs {m:Mtd} {o:XE} (h:WE gd o env fun r e=>EU gd m as r e Q):WE gd (.met m o as) env Q:=by
 obtain ⟨r,e',h1,d0,h2,h3,avs,e2,h4,d,ds,pr,h5,h6,h7,h8⟩:=h;exact ⟨_,_,by simp only [dE,h1,h2];rw [Km h3];simp only [h4,h5,h6,h7],h8⟩
theorem Ga {m:Mtr} (h0:aT env i=some d) (h1:m.ty d=true) (h:WA gd as env fun avs e2=>WMr m i avs e2 Q):WE gd (.mtr m i as) env Q:=by
 obtain ⟨avs,e2,h4,d,ds,d',x,h5,h6,h7,h8⟩:=h;exact ⟨_,_,by simp only [dE,h0];rw [Km h1];simp only [h4,h5,h6,h7],h8⟩
theorem B9 (h:WA gd as env fun avs e=>WTp (fun ds=>.dat (.tuple ds)) avs e Q):WE gd (.tup as) env Q:=by
 obtain ⟨avs,e2,h4,ds,h5,h6,h7⟩:=h;exact ⟨_,_,by simp only [dE,h4,h5];rw [Km h6],h7⟩
theorem DV (h:WA gd as env fun avs e=>WTp (fun ds=>.frs (.list ds)) avs e Q):WE gd (.lst as) env Q:=by
 obtain ⟨avs,e2,h4,ds,h5,h6,h7⟩:=h;exact ⟨_,_,by simp only [dE,h4,h5];rw [Km h6],h7⟩
theorem Hd (h:WT gd x env fun k e=>if k=true then WE gd a e Q else WE gd b e Q):WE gd (.ifx x a b) env Q:=by
 obtain ⟨k,e',h1,h2⟩:=h;unfold WE;simp only [dE,h1];cases k with
 | true=>exact h2
 | false=>exact h2
theorem DU (h:WE gd a env fun r e=>∃ k,r=.dat (.bool k)/\if k=true then WE gd b e Q else Q (.dat (.bool false)) e):WE gd (.uL a b) env Q:=by
 obtain ⟨r,e',h1,k,rfl,h2⟩:=h;unfold WE;cases k with
 | true=>simp only [dE,h1];exact h2
 | false=>simp only [dE,h1];exact ⟨_,_,rfl,h2⟩
theorem Fx (h:WE gd a env fun r e=>∃ k,r=.dat (.bool k)/\if k=true then Q (.dat (.bool true)) e else WE gd b e Q):WE gd (.orv a b) env Q:=by
 obtain ⟨r,e',h1,k,rfl,h2⟩:=h;unfold WE;cases k with
 | true=>simp only [dE,h1];exact ⟨_,_,rfl,h2⟩
 | false=>simp only [dE,h1];exact h2
theorem D1 (h:WE gd a env fun r e=>∃ k,r=.dat (.bool k)/\Q (.dat (.bool (!k))) e):WE gd (.BU a) env Q:=by
 obtain ⟨r,e',h1,k,rfl,h2⟩:=h;exact ⟨_,_,by simp only [dE,h1],h2⟩
theorem FJ {p':Prm} (h:WE gd a env fun r e=>WE gd b e fun r2 e2=>∃ x y k,r.av=.dat x/\r2.av=.dat y/\p.f [x,y]=some (.dat (.bool k))/\if k=true then WE gd c e2 fun r3 e3=>∃ z pr,r3.av=.dat z/\p'.f [y,z]=some pr/\Q pr.rv e3 else Q (.dat (.bool false)) e2):WE gd (.chn p p' a b c) env Q:=by
 obtain ⟨r,e',h1,r2,e2,h2,x,y,k,h3,h4,h5,h6⟩:=h;unfold WE;cases k with
 | true =>
  rw [Km rfl] at h6;obtain ⟨r3,e3,h7,z,pr,h8,h9,h10⟩:=h6;simp only [dE,h1,h2,h3,h4,h5,h7,h8,h9];exact ⟨_,_,rfl,h10⟩
 | false =>
  rw [Kr (by decide)] at h6;simp only [dE,h1,h2,h3,h4,h5];exact ⟨_,_,rfl,h6⟩
theorem GZ {g:Int->Int->Prm} (h:WE gd a env fun r e=>WE gd b e fun r2 e2=>∃ i,r2=.dat (.int i)/\WE gd c e2 fun r3 e3=>∃ j,r3=.dat (.int j)/\∃ d pr,r.view e3=some d/\(g i j).f [d]=some pr/\Q pr.rv e3):WE gd (.sl2 g a b c) env Q:=by
 obtain ⟨r,e',h1,r2,e2,h2,i,rfl,r3,e3,h3,j,rfl,d,pr,h4,h5,h6⟩:=h;exact ⟨_,_,by simp only [dE,h1,h2,h3,h4,h5],h6⟩
theorem qT (h:∃ x e1,dF gd as Str.empty env=some (x,e1)/\Q (.dat (.str x)) e1):WE gd (.fst as) env Q:=by
 obtain ⟨x,e1,h1,h2⟩:=h;exact ⟨_,_,by simp only [dE,h1],h2⟩
def Ct (st:PyData->En->Option (Option PyData×En)) (js:List Nat) (ds:List PyData) (lk:Option Nat) (e1:En) (Q:RV->En->Prop):Prop :=
 ∃ ys ec,rN st ds (fT e1 lk js)=some (ys,ec)/\Q (.frs (.list ys)) (aW e1 js ec)
theorem Hr {js:List Nat} {it:XI} (hn:Bj js=true) (h:WI gd it env fun ds lk e1=>Ct (j5 (dT gd x) (dE gd a)) js ds lk e1 Q):WE gd (.cmp js it x a) env Q:=by
 obtain ⟨ds,lk,e1,h1,ys,ec,h2,h3⟩:=h;refine ⟨_,_,?_,h3⟩;simp only [dE,h1];rw [Km (jS hn),h2]
theorem DM {n:List Str} {js:List Nat} {it:XI} (hn:Bj js=true) (h:WI gd it env fun ds lk e1=>Ct (g7 n.length (dE gd a)) js ds lk e1 Q):WE gd (.zV n js it a) env Q:=by
 obtain ⟨ds,lk,e1,h1,ys,ec,h2,h3⟩:=h;refine ⟨_,_,?_,h3⟩;simp only [dE,h1];rw [Km (jS hn),h2]
def rl (st:PyData->En->Option (Option PyData×En)) (d:PyData) (ec:En) (Q:Option PyData->En->Prop):Prop:=∃ y e,st d ec=some (y,e)/\Q y e
theorem aF {QS:Option PyData->En->Prop} {ec:En} (h:WT gd x (.dat d :: ec) fun k e2=>if k=true then WE gd a e2 fun r e3=>∃ y,r.av=.dat y/\QS (some y) e3.tail else QS none e2.tail):rl (j5 (dT gd x) (dE gd a)) d ec QS:=by
 obtain ⟨k,e2,h1,h2⟩:=h;unfold rl j5;rw [h1];cases k with
 | true =>
  rw [Km rfl] at h2;obtain ⟨r,e3,h3,y,h4,h5⟩:=h2;simp only [h3,h4];exact ⟨_,_,rfl,h5⟩
 | false =>
  rw [Kr (by decide)] at h2;exact ⟨_,_,rfl,h2⟩
theorem rD {QS:Option PyData->En->Prop} {ec:En} {n:Nat} {xs:List PyData} (hl:xs.length=n) (h:WE gd a (xs.map .dat++ec) fun r e3=>∃ y,r.av=.dat y/\QS (some y) (e3.drop n)):rl (g7 n (dE gd a)) (.tuple xs) ec QS:=by
 obtain ⟨r,e3,h3,y,h4,h5⟩:=h;unfold rl g7;simp only;rw [Km hl];simp only [h3,h4];exact ⟨_,_,rfl,h5⟩
theorem bT {st:PyData->En->Option (Option PyData×En)} {js:List Nat} {ds:List PyData} {lk:Option Nat} (Inv:Nat->List PyData->En->Prop) (h0:Inv 0 [] (fT e1 lk js))
  (hs:∀ i d ys ec,ds[i]?=some d->Inv i ys ec->rl st d ec fun y e=>Inv (i+1) (ys++y.toList) e)
  (hq:∀ ys ec,Inv ds.length ys ec->Q (.frs (.list ys)) (aW e1 js ec)):Ct st js ds lk e1 Q:=by
 have key:∀ (rest:List PyData) (i:Nat) (ys:List PyData) (ec:En),ds.drop i=rest->i<=ds.length->Inv i ys ec->∃ zs ec',rN st rest ec=some (zs,ec')/\Inv ds.length (ys++zs) ec':=by
  intro rest;induction rest with
  | nil =>
   intro i ys ec hd hi hI;have:ds.length<=i:=List.drop_eq_nil_iff.mp hd;have:i=ds.length:=by omega
   subst this;exact ⟨[],ec,rfl,by rw [K6];exact hI⟩
  | cons d rest ih =>
   intro i ys ec hd hi hI;have hlt:i < ds.length:=by
    apply Classical.byContradiction;intro h;rw [List.drop_eq_nil_iff.mpr (by omega)] at hd;cases hd
   rw [Lr hlt] at hd;injection hd with hd1 hd2;obtain ⟨y,e,h1,h2⟩:=hs i d ys ec (by rw [J9 hlt,hd1]) hI;obtain ⟨zs,ec',h3,h4⟩:=ih (i+1) _ e hd2 hlt h2;refine ⟨y.toList++zs,ec',?_,by rw [<- Kq];exact h4⟩;unfold rN;simp only [h1,h3]
 obtain ⟨zs,ec,h1,h2⟩:=key ds 0 [] _ rfl (Lu _) h0;exact ⟨zs,ec,h1,hq zs ec h2⟩
def WB (b:PyData->En->Option Out) (d:PyData) (e:En) (E:Kn):Prop:=∃ o,b d e=some o/\E.at o
theorem Bp {e:En} (hf:free e i=true) (h:WS gd s (e.set i (.dat d)) E):WB (mN i (dS gd s)) d e E:=by
 obtain ⟨o,h1,h2⟩:=h;exact ⟨o,by unfold mN;rw [Km hf];exact h1,h2⟩
theorem zQ {e e2:En} {is:List Nat} {xs:List PyData} (hf:gU e is xs=some e2) (h:WS gd s e2 E):WB (lC is (dS gd s)) (.tuple xs) e E:=by
 obtain ⟨o,h1,h2⟩:=h;exact ⟨o,by unfold lC;simp only [hf];exact h1,h2⟩
theorem ku {b:PyData->En->Option Out} {ds:List PyData} {lk:Option Nat} (Inv:Nat->En->Prop) (h0:Inv 0 (cf e1 lk))
  (hs:∀ i d e,ds[i]?=some d->Inv i e->WB b d e ⟨Inv (i+1),fun r e=>E.rt (r.soft (lkd e1 lk)) (aE e1 lk e),fun e=>E.nx (aE e1 lk e),Inv (i+1)⟩)
  (hq:∀ e,Inv ds.length e->E.nx (aE e1 lk e)):Hh b ds lk e1 E:=by
 have key:∀ (rest:List PyData) (i:Nat) (e:En),ds.drop i=rest->i<=ds.length->Inv i e->∃ o,forL b rest e=some o/\E.at (o.map (lkd e1 lk) (aE e1 lk)):=by
  intro rest;induction rest with
  | nil =>
   intro i e hd hi hI;have:ds.length<=i:=List.drop_eq_nil_iff.mp hd;have:i=ds.length:=by omega
   subst this;exact ⟨_,rfl,hq e hI⟩
  | cons d rest ih =>
   intro i e hd hi hI;have hlt:i < ds.length:=by
    apply Classical.byContradiction;intro h;rw [List.drop_eq_nil_iff.mpr (by omega)] at hd;cases hd
   rw [Lr hlt] at hd;injection hd with hd1 hd2;obtain ⟨o,h1,h2⟩:=hs i d e (by rw [J9 hlt,hd1]) hI;unfold forL;simp only [h1];cases o with
   | nx e'=>exact ih (i+1) e' hd2 hlt h2
   | ct e'=>exact ih (i+1) e' hd2 hlt h2
   | bk e'=>exact ⟨_,rfl,h2⟩
   | rt r e'=>exact ⟨_,rfl,h2⟩
 exact key ds 0 _ rfl (Lu _) h0
theorem uv (q:QA [] env):WA gd .nil env QA:=⟨_,_,rfl,q⟩
theorem wL (h:WE gd a env fun r e=>WA gd as e fun avs e2=>QA (r.av :: avs) e2):WA gd (.cons a as) env QA:=by
 obtain ⟨r,e',h1,avs,e2,h2,h3⟩:=h;exact ⟨_,_,by simp only [dA,h1,h2],h3⟩
theorem HX (h:WE gd a env fun r e=>∃ k,r=.dat (.bool k)/\QT k e):WT gd (.tst a) env QT:=by
 obtain ⟨r,e',h1,k,rfl,h2⟩:=h;exact ⟨_,_,by simp only [dT,h1],h2⟩
theorem Gb (h:WE gd a env fun r e=>∃ d,r.view e=some d/\Fq d=false/\QT (Gw d) e):WT gd (.tru a) env QT:=by
 obtain ⟨r,e',h1,d,h2,h4,h3⟩:=h;exact ⟨_,e',by simp only [dT,h1,h2,h4];rfl,h3⟩
theorem w_and (h:WT gd x env fun k e=>if k=true then WT gd y e QT else QT false e):WT gd (.and x y) env QT:=by
 obtain ⟨k,e',h1,h2⟩:=h;unfold WT;cases k with
 | true=>simp only [dT,h1];exact h2
 | false=>simp only [dT,h1];exact ⟨_,_,rfl,h2⟩
theorem w_or (h:WT gd x env fun k e=>if k=true then QT true e else WT gd y e QT):WT gd (.or x y) env QT:=by
 obtain ⟨k,e',h1,h2⟩:=h;unfold WT;cases k with
 | true=>simp only [dT,h1];exact ⟨_,_,rfl,h2⟩
 | false=>simp only [dT,h1];exact h2
theorem w_not (h:WT gd x env fun k e=>QT (!k) e):WT gd (.not x) env QT:=by
 obtain ⟨k,e',h1,h2⟩:=h;exact ⟨_,_,by simp only [dT,h1],h2⟩
theorem HC (h:QT true env):WT gd .yes env QT:=⟨_,_,rfl,h⟩
def BO (r:RV) (e:En) (QI:List PyData->Option Nat->En->Prop):Prop:=(∃ ds,r.av=.dat (.list ds)/\QI ds none e)\/∃ i ds,r.av=.bor i/\cont e i=some (.list ds)/\QI ds (some i) e
theorem Jl (h:WE gd a env fun r e=>BO r e QI):WI gd (.lst a) env QI:=by
 obtain ⟨r,e',h1,⟨ds,h2,h3⟩ | ⟨i,ds,h2,h3,h4⟩⟩:=h
 ·exact ⟨_,_,_,by simp only [dI,h1,h2],h3⟩
 ·exact ⟨_,_,_,by simp only [dI,h1,h2,h3],h4⟩
theorem fU {r:RV} {e:En} {ds:List PyData} (h:r.av=.dat (.list ds)) (q:QI ds none e):BO r e QI:=.inl ⟨ds,h,q⟩
theorem HR {r:RV} {e:En} {ds:List PyData} (h:r.av=.bor i) (hc:cont e i=some (.list ds)) (q:QI ds (some i) e):BO r e QI:=.inr ⟨i,ds,h,hc,q⟩
theorem JM (h:WE gd a env fun r e=>∃ ds,r.av=.dat (.tuple ds)/\QI ds none e):WI gd (.tup a) env QI:=by
 obtain ⟨r,e',h1,ds,h2,h3⟩:=h;exact ⟨_,_,_,by simp only [dI,h1,h2],h3⟩
def WSq (r:RV) (e:En) (QI:List PyData->Option Nat->En->Prop):Prop:=BO r e QI\/∃ ds,r.av=.dat (.tuple ds)/\QI ds none e
theorem Jc (h:WE gd a env fun r e=>WSq r e QI):WI gd (.sq a) env QI:=by
 obtain ⟨r,e',h1,(⟨ds,h2,h3⟩ | ⟨i,ds,h2,h3,h4⟩) | ⟨ds,h2,h3⟩⟩:=h
 ·exact ⟨_,_,_,by simp only [dI,h1,h2],h3⟩
 ·exact ⟨_,_,_,by simp only [dI,h1,h2,h3],h4⟩
 ·exact ⟨_,_,_,by simp only [dI,h1,h2],h3⟩
theorem Jy (h:WE gd a env fun r e=>∃ z,r.av=.dat (.str z)/\QI (z.cps.toList.map fun c=>.str ⟨#[c]⟩) none e):WI gd (.str a) env QI:=by
 obtain ⟨r,e',h1,ds,h2,h3⟩:=h;exact ⟨_,_,_,by simp only [dI,h1,h2],h3⟩
theorem Jz (h:WA gd as env fun avs e=>∃ j:Int,avs=[.dat (.int j)]/\(-(2 ^ 62)<=j/\j<=2 ^ 24)/\QI ((List.range j.toNat).map fun (k:Nat)=>.int ((0:Int)+(k:Int))) none e):WI gd (.rng1 as) env QI:=by
 obtain ⟨r,e',h1,j,rfl,h2,h3⟩:=h;exact ⟨_,_,_,by simp only [dI,h1];rw [Km h2],h3⟩
end
open PySem PySem.Spec PyProof.Rows
noncomputable def Hz (ww:World):Bool:=ww.params.followText "set-order"
structure JU (ww:World) (tb:SetTable) (n:Nat):Prop where
 fit:tb.fits n=true
 led:tb.led=!Hz ww
 pln:n≠0->tb.plain=false
def FC (pr:Program) (ww:World) (h:Heap) (a:Addr) (ss:List Str):Prop :=
 ∃ ob es ep tb,h.get? a=some ob/\ob.ExactSet/\ob.data=.set es ep tb/\ElemsOf (strKind pr ww) es.toList/\(∃ zs,StrsAre (es.toList.map (·.2)) zs/\zs.Perm ss)/\es.size < scanBound/\JU ww tb es.size
open PySem PySem.Spec PyProof.Rows
noncomputable def JR (X:Cx) (p:Addr) (ss:List Str):HO:=.ext fun h=>FC X.prog X.w h p ss
open PySem PySem.Spec PyProof.Rows
noncomputable def wR:PyData->List PyData->Option PR
 | .str z,[.str y]=>some (.dat (.bool (decide (y.length<=z.length)&&Builtin.Str.subAt z y 0)))
 | _,_=>none
noncomputable def vU:Mtd where
 T := "str"
 r:=fun _=>wa
 ty:=isS
 f:=wR
 xE:=fun K F H d v h t=>ty_str h t
 ok:=fun K F H d v ds vs pr Q hf hx hv hd q=>by
  unfold wR at hf;split at hf
  ·cases hf;obtain ⟨rfl,_⟩:=vStr hx;obtain ⟨w,r,rfl,hw,rfl⟩:=hv;obtain ⟨rfl,_⟩:=vStr hw;exact ⟨_,_,rfl,rfl,q _ H (bj.rf H) rfl⟩
  ·cases hf
open PySem PySem.Spec PyProof.Rows
theorem JD {X:Cx} {e:Expr} {te:TE} {T:String} {p p2 pos:Pos} (hg:Gl X "isinstance") (hm:X.mg "isinstance" = none) (ha:JE X e te) (hs:PySem.W.isStarred e=false) (hb:JE X (.Name (Str.ofString T) p2) (tC (.ty T))):JE X (.Call (.Name "isinstance" p) [e,.Name (Str.ofString T) p2] [] pos) (tCB ((lB T).r X.K) (bM te gC)) :=
 ⟨(eB Ba hg hm (by decide +kernel) (eA ha (eA hb af rfl) hs) hs rfl (by decide) rfl).h⟩
open PySem
theorem ur {e:En} {i:Nat} {s:Sl} (h:e[i]?=some s) (q:soft s):free e i=true:=by
 unfold free;rw [h];cases s with
 | ino d=>exact absurd rfl (q.1 d)
 | ro d=>exact absurd rfl (q.2 d)
 | _=>rfl
theorem qe:soft .un:=⟨fun _=>nofun,fun _=>nofun⟩
theorem jH {d:PyData}:soft (.dat d):=⟨fun _=>nofun,fun _=>nofun⟩
theorem CI {d:PyData}:soft (.own d):=⟨fun _=>nofun,fun _=>nofun⟩
theorem jD {e:En} {i:Nat} {avs:List AV} {xs:List PyData} {d:PyData} {Q:RV->En->Prop} (h1:aT e i=some (.list xs)) (h2:xs.length < sizeLine) (h3:cq e avs=some [(true,d)]) (q:Q (.dat .none) (gT e i (.list (xs++[d])))):WMr we i avs e Q :=
 ⟨_,_,.list (xs++[d]),.none,h1,h3,by show (if xs.length < sizeLine then _ else _)=_;rw [Km h2],q⟩
theorem lx:∀ (ss:List Str),strsOf (ss.map .str)=some ss
 | []=>rfl
 | s :: ss=>by simp only [List.map_cons,strsOf,lx ss]
theorem gm {r:RV} {avs:List AV} {e:En} {z:Str} {ss:List Str} {Q:RV->En->Prop} (h1:r.view e=some (.str z)) (h2:aU e avs=some [.list (ss.map .str)]) (h3:cJ z ss=true) (q:Q (.dat (.str (Txt.join z ss))) e):Aa joinM r avs e Q:=by
 refine ⟨_,_,.dat (.str (Txt.join z ss)),h1,h2,?_,q⟩;show (match strsOf (ss.map .str) with | some ss=>if cJ z ss=true then some (PR.dat (.str (Txt.join z ss))) else none | none=>none)=_;rw [lx];simp only;rw [Km h3]
theorem lz {e:En} {x y:AV} {xs ys:List PyData} {Q:RV->En->Prop} (h1:aU e [x,y]=some [.list xs,.list ys]) (h2:xs.length+ys.length<=sizeLine) (q:Q (.frs (.list (xs++ys))) e):WPr cL [x,y] e Q :=
 ⟨_,.frs (.list (xs++ys)),h1,by show (if xs.length+ys.length<=sizeLine then _ else _)=_;rw [Km h2],q⟩
theorem ay {e:En} {x y:AV} {xs ys:Str} {Q:RV->En->Prop} (h1:aU e [x,y]=some [.str xs,.str ys]) (h2:xs.length+ys.length<=sizeLine) (q:Q (.dat (.str (xs++ys))) e):WPr cL [x,y] e Q :=
 ⟨_,.dat (.str (xs++ys)),h1,by show (if xs.length+ys.length<=sizeLine then _ else _)=_;rw [Km h2],q⟩
theorem gK {n i:Nat} {d:PyData} (h:((List.range n).map fun (k:Nat)=>PyData.int ((0:Int)+(k:Int)))[i]?=some d):d=.int i/\i < n:=by
 rw [Kt] at h;cases q:(List.range n)[i]? with
 | none=>rw [q] at h;cases h
 | some j =>
  rw [q] at h;obtain ⟨hi,e⟩:=Ka.mp q;rw [LD] at hi;have:j=i:=by rw [<- e];simp
  subst this;cases h;exact ⟨by simp,hi⟩
theorem iI {n:Nat}:((List.range n).map fun (k:Nat)=>PyData.int ((0:Int)+(k:Int))).length=n:=by rw [J5,LD]
theorem atV {α:Type} {xs:List α} {r:Int} (h0:0<=r) (h1:r < xs.length):∃ v,v∈xs/\atI xs r=some v:=by
 have hj:r.toNat < xs.length:=by omega
 have ej:r=((r.toNat:Nat):Int):=by omega
 refine ⟨xs[r.toNat],List.getElem_mem hj,?_⟩;have:=nU (xs:=xs) (j:=r.toNat) (v:=xs[r.toNat]) (J9 hj);rw [<- ej] at this;exact this
theorem zr {α:Type} {xs:List α} {k:Int} (h:0<=k):cutD xs none (some k)=xs.take k.toNat:=by
 unfold cutD;simp only [HT.sIx,List.drop_zero,Nat.sub_zero];rw [Kr (by omega)];by_cases z:k.toNat<=xs.length
 ·congr 1;omega
 ·rw [L4 (by omega),L4 (by omega)]
theorem ah (x:Str):x.cps.toList.length=x.length:=by simp [Str.length]
theorem zR {k:Nat}:∀ {ss:List Str},(∀ s∈ss,s.length<=k)->(ss.map (·.length)).sum<=k*ss.length
 | [],_=>by simp
 | s :: ss,h=>by
  have h1:=h s Ki;have h2:=zR fun x hx=>h x (Kb _ hx);simp only [List.map_cons,Kw,J8,Nat.mul_succ];omega
theorem sg:∀ {ds:List PyData},iF ds=true↔∀ d∈ds,noD d=true
 | []=>by simp [iF]
 | d :: ds=>by simp [iF,sg (ds:=ds)]
open PySem
section
variable {gd:List PyData} {env e1:En} {Q:RV->En->Prop} {a:XE} {as:XA}
def WFs (gd:List PyData) (as:XA) (out:Str) (env:En) (Q:Str->En->Prop):Prop:=∃ x e1,dF gd as out env=some (x,e1)/\Q x e1
theorem IY (h:WFs gd as Str.empty env fun x e=>Q (.dat (.str x)) e):WE gd (.fst as) env Q:=qT h
theorem yx {out:Str} {R:Str->En->Prop} (h:WE gd a env fun r e=>∃ x,r=.dat (.str x)/\(out++x).length<=sizeLine/\WFs gd as (out++x) e R):WFs gd (.cons a as) out env R:=by
 obtain ⟨r,e1,h1,x,rfl,h2,y,e2,h3,h4⟩:=h;refine ⟨y,e2,?_,h4⟩;simp only [dF,h1];rw [Km h2,h3]
theorem HU {out:Str} {R:Str->En->Prop} (h:out.length<=sizeLine) (q:R out env):WFs gd .nil out env R:=⟨out,env,by simp only [dF];rw [Km h],q⟩
theorem cu {x:AV} {i:Int} (h1:aU e1 [x]=some [.int i]) (h2:i.natAbs < 10 ^ 400) (q:Q (.dat (.str (ag i))) e1):WPr uK [x] e1 Q :=
 ⟨_,.dat (.str (ag i)),h1,by show (if i.natAbs < 10 ^ 400 then _ else _)=_;rw [Km h2],q⟩
theorem Es {e:En} {x y:AV} {i j:Int} (h1:aU e [x,y]=some [.int i,.int j]) (h2:-(2 ^ 64) < j) (h3:j < 2 ^ 64) (q:Q (.dat (.int (i*j))) e):WPr uG [x,y] e Q :=
 ⟨_,.dat (.int (i*j)),h1,Km (by simp only [mulC,LB,KC,KH];exact .inr ⟨h2,h3⟩),q⟩
end
open PySem PySem.Spec PyProof.Rows
theorem ma:∀ bs:List Bool,kj (bs.map .bool)=some bs
 | []=>rfl
 | b :: bs=>by
  rw [List.map_cons];unfold kj;rw [ma bs]
open PySem PySem.Spec PyProof.Rows
def yO:List (Option Sl)->En->Prop
 | [],e=>e=[]
 | some s :: r,e=>∃ e',yO r e'/\e=s :: e'
 | none :: r,e=>∃ x e',soft x/\yO r e'/\e=x :: e'
def xR:List (Option Sl)->(En->Prop)->Prop
 | [],P=>P []
 | some s :: ts,P=>xR ts fun e=>P (s :: e)
 | none :: ts,P=>∀ s,soft s->xR ts fun e=>P (s :: e)
theorem yO.out:∀ {ts:List (Option Sl)} {e:En} {P:En->Prop},yO ts e->xR ts P->P e
 | [],_,_,h,q=>by cases (show _=_ from h);exact q
 | some s :: ts,e,P,h,q=>by obtain ⟨r,hr,rfl⟩:=h;exact hr.out (P:=fun e=>P (s :: e)) q
 | none :: ts,e,P,h,q=>by obtain ⟨s,r,hs,hr,rfl⟩:=h;exact hr.out (P:=fun e=>P (s :: e)) (q s hs)
section
variable {gd:List PyData} {e e':En} {E:Kn} {Q:RV->En->Prop} {QA:List AV->En->Prop} {QT:Bool->En->Prop} {QI:List PyData->Option Nat->En->Prop} {N:En->Prop} {i:Nat} {r:RV}
theorem DJ (h:e=e') (q:jE i r e' N):jE i r e N:=h▸q
theorem Ai (h:e=e') (q:xf i r e' N):xf i r e N:=h▸q
theorem C7 {is:List Nat} (h:e=e') (q:E4 is r e' N):E4 is r e N:=h▸q
theorem J2 {as:XA} (h:e=e') (q:WA gd as e' QA):WA gd as e QA:=h▸q
theorem Jf {a:XE} (h:e=e') (q:WE gd a e' Q):WE gd a e Q:=h▸q
theorem J1 {s:XS} (h:e=e') (q:WS gd s e' E):WS gd s e E:=h▸q
theorem JH {t:XT} (h:e=e') (q:WT gd t e' QT):WT gd t e QT:=h▸q
theorem Jg {t:XI} (h:e=e') (q:WI gd t e' QI):WI gd t e QI:=h▸q
theorem GD {p:Prm} {avs:List AV} (h:e=e') (q:WPr p avs e' Q):WPr p avs e Q:=h▸q
theorem Bq {f:Fn} {avs:List AV} (h:e=e') (q:oa f avs e' Q):oa f avs e Q:=h▸q
theorem Gz {mk:List PyData->RV} {avs:List AV} (h:e=e') (q:WTp mk avs e' Q):WTp mk avs e Q:=h▸q
theorem FD {m:Mtr} {avs:List AV} (h:e=e') (q:WMr m i avs e' Q):WMr m i avs e Q:=h▸q
theorem HL {m:Mtd} {avs:List AV} (h:e=e') (q:Aa m r avs e' Q):Aa m r avs e Q:=h▸q
theorem D3 {m:Mtd} {as:XA} (h:e=e') (q:EU gd m as r e' Q):EU gd m as r e Q:=h▸q
theorem Cd {ms:List PM} {QF:PR->List PyData->Prop} (h:e=e') (q:ES ms QF r e'):ES ms QF r e:=h▸q
theorem Bi {ms:List PM} {QF:PR->List PyData->Prop} (h:e=e') (q:yg ms QF e'):yg ms QF e:=h▸q
theorem D6 (h:e=e') (q:BO r e' QI):BO r e QI:=h▸q
theorem Dv {m:yz} {a:XE} (h:e=e') (q:EO gd m i a r e' N):EO gd m i a r e N:=h▸q
theorem CH {m:yz} {v:PyData} (h:e=e') (q:Ea m i v r e' N):Ea m i v r e N:=h▸q
end
theorem isEq {b:Bool} {avs:List AV} {e:En} {Q:RV->En->Prop} (h:WPr (Fj b) avs e Q):WPr (Fj b) avs e Q:=h
theorem tN {env e2:En} {i:Nat} {is:List Nat} {d:PyData} {ds:List PyData} (h:free env i=true) (q:gU (env.set i (.dat d)) is ds=some e2):gU env (i :: is) (d :: ds)=some e2:=by
 simp only [gU];rw [Km h];exact q
theorem BM {x y:Str}:PyData.eqv (.str x) (.str y)=decide (x=y):=by
 simp only [PyData.eqv];rfl
def WCl (st:PyData->En->Option (Option PyData×En)) (ds:List PyData) (ec:En) (R:List PyData->En->Prop):Prop:=∃ ys e,rN st ds ec=some (ys,e)/\R ys e
theorem qd {st:PyData->En->Option (Option PyData×En)} {js:List Nat} {ds:List PyData} {lk:Option Nat} {e1:En} {Q:RV->En->Prop} (h:WCl st ds (fT e1 lk js) fun ys ec=>Q (.frs (.list ys)) (aW e1 js ec)):Ct st js ds lk e1 Q:=h
theorem fX {st:PyData->En->Option (Option PyData×En)} {ec:En} {R:List PyData->En->Prop} (h:R [] ec):WCl st [] ec R:=⟨_,_,rfl,h⟩
theorem b8 {st:PyData->En->Option (Option PyData×En)} {d:PyData} {ds:List PyData} {ec:En} {R:List PyData->En->Prop} (h:rl st d ec fun y e=>WCl st ds e fun ys e2=>R (y.toList++ys) e2):WCl st (d :: ds) ec R:=by
 obtain ⟨y,e,h1,ys,e2,h2,h3⟩:=h;refine ⟨y.toList++ys,e2,?_,h3⟩;unfold rN;simp only [h1,h2]
def Ie (p:Prm) (r r2:RV) (k:PyData->Bool->Prop):Prop:=∃ x y b,r.av=.dat x/\r2.av=.dat y/\p.f [x,y]=some (.dat (.bool b))/\k y b
def Ia (p:Prm) (y:PyData) (r:RV) (e:En) (Q:RV->En->Prop):Prop:=∃ z pr,r.av=.dat z/\p.f [y,z]=some pr/\Q pr.rv e
theorem Cp {gd:List PyData} {env:En} {p p':Prm} {a b c:XE} {Q:RV->En->Prop} (h:WE gd a env fun r e=>WE gd b e fun r2 e2=>Ie p r r2 fun y k=>if k=true then WE gd c e2 fun r3 e3=>Ia p' y r3 e3 Q else Q (.dat (.bool false)) e2):WE gd (.chn p p' a b c) env Q:=by
 refine FJ ?_;obtain ⟨r,e,h1,r2,e2,h2,x,y,k,h3,h4,h5,h6⟩:=h;exact ⟨r,e,h1,r2,e2,h2,x,y,k,h3,h4,h5,h6⟩
theorem w_all {e:En} {x:AV} {bs:List Bool} {Q:RV->En->Prop} (h1:aU e [x]=some [.list (bs.map .bool)]) (q:Q (.dat (.bool (bs.all id))) e):WPr EX [x] e Q:=by
 refine ⟨_,.dat (.bool (bs.all id)),h1,?_,q⟩;show (kj (bs.map .bool)).map _=_;rw [ma];rfl
theorem LC {α:Type} {xs:List α} {i:Nat} {x:α} (h:xs[i]?=some x):xs.take i++[x]=xs.take (i+1):=by
 rw [List.take_add_one,h];rfl
theorem zh {α:Type} {P:α->Prop} {xs:List α} {y:α} (h:∀ x∈xs,P x) (hy:P y):∀ x∈xs++[y],P x:=fun x hm=>by
 rcases Ls.mp hm with hm | hm
 ·exact h x hm
 ·rw [Kc.mp hm];exact hy
open PySem PySem.Spec PyProof.Rows
def GO:V->Hp->VK->Prop:=fun x H Q=>A3 [x] H Q\/∃ y n,x=.str y/\y.length<=640/\PySem.intText? y=some n/\Q (.int n) H
noncomputable def yo:PyData->Option PR
 | .int i=>some (.dat (.int i)) | .bool k=>some (.dat (.int (if k then 1 else 0)))
 | .str x=>if x.length<=640 then (PySem.intText? x).map fun n=>.dat (.int n) else none
 | _=>none
noncomputable def yY:Prm:=Prm.one (fun _=>GO) yo fun K F H x u pr Q hf hx hd q=>by
 unfold yo at hf;split at hf
 ·rename_i i;exact .inl (Fu.ok K F H [.int i] [u] pr Q hf ⟨u,_,rfl,hx,rfl⟩ hd q)
 ·rename_i k;exact .inl (Fu.ok K F H [.bool k] [u] pr Q hf ⟨u,_,rfl,hx,rfl⟩ hd q)
 ·split at hf
  ·rename_i y hl;cases e:PySem.intText? y with
   | none=>rw [e] at hf;cases hf
   | some n =>
    rw [e] at hf;cases hf;exact .inr ⟨y,n,(vStr hx).1,hl,e,q _ H (bj.rf H) rfl⟩
  ·cases hf
 ·cases hf
theorem sN {X:Cx}:aZ X (.type "int") (yY.r X.K):=by
 intro pins s σ H xs us Q I r h
 match xs,h with
 | [x],h =>
  rcases h with h | ⟨y,n,rfl,hl,hn,q⟩
  ·exact Bo pins s σ H [x] us Q I r h
  ·cases r with
   | cons r1 rr =>
    cases rr;obtain ⟨t,rfl⟩:=r1;exact PySem.W.KIN.call_text hn hl ⟨.int n,H,I.tok _,⟨_,rfl⟩,q⟩
section
open Builtin Builtin.Str
theorem uh {prog:Program} {w:World} {A:Around} {E:Value->Shared->Prop} {s:Shared} {x y:Str} {t u:Tok} {Q:Value->Shared->Prop} (hy:(y.length==0)=false) (hx:x.length<=1000000)
  (hq:∀ (l:List (Str×Tok)) tk,l.map (·.1)=Txt.split x y->Q (.ref s.heap.objs.size) { s with toks:=tk,heap:=s.heap.push { cls:=.type "list", data:=.seq (strValues l).toArray } }) :
  wpAny (model prog w) A (call (.builtin "str.split") [.str x t,.str y u]) Q E s:=by
 have hsz:x.length<=sizeLine:=Ks hx (by decide);have hsz2:(partsBetween x (occurrences x y 0 x.length (x.length+1)) y.length).length<=sizeLine:=by
  rw [LU];have:=LV x y 0 x.length (x.length+1);show _<=2 ^ 24;omega
 cases h1:(decide (x.length < y.length)||decide (strKind x < strKind y))
 ·cases hf:(occurrences x y 0 x.length (x.length+1)).isEmpty
  ·refine Lz LN (LJ _ _ _) LM (F.args_str_split_2 _ _) (meets_str_split_sep x y t u h1 hy hf hsz hsz2) ?_;show wants Q E _ { s with toks:=_,heap:=s.heap.push { cls:=.type "list", data:=.seq (strsFrom s.toks (partsBetween x (occurrences x y 0 x.length (x.length+1)) y.length)).toArray } };rw [strsFrom_eq];exact hq (numbered s.toks _) _ ((numbered_texts _ _).trans ((Kr (LG h1)).trans (Kr (LG hf))).symm)
  ·exact Lz LN (LJ _ _ _) LM (F.args_str_split_2 _ _) (meets_str_split_not_found x y t u h1 hy hf)
    (hq [(x,t)] s.toks ((Kr (LG h1)).trans (Km hf)).symm)
 ·exact Lz LN (LJ _ _ _) LM (F.args_str_split_2 _ _) (meets_str_split_cannot_occur x y t u h1)
   (hq [(x,t)] s.toks (Km h1).symm)
end
def zP:V->List V->Hp->VK->Prop:=fun x vs H Q=>∃ z y:Str,x=.str z/\vs=[.str y]/\(y.length==0)=false/\z.length<=1000000/\∀ p,H p=none->Q (.ref p) (upd H p (.lst ((Txt.split z y).map .str)))
theorem kX:∀ (l:List (Str×Tok)),Vals ((l.map (·.1)).map V.str) (strValues l)
 | []=>.nil
 | (x,t) :: l=>.cons ⟨t,rfl⟩ (kX l)
theorem split_len {z y:Str} (hz:z.length<=1000000):(Txt.split z y).length<=1000002:=by
 unfold Txt.split;split
 ·show 1<=_;omega
 ·split
  ·show 1<=_;omega
  ·rw [LU];have:=LV z y 0 z.length (z.length+1);omega
theorem yj {X:Cx}:MtM X "str.split" zP:=by
 intro pins s σ H x vs v us Q I rx rv h;obtain ⟨z,y,rfl,rfl,hy,hz,q⟩:=h;obtain ⟨t,rfl⟩:=rx;obtain ⟨u,rfl,ru⟩:=rv.one;obtain ⟨t',rfl⟩:=ru;refine uh hy hz fun l tk hl=>?_;have hf:H s.heap.objs.size=none:=I.hok.fresh (Ke _);refine ⟨.ref s.heap.objs.size,_,I.laid (t':=tk) (fun b u e=>J7 _ e) (Ke _) (o:=.lst ((Txt.split z y).map .str)) ?_,rfl,q _ hf⟩;refine ⟨?_,strValues l,0,?_,Kx _ rfl⟩
 ·rw [J5];have:=split_len (y:=y) hz;show _<=2 ^ 24;omega
 ·rw [<- hl];exact kX l
theorem iU {sep:Str}:∀ {l:List Str} {p:Str},p∈l->(∀ c∈p.cps.toList,c∈(Str.join sep l).cps.toList)
 | [a],p,h,c,hc=>by
  have:p=a:=by simpa using h
  rw [this] at hc;exact hc
 | a :: b :: l,p,h,c,hc=>by
  show c∈(a++sep++Str.join sep (b :: l)).cps.toList;have e:∀ x y:Str,(x++y).cps.toList=x.cps.toList++y.cps.toList:=fun x y=>by
   show (x.cps++y.cps).toList=_;simp
  rw [e,e];rcases Kd.mp h with rfl | h
  ·exact Lv _ (Lv _ hc)
  ·exact Kp _ (iU h c hc)
theorem q0 {z y p:Str} (h:PyData.strOk z=true) (hp:p∈Txt.split z y):PyData.strOk p=true:=by
 have j:=PySem.StrLaws.join_split z y;unfold PyData.strOk at h ⊢;rw [LY] at h ⊢;intro c hc;have:=iU (sep:=y) hp c (by simpa using hc);rw [j] at this;exact h c (by simpa using this)
theorem uz {z y p:Str} (hp:p∈Txt.split z y):p.length<=z.length:=by
 have j:=PySem.StrLaws.join_split z y;have go:∀ {l:List Str},p∈l->p.length<=(Str.join y l).length:=by
  intro l;induction l with
  | nil=>intro h;simp at h
  | cons a l ih =>
   intro h;cases l with
   | nil =>
    have:p=a:=by simpa using h
    rw [this];exact Ke _
   | cons b l =>
    show p.length<=(a++y++Str.join y (b :: l)).length;rw [b3,b3];rcases Kd.mp h with rfl | h
    ·omega
    ·have:=ih h;omega
 have:=go hp;rw [j] at this;exact this
theorem rm {K:Fg} {F:Addr->Prop} {H:Hp}:∀ {l:List Str},(∀ x∈l,x.length<=sizeLine/\PyData.strOk x=true)->DmL K F H (l.map .str) (l.map V.str)
 | [],_=>rfl
 | x :: l,h=>⟨_,_,rfl,⟨rfl,(h x Ki).1,(h x Ki).2⟩,rm fun y hy=>h y (Kb _ hy)⟩
noncomputable def zy:PyData->List PyData->Option PR
 | .str z,[.str y]=>if (y.length==0)=false/\z.length<=1000000 then some (.frs (.list ((Txt.split z y).map .str))) else none
 | _,_=>none
noncomputable def splitM:Mtd where
 T := "str"
 r:=fun _=>zP
 ty:=isS
 f:=zy
 xE:=fun K F H d v h t=>ty_str h t
 ok:=fun K F H d v ds vs pr Q hf hx hv hd q=>by
  unfold zy at hf;split at hf
  ·split at hf
   ·rename_i h;cases hf;obtain ⟨rfl,l1,o1⟩:=vStr hx;obtain ⟨w,r,rfl,hw,rfl⟩:=hv;obtain ⟨rfl,_⟩:=vStr hw;refine ⟨_,_,rfl,rfl,h.1,h.2,fun p hp=>q _ _ (bj.nw _ hp) (A4 hp ?_ (rm fun y hy=>⟨Ks (uz hy) l1,q0 o1 hy⟩))⟩;rw [J5];show _<=2 ^ 24;exact Ks (split_len h.2) (by decide)
   ·cases hf
  ·cases hf
section
open Builtin Builtin.Str
theorem qF {prog:Program} {w:World} {A:Around} {E:Value->Shared->Prop} {s:Shared} {x y:Str} {k:Int} {t u v:Tok} {Q:Value->Shared->Prop} (hk:0<=k/\k<=1000) (hy:(y.length==0)=false) (hx:x.length<=1000000)
  (hq:∀ (l:List (Str×Tok)) tk,l.map (·.1)=Txt.splitMax x y k->Q (.ref s.heap.objs.size) { s with toks:=tk,heap:=s.heap.push { cls:=.type "list", data:=.seq (strValues l).toArray } }) :
  wpAny (model prog w) A (call (.builtin "str.split") [.str x t,.str y u,.int k v]) Q E s:=by
 have hk2:(decide (k < -2 ^ 63)||decide (k>=2 ^ 63))=false:=by
  rw [Kl (by omega),Kl (by omega)];rfl
 have hsz:x.length<=sizeLine:=Ks hx (by decide);have hsz2:(partsBetween x (occurrences x y 0 x.length (limitOf x k)) y.length).length<=sizeLine:=by
  rw [LU];have:=LV x y 0 x.length (limitOf x k);have e:limitOf x k=k.toNat:=Kr (by omega);show _<=2 ^ 24;omega
 cases h1:(decide (x.length < y.length)||decide (strKind x < strKind y))
 ·cases hf:(occurrences x y 0 x.length (limitOf x k)).isEmpty
  ·refine Lz LN (LJ _ _ _) LM (F.args_str_split_3 _ _ _) (meets_str_split_sep_max x y k t u v hk2 h1 hy hf hsz hsz2) ?_;show wants Q E _ { s with toks:=_,heap:=s.heap.push { cls:=.type "list", data:=.seq (strsFrom s.toks (partsBetween x (occurrences x y 0 x.length (limitOf x k)) y.length)).toArray } };rw [strsFrom_eq];exact hq (numbered s.toks _) _ ((numbered_texts _ _).trans ((Kr (LG h1)).trans (Kr (LG hf))).symm)
  ·exact Lz LN (LJ _ _ _) LM (F.args_str_split_3 _ _ _) (meets_str_split_max_not_found x y k t u v hk2 h1 hy hf)
    (hq [(x,t)] s.toks ((Kr (LG h1)).trans (Km hf)).symm)
 ·exact Lz LN (LJ _ _ _) LM (F.args_str_split_3 _ _ _) (meets_str_split_max_cannot_occur x y k t u v hk2 h1)
   (hq [(x,t)] s.toks (Km h1).symm)
end
theorem mF {z y:Str} {k:Int} (hk:0<=k/\k<=1000):(Txt.splitMax z y k).length<=1001:=by
 unfold Txt.splitMax;split
 ·show 1<=_;omega
 ·split
  ·show 1<=_;omega
  ·rw [LU];have:=LV z y 0 z.length (limitOf z k);have e:limitOf z k=k.toNat:=Kr (by omega);omega
theorem ko (z y:Str) (k:Int):y.join (Txt.splitMax z y k)=z:=by
 unfold Txt.splitMax;split
 ·rfl
 ·split
  ·rfl
  ·rw [<- PySem.StrLaws.glued_eq_join];exact PySem.StrLaws.glued_between_self z y _
theorem oT {z y p:Str} {k:Int} (h:PyData.strOk z=true) (hp:p∈Txt.splitMax z y k):PyData.strOk p=true:=by
 have j:=ko z y k;unfold PyData.strOk at h ⊢;rw [LY] at h ⊢;intro c hc;have:=iU (sep:=y) hp c (by simpa using hc);rw [j] at this;exact h c (by simpa using this)
noncomputable def v5:PyData->List PyData->Option PR
 | .str z,[.str y,.int k]=>if (y.length==0)=false/\z.length<=1000000/\0<=k/\k<=1000 then some (.frs (.list ((Txt.splitMax z y k).map .str))) else none
 | _,_=>none
def wg:V->List V->Hp->VK->Prop:=fun x vs H Q=>∃ (z y:Str) (k:Int),x=.str z/\vs=[.str y,.int k]/\(0<=k/\k<=1000)/\(y.length==0)=false/\z.length<=1000000/\∀ p,H p=none->Q (.ref p) (upd H p (.lst ((Txt.splitMax z y k).map .str)))
theorem wZ {X:Cx}:MtM X "str.split" wg:=by
 intro pins s σ H x vs v us Q I rx rv h;obtain ⟨z,y,k,rfl,rfl,hk,hy,hz,q⟩:=h;obtain ⟨t,rfl⟩:=rx;cases rv with
 | cons ru rv =>
 cases rv with
 | cons rw_ rv =>
 cases rv;obtain ⟨t',rfl⟩:=ru;obtain ⟨t2,rfl⟩:=rw_;refine qF hk hy hz fun l tk hl=>?_;have hf:H s.heap.objs.size=none:=I.hok.fresh (Ke _);refine ⟨.ref s.heap.objs.size,_,I.laid (t':=tk) (fun b u e=>J7 _ e) (Ke _) (o:=.lst ((Txt.splitMax z y k).map .str)) ?_,rfl,q _ hf⟩;refine ⟨?_,strValues l,0,?_,Kx _ rfl⟩
 ·rw [J5];have:=mF (z:=z) (y:=y) hk;show _<=2 ^ 24;omega
 ·rw [<- hl];exact kX l
theorem xt {z y p:Str} {l:List Str} (j:y.join l=z) (hp:p∈l):p.length<=z.length:=by
 rw [<- j];clear j;induction l with
 | nil=>cases hp
 | cons a l ih =>
  cases l with
  | nil =>
   have:p=a:=by simpa using hp
   rw [this];exact Ke _
  | cons b l =>
   show p.length<=(a++y++Str.join y (b :: l)).length;rw [b3,b3];rcases Kd.mp hp with rfl | h
   ·omega
   ·have:=ih h;omega
noncomputable def v8:Mtd where
 T := "str"
 r:=fun _=>wg
 ty:=isS
 f:=v5
 xE:=fun K F H d v h t=>ty_str h t
 ok:=fun K F H d v ds vs pr Q hf hx hv hd q=>by
  unfold v5 at hf;split at hf
  ·split at hf
   ·rename_i h;cases hf;obtain ⟨rfl,l1,o1⟩:=vStr hx;obtain ⟨w,r,rfl,hw,w2,r2,rfl,hw2,rfl⟩:=hv;obtain ⟨rfl,_⟩:=vStr hw;obtain rfl:w2=.int _:=hw2;refine ⟨_,_,_,rfl,rfl,h.2.2,h.1,h.2.1,fun p hp=>q _ _ (bj.nw _ hp) (A4 hp ?_ (rm fun y hy=>⟨Ks (xt (ko _ _ _) hy) l1,oT o1 hy⟩))⟩;rw [J5];show _<=2 ^ 24;exact Ks (mF h.2.2) (by decide)
   ·cases hf
  ·cases hf
def rR:V->List V->Hp->VK->Prop:=fun x vs H Q=>∃ (z y:Str) (i:Int),x=.str z/\vs=[.str y,.int i]/\Q (.bl (Txt.startswith3 z y i)) H
theorem tG {X:Cx}:MtM X "str.startswith" rR:=by
 intro pins s σ H x vs v us Q I rx rv h;obtain ⟨z,y,k,rfl,rfl,q⟩:=h;obtain ⟨t,rfl⟩:=rx;cases rv with
 | cons ru rv =>
 cases rv with
 | cons rw_ rv =>
 cases rv;obtain ⟨t',rfl⟩:=ru;obtain ⟨t2,rfl⟩:=rw_;exact SC.startswith3 ⟨.bl (Txt.startswith3 z y k),H,I,rfl,q⟩
noncomputable def sJ:PyData->List PyData->Option PR
 | .str z,[.str y,.int i]=>some (.dat (.bool (Txt.startswith3 z y i)))
 | _,_=>none
noncomputable def nV:Mtd where
 T := "str"
 r:=fun _=>rR
 ty:=isS
 f:=sJ
 xE:=fun K F H d v h t=>ty_str h t
 ok:=fun K F H d v ds vs pr Q hf hx hv hd q=>by
  unfold sJ at hf;split at hf
  ·cases hf;obtain ⟨rfl,_⟩:=vStr hx;obtain ⟨w,r,rfl,hw,w2,r2,rfl,hw2,rfl⟩:=hv;obtain ⟨rfl,_⟩:=vStr hw;obtain rfl:w2=.int _:=hw2;exact ⟨_,_,_,rfl,rfl,q _ H (bj.rf H) rfl⟩
  ·cases hf
section
variable {X:Cx} {elts:List Expr} {c:Nat} {pt p pos:Pos} {ea eb:Expr}
theorem eIZ {t:TA} (hm:X.mg "zip" = none) (ha:JA X [ea,eb] t) (hg:Gl X "zip" := by exact rfl) (h1:PySem.W.isStarred ea=false:=by exact rfl) (h2:PySem.W.isStarred eb=false:=by exact rfl) :
  JI X (.Tuple elts c pt) (.Call (.Name "zip" p) [ea,eb] [] pos) (FP X.K t):=⟨DY hg hm boot_zip ha.h (a8 h1) (by rw [a8 h2];rfl)⟩
theorem eIE {t:TE} (hm:X.mg "enumerate" = none) (ha:JE X ea t) (hg:Gl X "enumerate" := by exact rfl) (h1:PySem.W.isStarred ea=false:=by exact rfl) :
  JI X (.Tuple elts c pt) (.Call (.Name "enumerate" p) [ea] [] pos) (GU X.K (bM t gC)):=⟨DF hg hm ha.h (a8 h1)⟩
end
open PySem PySem.Spec PyProof.Rows
section
variable {X:Cx} {x:Str} {p pos:Pos} {e:Expr} {es:List Expr} {t:TA} {f:Addr} {fd:FuncData} {ps:List Str} {sp:Sp} {k m:Nat} {r:List V->Hp->VK->Prop} {id T:String}
theorem eVx (i:Nat) (a:X.N[i]?=some x:=by exact rfl) (b:Vis X.env.scope x:=by exact .inl rfl) (c:(x==("__debug__" : Str))=false:=by exact rfl) (d:(x==("__classdict__" : Str))=false:=by exact rfl):JE X (.Name x pos) (cU i):=IP i a b c d
theorem eVy (i:Nat) (a:X.N[i]?=some x:=by exact rfl) (b:Vis X.env.scope x:=by exact .inr (.inl rfl)) (c:(x==("__debug__" : Str))=false:=by exact rfl) (d:(x==("__classdict__" : Str))=false:=by exact rfl):JE X (.Name x pos) (cU i):=IP i a b c d
theorem eCl (F:aQ X.prog X.w X.K X.mg X.base CX0 k f fd ps sp) (hr:eX m X.A) (hm:X.mg x=some (.ref f)) (hk:PySem.W.keepIn X.K (.ref f)=true) (hb:Binds X.K fd ps []) (ha:JA X (e :: es) t)
  (a:k<=m:=by omega) (b:Gl X x:=by exact rfl) (h1:PySem.W.isStarred e=false:=by exact rfl) (h2:es.all (fun e=>!PySem.W.isStarred e)=true:=by exact rfl) (c:(x==("__debug__" : Str))=false:=by exact rfl):JE X (.Call (.Name x p) (e :: es) [] pos) (vd sp [] E0 t) :=
 DC F (hr.mono a) b hm hk hb .nil vD ha h1 h2 c
theorem eBs (hc:aZ X (.builtin id) r) (hm:X.mg x=none) (ha:JA X (e :: es) t) (a:Gl X x:=by exact rfl) (hv:bootBuiltins x=some (.builtin id):=by decide +kernel) (h1:PySem.W.isStarred e=false:=by exact rfl) (h2:es.all (fun e=>!PySem.W.isStarred e)=true:=by exact rfl)
  (hn:x ≠ "__name__" := by decide) (c:(x==("__debug__" : Str))=false:=by exact rfl):JE X (.Call (.Name x p) (e :: es) [] pos) (tCB r t):=eB hc a hm hv ha h1 h2 hn c
theorem eTs (hc:aZ X (.type T) r) (hm:X.mg x=none) (ha:JA X (e :: es) t) (a:Gl X x:=by exact rfl) (hv:bootBuiltins x=some (.type T):=by decide +kernel) (h1:PySem.W.isStarred e=false:=by exact rfl) (h2:es.all (fun e=>!PySem.W.isStarred e)=true:=by exact rfl)
  (hn:x ≠ "__name__" := by decide) (c:(x==("__debug__" : Str))=false:=by exact rfl):JE X (.Call (.Name x p) (e :: es) [] pos) (tCB r t):=eTy hc a hm hv ha h1 h2 hn c
end
theorem Fun.okX {P:Program} {w:World} {K:Fg} {mg:Str->Option Value} {base:Heap} {x qual:Str} {st:Stmt} {f:Addr} {fd:FuncData} {N ps:List Str} {k:Nat} {b:XS} {gd:List PyData} {ga:Nat->V} {ms:List PM} {rd:TS}
  (F:Fun K x qual st f fd) (S:ai N ps (aa st)) (hg:∀ g d,gd[g]?=some d->∀ F H,Dm K F H d (ga g)) (e:rd=rS K ga b)
  (j:∀ {cdv:Value} {A:Around} {outer:List Env} {s:Shared} {H:Hp} {E:XK},eX k (A.deeper (envOfC qual (aa st) s.heap.objs.size f cdv))->JSs (yM CX0 P w K mg base N qual (aa st) f cdv A outer s H E).nox (aV st) rd)
  (hl:ms.length<=N.length:=by decide) (hp:ms.length=ps.length:=by exact rfl):aQ P w K mg base CX0 (k+1) f fd ps (bH (bX gd ms N.length b) K) :=
 F.okJ S (fun vs H Q E h=>(yN h).trans hp) fun cdv A outer s H vs Q E hr h=>⟨rd,j hr,by rw [e];exact AL (N:=N) hg h hl⟩
open PySem PySem.Spec PyProof.Rows
structure Fa (K:Fg) (mg:Str->Option Value) (x:Str) (st:Stmt) (ps:List Str) (a:Addr×FuncData):Prop where
 F:Fun K x x st a.1 a.2
 c:∀ us:List Value,us.length=ps.length->bindArgs a.2 ⟨us,[]⟩=pure (ps.zip us)
 m:mg x=some (.ref a.1)
section
variable {K:Fg} {mg:Str->Option Value} {x:Str} {st:Stmt} {ps:List Str} {a:Addr×FuncData} {h:Heap} {f:Addr} {od an:Option Addr} {sl:Array (Option Value)} {oc kV dc pm cd ct:Value}
theorem Fa.b (D:Fa K mg x st ps a):Binds K a.2 ps []:=.all D.c
def BV (K:Fg) (mg:Str->Option Value):List (Str×Stmt×List Str)->Prop
 | []=>True
 | (x,st,ps) :: r=>(∃ a,Fa K mg x st ps a)/\BV K mg r
theorem Gu {r:List (Str×Stmt×List Str)} (X:K.In h) (G:h.Ns mainGlobals mg) (a:PySem.W.nsIn K mainGlobals x=some (some (.ref f))) (l:K.lookup f=some ⟨oc,od,.func (PySem.W.fnOf x x (bC st) (aV st) (aa st) .none kV dc pm an cd ct),sl⟩) (c:PySem.W.codeIn K cd x=true) (k:PySem.W.keepIn K (.ref f)=true)
  (hb:∀ (kV dc pm:Value) (an:Option Addr) (cd ct:Value) (us:List Value),us.length=ps.length->bindArgs (PySem.W.fnOf x x (bC st) (aV st) (aa st) .none kV dc pm an cd ct) ⟨us,[]⟩=pure (ps.zip us)) (hr:BV K mg r):BV K mg ((x,st,ps) :: r) :=
 ⟨⟨(f,_),fI l c k,hb _ _ _ _ _ _,LP X G a⟩,hr⟩
theorem Ee (a0:Addr×FuncData):∀ {l:List (Str×Stmt×List Str)},BV K mg l->∃ f:Nat->Addr×FuncData,∀ i {x st ps},l[i]?=some (x,st,ps)->Fa K mg x st ps (f i)
 | [],_=>⟨fun _=>a0,fun i x st ps h=>by cases h⟩
 | (y,st,ps) :: r,⟨⟨a,ha⟩,hr⟩=>by
  obtain ⟨f,hf⟩:=Ee a0 hr;refine ⟨fun i=>i.casesOn a f,fun i x st ps h=>?_⟩;cases i with
  | zero=>cases h;exact ha
  | succ i=>exact hf i h
theorem Jp {e:Str×Stmt×List Str} {l:List (Str×Stmt×List Str)} (D:BV K mg (e :: l)):∃ f:Nat->Addr×FuncData,∀ i {x st ps},(e :: l)[i]?=some (x,st,ps)->Fa K mg x st ps (f i):=by
 obtain ⟨y,st,ps⟩:=e;have ⟨⟨a,_⟩,_⟩:=D;exact Ee a D
end
theorem us1 {P:List Value->Prop} (h:∀ a,P [a]):∀ us:List Value,us.length=1->P us
 | [a],_=>h a
theorem us2 {P:List Value->Prop} (h:∀ a b,P [a,b]):∀ us:List Value,us.length=2->P us
 | [a,b],_=>h a b
theorem us3 {P:List Value->Prop} (h:∀ a b c,P [a,b,c]):∀ us:List Value,us.length=3->P us
 | [a,b,c],_=>h a b c
theorem us4 {P:List Value->Prop} (h:∀ a b c d,P [a,b,c,d]):∀ us:List Value,us.length=4->P us
 | [a,b,c,d],_=>h a b c d
theorem scm {N P:List Str} {sc:Scope} (a:sc.kind=.function:=by exact rfl) (b:sc.isCoroutine=false:=by exact rfl) (c:sc.isGenerator=false:=by exact rfl) (d:N.Nodup:=by decide +kernel) (e:N.take P.length=P:=by exact rfl) (f:∀ x∈P,sc.names.lookup x=some .local\/sc.names.lookup x=some .cell:=by decide +kernel) (g:∀ y∈sc.names,y.2≠.free:=by decide +kernel):ai N P sc:=⟨a,b,c,d,e,f,g⟩
theorem Fa.ok {P:Program} {w:World} {K:Fg} {mg:Str->Option Value} {base:Heap} {x:Str} {st:Stmt} {a:Addr×FuncData} {N ps:List Str} {k:Nat} {b:XS} {gd:List PyData} {ga:Nat->V} {ms:List PM}
  (D:Fa K mg x st ps a) (S:ai N ps (aa st)) (hg:∀ g d,gd[g]?=some d->∀ F H,Dm K F H d (ga g))
  (j:∀ {cdv:Value} {A:Around} {outer:List Env} {s:Shared} {H:Hp} {E:XK},eX k (A.deeper (envOfC x (aa st) s.heap.objs.size a.1 cdv))->JSs (yM CX0 P w K mg base N x (aa st) a.1 cdv A outer s H E).nox (aV st) (rS K ga b))
  (hl:ms.length<=N.length:=by decide) (hp:ms.length=ps.length:=by exact rfl):aQ P w K mg base CX0 (k+1) a.1 a.2 ps (bH (bX gd ms N.length b) K) :=
 D.F.okX S hg rfl j hl hp
section
variable {X:Cx} {x:Str} {p p2 pos pos':Pos} {e a b:Expr} {es:List Expr} {t:TA} {te ta tb:TE} {ps:List Str} {sp:Sp} {k m i:Nat} {r:List V->Hp->VK->Prop} {T:String} {st:Stmt} {q:Addr×FuncData}
theorem eCx (F:aQ X.prog X.w X.K X.mg X.base CX0 k q.1 q.2 ps sp) (hr:eX m X.A) (D:Fa X.K X.mg x st ps q) (ha:JA X (e :: es) t)
  (a:k<=m:=by omega) (b:Gl X x:=by exact rfl) (h1:PySem.W.isStarred e=false:=by exact rfl) (h2:es.all (fun e=>!PySem.W.isStarred e)=true:=by exact rfl) (c:(x==("__debug__" : Str))=false:=by exact rfl):JE X (.Call (.Name x p) (e :: es) [] pos) (vd sp [] E0 t) :=
 DC F (hr.mono a) b D.m D.F.kp D.b .nil vD ha h1 h2 c
theorem eAx (ha:JE X e te) (hr:JA X es t) (h:PySem.W.isStarred e=false:=by exact rfl):JA X (e :: es) (bM te t):=eA ha hr h
theorem eIy (ha:JE X a ta) (hb:JE X b tb) (hs:qM b:=by exact fun _ _=>rfl):JE X (.Subscript a b pos) (tOp (fun x y=>ixP.r X.K [x,y]) ta tb):=eIx cM ha hb hs
theorem eSx (hN:X.N.Nodup) (i:Nat) (he:JE X e te) (hi:X.N[i]?=some x:=by exact rfl) (hx:Loc X.env.scope x:=by exact .inl rfl) (hs:swapsWith e (some (.Name x pos')) pos.line X.env=pure false:=by exact rfl) (hf:X.fn x=true\/X.env.scope.names.lookup x=some .local:=by exact .inl rfl) :
  JS X (.Assign [.Name x pos'] e pos) (uF te (eZ i)):=Fw he hN hi hx hs hf
theorem eSy (hN:X.N.Nodup) (i:Nat) (he:JE X e te) (hi:X.N[i]?=some x:=by exact rfl) (hx:Loc X.env.scope x:=by exact .inr rfl) (hs:swapsWith e (some (.Name x pos')) pos.line X.env=pure false:=by exact rfl) (hf:X.fn x=true\/X.env.scope.names.lookup x=some .local:=by exact .inl rfl) :
  JS X (.Assign [.Name x pos'] e pos) (uF te (eZ i)):=Fw he hN hi hx hs hf
theorem eGx (hN:X.N.Nodup) (i:Nat) (hi:X.N[i]?=some x:=by exact rfl) (hx:Loc X.env.scope x:=by exact .inl rfl) (hf:X.fn x=true\/X.env.scope.names.lookup x=some .local:=by exact .inl rfl):JG X (.Name x pos) (eZ i):=eGN hN hi hx hf
theorem eTx {op:CmpOp} {r:R2} (ho:OpR X (compareOp op) r) (ha:JE X a ta) (hb:JE X b tb) (hm:behindInMarks op b=false:=by exact gX _):JT X (.Compare a [op] [b] pos) (ql (tOp r ta tb)):=gD ho ha hb hm
theorem eUx (h:JE X e te) (he:∀ whole,isTrue e X.env whole=(do let v<-whole;standAt e.pos;holding [v] (truthy v)):=by exact fun _=>rfl):JT X e (tB te):=Ik h he
theorem eIz (hm:X.mg "isinstance" = none) (ha:JE X e te) (hz:X.mg (Str.ofString T)=none) (hg:Gl X "isinstance" := by exact rfl) (hs:PySem.W.isStarred e=false:=by exact rfl)
  (h1:Gl X (Str.ofString T):=by exact rfl) (h2:bootBuiltins (Str.ofString T)=some (.type T):=by decide +kernel) (h3:Str.ofString T ≠ "__name__" := by decide) (h4:(Str.ofString T==("__debug__" : Str))=false:=by exact rfl):JE X (.Call (.Name "isinstance" p) [e,.Name (Str.ofString T) p2] [] pos) (tCB ((lB T).r X.K) (bM te gC)) :=
 JD hg hm ha hs (Ji h1 hz h2 rfl h3 h4)
theorem eFx {iter tg:Expr} {body:List Stmt} {wi:TI} {g:TG} {tb:TS} (hi:JI X tg iter wi) (hg:JG X tg g) (hb:JSs X body tb) (hp:PassesOwn (model X.prog X.w) X.A X.env X.xe:=by exact L6) (hc:X.calm=true:=by exact rfl) (hs:∀ x,foldedSetIterable iter X.env x=pure x:=by exact fun _=>rfl):JS X (.For tg iter body [] pos) (EA wi g tb):=Jj hi hg hb hp hc hs
theorem eUy (ha:JE X a ta):JE X (.UnaryOp .USub a pos) (tCB (Iu.r X.K) (bM ta gC)):=eUn CL ha
theorem eKx {elt iter:Expr} {px:Pos} {ifs:List Expr} {scope:Scope} {wi:TI} {tt:TT} {js:List Nat} (ys:List Str) (hi:JI X (.Name x px) iter wi) (ht:JTs X (x :: ys) scope ifs tt) (he:JC X (x :: ys) scope elt te) (B:i4 X scope x) (cap:e7 X scope ys js)
  (hc:X.calm=true:=by exact rfl) (nd:(x :: ys).Nodup:=by decide +kernel) (hs:∀ x,foldedSetIterable iter X.env x=pure x:=by exact fun _=>rfl):JE X (.ListComp elt [⟨.Name x px,iter,ifs,0⟩] scope pos) (tO js wi tt te):=Ht ys hi ht he hc B nd cap hs
end
abbrev vr (i:Nat):XE:=.var i
abbrev ci (i:Int):XE:=.cst (.i i)
abbrev cs (x:String) (h:(Str.ofString x).length<=sizeLine:=by decide +kernel):XE:=.cst (.s x h (cy x))
abbrev p1 (p:Prm) (a:XE):XE:=.prm p (.cons a .nil)
abbrev p2 (p:Prm) (a b:XE):XE:=.prm p (.cons a (.cons b .nil))
open PySem PySem.Spec PyProof.Rows
section
variable {X:Cx} {e o value:Expr} {es:List Expr} {f m x:Str} {p pos pos' apos:Pos} {ta tv:TE} {t:TA} {k n i:Nat} {a:Addr} {fd:FuncData} {ps:List Str} {fn:Fn} {pl:Sem Bool}
theorem eFl (c:Cls X.K clsAt) (n:fh X.K clsAt f) (he:JE X e ta) (hb:attributeBase e f X.env (eval e X.env)=eval e X.env:=by exact rfl):JE X (.Attribute e f pos) (tCB ((gJ f).r X.K) (bM ta gC)):=Jx c n he hb
theorem eSF (c:Cls X.K clsAt) (n:fh X.K clsAt f) (ha:JE X o (cU i)) (hv:JE X value tv) (hs:swapsWith value (some (.Attribute o f pos')) pos.line X.env=pure false:=by exact rfl) :
  JS X (.Assign [.Attribute o f pos'] value pos) (fun D σ H=>tv σ H fun x H1=>cU i σ H1 fun y H2=>(uC f).r X.K y .non x H2 (D.nx σ)):=FE c n ha hv hs
theorem eMt (c:Cls X.K clsAt) (hm:Meth X.K clsAt m a) (F:aQ X.prog X.w X.K X.mg X.base CX0 k a fd ps (bH fn X.K)) (hr:eX n X.A) (hb:Binds X.K fd ps []) (he:JE X o (cU i)) (ha:JA X (e :: es) t)
  (hk:k<=n:=by omega) (hst:PySem.W.isStarred e=false:=by exact rfl) (hpl:es.all (fun e=>!PySem.W.isStarred e)=true:=by exact rfl)
  (ht:eval (.Call (.Attribute o m apos) (e :: es) [] pos) X.env=(do
   let ov<-eval o X.env
   standAt apos.atName
   let (f,first)<-holding [ov] (getMethod ov m pl)
   callWith pos f first (backTo pos (starEach (e :: es) X.env)) (backToKw pos (keywordEach [] X.env))):=by exact rfl) :
  JE X (.Call (.Attribute o m apos) (e :: es) [] pos) (fun σ H Q=>cU i σ H fun x H1=>(bD m fn).tq X.K x H1/\t σ H1 fun xs H2=>(bD m fn).r X.K x xs H2 Q) :=
 Jt (pl:=pl) he c hm F (hr.mono hk) hb vD ha (a8 hst) (cF hpl) ht
theorem E5 (c:Cls X.K clsAt) (hm:Meth X.K clsAt m a) (F:aQ X.prog X.w X.K X.mg X.base CX0 k a fd ps (bH fn X.K)) (hr:eX n X.A) (hb:Binds X.K fd ps []) (he:JE X o (cU i))
  (hk:k<=n:=by omega)
  (ht:eval (.Call (.Attribute o m apos) [] [] pos) X.env=(do
   let ov<-eval o X.env
   standAt apos.atName
   let (f,first)<-holding [ov] (getMethod ov m pl)
   callWith pos f first (backTo pos (starEach [] X.env)) (backToKw pos (keywordEach [] X.env))):=by exact rfl) :
  JE X (.Call (.Attribute o m apos) [] [] pos) (fun σ H Q=>cU i σ H fun x H1=>(bD m fn).tq X.K x H1/\gC σ H1 fun xs H2=>(bD m fn).r X.K x xs H2 Q) :=
 HK (pl:=pl) he c hm F (hr.mono hk) hb vD ht
theorem eNw (M:Mk X.K clsAt a) (F:aQ X.prog X.w X.K X.mg X.base CX0 k a fd ps (bH fn X.K)) (hr:eX n X.A) (hm:X.mg x=some (.ref clsAt)) (hb:Binds X.K fd ps []) (ha:JA X (e :: es) t)
  (hk:k+1<=n:=by omega) (hg:Gl X x:=by exact rfl) (hdb:(x==("__debug__" : Str))=false:=by exact rfl) (hst:PySem.W.isStarred e=false:=by exact rfl) (hpl:es.all (fun e=>!PySem.W.isStarred e)=true:=by exact rfl) :
  JE X (.Call (.Name x p) (e :: es) [] pos) (tCB ((Fm fn).r X.K) t):=eNew M F (hr.mono hk) hg hm hb vD ha hdb (a8 hst) (cF hpl)
end
end L2
end
set_option bootstrap.genMatcherCode true
section
namespace K51
open PySem PySem.Spec PyProof.Rows L2
noncomputable def top (i:Nat):Stmt:=PySem.Challenge.pw_webshapes_k51_papers_read.main.body.getD i (.Pass ⟨0,0,0,0⟩)
noncomputable def topC (i j:Nat):Stmt:=match top i with | .ClassDef _ _ _ b _ _ _ _ _ _ _=>b.getD j (.Pass ⟨0,0,0,0⟩) | _=>.Pass ⟨0,0,0,0⟩
noncomputable abbrev cC:Stmt:=top 6
noncomputable abbrev kB:Stmt:=top 7
noncomputable abbrev jw:Stmt:=top 8
noncomputable abbrev lD:Stmt:=top 9
noncomputable abbrev kr:Stmt:=top 10
noncomputable abbrev gW:Stmt:=top 11
noncomputable abbrev dQ:Stmt:=top 12
noncomputable abbrev ki:Stmt:=top 13
noncomputable abbrev ix:Stmt:=top 18
noncomputable abbrev cp:Stmt:=top 19
noncomputable abbrev fz:Stmt:=top 20
noncomputable abbrev fg:Stmt:=top 21
noncomputable abbrev ju:Stmt:=top 22
noncomputable abbrev cY:Stmt:=top 23
noncomputable abbrev jz:Stmt:=top 25
noncomputable abbrev gf:Stmt:=top 26
noncomputable abbrev dM:Stmt:=top 27
noncomputable abbrev ij:Stmt:=top 28
noncomputable abbrev eM:Stmt:=top 29
noncomputable abbrev cn:Stmt:=top 30
noncomputable abbrev gg:Stmt:=top 31
noncomputable abbrev jt:Stmt:=top 32
noncomputable abbrev gy:Stmt:=top 33
noncomputable abbrev fB:Stmt:=top 34
noncomputable abbrev fi:Stmt:=top 35
noncomputable abbrev jd:Stmt:=top 36
noncomputable abbrev df:Stmt:=top 37
noncomputable abbrev wx:Stmt:=top 39
noncomputable abbrev rY:Stmt:=top 40
noncomputable abbrev kT:Stmt:=top 41
noncomputable abbrev l8:Stmt:=top 42
noncomputable abbrev sv:Stmt:=top 43
noncomputable abbrev oY:Stmt:=top 44
noncomputable abbrev sV:Stmt:=top 45
noncomputable abbrev gQ:Stmt:=top 46
noncomputable abbrev my:Stmt:=top 47
noncomputable abbrev vS:Stmt:=top 48
noncomputable abbrev kW:Stmt:=top 49
noncomputable abbrev iC:Stmt:=top 50
noncomputable abbrev dW:Stmt:=top 51
noncomputable abbrev bp:Stmt:=top 52
noncomputable abbrev jb:Stmt:=top 53
noncomputable abbrev lr:Stmt:=top 54
noncomputable abbrev qq:Stmt:=top 55
noncomputable abbrev a9:Stmt:=topC 24 0
noncomputable abbrev bg:Stmt:=topC 24 1
noncomputable abbrev bb:Stmt:=topC 24 2
noncomputable abbrev ba:Stmt:=topC 24 3
noncomputable abbrev aG:Stmt:=topC 24 4
noncomputable def dfs:List (Str×Stmt×List Str):=("are_letters", cC,["thing", "fewest"]) :: ("is_name", kB,["thing"]) :: ("is_whole", jw,["thing"]) :: ("is_said", lD,["thing"]) :: ("kind_of", kr,["node"]) :: ("show_node", gW,["node"]) :: ("number_in", dQ,["text"]) :: ("node_in", ki,["text"]) :: ("show_ends", ix,["ends"]) :: ("show_reasons", cp,["reasons"]) :: ("show_inside", fz,["reason"]) :: ("show_reason", fg,["reason"]) :: ("show_row", ju,["row"]) :: ("show_paper", cY,["paper"]) :: ("count_in", jz,["text"]) :: ("read_place", gf,["reader"]) :: ("read_end_node", dM,["reader"]) :: ("read_ends", ij,["reader", "stop", "depth"]) :: ("read_reasons", eM,["reader", "depth"]) :: ("read_behind_comma", cn,["reader", "depth"]) :: ("read_alone", gg,["reader", "depth"]) :: ("read_two", jt,["reader", "depth"]) :: ("read_count", gy,["reader", "depth"]) :: ("read_inside", fB,["reader", "word", "depth"]) :: ("read_reason", fi,["reader", "depth"]) :: ("read_row", jd,["text", "line"]) :: ("read_paper", df,["text"]) :: ("_law_pen", wx,["_law_script"]) :: ("_law_take", rY,["_law_pen_here", "_law_most"]) :: ("_law_names", kT,["_law_pen_here", "_law_many"]) :: ("_law_number", l8,["_law_pen_here"]) :: ("_law_node", sv,["_law_pen_here", "_law_things"]) :: ("_law_count", oY,["_law_pen_here"]) :: ("_law_ends", sV,["_law_pen_here", "_law_things", "_law_room", "_law_deep"]) :: ("_law_reasons", gQ,["_law_pen_here", "_law_things", "_law_room", "_law_deep"]) :: ("_law_reason", my,["_law_pen_here", "_law_things", "_law_room", "_law_deep"]) :: ("_law_row", vS,["_law_pen_here", "_law_things", "_law_names_here", "_law_most"]) :: ("_law_paper", kW,["_law_pen_here", "_law_things", "_law_names_here"]) :: ("_law_node_text", iC,["_law_node_here"]) :: ("_law_ends_text", dW,["_law_pairs"]) :: ("_law_reason_text", bp,["_law_reason_here"]) :: ("_law_row_text", jb,["_law_row_here"]) :: ("_law_alike", lr,["_law_found", "_law_due"]) :: ("law", qq,["_law_script"]) :: []
structure Adr where
 f:Nat->Addr×FuncData
 nW:Addr
 mS:FuncData
 nj:Addr
 om:FuncData
 nX:Addr
 nK:FuncData
 oh:Addr
 m3:FuncData
 gL:Addr
 gA:FuncData
 o8:Addr
 uV:Tok
 lT:Tok
 lM:Tok
 pP:Tok
structure Txt (K:Fg) (mg:Str->Option Value) (t:Adr):Prop where
 d:∀ i {x st ps},dfs[i]?=some (x,st,ps)->Fa K mg x st ps (t.f i)
 xK:Fun K "__init__" "ReasonReader.__init__" a9 t.nW t.mS
 xQ:Binds K t.mS ["self", "text", "line"] []
 zk:Fun K "sees" "ReasonReader.sees" bg t.nj t.om
 jP:Binds K t.om ["self", "piece"] []
 jX:Meth K clsAt "sees" t.nj
 yi:Fun K "skip" "ReasonReader.skip" bb t.nX t.nK
 cO:Binds K t.nK ["self", "piece"] []
 cT:Meth K clsAt "skip" t.nX
 ye:Fun K "word" "ReasonReader.word" ba t.oh t.m3
 n4:Binds K t.m3 ["self"] []
 nq:Meth K clsAt "word" t.oh
 qG:Fun K "is_done" "ReasonReader.is_done" aG t.gL t.gA
 qL:Binds K t.gA ["self"] []
 qX:Meth K clsAt "is_done" t.gL
 cl:Cls K clsAt
 cmk:Mk K clsAt t.nW
 cg:mg "ReasonReader" = some (.ref clsAt)
 na_at:fh K clsAt "at"
 na_line:fh K clsAt "line"
 na_text:fh K clsAt "text"
 z_abs:mg "abs" = none
 z_all:mg "all" = none
 z_bool:mg "bool" = none
 z_enumerate:mg "enumerate" = none
 z_int:mg "int" = none
 z_isinstance:mg "isinstance" = none
 z_len:mg "len" = none
 z_list:mg "list" = none
 z_min:mg "min" = none
 z_range:mg "range" = none
 z_str:mg "str" = none
 z_tuple:mg "tuple" = none
 z_zip:mg "zip" = none
 g_BARE:mg "BARE" = some (.ref t.o8)
 g_DEEPEST:mg "DEEPEST" = some (Value.int 12 t.uV)
 g_MOST_FIGURES:mg "MOST_FIGURES" = some (Value.int 30 t.lT)
 g_MOST_LETTERS:mg "MOST_LETTERS" = some (Value.int 8 t.lM)
 g_WORD_SIGNS:mg "WORD_SIGNS" = some (Value.str "abcdefghijklmnopqrstuvwxyz0123456789'-" t.pP)
 s_BARE:∀ H,SqT K H t.o8 [.str "plain", .str "claim", .str "bound"]
theorem lW:ai ["thing", "fewest"] ["thing", "fewest"] (aa cC):=scm
theorem ux:ai ["thing"] ["thing"] (aa kB):=scm
theorem qk:ai ["thing"] ["thing"] (aa jw):=scm
theorem uE:ai ["thing"] ["thing"] (aa lD):=scm
theorem ug:ai ["node"] ["node"] (aa kr):=scm
theorem jB:ai ["node", "kind"] ["node"] (aa gW):=scm
theorem fm:ai ["text", "figures", "number"] ["text"] (aa dQ):=scm
theorem mf:ai ["text", "said"] ["text"] (aa ki):=scm
theorem cN:ai ["ends", "shown", "node", "reason"] ["ends"] (aa ix):=scm
theorem j8:ai ["reasons"] ["reasons"] (aa cp):=scm
theorem gh:ai ["reason", "word"] ["reason"] (aa fz):=scm
theorem b5:ai ["reason", "word", "inside"] ["reason"] (aa fg):=scm
theorem ka:ai ["row", "kept"] ["row"] (aa ju):=scm
theorem ny:ai ["paper"] ["paper"] (aa cY):=scm
theorem kO:ai ["text", "number"] ["text"] (aa jz):=scm
theorem hU:ai ["reader", "place"] ["reader"] (aa gf):=scm
theorem eO:ai ["reader", "node"] ["reader"] (aa dM):=scm
theorem fo:ai ["reader", "stop", "depth", "ends", "node"] ["reader", "stop", "depth"] (aa ij):=scm
theorem fF:ai ["reader", "depth", "reasons"] ["reader", "depth"] (aa eM):=scm
theorem fV:ai ["reader", "depth"] ["reader", "depth"] (aa cn):=scm
theorem dZ:ai ["reader", "depth", "place", "reasons"] ["reader", "depth"] (aa gg):=scm
theorem dY:ai ["reader", "depth", "one", "other", "first"] ["reader", "depth"] (aa jt):=scm
theorem iA:ai ["reader", "depth", "yes"] ["reader", "depth"] (aa gy):=scm
theorem dh:ai ["reader", "word", "depth", "place", "node"] ["reader", "word", "depth"] (aa fB):=scm
theorem b6:ai ["reader", "depth", "word", "reason"] ["reader", "depth"] (aa fi):=scm
theorem bY:ai ["text", "line", "words", "node", "rank", "reader", "reason"] ["text", "line"] (aa jd):=scm
theorem og:ai ["text"] ["text"] (aa df):=scm
theorem DE:ai ["_law_script"] ["_law_script"] (aa wx):=scm
theorem gM:ai ["_law_pen_here", "_law_most", "_law_found", "_law_at", "_law_cell", "_law_number_here"] ["_law_pen_here", "_law_most"] (aa rY):=scm
theorem bR:ai ["_law_pen_here", "_law_many", "_law_letters", "_law_base", "_law_words", "_law_way", "_law_size", "_law_at", "_law_turn", "_law_found", "_law_k", "_law_sign"] ["_law_pen_here", "_law_many"] (aa kT):=scm
theorem dB:ai ["_law_pen_here", "_law_way", "_law_number_here"] ["_law_pen_here"] (aa l8):=scm
theorem kb:ai ["_law_pen_here", "_law_things", "_law_way", "_law_word", "_law_k"] ["_law_pen_here", "_law_things"] (aa sv):=scm
theorem yP:ai ["_law_pen_here"] ["_law_pen_here"] (aa oY):=scm
theorem qN:ai ["_law_pen_here", "_law_things", "_law_room", "_law_deep", "_law_found", "_law_k"] ["_law_pen_here", "_law_things", "_law_room", "_law_deep"] (aa sV):=scm
theorem mQ:ai ["_law_pen_here", "_law_things", "_law_room", "_law_deep", "_law_many"] ["_law_pen_here", "_law_things", "_law_room", "_law_deep"] (aa gQ):=scm
theorem fb:ai ["_law_pen_here", "_law_things", "_law_room", "_law_deep", "_law_way", "_law_places", "_law_one"] ["_law_pen_here", "_law_things", "_law_room", "_law_deep"] (aa my):=scm
theorem oO:ai ["_law_pen_here", "_law_things", "_law_names_here", "_law_most", "_law_node_here", "_law_name", "_law_kept", "_law_room"] ["_law_pen_here", "_law_things", "_law_names_here", "_law_most"] (aa vS):=scm
theorem jQ:ai ["_law_pen_here", "_law_things", "_law_names_here", "_law_many", "_law_most"] ["_law_pen_here", "_law_things", "_law_names_here"] (aa kW):=scm
theorem oV:ai ["_law_node_here"] ["_law_node_here"] (aa iC):=scm
theorem oP:ai ["_law_pairs"] ["_law_pairs"] (aa dW):=scm
theorem aA:ai ["_law_reason_here", "_law_word", "_law_parts", "_law_some"] ["_law_reason_here"] (aa bp):=scm
theorem kz:ai ["_law_row_here", "_law_kept"] ["_law_row_here"] (aa jb):=scm
theorem rK:ai ["_law_found", "_law_due"] ["_law_found", "_law_due"] (aa lr):=scm
theorem jn:ai ["_law_script", "_law_pen_here", "_law_things", "_law_names_here", "_law_paper_here", "_law_text", "_law_turn", "_law_found"] ["_law_script"] (aa qq):=scm
theorem xB:ai ["self", "text", "line"] ["self", "text", "line"] (aa a9):=scm
theorem wC:ai ["self", "piece"] ["self", "piece"] (aa bg):=scm
theorem vZ:ai ["self", "piece"] ["self", "piece"] (aa bb):=scm
theorem oG:ai ["self", "start"] ["self"] (aa ba):=scm
theorem pz:ai ["self"] ["self"] (aa aG):=scm
noncomputable def gds:List PyData:=[.tuple [PyData.str "plain", PyData.str "claim", PyData.str "bound"]]
noncomputable def gav (t:Adr):Nat->V:=fun g=>([.ref t.o8]:List V)[g]?.getD .non
theorem aK {K:Fg} {mg:Str->Option Value} {t:Adr} (T:Txt K mg t):∀ g d,gds[g]?=some d->∀ F H,Dm K F H d (gav t g):=by
 intro g d h F H;rcases g with _ | g
 ·cases h;exact ⟨_,_,rfl,T.s_BARE H,by decide,⟨_,_,rfl,⟨rfl,by decide +kernel,cy _⟩,⟨_,_,rfl,⟨rfl,by decide +kernel,cy _⟩,⟨_,_,rfl,⟨rfl,by decide +kernel,cy _⟩,rfl⟩⟩⟩⟩
 cases h
noncomputable def gs:XS :=
 (.seq (.ifs (.or (.not (.tst (p1 (lB "str") (vr 0)))) (.not (.tst (.chn leP leP (vr 1) (p1 md (vr 0)) (ci 8))))) (.ret (.cst (.b false))) .skip)
  (.ret (p1 EX (.cmp [] (.str (vr 0)) .yes (.chn leP leP (cs "a") (vr 0) (cs "z"))))))
noncomputable def b7:Fn:=bX gds [.dat,.dat] 2 gs
def lL (K:Fg):Sp:=bH b7 K
noncomputable def l0:XS :=
 (.ret (.call b7 (.cons (vr 0) (.cons (ci 1) .nil))))
noncomputable def fR:Fn:=bX gds [.dat] 1 l0
def uB (K:Fg):Sp:=bH fR K
noncomputable def kq:XS :=
 (.ret (.uL (p1 (lB "int") (vr 0)) (.BU (p1 (lB "bool") (vr 0)))))
noncomputable def gE:Fn:=bX gds [.dat] 1 kq
def qx (K:Fg):Sp:=bH gE K
noncomputable def mO:XS :=
 (.ret (.uL (p1 (lB "tuple") (vr 0)) (.uL (p2 eqP (p1 md (vr 0)) (ci 1)) (.call b7 (.cons (p2 ixP (vr 0) (ci 0)) (.cons (ci 0) .nil))))))
noncomputable def iJ:Fn:=bX gds [.dat] 1 mO
def tY (K:Fg):Sp:=bH iJ K
noncomputable def tQ:XS :=
 (.seq (.ifs (.tst (p1 (lB "str") (vr 0))) (.ret (cs "thing")) .skip)
  (.seq (.ifs (.tst (p1 (lB "tuple") (vr 0))) (.ret (cs "said")) .skip)
  (.ret (cs "number"))))
noncomputable def mz:Fn:=bX gds [.dat] 1 tQ
def uj (K:Fg):Sp:=bH mz K
noncomputable def jj:XS :=
 (.seq (.bf 1 (.call mz (.cons (vr 0) .nil)))
  (.seq (.ifs (.tst (p2 eqP (vr 1) (cs "number"))) (.ret (p1 uK (vr 0))) .skip)
  (.seq (.ifs (.tst (p2 eqP (vr 1) (cs "said"))) (.ret (p2 cL (cs "'") (p2 ixP (vr 0) (ci 0)))) .skip)
  (.ret (vr 0)))))
noncomputable def ck:Fn:=bX gds [.dat] 2 jj
def ow (K:Fg):Sp:=bH ck K
noncomputable def jg:XS :=
 (.seq (.bf 1 (.ifx (.tst (.met vU (vr 0) (.cons (cs "-") .nil))) (p2 DN (vr 0) (ci 1)) (vr 0)))
  (.seq (.ifs (.or (.not (.tst (.chn leP leP (ci 1) (p1 md (vr 1)) (ci 30)))) (.not (.tst (p1 EX (.cmp [] (.str (vr 1)) .yes (.chn leP leP (cs "0") (vr 0) (cs "9"))))))) (.ret (.cst .n)) .skip)
  (.seq (.bf 2 (p1 yY (vr 0)))
  (.ret (.ifx (.tst (p2 eqP (p1 uK (vr 2)) (vr 0))) (vr 2) (.cst .n))))))
noncomputable def fC:Fn:=bX gds [.dat] 3 jg
def pH (K:Fg):Sp:=bH fC K
noncomputable def lY:XS :=
 (.seq (.ifs (.not (.tst (p1 (lB "str") (vr 0)))) (.ret (.cst .n)) .skip)
  (.seq (.ifs (.tst (.met vU (vr 0) (.cons (cs "'") .nil))) (.seq (.bf 1 (.tup (.cons (p2 DN (vr 0) (ci 1)) .nil)))
  (.ret (.ifx (.tst (.call iJ (.cons (vr 1) .nil))) (vr 1) (.cst .n)))) .skip)
  (.ret (.ifx (.tst (.call fR (.cons (vr 0) .nil))) (vr 0) (.call fC (.cons (vr 0) .nil))))))
noncomputable def du:Fn:=bX gds [.dat] 2 lY
def t9 (K:Fg):Sp:=bH du K
noncomputable def jf (F_show_reason:Fn):XS :=
 (.seq (.qp 1 (.lst .nil))
  (.seq (.frT [2,3] (.tup (vr 0)) (.drop (.mtr we 1 (.cons (p2 cL (p2 cL (.call ck (.cons (vr 2) .nil)) (cs ": ")) (.call F_show_reason (.cons (vr 3) .nil))) .nil))))
  (.ret (.met joinM (cs ", ") (.cons (vr 1) .nil)))))
noncomputable def fq (F_show_reason:Fn):XS :=
 (.ret (.cmp [] (.tup (vr 0)) .yes (.call F_show_reason (.cons (vr 0) .nil))))
noncomputable def gv (F_show_ends:Fn) (F_show_reasons:Fn) (F_show_reason:Fn):XS :=
 (.seq (.bf 1 (p2 ixP (vr 0) (ci 0)))
  (.seq (.ifs (.tst (p2 eqP (vr 1) (cs "count"))) (.ret (p2 cL (p2 cL (.call F_show_ends (.cons (p2 ixP (vr 0) (ci 1)) .nil)) (cs " / ")) (.call F_show_ends (.cons (p2 ixP (vr 0) (ci 2)) .nil)))) .skip)
  (.seq (.ifs (.tst (p2 inP (vr 1) (.tup (.cons (cs "lacks") (.cons (cs "over") .nil))))) (.ret (.call F_show_ends (.cons (p2 ixP (vr 0) (ci 1)) .nil))) .skip)
  (.seq (.ifs (.tst (p2 inP (vr 1) (.tup (.cons (cs "every") (.cons (cs "ends") .nil))))) (.ret (.met joinM (cs ", ") (.cons (.call F_show_reasons (.cons (p2 ixP (vr 0) (ci 1)) .nil)) .nil))) .skip)
  (.seq (.ifs (.tst (p2 eqP (vr 1) (cs "alone"))) (.ret (.met joinM (cs ", ") (.cons (p2 cL (.lst (.cons (p1 uK (p2 ixP (vr 0) (ci 1))) .nil)) (.call F_show_reasons (.cons (p2 ixP (vr 0) (ci 2)) .nil))) .nil))) .skip)
  (.seq (.ifs (.tst (p2 eqP (vr 1) (cs "end"))) (.ret (.met joinM (cs ", ") (.cons (.lst (.cons (.call ck (.cons (p2 ixP (vr 0) (ci 1)) .nil)) (.cons (.call F_show_reason (.cons (p2 ixP (vr 0) (ci 2)) .nil)) .nil))) .nil))) .skip)
  (.seq (.ifs (.tst (p2 eqP (vr 1) (cs "part"))) (.ret (.met joinM (cs ", ") (.cons (.lst (.cons (p1 uK (p2 ixP (vr 0) (ci 1))) (.cons (.call F_show_reason (.cons (p2 ixP (vr 0) (ci 2)) .nil)) .nil))) .nil))) .skip)
  (.seq (.ifs (.tst (p2 eqP (vr 1) (cs "two"))) (.ret (.met joinM (cs ", ") (.cons (p2 cL (.lst (.cons (p1 uK (p2 ixP (vr 0) (ci 1))) (.cons (p1 uK (p2 ixP (vr 0) (ci 2))) .nil))) (.call F_show_reasons (.cons (p2 DN (vr 0) (ci 3)) .nil))) .nil))) .skip)
  (.ret (.call F_show_reason (.cons (p2 ixP (vr 0) (ci 1)) .nil)))))))))))
noncomputable def gc (F_show_inside:Fn):XS :=
 (.seq (.bf 1 (p2 ixP (vr 0) (ci 0)))
  (.seq (.ifs (.tst (p2 inP (vr 1) (.glb 0))) (.ret (vr 1)) .skip)
  (.seq (.bf 2 (.call F_show_inside (.cons (vr 0) .nil)))
  (.ret (.fst (.cons (p1 fvP (vr 1)) (.cons (cs "(") (.cons (p1 fvP (vr 2)) (.cons (cs ")") .nil)))))))))
noncomputable def jm (F_show_reason:Fn):Fn:=bX gds [.dat] 4 (jf F_show_reason)
noncomputable def fM (F_show_reason:Fn):Fn:=bX gds [.dat] 1 (fq F_show_reason)
noncomputable def gn (F_show_reason:Fn):Fn:=bX gds [.dat] 2 (gv (jm F_show_reason) (fM F_show_reason) F_show_reason)
noncomputable def aL:Nat->Fn
 | 0=>Fn.no [.dat]
 | n+1=>bX gds [.dat] 3 (gc (gn (aL n)))
noncomputable def jh (n:Nat):Fn:=jm (aL n)
noncomputable def fe (n:Nat):Fn:=fM (aL n)
noncomputable def gz (n:Nat):Fn:=gn (aL n)
def pJ (K:Fg) (n:Nat):Sp:=bH (jh n) K
def kI (K:Fg) (n:Nat):Sp:=bH (fe n) K
def lQ (K:Fg) (n:Nat):Sp:=bH (gz n) K
def gu (K:Fg) (n:Nat):Sp:=bH (aL n) K
noncomputable def j0:XS :=
 (.seq (.bf 1 (.ifx (.tst (p2 ixP (vr 0) (ci 2))) (cs "yes") (cs "no")))
  (.ret (.met joinM (cs " ") (.cons (.lst (.cons (.call ck (.cons (p2 ixP (vr 0) (ci 0)) .nil)) (.cons (p2 ixP (vr 0) (ci 1)) (.cons (vr 1) (.cons (p1 uK (p2 ixP (vr 0) (ci 3))) (.cons (.call (aL 12) (.cons (p2 ixP (vr 0) (ci 4)) .nil)) .nil)))))) .nil))))
noncomputable def gI:Fn:=bX gds [.dat] 2 j0
def qH (K:Fg):Sp:=bH gI K
noncomputable def iz:XS :=
 (.ret (.met joinM (cs "\n") (.cons (.cmp [] (.lst (vr 0)) .yes (.call gI (.cons (vr 0) .nil))) .nil)))
noncomputable def cx:Fn:=bX gds [.bor] 1 iz
def nt (K:Fg):Sp:=bH cx K
noncomputable def kY:XS :=
 (.seq (.bf 1 (.call du (.cons (vr 0) .nil)))
  (.ret (.ifx (.and (.tst (.call gE (.cons (vr 1) .nil))) (.tst (p2 geP (vr 1) (ci 0)))) (vr 1) (.cst .n))))
noncomputable def eH:Fn:=bX gds [.dat] 2 kY
def qE (K:Fg):Sp:=bH eH K
noncomputable def o6:XS :=
 (.seq (.bf 1 (p1 (gJ "at") (vr 0)))
  (.seq (.wh 100000 (.and (.tst (p2 ltP (p1 (gJ "at") (vr 0)) (p1 md (p1 (gJ "text") (vr 0))))) (.tst (p2 inP (p2 ixP (p1 (gJ "text") (vr 0)) (p1 (gJ "at") (vr 0))) (cs "abcdefghijklmnopqrstuvwxyz0123456789'-")))) (.sto (uC "at") 0 (.cst .n) (p2 cL (p1 (gJ "at") (vr 0)) (ci 1))))
  (.ret (.sl2 IL (p1 (gJ "text") (vr 0)) (vr 1) (p1 (gJ "at") (vr 0))))))
noncomputable def dO:Fn:=bX gds [.ino] 2 o6
def vL (K:Fg):Sp:=bH dO K
noncomputable def iq:XS :=
 (.seq (.bf 1 (.call eH (.cons (.mtr (bD "word" dO) 0 .nil) .nil)))
  (.seq (.ifs (.tst (p2 isP (vr 1) (.cst .n))) .nev .skip)
  (.ret (vr 1))))
noncomputable def bz:Fn:=bX gds [.ino] 2 iq
def nT (K:Fg):Sp:=bH bz K
noncomputable def eR:XS :=
 (.seq (.bf 1 (.call du (.cons (.mtr (bD "word" dO) 0 .nil) .nil)))
  (.seq (.ifs (.tst (p2 isP (vr 1) (.cst .n))) .nev .skip)
  (.ret (vr 1))))
noncomputable def bJ:Fn:=bX gds [.ino] 2 eR
def jF (K:Fg):Sp:=bH bJ K
noncomputable def oZ:XS :=
 (.ret (.met nV (p1 (gJ "text") (vr 0)) (.cons (vr 1) (.cons (p1 (gJ "at") (vr 0)) .nil))))
noncomputable def bO:Fn:=bX gds [.ino,.dat] 2 oZ
def uO (K:Fg):Sp:=bH bO K
noncomputable def pO:XS :=
 (.seq (.ifs (.not (.tst (.mtr (bD "sees" bO) 0 (.cons (vr 1) .nil)))) .nev .skip)
  (.sto (uC "at") 0 (.cst .n) (p2 cL (p1 (gJ "at") (vr 0)) (p1 md (vr 1)))))
noncomputable def bu:Fn:=bX gds [.ino,.dat] 2 pO
def vN (K:Fg):Sp:=bH bu K
noncomputable def jA (F_read_reason:Fn):XS :=
 (.seq (.qp 3 (.lst .nil))
  (.seq (.wh 100000 (.not (.tst (.mtr (bD "sees" bO) 0 (.cons (vr 1) .nil)))) (.seq (.ifs (.tru (vr 3)) (.drop (.mtr (bD "skip" bu) 0 (.cons (cs ", ") .nil))) .skip)
  (.seq (.bf 4 (.call bJ (.cons (vr 0) .nil)))
  (.seq (.drop (.mtr (bD "skip" bu) 0 (.cons (cs ": ") .nil)))
  (.drop (.mtr we 3 (.cons (.tup (.cons (vr 4) (.cons (.call F_read_reason (.cons (vr 0) (.cons (vr 2) .nil))) .nil))) .nil)))))))
  (.ret (p1 jq (vr 3)))))
noncomputable def fu (F_read_reason:Fn):XS :=
 (.seq (.qp 2 (.lst .nil))
  (.seq (.wh 100000 (.not (.tst (.mtr (bD "sees" bO) 0 (.cons (cs ")") .nil)))) (.seq (.ifs (.tru (vr 2)) (.drop (.mtr (bD "skip" bu) 0 (.cons (cs ", ") .nil))) .skip)
  (.drop (.mtr we 2 (.cons (.call F_read_reason (.cons (vr 0) (.cons (vr 1) .nil))) .nil)))))
  (.ret (p1 jq (vr 2)))))
noncomputable def cw (F_read_reason:Fn):XS :=
 (.seq (.drop (.mtr (bD "skip" bu) 0 (.cons (cs ", ") .nil)))
  (.ret (.call F_read_reason (.cons (vr 0) (.cons (vr 1) .nil)))))
noncomputable def iy (F_read_behind_comma:Fn):XS :=
 (.seq (.bf 2 (.call bz (.cons (vr 0) .nil)))
  (.seq (.qp 3 (.lst .nil))
  (.seq (.wh 100000 (.not (.tst (.mtr (bD "sees" bO) 0 (.cons (cs ")") .nil)))) (.drop (.mtr we 3 (.cons (.call F_read_behind_comma (.cons (vr 0) (.cons (vr 1) .nil))) .nil))))
  (.ret (.tup (.cons (cs "alone") (.cons (vr 2) (.cons (p1 jq (vr 3)) .nil))))))))
noncomputable def kN (F_read_behind_comma:Fn):XS :=
 (.seq (.bf 2 (.call bz (.cons (vr 0) .nil)))
  (.seq (.drop (.mtr (bD "skip" bu) 0 (.cons (cs ", ") .nil)))
  (.seq (.bf 3 (.call bz (.cons (vr 0) .nil)))
  (.seq (.bf 4 (.call F_read_behind_comma (.cons (vr 0) (.cons (vr 1) .nil))))
  (.ret (.tup (.cons (cs "two") (.cons (vr 2) (.cons (vr 3) (.cons (vr 4) (.cons (.call F_read_behind_comma (.cons (vr 0) (.cons (vr 1) .nil))) .nil)))))))))))
noncomputable def il (F_read_ends:Fn):XS :=
 (.seq (.bf 2 (.call F_read_ends (.cons (vr 0) (.cons (cs " / ") (.cons (vr 1) .nil)))))
  (.seq (.drop (.mtr (bD "skip" bu) 0 (.cons (cs " / ") .nil)))
  (.ret (.tup (.cons (cs "count") (.cons (vr 2) (.cons (.call F_read_ends (.cons (vr 0) (.cons (cs ")") (.cons (vr 1) .nil)))) .nil)))))))
noncomputable def f7 (F_read_reason:Fn) (F_read_reasons:Fn) (F_read_ends:Fn) (F_read_count:Fn) (F_read_alone:Fn) (F_read_two:Fn) (F_read_behind_comma:Fn):XS :=
 (.seq (.ifs (.tst (p2 eqP (vr 1) (cs "turn"))) (.ret (.tup (.cons (cs "turn") (.cons (.call F_read_reason (.cons (vr 0) (.cons (vr 2) .nil))) .nil)))) .skip)
  (.seq (.ifs (.tst (p2 inP (vr 1) (.tup (.cons (cs "every") (.cons (cs "ends") .nil))))) (.ret (.tup (.cons (vr 1) (.cons (.call F_read_reasons (.cons (vr 0) (.cons (vr 2) .nil))) .nil)))) .skip)
  (.seq (.ifs (.tst (p2 inP (vr 1) (.tup (.cons (cs "lacks") (.cons (cs "over") .nil))))) (.ret (.tup (.cons (vr 1) (.cons (.call F_read_ends (.cons (vr 0) (.cons (cs ")") (.cons (vr 2) .nil)))) .nil)))) .skip)
  (.seq (.ifs (.tst (p2 eqP (vr 1) (cs "count"))) (.ret (.call F_read_count (.cons (vr 0) (.cons (vr 2) .nil)))) .skip)
  (.seq (.ifs (.tst (p2 eqP (vr 1) (cs "alone"))) (.ret (.call F_read_alone (.cons (vr 0) (.cons (vr 2) .nil)))) .skip)
  (.seq (.ifs (.tst (p2 eqP (vr 1) (cs "two"))) (.ret (.call F_read_two (.cons (vr 0) (.cons (vr 2) .nil)))) .skip)
  (.seq (.ifs (.tst (p2 eqP (vr 1) (cs "part"))) (.seq (.bf 3 (.call bz (.cons (vr 0) .nil)))
  (.ret (.tup (.cons (cs "part") (.cons (vr 3) (.cons (.call F_read_behind_comma (.cons (vr 0) (.cons (vr 2) .nil))) .nil)))))) .skip)
  (.seq (.ifs (.tst (p2 eqP (vr 1) (cs "end"))) (.seq (.bf 4 (.call bJ (.cons (vr 0) .nil)))
  (.ret (.tup (.cons (cs "end") (.cons (vr 4) (.cons (.call F_read_behind_comma (.cons (vr 0) (.cons (vr 2) .nil))) .nil)))))) .skip)
  .nev))))))))
noncomputable def gj (F_read_inside:Fn):XS :=
 (.seq (.ifs (.tst (p2 gtP (vr 1) (ci 12))) .nev .skip)
  (.seq (.bf 2 (.mtr (bD "word" dO) 0 .nil))
  (.seq (.ifs (.tst (p2 inP (vr 2) (.glb 0))) (.ret (.tup (.cons (vr 2) .nil))) .skip)
  (.seq (.drop (.mtr (bD "skip" bu) 0 (.cons (cs "(") .nil)))
  (.seq (.bf 3 (.call F_read_inside (.cons (vr 0) (.cons (vr 2) (.cons (p2 cL (vr 1) (ci 1)) .nil)))))
  (.seq (.drop (.mtr (bD "skip" bu) 0 (.cons (cs ")") .nil)))
  (.ret (vr 3))))))))
noncomputable def cV (F_read_reason:Fn):Fn:=bX gds [.ino,.dat,.dat] 5 (jA F_read_reason)
noncomputable def cB (F_read_reason:Fn):Fn:=bX gds [.ino,.dat] 3 (fu F_read_reason)
noncomputable def aJ (F_read_reason:Fn):Fn:=bX gds [.ino,.dat] 2 (cw F_read_reason)
noncomputable def d7 (F_read_reason:Fn):Fn:=bX gds [.ino,.dat] 4 (iy (aJ F_read_reason))
noncomputable def gO (F_read_reason:Fn):Fn:=bX gds [.ino,.dat] 5 (kN (aJ F_read_reason))
noncomputable def eJ (F_read_reason:Fn):Fn:=bX gds [.ino,.dat] 3 (il (cV F_read_reason))
noncomputable def c6 (F_read_reason:Fn):Fn:=bX gds [.ino,.dat,.dat] 5 (f7 F_read_reason (cB F_read_reason) (cV F_read_reason) (eJ F_read_reason) (d7 F_read_reason) (gO F_read_reason) (aJ F_read_reason))
noncomputable def aj:Nat->Fn
 | 0=>Fn.no [.ino,.dat]
 | n+1=>bX gds [.ino,.dat] 4 (gj (c6 (aj n)))
noncomputable def pY (n:Nat):Fn:=cV (aj n)
noncomputable def lu (n:Nat):Fn:=cB (aj n)
noncomputable def fY (n:Nat):Fn:=aJ (aj n)
noncomputable def mT (n:Nat):Fn:=d7 (aj n)
noncomputable def qz (n:Nat):Fn:=gO (aj n)
noncomputable def nC (n:Nat):Fn:=eJ (aj n)
noncomputable def lO (n:Nat):Fn:=c6 (aj n)
def oR (K:Fg) (n:Nat):Sp:=bH (pY n) K
def kE (K:Fg) (n:Nat):Sp:=bH (lu n) K
def fW (K:Fg) (n:Nat):Sp:=bH (fY n) K
def mZ (K:Fg) (n:Nat):Sp:=bH (mT n) K
def rq (K:Fg) (n:Nat):Sp:=bH (qz n) K
def nG (K:Fg) (n:Nat):Sp:=bH (nC n) K
def lI (K:Fg) (n:Nat):Sp:=bH (lO n) K
def gx (K:Fg) (n:Nat):Sp:=bH (aj n) K
noncomputable def o9:XS :=
 (.seq (.sto (uC "text") 0 (.cst .n) (vr 1))
  (.seq (.sto (uC "line") 0 (.cst .n) (vr 2))
  (.sto (uC "at") 0 (.cst .n) (ci 0))))
noncomputable def kf:Fn:=bX gds [.ino,.dat,.dat] 3 o9
def uM (K:Fg):Sp:=bH kf K
noncomputable def ja:XS :=
 (.ret (p2 eqP (p1 (gJ "at") (vr 0)) (p1 md (p1 (gJ "text") (vr 0)))))
noncomputable def cX:Fn:=bX gds [.ino] 1 ja
def pN (K:Fg):Sp:=bH cX K
noncomputable def kK:XS :=
 (.seq (.bf 2 (.met v8 (vr 0) (.cons (cs " ") (.cons (ci 4) .nil))))
  (.seq (.ifs (.or (.tst (p2 neP (p1 md (vr 2)) (ci 5))) (.or (.not (.tst (.call fR (.cons (p2 ixP (vr 2) (ci 1)) .nil)))) (.tst (p2 pE (p2 ixP (vr 2) (ci 2)) (.tup (.cons (cs "yes") (.cons (cs "no") .nil))))))) .nev .skip)
  (.seq (.bf 3 (.call du (.cons (p2 ixP (vr 2) (ci 0)) .nil)))
  (.seq (.bf 4 (.call eH (.cons (p2 ixP (vr 2) (ci 3)) .nil)))
  (.seq (.ifs (.or (.tst (p2 isP (vr 3) (.cst .n))) (.tst (p2 isP (vr 4) (.cst .n)))) .nev .skip)
  (.seq (.qp 5 (p2 (Fm kf) (p2 ixP (vr 2) (ci 4)) (vr 1)))
  (.seq (.bf 6 (.call (aj 12) (.cons (vr 5) (.cons (ci 1) .nil))))
  (.seq (.ifs (.not (.tst (.mtr (bD "is_done" cX) 5 .nil))) .nev .skip)
  (.ret (.tup (.cons (vr 3) (.cons (p2 ixP (vr 2) (ci 1)) (.cons (p2 eqP (p2 ixP (vr 2) (ci 2)) (cs "yes")) (.cons (vr 4) (.cons (vr 6) .nil)))))))))))))))
noncomputable def gF:Fn:=bX gds [.dat,.dat] 7 kK
def qv (K:Fg):Sp:=bH gF K
noncomputable def g9:XS :=
 (.seq (.ifs (.not (.tst (p1 (lB "str") (vr 0)))) .nev .skip)
  (.seq (.ifs (.tst (p2 eqP (vr 0) (cs ""))) (.ret (.lst .nil)) .skip)
  (.ret (.zV ["line", "row"] [] (.itm (.met splitM (vr 0) (.cons (cs "\n") .nil))) (.call gF (.cons (vr 1) (.cons (vr 0) .nil)))))))
noncomputable def cz:Fn:=bX gds [.dat] 1 g9
def oj (K:Fg):Sp:=bH cz K
noncomputable def D4:XS :=
 (.ret (.lst (.cons (vr 0) (.cons (ci 0) (.cons (ci 0) .nil)))))
noncomputable def vY:Fn:=bX gds [.dat] 1 D4
def Cn (K:Fg):Sp:=bH vY K
noncomputable def vP:XS :=
 (.seq (.ifs (.tst (p2 gtP (p2 ixP (vr 0) (ci 2)) (ci 0))) (.seq (.bf 2 (p2 uJ (p2 ixP (vr 0) (ci 2)) (vr 1)))
  (.seq (.sto rg 0 (ci 2) (p2 xT (p2 ixP (vr 0) (ci 2)) (vr 1)))
  (.ret (vr 2)))) .skip)
  (.seq (.bf 3 (p2 ixP (vr 0) (ci 1)))
  (.seq (.sto rg 0 (ci 1) (p2 cL (vr 3) (ci 1)))
  (.seq (.bf 4 (ci 0))
  (.seq (.ifs (.tst (p2 gtP (p1 md (p2 ixP (vr 0) (ci 0))) (ci 0))) (.bf 4 (p2 ixP (p2 ixP (vr 0) (ci 0)) (p2 uJ (vr 3) (p1 md (p2 ixP (vr 0) (ci 0)))))) .skip)
  (.seq (.ifs (.and (.tst (p2 ltP (vr 3) (p1 md (p2 ixP (vr 0) (ci 0))))) (.tst (p2 geP (p1 Fd (vr 4)) (p2 zg (ci 10) (ci 18))))) (.seq (.sto rg 0 (ci 2) (p2 xT (p1 Fd (vr 4)) (vr 1)))
  (.ret (p2 uJ (p1 Fd (vr 4)) (vr 1)))) .skip)
  (.seq (.bf 5 (p2 uJ (p2 uG (p2 cL (p2 cL (p2 cL (p2 uJ (vr 4) (ci 2147483629)) (p2 uG (p2 uG (ci 7919) (vr 3)) (vr 3))) (p2 uG (ci 41) (vr 3))) (ci 17)) (ci 48271)) (ci 2147483647)))
  (.seq (.bf 5 (p2 uJ (p2 cL (p2 cL (p2 uG (vr 5) (vr 5)) (p2 uG (ci 69621) (vr 5))) (vr 3)) (ci 2147483587)))
  (.ret (p2 uJ (p2 xT (vr 5) (ci 7)) (vr 1)))))))))))
noncomputable def aq:Fn:=bX gds [.ino,.dat] 6 vP
def BN (K:Fg):Sp:=bH aq K
noncomputable def tf:XS :=
 (.seq (.bf 2 (cs "abcdefghijklmnopqrstuvwxyz"))
  (.seq (.bf 3 (.met joinM (cs "") (.cons (.cmp [2,0] (.rng1 (.cons (ci 8) .nil)) .yes (p2 ixP (vr 1) (.call aq (.cons (vr 2) (.cons (ci 26) .nil))))) .nil)))
  (.seq (.bf 4 (.lst (.cons (cs "any") (.cons (cs "all") (.cons (cs "keeps") (.cons (cs "is") (.cons (cs "many") (.cons (cs "each") (.cons (cs "not") (.cons (cs "closed") .nil))))))))))
  (.seq (.bf 5 (.call aq (.cons (vr 0) (.cons (ci 4) .nil))))
  (.seq (.bf 6 (p2 cL (ci 1) (.call aq (.cons (vr 0) (.cons (ci 8) .nil)))))
  (.seq (.bf 7 (.call aq (.cons (vr 0) (.cons (vr 6) .nil))))
  (.seq (.bf 8 (.call aq (.cons (vr 0) (.cons (ci 26) .nil))))
  (.seq (.qp 9 (.lst .nil))
  (.seq (.fr 10 (.rng1 (.cons (vr 1) .nil)) (.seq (.bf 11 (p2 ixP (vr 2) (p2 uJ (p2 cL (vr 8) (p2 uG (ci 5) (vr 10))) (ci 26))))
  (.ifs (.and (.tst (p2 eqP (vr 5) (ci 0))) (.tst (p2 ltP (vr 1) (ci 9)))) (.drop (.mtr we 9 (.cons (p2 IE (vr 3) (p2 cL (p2 uJ (p2 cL (vr 8) (p2 uG (ci 3) (vr 10))) (ci 8)) (ci 1))) .nil))) (.ifs (.and (.tst (p2 eqP (vr 5) (ci 1))) (.tst (p2 ltP (vr 1) (ci 9)))) (.drop (.mtr we 9 (.cons (p2 ixP (vr 4) (p2 uJ (p2 cL (vr 8) (vr 10)) (ci 8))) .nil))) (.ifs (.tst (p2 eqP (vr 5) (ci 2))) (.drop (.mtr we 9 (.cons (p2 cL (p2 ixP (vr 4) (p2 uJ (vr 10) (ci 8))) (vr 11)) .nil))) (.drop (.mtr we 9 (.cons (p2 cL (p2 cL (p2 IE (vr 3) (vr 7)) (vr 11)) (.sl2 IL (vr 3) (p2 cL (vr 7) (ci 1)) (vr 6))) .nil))))))))
  (.ret (.tke 9)))))))))))
noncomputable def hG:Fn:=bX gds [.ino,.dat] 12 tf
def yJ (K:Fg):Sp:=bH hG K
noncomputable def p9:XS :=
 (.seq (.bf 1 (.call aq (.cons (vr 0) (.cons (ci 4) .nil))))
  (.seq (.bf 2 (.call aq (.cons (vr 0) (.cons (ci 21) .nil))))
  (.seq (.ifs (.tst (p2 eqP (vr 1) (ci 1))) (.bf 2 (p2 lF (p2 lF (p2 zg (ci 10) (ci 30)) (ci 1)) (.call aq (.cons (vr 0) (.cons (ci 3) .nil))))) .skip)
  (.seq (.ifs (.tst (p2 eqP (vr 1) (ci 2))) (.bf 2 (p2 cL (p2 uG (p2 cL (p2 uG (.call aq (.cons (vr 0) (.cons (p2 zg (ci 10) (ci 9)) .nil))) (p2 zg (ci 10) (ci 9))) (.call aq (.cons (vr 0) (.cons (p2 zg (ci 10) (ci 9)) .nil)))) (p2 zg (ci 10) (ci 12))) (.call aq (.cons (vr 0) (.cons (p2 zg (ci 10) (ci 12)) .nil))))) .skip)
  (.seq (.ifs (.tst (p2 eqP (.call aq (.cons (vr 0) (.cons (ci 3) .nil))) (ci 0))) (.bf 2 (p2 lF (ci 0) (vr 2))) .skip)
  (.ret (vr 2)))))))
noncomputable def j3:Fn:=bX gds [.ino] 3 p9
def vE (K:Fg):Sp:=bH j3 K
noncomputable def wb:XS :=
 (.seq (.bf 2 (.call aq (.cons (vr 0) (.cons (ci 3) .nil))))
  (.seq (.ifs (.tst (p2 eqP (vr 2) (ci 0))) (.ret (p2 ixP (vr 1) (.call aq (.cons (vr 0) (.cons (p1 md (vr 1)) .nil))))) .skip)
  (.seq (.ifs (.tst (p2 eqP (vr 2) (ci 1))) (.ret (.call j3 (.cons (vr 0) .nil))) .skip)
  (.seq (.bf 3 (cs ""))
  (.seq (.fr 4 (.rng1 (.cons (p2 ixP (.lst (.cons (ci 0) (.cons (ci 8) (.cons (p2 cL (ci 1) (.call aq (.cons (vr 0) (.cons (ci 8) .nil)))) (.cons (ci 3) .nil))))) (.call aq (.cons (vr 0) (.cons (ci 4) .nil)))) .nil)) (.bf 3 (p2 cL (vr 3) (p2 ixP (cs "abcdefghijklmnopqrstuvwxyz") (.call aq (.cons (vr 0) (.cons (ci 26) .nil)))))))
  (.ret (.tup (.cons (vr 3) .nil))))))))
noncomputable def iQ:Fn:=bX gds [.ino,.dat] 5 wb
def Bf (K:Fg):Sp:=bH iQ K
noncomputable def s8:XS :=
 (.ret (p2 ixP (.lst (.cons (ci 0) (.cons (.call aq (.cons (vr 0) (.cons (ci 10) .nil))) (.cons (.call aq (.cons (vr 0) (.cons (ci 400) .nil))) (.cons (p2 lF (p2 lF (p2 zg (ci 10) (ci 30)) (ci 1)) (.call aq (.cons (vr 0) (.cons (ci 2) .nil)))) .nil))))) (.call aq (.cons (vr 0) (.cons (ci 4) .nil)))))
noncomputable def eD:Fn:=bX gds [.ino] 1 s8
def xJ (K:Fg):Sp:=bH eD K
noncomputable def wW (F_reason:Fn):XS :=
 (.seq (.qp 4 (.lst .nil))
  (.seq (.fr 5 (.rng1 (.cons (p2 Fi (.call aq (.cons (vr 0) (.cons (ci 4) .nil))) (p2 ixP (vr 2) (ci 0))) .nil)) (.seq (.sto rg 2 (ci 0) (p2 lF (p2 ixP (vr 2) (ci 0)) (ci 1)))
  (.drop (.mtr we 4 (.cons (.tup (.cons (.call iQ (.cons (vr 0) (.cons (vr 1) .nil))) (.cons (.call F_reason (.cons (vr 0) (.cons (vr 1) (.cons (vr 2) (.cons (vr 3) .nil))))) .nil))) .nil)))))
  (.ret (p1 jq (vr 4)))))
noncomputable def mD (F_reason:Fn):XS :=
 (.seq (.bf 4 (p2 Fi (.call aq (.cons (vr 0) (.cons (ci 5) .nil))) (p2 ixP (vr 2) (ci 0))))
  (.seq (.sto rg 2 (ci 0) (p2 lF (p2 ixP (vr 2) (ci 0)) (vr 4)))
  (.ret (p1 jq (.cmp [0,1,2,3] (.rng1 (.cons (vr 4) .nil)) .yes (.call F_reason (.cons (vr 1) (.cons (vr 2) (.cons (vr 3) (.cons (vr 4) .nil))))))))))
noncomputable def oF (F_reasons:Fn) (F_ends:Fn) (F_reason:Fn):XS :=
 (.seq (.bf 4 (.call aq (.cons (vr 0) (.cons (ci 14) .nil))))
  (.seq (.ifs (.or (.tst (p2 ltP (vr 4) (ci 4))) (.or (.tst (p2 ltP (vr 3) (ci 2))) (.tst (p2 ltP (p2 ixP (vr 2) (ci 0)) (ci 2))))) (.ret (.tup (.cons (p2 ixP (.lst (.cons (cs "plain") (.cons (cs "claim") (.cons (cs "claim") (.cons (cs "bound") .nil))))) (.call aq (.cons (vr 0) (.cons (ci 4) .nil)))) .nil))) .skip)
  (.seq (.ifs (.tst (p2 inP (vr 4) (.tup (.cons (ci 4) (.cons (ci 5) .nil))))) (.ret (.tup (.cons (p2 ixP (.lst (.cons (cs "every") (.cons (cs "ends") .nil))) (p2 lF (vr 4) (ci 4))) (.cons (.call F_reasons (.cons (vr 0) (.cons (vr 1) (.cons (vr 2) (.cons (p2 lF (vr 3) (ci 1)) .nil))))) .nil)))) .skip)
  (.seq (.ifs (.tst (p2 eqP (vr 4) (ci 6))) (.ret (.tup (.cons (cs "alone") (.cons (.call eD (.cons (vr 0) .nil)) (.cons (.call F_reasons (.cons (vr 0) (.cons (vr 1) (.cons (vr 2) (.cons (p2 lF (vr 3) (ci 1)) .nil))))) .nil))))) .skip)
  (.seq (.ifs (.tst (p2 eqP (vr 4) (ci 7))) (.ret (.tup (.cons (cs "count") (.cons (.call F_ends (.cons (vr 0) (.cons (vr 1) (.cons (vr 2) (.cons (p2 lF (vr 3) (ci 1)) .nil))))) (.cons (.call F_ends (.cons (vr 0) (.cons (vr 1) (.cons (vr 2) (.cons (p2 lF (vr 3) (ci 1)) .nil))))) .nil))))) .skip)
  (.seq (.ifs (.tst (p2 inP (vr 4) (.tup (.cons (ci 8) (.cons (ci 9) .nil))))) (.ret (.tup (.cons (p2 ixP (.lst (.cons (cs "lacks") (.cons (cs "over") .nil))) (p2 lF (vr 4) (ci 8))) (.cons (.call F_ends (.cons (vr 0) (.cons (vr 1) (.cons (vr 2) (.cons (p2 lF (vr 3) (ci 1)) .nil))))) .nil)))) .skip)
  (.seq (.sto rg 2 (ci 0) (p2 lF (p2 ixP (vr 2) (ci 0)) (ci 1)))
  (.seq (.ifs (.tst (p2 eqP (vr 4) (ci 10))) (.seq (.sto rg 2 (ci 0) (p2 lF (p2 ixP (vr 2) (ci 0)) (ci 1)))
  (.seq (.bf 5 (.tup (.cons (.call eD (.cons (vr 0) .nil)) (.cons (.call eD (.cons (vr 0) .nil)) .nil))))
  (.seq (.bf 6 (.call F_reason (.cons (vr 0) (.cons (vr 1) (.cons (vr 2) (.cons (p2 lF (vr 3) (ci 1)) .nil))))))
  (.ret (p2 cL (p2 cL (.tup (.cons (cs "two") .nil)) (vr 5)) (.tup (.cons (vr 6) (.cons (.call F_reason (.cons (vr 0) (.cons (vr 1) (.cons (vr 2) (.cons (p2 lF (vr 3) (ci 1)) .nil))))) .nil)))))))) .skip)
  (.seq (.ifs (.tst (p2 eqP (vr 4) (ci 11))) (.ret (.tup (.cons (cs "part") (.cons (.call eD (.cons (vr 0) .nil)) (.cons (.call F_reason (.cons (vr 0) (.cons (vr 1) (.cons (vr 2) (.cons (p2 lF (vr 3) (ci 1)) .nil))))) .nil))))) .skip)
  (.seq (.ifs (.tst (p2 eqP (vr 4) (ci 12))) (.ret (.tup (.cons (cs "end") (.cons (.call iQ (.cons (vr 0) (.cons (vr 1) .nil))) (.cons (.call F_reason (.cons (vr 0) (.cons (vr 1) (.cons (vr 2) (.cons (p2 lF (vr 3) (ci 1)) .nil))))) .nil))))) .skip)
  (.ret (.tup (.cons (cs "turn") (.cons (.call F_reason (.cons (vr 0) (.cons (vr 1) (.cons (vr 2) (.cons (p2 lF (vr 3) (ci 1)) .nil))))) .nil))))))))))))))
noncomputable def vc (F_reason:Fn):Fn:=bX gds [.ino,.dat,.ino,.dat] 6 (wW F_reason)
noncomputable def mM (F_reason:Fn):Fn:=bX gds [.ino,.dat,.ino,.dat] 5 (mD F_reason)
noncomputable def bP:Nat->Fn
 | 0=>Fn.no [.ino,.dat,.ino,.dat]
 | n+1=>bX gds [.ino,.dat,.ino,.dat] 7 (oF (mM (bP n)) (vc (bP n)) (bP n))
noncomputable def uP (n:Nat):Fn:=vc (bP n)
noncomputable def mI (n:Nat):Fn:=mM (bP n)
def AB (K:Fg) (n:Nat):Sp:=bH (uP n) K
def tP (K:Fg) (n:Nat):Sp:=bH (mI n) K
def pI (K:Fg) (n:Nat):Sp:=bH (bP n) K
noncomputable def zL:XS :=
 (.seq (.bf 4 (.call iQ (.cons (vr 0) (.cons (vr 1) .nil))))
  (.seq (.bf 5 (p2 ixP (vr 2) (.call aq (.cons (vr 0) (.cons (p1 md (vr 2)) .nil)))))
  (.seq (.bf 6 (p2 eqP (.call aq (.cons (vr 0) (.cons (ci 2) .nil))) (ci 1)))
  (.seq (.qp 7 (.lst (.cons (p2 Fi (vr 3) (p2 ixP (.lst (.cons (ci 2) (.cons (ci 6) (.cons (ci 12) .nil)))) (.call aq (.cons (vr 0) (.cons (ci 3) .nil))))) .nil)))
  (.ret (.tup (.cons (vr 4) (.cons (vr 5) (.cons (vr 6) (.cons (.call eD (.cons (vr 0) .nil)) (.cons (.call (bP 12) (.cons (vr 0) (.cons (vr 1) (.cons (vr 7) (.cons (p2 ixP (.lst (.cons (ci 3) (.cons (ci 6) (.cons (ci 12) .nil)))) (.call aq (.cons (vr 0) (.cons (ci 3) .nil)))) .nil))))) .nil)))))))))))
noncomputable def wO:Fn:=bX gds [.ino,.dat,.dat,.dat] 8 zL
def C9 (K:Fg):Sp:=bH wO K
noncomputable def rO:XS :=
 (.seq (.bf 3 (p2 ixP (.lst (.cons (.call aq (.cons (vr 0) (.cons (ci 6) .nil))) (.cons (.call aq (.cons (vr 0) (.cons (ci 6) .nil))) (.cons (.call aq (.cons (vr 0) (.cons (ci 2) .nil))) (.cons (ci 12) .nil))))) (.call aq (.cons (vr 0) (.cons (ci 4) .nil)))))
  (.seq (.bf 4 (ci 12))
  (.seq (.ifs (.tst (p2 eqP (vr 3) (ci 12))) (.bf 4 (ci 2)) .skip)
  (.ret (.cmp [0,1,2,4] (.rng1 (.cons (vr 3) .nil)) .yes (.call wO (.cons (vr 1) (.cons (vr 2) (.cons (vr 3) (.cons (vr 4) .nil))))))))))
noncomputable def m7:Fn:=bX gds [.ino,.dat,.dat] 5 rO
def zc (K:Fg):Sp:=bH m7 K
noncomputable def iZ:XS :=
 (.seq (.ifs (.tst (p1 (lB "tuple") (vr 0))) (.ret (p2 cL (cs "'") (p2 ixP (vr 0) (ci 0)))) .skip)
  (.ret (p1 uK (vr 0))))
noncomputable def cj:Fn:=bX gds [.dat] 1 iZ
def qa (K:Fg):Sp:=bH cj K
noncomputable def je (F_reason_text:Fn):XS :=
 (.ret (.met joinM (cs ", ") (.cons (.zV ["_law_node_here", "_law_one"] [] (.tup (vr 0)) (p2 cL (p2 cL (.call cj (.cons (vr 0) .nil)) (cs ": ")) (.call F_reason_text (.cons (vr 1) .nil)))) .nil)))
noncomputable def gq (F_reason_text:Fn) (F_ends_text:Fn):XS :=
 (.seq (.ifs (.tst (p2 eqP (p1 md (vr 0)) (ci 1))) (.ret (p2 ixP (vr 0) (ci 0))) .skip)
  (.seq (.bf 1 (p2 ixP (vr 0) (ci 0)))
  (.seq (.bf 2 (p1 DS (p2 DN (vr 0) (ci 1))))
  (.seq (.bf 3 (.cmp [] (.lst (vr 2)) (.tst (p1 (lB "int") (vr 0))) (p1 uK (vr 0))))
  (.seq (.ifs (.tst (p2 eqP (vr 1) (cs "end"))) (.bf 3 (.lst (.cons (.call cj (.cons (p2 ixP (vr 0) (ci 1)) .nil)) (.cons (.call F_reason_text (.cons (p2 ixP (vr 0) (ci 2)) .nil)) .nil)))) .skip)
  (.seq (.ifs (.tst (p2 inP (vr 1) (.tup (.cons (cs "turn") (.cons (cs "part") (.cons (cs "two") .nil)))))) (.bf 3 (p2 cL (vr 3) (.cmp [] (.lst (p2 DN (vr 2) (p1 md (vr 3)))) .yes (.call F_reason_text (.cons (vr 0) .nil))))) .skip)
  (.seq (.ifs (.tst (p2 inP (vr 1) (.tup (.cons (cs "every") (.cons (cs "ends") (.cons (cs "alone") .nil)))))) (.bf 3 (p2 cL (vr 3) (.cmp [] (.tup (p2 ixP (vr 0) (p1 Iu (ci 1)))) .yes (.call F_reason_text (.cons (vr 0) .nil))))) .skip)
  (.seq (.ifs (.tst (p2 inP (vr 1) (.tup (.cons (cs "lacks") (.cons (cs "over") .nil))))) (.bf 3 (.lst (.cons (.call F_ends_text (.cons (p2 ixP (vr 0) (ci 1)) .nil)) .nil))) .skip)
  (.seq (.ifs (.tst (p2 eqP (vr 1) (cs "count"))) (.bf 3 (.lst (.cons (p2 cL (p2 cL (.call F_ends_text (.cons (p2 ixP (vr 0) (ci 1)) .nil)) (cs " / ")) (.call F_ends_text (.cons (p2 ixP (vr 0) (ci 2)) .nil))) .nil))) .skip)
  (.ret (p2 cL (p2 cL (p2 cL (vr 1) (cs "(")) (.met joinM (cs ", ") (.cons (vr 3) .nil))) (cs ")"))))))))))))
noncomputable def jk (F_reason_text:Fn):Fn:=bX gds [.dat] 1 (je F_reason_text)
noncomputable def aR:Nat->Fn
 | 0=>Fn.no [.dat]
 | n+1=>bX gds [.dat] 4 (gq (aR n) (jk (aR n)))
noncomputable def ji (n:Nat):Fn:=jk (aR n)
def oU (K:Fg) (n:Nat):Sp:=bH (ji n) K
def gi (K:Fg) (n:Nat):Sp:=bH (aR n) K
noncomputable def k9:XS :=
 (.seq (.bf 1 (p2 ixP (.lst (.cons (cs "no") (.cons (cs "yes") .nil))) (p1 yY (p2 ixP (vr 0) (ci 2)))))
  (.ret (.met joinM (cs " ") (.cons (.lst (.cons (.call cj (.cons (p2 ixP (vr 0) (ci 0)) .nil)) (.cons (p2 ixP (vr 0) (ci 1)) (.cons (vr 1) (.cons (p1 uK (p2 ixP (vr 0) (ci 3))) (.cons (.call (aR 12) (.cons (p2 ixP (vr 0) (ci 4)) .nil)) .nil)))))) .nil))))
noncomputable def gN:Fn:=bX gds [.dat] 2 k9
def qP (K:Fg):Sp:=bH gN K
noncomputable def sL (F_alike:Fn):XS :=
 (.seq (.ifs (.tst (p1 (lB "tuple") (vr 1))) (.seq (.ifs (.or (.not (.tst (p1 (lB "tuple") (vr 0)))) (.tst (p2 neP (p1 md (vr 0)) (p1 md (vr 1))))) (.ret (.cst (.b false))) .skip)
  (.ret (p2 pE (.cst (.b false)) (.zV ["_law_one", "_law_other"] [] (.zip (.cons (vr 0) (.cons (vr 1) .nil))) (.call F_alike (.cons (vr 0) (.cons (vr 1) .nil))))))) .skip)
  (.seq (.ifs (.or (.tst (p1 (lB "bool") (vr 1))) (.tst (p1 (lB "bool") (vr 0)))) (.ret (.uL (p1 (lB "bool") (vr 1)) (.uL (p1 (lB "bool") (vr 0)) (p2 eqP (vr 0) (vr 1))))) .skip)
  (.seq (.ifs (.tst (p1 (lB "str") (vr 1))) (.ret (.uL (p1 (lB "str") (vr 0)) (p2 eqP (vr 0) (vr 1)))) .skip)
  (.ret (.uL (p1 (lB "int") (vr 0)) (p2 eqP (vr 0) (vr 1)))))))
noncomputable def fS:Nat->Fn
 | 0=>Fn.no [.dat,.dat]
 | n+1=>bX gds [.dat,.dat] 2 (sL (fS n))
def rW (K:Fg) (n:Nat):Sp:=bH (fS n) K
noncomputable def zU:XS :=
 (.seq (.qp 1 (.call vY (.cons (vr 0) .nil)))
  (.seq (.bf 2 (.call hG (.cons (vr 1) (.cons (ci 5) .nil))))
  (.seq (.bf 3 (.call hG (.cons (vr 1) (.cons (ci 4) .nil))))
  (.seq (.bf 4 (.call m7 (.cons (vr 1) (.cons (vr 2) (.cons (vr 3) .nil)))))
  (.seq (.bf 5 (.met joinM (cs "\n") (.cons (.cmp [] (.lst (vr 4)) .yes (.call gN (.cons (vr 0) .nil))) .nil)))
  (.seq (.fr 6 (.rng1 (.cons (ci 2) .nil)) (.seq (.qp 7 (.call cz (.cons (vr 5) .nil)))
  (.seq (.ifs (.or (.not (.tst (p1 (lB "list") (vr 7)))) (.or (.not (.tst (.call (fS 45) (.cons (p1 jq (vr 7)) (.cons (p1 jq (vr 4)) .nil))))) (.tst (p2 neP (.call cx (.cons (vr 7) .nil)) (vr 5))))) (.ret (.cst (.b false))) .skip)
  (.drop (.mtr we 7 (.cons (.tup (.cons (cs "a") (.cons (cs "b") (.cons (.cst (.b true)) (.cons (ci 0) (.cons (.tup (.cons (cs "plain") .nil)) .nil)))))) .nil))))))
  (.ret (.cst (.b true)))))))))
noncomputable def Ac:Fn:=bX gds [.dat] 8 zU
def vQ (K:Fg):Sp:=bH Ac K
section
variable (P:Program) (w:World) (K:Fg) (mg:Str->Option Value) (base:Heap) (t:Adr)
abbrev ey:=aQ P w K mg base CX0 1 (t.f 0).1 (t.f 0).2 ["thing", "fewest"] (lL K)
abbrev lA:=aQ P w K mg base CX0 2 (t.f 1).1 (t.f 1).2 ["thing"] (uB K)
abbrev mJ:=aQ P w K mg base CX0 1 (t.f 2).1 (t.f 2).2 ["thing"] (qx K)
abbrev p0:=aQ P w K mg base CX0 2 (t.f 3).1 (t.f 3).2 ["thing"] (tY K)
abbrev pe:=aQ P w K mg base CX0 1 (t.f 4).1 (t.f 4).2 ["node"] (uj K)
abbrev eK:=aQ P w K mg base CX0 2 (t.f 5).1 (t.f 5).2 ["node"] (ow K)
abbrev ly:=aQ P w K mg base CX0 1 (t.f 6).1 (t.f 6).2 ["text"] (pH K)
abbrev iu:=aQ P w K mg base CX0 3 (t.f 7).1 (t.f 7).2 ["text"] (t9 K)
abbrev gP (l n:Nat):=aQ P w K mg base CX0 l (t.f 8).1 (t.f 8).2 ["ends"] (pJ K n)
abbrev dq (l n:Nat):=aQ P w K mg base CX0 l (t.f 9).1 (t.f 9).2 ["reasons"] (kI K n)
abbrev eG (l n:Nat):=aQ P w K mg base CX0 l (t.f 10).1 (t.f 10).2 ["reason"] (lQ K n)
abbrev aY (l n:Nat):=aQ P w K mg base CX0 l (t.f 11).1 (t.f 11).2 ["reason"] (gu K n)
abbrev mP:=aQ P w K mg base CX0 39 (t.f 12).1 (t.f 12).2 ["row"] (qH K)
abbrev jy:=aQ P w K mg base CX0 40 (t.f 13).1 (t.f 13).2 ["paper"] (nt K)
abbrev iT:=aQ P w K mg base CX0 4 (t.f 14).1 (t.f 14).2 ["text"] (qE K)
abbrev cQ:=aQ P w K mg base CX0 5 (t.f 15).1 (t.f 15).2 ["reader"] (nT K)
abbrev cE:=aQ P w K mg base CX0 4 (t.f 16).1 (t.f 16).2 ["reader"] (jF K)
abbrev eh (l n:Nat):=aQ P w K mg base CX0 l (t.f 17).1 (t.f 17).2 ["reader", "stop", "depth"] (oR K n)
abbrev de (l n:Nat):=aQ P w K mg base CX0 l (t.f 18).1 (t.f 18).2 ["reader", "depth"] (kE K n)
abbrev aM (l n:Nat):=aQ P w K mg base CX0 l (t.f 19).1 (t.f 19).2 ["reader", "depth"] (fW K n)
abbrev ft (l n:Nat):=aQ P w K mg base CX0 l (t.f 20).1 (t.f 20).2 ["reader", "depth"] (mZ K n)
abbrev iV (l n:Nat):=aQ P w K mg base CX0 l (t.f 21).1 (t.f 21).2 ["reader", "depth"] (rq K n)
abbrev fw (l n:Nat):=aQ P w K mg base CX0 l (t.f 22).1 (t.f 22).2 ["reader", "depth"] (nG K n)
abbrev d8 (l n:Nat):=aQ P w K mg base CX0 l (t.f 23).1 (t.f 23).2 ["reader", "word", "depth"] (lI K n)
abbrev aP (l n:Nat):=aQ P w K mg base CX0 l (t.f 24).1 (t.f 24).2 ["reader", "depth"] (gx K n)
abbrev ml:=aQ P w K mg base CX0 56 (t.f 25).1 (t.f 25).2 ["text", "line"] (qv K)
abbrev jx:=aQ P w K mg base CX0 57 (t.f 26).1 (t.f 26).2 ["text"] (oj K)
abbrev B5:=aQ P w K mg base CX0 1 (t.f 27).1 (t.f 27).2 ["_law_script"] (Cn K)
abbrev gk:=aQ P w K mg base CX0 1 (t.f 28).1 (t.f 28).2 ["_law_pen_here", "_law_most"] (BN K)
abbrev ve:=aQ P w K mg base CX0 2 (t.f 29).1 (t.f 29).2 ["_law_pen_here", "_law_many"] (yJ K)
abbrev rX:=aQ P w K mg base CX0 2 (t.f 30).1 (t.f 30).2 ["_law_pen_here"] (vE K)
abbrev sR:=aQ P w K mg base CX0 3 (t.f 31).1 (t.f 31).2 ["_law_pen_here", "_law_things"] (Bf K)
abbrev qA:=aQ P w K mg base CX0 2 (t.f 32).1 (t.f 32).2 ["_law_pen_here"] (xJ K)
abbrev xo (l n:Nat):=aQ P w K mg base CX0 l (t.f 33).1 (t.f 33).2 ["_law_pen_here", "_law_things", "_law_room", "_law_deep"] (AB K n)
abbrev j9 (l n:Nat):=aQ P w K mg base CX0 l (t.f 34).1 (t.f 34).2 ["_law_pen_here", "_law_things", "_law_room", "_law_deep"] (tP K n)
abbrev dR (l n:Nat):=aQ P w K mg base CX0 l (t.f 35).1 (t.f 35).2 ["_law_pen_here", "_law_things", "_law_room", "_law_deep"] (pI K n)
abbrev CT:=aQ P w K mg base CX0 29 (t.f 36).1 (t.f 36).2 ["_law_pen_here", "_law_things", "_law_names_here", "_law_most"] (C9 K)
abbrev w6:=aQ P w K mg base CX0 30 (t.f 37).1 (t.f 37).2 ["_law_pen_here", "_law_things", "_law_names_here"] (zc K)
abbrev dU:=aQ P w K mg base CX0 1 (t.f 38).1 (t.f 38).2 ["_law_node_here"] (qa K)
abbrev gB (l n:Nat):=aQ P w K mg base CX0 l (t.f 39).1 (t.f 39).2 ["_law_pairs"] (oU K n)
abbrev bw (l n:Nat):=aQ P w K mg base CX0 l (t.f 40).1 (t.f 40).2 ["_law_reason_here"] (gi K n)
abbrev me:=aQ P w K mg base CX0 26 (t.f 41).1 (t.f 41).2 ["_law_row_here"] (qP K)
abbrev j4 (l n:Nat):=aQ P w K mg base CX0 l (t.f 42).1 (t.f 42).2 ["_law_found", "_law_due"] (rW K n)
abbrev HQ:=aQ P w K mg base CX0 58 (t.f 43).1 (t.f 43).2 ["_law_script"] (vQ K)
abbrev rH:=aQ P w K mg base CX0 1 t.nW t.mS ["self", "text", "line"] (uM K)
abbrev iB:=aQ P w K mg base CX0 1 t.nj t.om ["self", "piece"] (uO K)
abbrev d6:=aQ P w K mg base CX0 2 t.nX t.nK ["self", "piece"] (vN K)
abbrev jN:=aQ P w K mg base CX0 1 t.oh t.m3 ["self"] (vL K)
abbrev ky:=aQ P w K mg base CX0 1 t.gL t.gA ["self"] (pN K)
end
section
variable {P:Program} {w:World} {K:Fg} {mg:Str->Option Value} {base:Heap} {t:Adr} {n:Nat} {cdv:Value} {A:Around} {outer:List Env} {s:Shared} {H:Hp} {E:XK}
theorem lG (T:Txt K mg t):ey P w K mg base t :=
 (T.d 0 rfl).ok lW (aK T) fun hr=>ar (bB (eW (wA (gR (eUx (eIz T.z_isinstance (eVx 0) T.z_str))) (pR (gR (vj jC jC (eVx 1) (eBs bE T.z_len (eAx (eVx 0) af)) (uo (v:=.int 8) rfl T.g_MOST_LETTERS ⟨_,rfl⟩ rfl) (by with_unfolding_all rfl)))))) (ax (aN eBl)) bF) (ax (aN (eBs (w5 rfl) T.z_all (eAx (eKx [] (eIS (eVx 0)) eT0 (eC fun _ _ _ _=>(z9 jC jC az (eVx 0) az (by with_unfolding_all rfl))) (bsc (sc:=aa cC) rfl (by decide +kernel)) trivial) af))))
theorem tK (T:Txt K mg t) (G0:ey P w K mg base t):lA P w K mg base t :=
 (T.d 1 rfl).ok ux (aK T) fun hr=>ax (aN (eCx G0 hr (T.d 0 rfl) (eAx (eVx 0) (eAx ak af))))
theorem qt (T:Txt K mg t):mJ P w K mg base t :=
 (T.d 2 rfl).ok qk (aK T) fun hr=>ax (aN (Ae (eIz T.z_isinstance (eVx 0) T.z_int) (Ds (JP (eIz T.z_isinstance (eVx 0) T.z_bool)))))
theorem tD (T:Txt K mg t) (G0:ey P w K mg base t):p0 P w K mg base t :=
 (T.d 3 rfl).ok uE (aK T) fun hr=>ax (aN (Ae (eIz T.z_isinstance (eVx 0) T.z_tuple) (Ae (zX (aB hr.units) (eBs bE T.z_len (eAx (eVx 0) af)) ak (gX _)) (Ds (eCx G0 hr (T.d 0 rfl) (eAx (eIy (eVx 0) ak) (eAx ak af)))))))
theorem tZ (T:Txt K mg t):pe P w K mg base t :=
 (T.d 4 rfl).ok ug (aK T) fun hr=>ar (bB (eUx (eIz T.z_isinstance (eVx 0) T.z_str)) (ax (aN az)) bF) (ar (bB (eUx (eIz T.z_isinstance (eVx 0) T.z_tuple)) (ax (aN az)) bF) (ax (aN az)))
theorem pU (T:Txt K mg t) (G4:pe P w K mg base t):eK P w K mg base t :=
 (T.d 5 rfl).ok jB (aK T) fun hr=>ar (eSx jB.nd 1 (eCx G4 hr (T.d 4 rfl) (eAx (eVx 0) af))) (ar (bB (eTx (aB hr.units) (eVx 1) az) (ax (aN (eTs c8 T.z_str (eAx (eVx 0) af)))) bF) (ar (bB (eTx (aB hr.units) (eVx 1) az) (ax (aN (eOp ao az (eIy (eVx 0) ak)))) bF) (ax (aN (eVx 0)))))
theorem pq (T:Txt K mg t):ly P w K mg base t :=
 (T.d 6 rfl).ok fm (aK T) fun hr=>ar (eSx fm.nd 1 (eIf (eUx (eBM (eVx 0) (eAx az af) pj Ku PySem.F.slot_str_startswith PySem.F.type_str_startswith rfl rfl rfl rfl rfl)) (eSl (orS ip (orS eg hJ)) (eVx 0) (eP ak) AH) (eVx 0))) (ar (bB (eW (wA (gR (vj jC jC ak (eBs bE T.z_len (eAx (eVx 1) af)) (uo (v:=.int 30) rfl T.g_MOST_FIGURES ⟨_,rfl⟩ rfl) (by with_unfolding_all rfl))) (pR (gR (eUx (eBs (w5 rfl) T.z_all (eAx (eKx [] (eIS (eVx 1)) eT0 (eC fun _ _ _ _=>(z9 jC jC az (eVx 0) az (by with_unfolding_all rfl))) (bsc (sc:=aa dQ) rfl (by decide +kernel)) trivial) af))))))) (ax (aN xO)) bF) (ar (eSx fm.nd 2 (eTs sN T.z_int (eAx (eVx 0) af))) (ax (aN (eIf (eTx (aB hr.units) (eTs c8 T.z_str (eAx (eVx 2) af)) (eVx 0)) (eVx 2) xO)))))
theorem tM (T:Txt K mg t) (G3:p0 P w K mg base t) (G1:lA P w K mg base t) (G6:ly P w K mg base t):iu P w K mg base t :=
 (T.d 7 rfl).ok mf (aK T) fun hr=>ar (bB (gR (eUx (eIz T.z_isinstance (eVx 0) T.z_str))) (ax (aN xO)) bF) (ar (bB (eUx (eBM (eVx 0) (eAx az af) pj Ku PySem.F.slot_str_startswith PySem.F.type_str_startswith rfl rfl rfl rfl rfl)) (ar (eSx mf.nd 1 (eQ (eAx (eSl (orS ip (orS eg hJ)) (eVx 0) (eP ak) AH) af))) (ax (aN (eIf (eUx (eCx G3 hr (T.d 3 rfl) (eAx (eVx 1) af))) (eVx 1) xO)))) bF) (ax (aN (eIf (eUx (eCx G1 hr (T.d 1 rfl) (eAx (eVx 0) af))) (eVx 0) (eCx G6 hr (T.d 6 rfl) (eAx (eVx 0) af))))))
theorem i8 (T:Txt K mg t) (G5:eK P w K mg base t) (G11:aY P w K mg base t (2+3*n) n):gP P w K mg base t (3+3*n) n :=
 ((T.d 8 rfl).ok cN (aK T) fun hr=>ar (eSx cN.nd 1 (iE af)) (ar (eFx (eIT (eVx 0)) (eGT (n:=2) rfl (Io (i:=2) cN.nd rfl (Or.inl rfl) (Or.inl rfl) (Io (i:=3) cN.nd rfl (Or.inl rfl) (Or.inl rfl) Jr)) rfl rfl) (ax (eY (eBM (eVx 1) (eAx (eOp ao (eOp ao (eCx G5 hr (T.d 5 rfl) (eAx (eVx 2) af)) az) (eCx G11 hr (T.d 11 rfl) (eAx (eVx 3) af))) af) bG K1 KZ KY rfl rfl rfl rfl rfl) rfl))) (ax (aN (eBM az (eAx (eVx 1) af) bx Ku KL KJ rfl rfl rfl rfl rfl)))):gP P w K mg base t ((2+3*n)+1) n).mono (by omega)
theorem fD (T:Txt K mg t) (G11:aY P w K mg base t (2+3*n) n):dq P w K mg base t (3+3*n) n :=
 ((T.d 9 rfl).ok j8 (aK T) fun hr=>ax (aN (eKx [] (eIT (eVx 0)) eT0 (eC fun _ _ _ _=>(eCx G11 hr (T.d 11 rfl) (eAx (eVx 0) af))) (bsc (sc:=aa cp) rfl (by decide +kernel)) trivial)):dq P w K mg base t ((2+3*n)+1) n).mono (by omega)
theorem gr (T:Txt K mg t) (G8:gP P w K mg base t (3+3*n) n) (G9:dq P w K mg base t (3+3*n) n) (G11:aY P w K mg base t (2+3*n) n) (G5:eK P w K mg base t):eG P w K mg base t (4+3*n) n :=
 ((T.d 10 rfl).ok gh (aK T) fun hr=>ar (eSx gh.nd 1 (eIy (eVx 0) ak)) (ar (bB (eTx (aB hr.units) (eVx 1) az) (ax (aN (eOp ao (eOp ao (eCx G8 hr (T.d 8 rfl) (eAx (eIy (eVx 0) ak) af)) az) (eCx G8 hr (T.d 8 rfl) (eAx (eIy (eVx 0) ak) af))))) bF) (ar (bB (gD (eU hr.units) (eVx 1) (eQ (eAx az (eAx az af))) (by with_unfolding_all rfl)) (ax (aN (eCx G8 hr (T.d 8 rfl) (eAx (eIy (eVx 0) ak) af)))) bF) (ar (bB (gD (eU hr.units) (eVx 1) (eQ (eAx az (eAx az af))) (by with_unfolding_all rfl)) (ax (aN (eBM az (eAx (eCx G9 hr (T.d 9 rfl) (eAx (eIy (eVx 0) ak) af)) af) bx Ku KL KJ rfl rfl rfl rfl rfl))) bF) (ar (bB (eTx (aB hr.units) (eVx 1) az) (ax (aN (eBM az (eAx (eOp ao (iE (eAx (eTs c8 T.z_str (eAx (eIy (eVx 0) ak) af)) af)) (eCx G9 hr (T.d 9 rfl) (eAx (eIy (eVx 0) ak) af))) af) bx Ku KL KJ rfl rfl rfl rfl rfl))) bF) (ar (bB (eTx (aB hr.units) (eVx 1) az) (ax (aN (eBM az (eAx (iE (eAx (eCx G5 hr (T.d 5 rfl) (eAx (eIy (eVx 0) ak) af)) (eAx (eCx G11 hr (T.d 11 rfl) (eAx (eIy (eVx 0) ak) af)) af))) af) bx Ku KL KJ rfl rfl rfl rfl rfl))) bF) (ar (bB (eTx (aB hr.units) (eVx 1) az) (ax (aN (eBM az (eAx (iE (eAx (eTs c8 T.z_str (eAx (eIy (eVx 0) ak) af)) (eAx (eCx G11 hr (T.d 11 rfl) (eAx (eIy (eVx 0) ak) af)) af))) af) bx Ku KL KJ rfl rfl rfl rfl rfl))) bF) (ar (bB (eTx (aB hr.units) (eVx 1) az) (ax (aN (eBM az (eAx (eOp ao (iE (eAx (eTs c8 T.z_str (eAx (eIy (eVx 0) ak) af)) (eAx (eTs c8 T.z_str (eAx (eIy (eVx 0) ak) af)) af))) (eCx G9 hr (T.d 9 rfl) (eAx (eSl (orS ip (orS eg hJ)) (eVx 0) (eP ak) AH) af))) af) bx Ku KL KJ rfl rfl rfl rfl rfl))) bF) (ax (aN (eCx G11 hr (T.d 11 rfl) (eAx (eIy (eVx 0) ak) af))))))))))):eG P w K mg base t ((3+3*n)+1) n).mono (by omega)
theorem lR (T:Txt K mg t) (G10:eG P w K mg base t (4+3*n) n):aY P w K mg base t (2+3*(n+1)) (n+1) :=
 ((T.d 11 rfl).ok b5 (aK T) fun hr=>ar (eSx b5.nd 1 (eIy (eVx 0) ak)) (ar (bB (gD (eU hr.units) (eVx 1) (uo (v:=.ref t.o8) rfl T.g_BARE rfl rfl) (by with_unfolding_all rfl)) (ax (aN (eVx 1))) bF) (ar (eSx b5.nd 2 (eCx G10 hr (T.d 10 rfl) (eAx (eVx 0) af))) (ax (aN (eFs (eFc (eFv (eVx 1)) (eFc az (eFc (eFv (eVx 2)) (eFc az eF0))))))))):aY P w K mg base t ((4+3*n)+1) (n+1)).mono (by omega)
theorem nB (T:Txt K mg t):aY P w K mg base t (1+1) 0 :=
 aQ.no (k:=1) (T.d 11 rfl).F b5 fun vs H Q E h=>by obtain ⟨G,ds,is,pr,outs,hF,_⟩:=h;cases hF
theorem rp (T:Txt K mg t) (G11:aY P w K mg base t 38 12) (G5:eK P w K mg base t):mP P w K mg base t :=
 (T.d 12 rfl).ok ka (aK T) fun hr=>ar (eSx ka.nd 1 (eIf (eUx (eIy (eVx 0) ak)) az az)) (ax (aN (eBM az (eAx (iE (eAx (eCx G5 hr (T.d 5 rfl) (eAx (eIx cM (eVx 0) ak (fun _ _=>rfl)) af)) (eAx (eIx cM (eVx 0) ak (fun _ _=>rfl)) (eA (eVx 1) (eA (eTs c8 T.z_str (eA (eIx cM (eVx 0) ak (fun _ _=>rfl)) af rfl)) (eA (eCl G11 hr (T.d 11 rfl).m (T.d 11 rfl).F.kp (T.d 11 rfl).b (eA (eIx cM (eVx 0) ak (fun _ _=>rfl)) af rfl)) af rfl) rfl) rfl)))) af) bx Ku KL KJ rfl rfl rfl rfl rfl)))
theorem ng (T:Txt K mg t) (G12:mP P w K mg base t):jy P w K mg base t :=
 (T.d 13 rfl).ok ny (aK T) fun hr=>ax (aN (eBM az (eAx (eKx [] (eIL (eVx 0)) eT0 (eC fun _ _ _ _=>(eCl G12 hr (T.d 12 rfl).m (T.d 12 rfl).F.kp (T.d 12 rfl).b (eA (eVx 0) af rfl))) (bsc (sc:=aa cY) rfl (by decide +kernel)) trivial) af) bx Ku KL KJ rfl rfl rfl rfl rfl))
theorem qr (T:Txt K mg t) (G7:iu P w K mg base t) (G2:mJ P w K mg base t):iT P w K mg base t :=
 (T.d 14 rfl).ok kO (aK T) fun hr=>ar (eSx kO.nd 1 (eCx G7 hr (T.d 7 rfl) (eAx (eVx 0) af))) (ax (aN (eIf (eW (xu (eUx (eCx G2 hr (T.d 2 rfl) (eAx (eVx 1) af))) (pW (eTx zO (eVx 1) ak)))) (eVx 1) xO)))
theorem nO (T:Txt K mg t) (G14:iT P w K mg base t) (G47:jN P w K mg base t):cQ P w K mg base t :=
 (T.d 15 rfl).ok hU (aK T) fun hr=>ar (eSx hU.nd 1 (eCx G14 hr (T.d 14 rfl) (eAx (E5 T.cl T.nq G47 hr T.n4 (eVx 0)) af))) (ar (bB (eTx sd (eVx 1) xO) (ax g0) bF) (ax (aN (eVx 1))))
theorem jK (T:Txt K mg t) (G7:iu P w K mg base t) (G47:jN P w K mg base t):cE P w K mg base t :=
 (T.d 16 rfl).ok eO (aK T) fun hr=>ar (eSx eO.nd 1 (eCx G7 hr (T.d 7 rfl) (eAx (E5 T.cl T.nq G47 hr T.n4 (eVx 0)) af))) (ar (bB (eTx sd (eVx 1) xO) (ax g0) bF) (ax (aN (eVx 1))))
theorem i7 (T:Txt K mg t) (G45:iB P w K mg base t) (G46:d6 P w K mg base t) (G16:cE P w K mg base t) (G24:aP P w K mg base t (7+4*n) n):eh P w K mg base t (8+4*n) n :=
 ((T.d 17 rfl).ok fo (aK T) fun hr=>ar (eSx fo.nd 3 (iE af)) (ar (rV (gR (eUx (eMt T.cl T.jX G45 hr T.jP (eVx 0) (eAx (eVx 1) af)))) (ar (bB (Ig (eVx 3) (fun _=>rfl)) (ax (eY (eMt T.cl T.cT G46 hr T.cO (eVx 0) (eAx az af)) rfl)) bF) (ar (eSx fo.nd 4 (eCx G16 hr (T.d 16 rfl) (eAx (eVx 0) af))) (ar (eY (eMt T.cl T.cT G46 hr T.cO (eVx 0) (eAx az af)) rfl) (ax (eY (eBM (eVx 3) (eAx (eQ (eAx (eVx 4) (eAx (eCx G24 hr (T.d 24 rfl) (eAx (eVx 0) (eAx (eVx 2) af))) af))) af) bG K1 KZ KY rfl rfl rfl rfl rfl) rfl))))) L6) (ax (aN (eTs cD T.z_tuple (eAx (eVx 3) af))))):eh P w K mg base t ((7+4*n)+1) n).mono (by omega)
theorem fK (T:Txt K mg t) (G45:iB P w K mg base t) (G46:d6 P w K mg base t) (G24:aP P w K mg base t (7+4*n) n):de P w K mg base t (8+4*n) n :=
 ((T.d 18 rfl).ok fF (aK T) fun hr=>ar (eSx fF.nd 2 (iE af)) (ar (rV (gR (eUx (eMt T.cl T.jX G45 hr T.jP (eVx 0) (eAx az af)))) (ar (bB (Ig (eVx 2) (fun _=>rfl)) (ax (eY (eMt T.cl T.cT G46 hr T.cO (eVx 0) (eAx az af)) rfl)) bF) (ax (eY (eBM (eVx 2) (eAx (eCx G24 hr (T.d 24 rfl) (eAx (eVx 0) (eAx (eVx 1) af))) af) bG K1 KZ KY rfl rfl rfl rfl rfl) rfl))) L6) (ax (aN (eTs cD T.z_tuple (eAx (eVx 2) af))))):de P w K mg base t ((7+4*n)+1) n).mono (by omega)
theorem cv (T:Txt K mg t) (G46:d6 P w K mg base t) (G24:aP P w K mg base t (7+4*n) n):aM P w K mg base t (8+4*n) n :=
 ((T.d 19 rfl).ok fV (aK T) fun hr=>ar (eY (eMt T.cl T.cT G46 hr T.cO (eVx 0) (eAx az af)) rfl) (ax (aN (eCx G24 hr (T.d 24 rfl) (eAx (eVx 0) (eAx (eVx 1) af))))):aM P w K mg base t ((7+4*n)+1) n).mono (by omega)
theorem g5 (T:Txt K mg t) (G15:cQ P w K mg base t) (G45:iB P w K mg base t) (G19:aM P w K mg base t (8+4*n) n):ft P w K mg base t (9+4*n) n :=
 ((T.d 20 rfl).ok dZ (aK T) fun hr=>ar (eSx dZ.nd 2 (eCx G15 hr (T.d 15 rfl) (eAx (eVx 0) af))) (ar (eSx dZ.nd 3 (iE af)) (ar (rV (gR (eUx (eMt T.cl T.jX G45 hr T.jP (eVx 0) (eAx az af)))) (ax (eY (eBM (eVx 3) (eAx (eCx G19 hr (T.d 19 rfl) (eAx (eVx 0) (eAx (eVx 1) af))) af) bG K1 KZ KY rfl rfl rfl rfl rfl) rfl)) L6) (ax (aN (eQ (eAx az (eAx (eVx 2) (eAx (eTs cD T.z_tuple (eAx (eVx 3) af)) af)))))))):ft P w K mg base t ((8+4*n)+1) n).mono (by omega)
theorem k5 (T:Txt K mg t) (G15:cQ P w K mg base t) (G46:d6 P w K mg base t) (G19:aM P w K mg base t (8+4*n) n):iV P w K mg base t (9+4*n) n :=
 ((T.d 21 rfl).ok dY (aK T) fun hr=>ar (eSx dY.nd 2 (eCx G15 hr (T.d 15 rfl) (eAx (eVx 0) af))) (ar (eY (eMt T.cl T.cT G46 hr T.cO (eVx 0) (eAx az af)) rfl) (ar (eSx dY.nd 3 (eCx G15 hr (T.d 15 rfl) (eAx (eVx 0) af))) (ar (eSx dY.nd 4 (eCx G19 hr (T.d 19 rfl) (eAx (eVx 0) (eAx (eVx 1) af)))) (ax (aN (eQ (eAx az (eAx (eVx 2) (eAx (eVx 3) (eAx (eVx 4) (eAx (eCx G19 hr (T.d 19 rfl) (eAx (eVx 0) (eA (eVx 1) af rfl))) af))))))))))):iV P w K mg base t ((8+4*n)+1) n).mono (by omega)
theorem hV (T:Txt K mg t) (G17:eh P w K mg base t (8+4*n) n) (G46:d6 P w K mg base t):fw P w K mg base t (9+4*n) n :=
 ((T.d 22 rfl).ok iA (aK T) fun hr=>ar (eSx iA.nd 2 (eCx G17 hr (T.d 17 rfl) (eAx (eVx 0) (eAx az (eA (eVx 1) af rfl))))) (ar (eY (eMt T.cl T.cT G46 hr T.cO (eVx 0) (eAx az af)) rfl) (ax (aN (eQ (eAx az (eAx (eVx 2) (eAx (eCx G17 hr (T.d 17 rfl) (eAx (eVx 0) (eA az (eA (eVx 1) af rfl) rfl))) af))))))):fw P w K mg base t ((8+4*n)+1) n).mono (by omega)
theorem gb (T:Txt K mg t) (G24:aP P w K mg base t (7+4*n) n) (G18:de P w K mg base t (8+4*n) n) (G17:eh P w K mg base t (8+4*n) n) (G22:fw P w K mg base t (9+4*n) n) (G20:ft P w K mg base t (9+4*n) n) (G21:iV P w K mg base t (9+4*n) n) (G15:cQ P w K mg base t) (G19:aM P w K mg base t (8+4*n) n) (G16:cE P w K mg base t):d8 P w K mg base t (10+4*n) n :=
 ((T.d 23 rfl).ok dh (aK T) fun hr=>ar (bB (eTx (aB hr.units) (eVx 1) az) (ax (aN (eQ (eAx az (eAx (eCx G24 hr (T.d 24 rfl) (eAx (eVx 0) (eAx (eVx 2) af))) af))))) bF) (ar (bB (gD (eU hr.units) (eVx 1) (eQ (eAx az (eAx az af))) (by with_unfolding_all rfl)) (ax (aN (eQ (eAx (eVx 1) (eAx (eCx G18 hr (T.d 18 rfl) (eAx (eVx 0) (eAx (eVx 2) af))) af))))) bF) (ar (bB (gD (eU hr.units) (eVx 1) (eQ (eAx az (eAx az af))) (by with_unfolding_all rfl)) (ax (aN (eQ (eAx (eVx 1) (eAx (eCx G17 hr (T.d 17 rfl) (eAx (eVx 0) (eAx az (eAx (eVx 2) af)))) af))))) bF) (ar (bB (eTx (aB hr.units) (eVx 1) az) (ax (aN (eCx G22 hr (T.d 22 rfl) (eAx (eVx 0) (eAx (eVx 2) af))))) bF) (ar (bB (eTx (aB hr.units) (eVx 1) az) (ax (aN (eCx G20 hr (T.d 20 rfl) (eAx (eVx 0) (eAx (eVx 2) af))))) bF) (ar (bB (eTx (aB hr.units) (eVx 1) az) (ax (aN (eCx G21 hr (T.d 21 rfl) (eAx (eVx 0) (eAx (eVx 2) af))))) bF) (ar (bB (eTx (aB hr.units) (eVx 1) az) (ar (eSx dh.nd 3 (eCx G15 hr (T.d 15 rfl) (eAx (eVx 0) af))) (ax (aN (eQ (eAx az (eAx (eVx 3) (eAx (eCx G19 hr (T.d 19 rfl) (eAx (eVx 0) (eAx (eVx 2) af))) af))))))) bF) (ar (bB (eTx (aB hr.units) (eVx 1) az) (ar (eSx dh.nd 4 (eCx G16 hr (T.d 16 rfl) (eAx (eVx 0) af))) (ax (aN (eQ (eAx az (eAx (eVx 4) (eAx (eCx G19 hr (T.d 19 rfl) (eAx (eVx 0) (eAx (eVx 2) af))) af))))))) bF) (ax g0)))))))):d8 P w K mg base t ((9+4*n)+1) n).mono (by omega)
theorem lP (T:Txt K mg t) (G47:jN P w K mg base t) (G46:d6 P w K mg base t) (G23:d8 P w K mg base t (10+4*n) n):aP P w K mg base t (7+4*(n+1)) (n+1) :=
 ((T.d 24 rfl).ok b6 (aK T) fun hr=>ar (bB (eTx u4 (eVx 1) (uo (v:=.int 12) rfl T.g_DEEPEST ⟨_,rfl⟩ rfl)) (ax g0) bF) (ar (eSx b6.nd 2 (E5 T.cl T.nq G47 hr T.n4 (eVx 0))) (ar (bB (gD (eU hr.units) (eVx 2) (uo (v:=.ref t.o8) rfl T.g_BARE rfl rfl) (by with_unfolding_all rfl)) (ax (aN (eQ (eAx (eVx 2) af)))) bF) (ar (eY (eMt T.cl T.cT G46 hr T.cO (eVx 0) (eAx az af)) rfl) (ar (eSx b6.nd 3 (eCx G23 hr (T.d 23 rfl) (eAx (eVx 0) (eAx (eVx 2) (eAx (eOp ao (eVx 1) ak) af))))) (ar (eY (eMt T.cl T.cT G46 hr T.cO (eVx 0) (eAx az af)) rfl) (ax (aN (eVx 3)))))))):aP P w K mg base t ((10+4*n)+1) (n+1)).mono (by omega)
theorem mV (T:Txt K mg t):aP P w K mg base t (6+1) 0 :=
 aQ.no (k:=6) (T.d 24 rfl).F b6 fun vs H Q E h=>by obtain ⟨G,ds,is,pr,outs,hF,_⟩:=h;cases hF
theorem qW (T:Txt K mg t) (G1:lA P w K mg base t) (G7:iu P w K mg base t) (G14:iT P w K mg base t) (G44:rH P w K mg base t) (G24:aP P w K mg base t 55 12) (G48:ky P w K mg base t):ml P w K mg base t :=
 (T.d 25 rfl).ok bY (aK T) fun hr=>ar (eSx bY.nd 2 (eBM (eVx 0) (eAx az (eAx ak af)) wZ Ku PySem.F.slot_str_split PySem.F.type_str_split rfl rfl rfl rfl rfl)) (ar (bB (eW (wA (eTx (u3 hr.units) (eBs bE T.z_len (eAx (eVx 2) af)) ak) (wA (gR (eUx (eCx G1 hr (T.d 1 rfl) (eAx (eIy (eVx 2) ak) af)))) (pR (gD (ph hr.units) (eIy (eVx 2) ak) (eQ (eAx az (eAx az af))) (by with_unfolding_all rfl)))))) (ax g0) bF) (ar (eSx bY.nd 3 (eCx G7 hr (T.d 7 rfl) (eAx (eIy (eVx 2) ak) af))) (ar (eSx bY.nd 4 (eCx G14 hr (T.d 14 rfl) (eAx (eIy (eVx 2) ak) af))) (ar (bB (eW (wA (eTx sd (eVx 3) xO) (pR (eTx sd (eVx 4) xO)))) (ax g0) bF) (ar (eSx bY.nd 5 (eNw T.cmk G44 hr T.cg T.xQ (eAx (eIy (eVx 2) ak) (eAx (eVx 1) af)))) (ar (eSx bY.nd 6 (eCx G24 hr (T.d 24 rfl) (eAx (eVx 5) (eAx ak af)))) (ar (bB (gR (eUx (E5 T.cl T.qX G48 hr T.qL (eVx 5)))) (ax g0) bF) (ax (aN (eQ (eAx (eVx 3) (eAx (eIy (eVx 2) ak) (eAx (zX (aB hr.units) (eIy (eVx 2) ak) az (gX _)) (eAx (eVx 4) (eAx (eVx 6) af)))))))))))))))
theorem n6 (T:Txt K mg t) (G25:ml P w K mg base t):jx P w K mg base t :=
 (T.d 26 rfl).ok og (aK T) fun hr=>ar (bB (gR (eUx (eIz T.z_isinstance (eVx 0) T.z_str))) (ax g0) bF) (ar (bB (eTx (aB hr.units) (eVx 0) az) (ax (aN (iE af))) bF) (ax (aN (wt (n:=2) (js:=[]) ["line", "row"] [] (eIE T.z_enumerate (eBM (eVx 0) (eAx az af) yj Ku PySem.F.slot_str_split PySem.F.type_str_split rfl rfl rfl rfl rfl)) (BQ (i:=0) (by decide +kernel) rfl rfl (BQ (i:=1) (by decide +kernel) rfl rfl Gn)) (eC fun _ _ _ _=>(eCx G25 hr (T.d 25 rfl) (eAx (eVx 1) (eAx (eVx 0) af)))) rfl (He (sc:=aa df) rfl (by decide +kernel)) trivial (fun _=>rfl) (fun _=>rfl) (fun _=>rfl)))))
theorem Cv (T:Txt K mg t):B5 P w K mg base t :=
 (T.d 27 rfl).ok DE (aK T) fun hr=>ax (aN (iE (eAx (eVx 0) (eAx ak (eA ak af rfl)))))
theorem Ag (T:Txt K mg t):gk P w K mg base t :=
 (T.d 28 rfl).ok gM (aK T) fun hr=>ar (bB (eTx u4 (eIy (eVx 0) ak) ak) (ar (eSx gM.nd 2 (eOp cK (eIy (eVx 0) ak) (eVx 1))) (ar (A2 (eOp nE (eIy (eVx 0) ak) (eVx 1)) (Ah (eVx 0) ak set_list (fun _=>rfl)) rfl rfl rfl) (ax (aN (eVx 2))))) bF) (ar (eSx gM.nd 3 (eIy (eVx 0) ak)) (ar (A2 (eOp ao (eVx 3) ak) (Ah (eVx 0) ak set_list (fun _=>rfl)) rfl rfl rfl) (ar (eSx gM.nd 4 ak) (ar (bB (eTx u4 (eBs bE T.z_len (eAx (eIy (eVx 0) ak) af)) ak) (ax (eSx gM.nd 4 (eIy (eIy (eVx 0) ak) (eOp cK (eVx 3) (eBs bE T.z_len (eAx (eIy (eVx 0) ak) af)))))) bF) (ar (bB (eW (xu (eTx ke (eVx 3) (eBs bE T.z_len (eAx (eIy (eVx 0) ak) af))) (pW (eTx zO (eBs qB T.z_abs (eAx (eVx 4) af)) (eOp fH ak ak))))) (ar (A2 (eOp nE (eBs qB T.z_abs (eAx (eVx 4) af)) (eVx 1)) (Ah (eVx 0) ak set_list (fun _=>rfl)) rfl rfl rfl) (ax (aN (eOp cK (eBs qB T.z_abs (eAx (eVx 4) af)) (eVx 1))))) bF) (ar (eSx gM.nd 5 (eOp cK (eOp dg (eOp ao (eOp ao (eOp ao (eOp cK (eVx 4) ak) (eOp dg (eOp dg ak (eVx 3)) (eVx 3))) (eOp dg ak (eVx 3))) ak) ak) ak)) (ar (eSx gM.nd 5 (eOp cK (eOp ao (eOp ao (eOp dg (eVx 5) (eVx 5)) (eOp dg ak (eVx 5))) (eVx 3)) ak)) (ax (aN (eOp cK (eOp nE (eVx 5) ak) (eVx 1)))))))))))
theorem xY (T:Txt K mg t) (G28:gk P w K mg base t):ve P w K mg base t :=
 (T.d 29 rfl).ok bR (aK T) fun hr=>ar (eSy bR.nd 2 az) (ar (eSx bR.nd 3 (eBM az (eAx (eKx ["_law_letters", "_law_pen_here"] (eR1 rfl T.z_range (eAx ak af) rfl) eT0 (eC fun _ _ _ _=>(eIy (eVy 1) (eCl G28 hr (T.d 28 rfl).m (T.d 28 rfl).F.kp (T.d 28 rfl).b (eA (eVy 2) (eA ak af rfl) rfl)))) (bsc (sc:=aa kT) rfl (by decide +kernel)) ⟨rfl,⟨rfl,rfl⟩,⟨rfl,⟨rfl,rfl⟩,trivial⟩⟩) af) bx Ku KL KJ rfl rfl rfl rfl rfl)) (ar (eSx bR.nd 4 (iE (eAx az (eAx az (eAx az (eAx az (eA az (eA az (eA az (eA az af rfl) rfl) rfl) rfl))))))) (ar (eSx bR.nd 5 (eCx G28 hr (T.d 28 rfl) (eAx (eVy 0) (eAx ak af)))) (ar (eSx bR.nd 6 (eOp ao ak (eCx G28 hr (T.d 28 rfl) (eAx (eVy 0) (eAx ak af))))) (ar (eSx bR.nd 7 (eCx G28 hr (T.d 28 rfl) (eAx (eVy 0) (eAx (eVx 6) af)))) (ar (eSx bR.nd 8 (eCx G28 hr (T.d 28 rfl) (eAx (eVy 0) (eAx ak af)))) (ar (eSx bR.nd 9 (iE af)) (ar (eFx (eR1 rfl T.z_range (eAx (eVx 1) af) rfl) (eGx bR.nd 10) (ar (eSx bR.nd 11 (eIy (eVy 2) (eOp cK (eOp ao (eVx 8) (eOp dg ak (eVx 10))) ak))) (ax (bB (eW (xu (eTx (aB hr.units) (eVx 5) ak) (pW (eTx ke (eVx 1) ak)))) (ax (eY (eBM (eVx 9) (eAx (eSl (orS ip (orS eg hJ)) (eVx 3) AH (eP (eOp ao (eOp cK (eOp ao (eVx 8) (eOp dg ak (eVx 10))) ak) ak))) af) bG K1 KZ KY rfl rfl rfl rfl rfl) rfl)) (ax (bB (eW (xu (eTx (aB hr.units) (eVx 5) ak) (pW (eTx ke (eVx 1) ak)))) (ax (eY (eBM (eVx 9) (eAx (eIy (eVx 4) (eOp cK (eOp ao (eVx 8) (eVx 10)) ak)) af) bG K1 KZ KY rfl rfl rfl rfl rfl) rfl)) (ax (bB (eTx (aB hr.units) (eVx 5) ak) (ax (eY (eBM (eVx 9) (eAx (eOp ao (eIy (eVx 4) (eOp cK (eVx 10) ak)) (eVx 11)) af) bG K1 KZ KY rfl rfl rfl rfl rfl) rfl)) (ax (eY (eBM (eVx 9) (eAx (eOp ao (eOp ao (eSl (orS ip (orS eg hJ)) (eVx 3) AH (eP (eVx 7))) (eVx 11)) (eSl (orS ip (orS eg hJ)) (eVx 3) (eP (eOp ao (eVx 7) ak)) (eP (eVx 6)))) af) bG K1 KZ KY rfl rfl rfl rfl rfl) rfl)))))))))) (ax (aN (eVx 9)))))))))))
theorem uX (T:Txt K mg t) (G28:gk P w K mg base t):rX P w K mg base t :=
 (T.d 30 rfl).ok dB (aK T) fun hr=>ar (eSx dB.nd 1 (eCx G28 hr (T.d 28 rfl) (eAx (eVx 0) (eAx ak af)))) (ar (eSx dB.nd 2 (eCx G28 hr (T.d 28 rfl) (eAx (eVx 0) (eAx ak af)))) (ar (bB (eTx (aB hr.units) (eVx 1) ak) (ax (eSx dB.nd 2 (eOp aS (eOp aS (eOp fH ak ak) ak) (eCx G28 hr (T.d 28 rfl) (eAx (eVx 0) (eAx ak af)))))) bF) (ar (bB (eTx (aB hr.units) (eVx 1) ak) (ax (eSx dB.nd 2 (eOp ao (eOp dg (eOp ao (eOp dg (eCx G28 hr (T.d 28 rfl) (eAx (eVx 0) (eAx (eOp fH ak ak) af))) (eOp fH ak ak)) (eCx G28 hr (T.d 28 rfl) (eAx (eVx 0) (eAx (eOp fH ak ak) af)))) (eOp fH ak ak)) (eCx G28 hr (T.d 28 rfl) (eAx (eVx 0) (eAx (eOp fH ak ak) af)))))) bF) (ar (bB (eTx (aB hr.units) (eCx G28 hr (T.d 28 rfl) (eAx (eVx 0) (eAx ak af))) ak) (ax (eSx dB.nd 2 (eOp aS ak (eVx 2)))) bF) (ax (aN (eVx 2)))))))
theorem Bk (T:Txt K mg t) (G28:gk P w K mg base t) (G30:rX P w K mg base t):sR P w K mg base t :=
 (T.d 31 rfl).ok kb (aK T) fun hr=>ar (eSx kb.nd 2 (eCx G28 hr (T.d 28 rfl) (eAx (eVx 0) (eAx ak af)))) (ar (bB (eTx (aB hr.units) (eVx 2) ak) (ax (aN (eIy (eVx 1) (eCx G28 hr (T.d 28 rfl) (eAx (eVx 0) (eAx (eBs bE T.z_len (eAx (eVx 1) af)) af)))))) bF) (ar (bB (eTx (aB hr.units) (eVx 2) ak) (ax (aN (eCx G30 hr (T.d 30 rfl) (eAx (eVx 0) af)))) bF) (ar (eSx kb.nd 3 az) (ar (eFx (eR1 rfl T.z_range (eAx (eIy (iE (eAx ak (eAx ak (eAx (eOp ao ak (eCx G28 hr (T.d 28 rfl) (eAx (eVx 0) (eA ak af rfl)))) (eAx ak af))))) (eCx G28 hr (T.d 28 rfl) (eAx (eVx 0) (eAx ak af)))) af) rfl) (eGx kb.nd 4) (ax (eSx kb.nd 3 (eOp ao (eVx 3) (eIy az (eCx G28 hr (T.d 28 rfl) (eAx (eVx 0) (eAx ak af)))))))) (ax (aN (eQ (eAx (eVx 3) af))))))))
theorem yd (T:Txt K mg t) (G28:gk P w K mg base t):qA P w K mg base t :=
 (T.d 32 rfl).ok yP (aK T) fun hr=>ax (aN (eIy (iE (eAx ak (eA (eCl G28 hr (T.d 28 rfl).m (T.d 28 rfl).F.kp (T.d 28 rfl).b (eA (eVx 0) (eA ak af rfl) rfl)) (eA (eCl G28 hr (T.d 28 rfl).m (T.d 28 rfl).F.kp (T.d 28 rfl).b (eA (eVx 0) (eA ak af rfl) rfl)) (eA (eOp aS (eOp aS (eOp fH ak ak) ak) (eCl G28 hr (T.d 28 rfl).m (T.d 28 rfl).F.kp (T.d 28 rfl).b (eA (eVx 0) (eA ak af rfl) rfl))) af rfl) rfl) rfl))) (eCx G28 hr (T.d 28 rfl) (eAx (eVx 0) (eA ak af rfl)))))
theorem vB (T:Txt K mg t) (G28:gk P w K mg base t) (G35:dR P w K mg base t (4+2*n) n) (G31:sR P w K mg base t):xo P w K mg base t (5+2*n) n :=
 ((T.d 33 rfl).ok qN (aK T) fun hr=>ar (eSx qN.nd 4 (iE af)) (ar (eFx (eR1 rfl T.z_range (eAx (eBs (rG rfl) T.z_min (eAx (eCx G28 hr (T.d 28 rfl) (eAx (eVx 0) (eA ak af rfl))) (eAx (eIx cM (eVx 2) ak (fun _ _=>rfl)) af))) af) rfl) (eGx qN.nd 5) (ar (A2 (eOp aS (eIy (eVx 2) ak) ak) (Ah (eVx 2) ak set_list (fun _=>rfl)) rfl rfl rfl) (ax (eY (eBM (eVx 4) (eAx (eQ (eAx (eCx G31 hr (T.d 31 rfl) (eAx (eVx 0) (eAx (eVx 1) af))) (eAx (eCx G35 hr (T.d 35 rfl) (eAx (eVx 0) (eAx (eVx 1) (eA (eVx 2) (eA (eVx 3) af rfl) rfl)))) af))) af) bG K1 KZ KY rfl rfl rfl rfl rfl) rfl)))) (ax (aN (eTs cD T.z_tuple (eAx (eVx 4) af))))):xo P w K mg base t ((4+2*n)+1) n).mono (by omega)
theorem mh (T:Txt K mg t) (G28:gk P w K mg base t) (G35:dR P w K mg base t (4+2*n) n):j9 P w K mg base t (5+2*n) n :=
 ((T.d 34 rfl).ok mQ (aK T) fun hr=>ar (eSx mQ.nd 4 (eBs (rG rfl) T.z_min (eAx (eCx G28 hr (T.d 28 rfl) (eAx (eVy 0) (eA ak af rfl))) (eAx (eIx cM (eVy 2) ak (fun _ _=>rfl)) af)))) (ar (A2 (eOp aS (eIy (eVy 2) ak) (eVx 4)) (Ah (eVy 2) ak set_list (fun _=>rfl)) rfl rfl rfl) (ax (aN (eTs cD T.z_tuple (eAx (eKx ["_law_pen_here", "_law_things", "_law_room", "_law_deep"] (eR1 rfl T.z_range (eAx (eVx 4) af) rfl) eT0 (eC fun _ _ _ _=>(eCx G35 hr (T.d 35 rfl) (eAx (eVy 1) (eAx (eVy 2) (eA (eVy 3) (eA (eVy 4) af rfl) rfl))))) (bsc (sc:=aa gQ) rfl (by decide +kernel)) ⟨rfl,⟨rfl,rfl⟩,⟨rfl,⟨rfl,rfl⟩,⟨rfl,⟨rfl,rfl⟩,⟨rfl,⟨rfl,rfl⟩,trivial⟩⟩⟩⟩) af))))):j9 P w K mg base t ((4+2*n)+1) n).mono (by omega)
theorem vo (T:Txt K mg t) (G28:gk P w K mg base t) (G34:j9 P w K mg base t (5+2*n) n) (G32:qA P w K mg base t) (G33:xo P w K mg base t (5+2*n) n) (G35:dR P w K mg base t (4+2*n) n) (G31:sR P w K mg base t):dR P w K mg base t (4+2*(n+1)) (n+1) :=
 ((T.d 35 rfl).ok fb (aK T) fun hr=>ar (eSx fb.nd 4 (eCx G28 hr (T.d 28 rfl) (eAx (eVx 0) (eAx ak af)))) (ar (bB (eW (wA (eTx ke (eVx 4) ak) (wA (eTx ke (eVx 3) ak) (pR (eTx ke (eIy (eVx 2) ak) ak))))) (ax (aN (eQ (eAx (eIy (iE (eAx az (eAx az (eAx az (eA az af rfl))))) (eCx G28 hr (T.d 28 rfl) (eAx (eVx 0) (eAx ak af)))) af)))) bF) (ar (bB (gD (eU hr.units) (eVx 4) (eQ (eAx ak (eAx ak af))) (by with_unfolding_all rfl)) (ax (aN (eQ (eAx (eIy (iE (eAx az (eAx az af))) (eOp aS (eVx 4) ak)) (eAx (eCx G34 hr (T.d 34 rfl) (eAx (eVx 0) (eAx (eVx 1) (eAx (eVx 2) (eAx (eOp aS (eVx 3) ak) af))))) af))))) bF) (ar (bB (eTx (aB hr.units) (eVx 4) ak) (ax (aN (eQ (eAx az (eAx (eCx G32 hr (T.d 32 rfl) (eAx (eVx 0) af)) (eAx (eCx G34 hr (T.d 34 rfl) (eAx (eVx 0) (eAx (eVx 1) (eAx (eVx 2) (eAx (eOp aS (eVx 3) ak) af))))) af)))))) bF) (ar (bB (eTx (aB hr.units) (eVx 4) ak) (ax (aN (eQ (eAx az (eAx (eCx G33 hr (T.d 33 rfl) (eAx (eVx 0) (eAx (eVx 1) (eAx (eVx 2) (eAx (eOp aS (eVx 3) ak) af))))) (eAx (eCx G33 hr (T.d 33 rfl) (eAx (eVx 0) (eAx (eVx 1) (eAx (eVx 2) (eAx (eOp aS (eVx 3) ak) af))))) af)))))) bF) (ar (bB (gD (eU hr.units) (eVx 4) (eQ (eAx ak (eAx ak af))) (by with_unfolding_all rfl)) (ax (aN (eQ (eAx (eIy (iE (eAx az (eAx az af))) (eOp aS (eVx 4) ak)) (eAx (eCx G33 hr (T.d 33 rfl) (eAx (eVx 0) (eAx (eVx 1) (eAx (eVx 2) (eAx (eOp aS (eVx 3) ak) af))))) af))))) bF) (ar (A2 (eOp aS (eIy (eVx 2) ak) ak) (Ah (eVx 2) ak set_list (fun _=>rfl)) rfl rfl rfl) (ar (bB (eTx (aB hr.units) (eVx 4) ak) (ar (A2 (eOp aS (eIy (eVx 2) ak) ak) (Ah (eVx 2) ak set_list (fun _=>rfl)) rfl rfl rfl) (ar (eSx fb.nd 5 (eQ (eAx (eCx G32 hr (T.d 32 rfl) (eAx (eVx 0) af)) (eAx (eCx G32 hr (T.d 32 rfl) (eAx (eVx 0) af)) af)))) (ar (eSx fb.nd 6 (eCx G35 hr (T.d 35 rfl) (eAx (eVx 0) (eAx (eVx 1) (eAx (eVx 2) (eAx (eOp aS (eVx 3) ak) af)))))) (ax (aN (eOp ao (eOp ao (eQ (eAx az af)) (eVx 5)) (eQ (eAx (eVx 6) (eAx (eCx G35 hr (T.d 35 rfl) (eAx (eVx 0) (eAx (eVx 1) (eAx (eVx 2) (eAx (eOp aS (eVx 3) ak) af))))) af))))))))) bF) (ar (bB (eTx (aB hr.units) (eVx 4) ak) (ax (aN (eQ (eAx az (eAx (eCx G32 hr (T.d 32 rfl) (eAx (eVx 0) af)) (eAx (eCx G35 hr (T.d 35 rfl) (eAx (eVx 0) (eAx (eVx 1) (eAx (eVx 2) (eAx (eOp aS (eVx 3) ak) af))))) af)))))) bF) (ar (bB (eTx (aB hr.units) (eVx 4) ak) (ax (aN (eQ (eAx az (eAx (eCx G31 hr (T.d 31 rfl) (eAx (eVx 0) (eAx (eVx 1) af))) (eAx (eCx G35 hr (T.d 35 rfl) (eAx (eVx 0) (eAx (eVx 1) (eAx (eVx 2) (eAx (eOp aS (eVx 3) ak) af))))) af)))))) bF) (ax (aN (eQ (eAx az (eAx (eCx G35 hr (T.d 35 rfl) (eAx (eVx 0) (eAx (eVx 1) (eAx (eVx 2) (eAx (eOp aS (eVx 3) ak) af))))) af)))))))))))))):dR P w K mg base t ((5+2*n)+1) (n+1)).mono (by omega)
theorem zo (T:Txt K mg t):dR P w K mg base t (3+1) 0 :=
 aQ.no (k:=3) (T.d 35 rfl).F fb fun vs H Q E h=>by obtain ⟨G,ds,is,pr,outs,hF,_⟩:=h;cases hF
theorem Ek (T:Txt K mg t) (G31:sR P w K mg base t) (G28:gk P w K mg base t) (G35:dR P w K mg base t 28 12) (G32:qA P w K mg base t):CT P w K mg base t :=
 (T.d 36 rfl).ok oO (aK T) fun hr=>ar (eSx oO.nd 4 (eCx G31 hr (T.d 31 rfl) (eAx (eVx 0) (eAx (eVx 1) af)))) (ar (eSx oO.nd 5 (eIy (eVx 2) (eCx G28 hr (T.d 28 rfl) (eAx (eVx 0) (eAx (eBs bE T.z_len (eA (eVx 2) af rfl)) af))))) (ar (eSx oO.nd 6 (zX (aB hr.units) (eCx G28 hr (T.d 28 rfl) (eAx (eVx 0) (eAx ak af))) ak (gX _))) (ar (eSx oO.nd 7 (iE (eAx (eBs (rG rfl) T.z_min (eAx (eVx 3) (eAx (eIy (iE (eAx ak (eA ak (eA ak af rfl) rfl))) (eCx G28 hr (T.d 28 rfl) (eAx (eVx 0) (eA ak af rfl)))) af))) af))) (ax (aN (eQ (eAx (eVx 4) (eAx (eVx 5) (eAx (eVx 6) (eAx (eCx G32 hr (T.d 32 rfl) (eAx (eVx 0) af)) (eAx (eCx G35 hr (T.d 35 rfl) (eAx (eVx 0) (eA (eVx 1) (eA (eVx 7) (eA (eIx cM (iE (eA ak (eA ak (eA ak af rfl) rfl) rfl)) (eCl G28 hr (T.d 28 rfl).m (T.d 28 rfl).F.kp (T.d 28 rfl).b (eA (eVx 0) (eA ak af rfl) rfl)) (fun _ _=>rfl)) af rfl) rfl) rfl))) af)))))))))))
theorem zl (T:Txt K mg t) (G28:gk P w K mg base t) (G36:CT P w K mg base t):w6 P w K mg base t :=
 (T.d 37 rfl).ok jQ (aK T) fun hr=>ar (eSx jQ.nd 3 (eIy (iE (eAx (eCl G28 hr (T.d 28 rfl).m (T.d 28 rfl).F.kp (T.d 28 rfl).b (eA (eVy 0) (eA ak af rfl) rfl)) (eA (eCl G28 hr (T.d 28 rfl).m (T.d 28 rfl).F.kp (T.d 28 rfl).b (eA (eVy 0) (eA ak af rfl) rfl)) (eA (eCl G28 hr (T.d 28 rfl).m (T.d 28 rfl).F.kp (T.d 28 rfl).b (eA (eVy 0) (eA ak af rfl) rfl)) (eA ak af rfl) rfl) rfl))) (eCx G28 hr (T.d 28 rfl) (eAx (eVy 0) (eA ak af rfl))))) (ar (eSy jQ.nd 4 ak) (ar (bB (eTx (aB hr.units) (eVx 3) ak) (ax (eSy jQ.nd 4 ak)) bF) (ax (aN (eKx ["_law_pen_here", "_law_things", "_law_names_here", "_law_most"] (eR1 rfl T.z_range (eAx (eVx 3) af) rfl) eT0 (eC fun _ _ _ _=>(eCx G36 hr (T.d 36 rfl) (eAx (eVy 1) (eAx (eVy 2) (eAx (eVy 3) (eAx (eVy 4) af)))))) (bsc (sc:=aa kW) rfl (by decide +kernel)) ⟨rfl,⟨rfl,rfl⟩,⟨rfl,⟨rfl,rfl⟩,⟨rfl,⟨rfl,rfl⟩,⟨rfl,⟨rfl,rfl⟩,trivial⟩⟩⟩⟩)))))
theorem oN (T:Txt K mg t):dU P w K mg base t :=
 (T.d 38 rfl).ok oV (aK T) fun hr=>ar (bB (eUx (eIz T.z_isinstance (eVx 0) T.z_tuple)) (ax (aN (eOp ao az (eIy (eVx 0) ak)))) bF) (ax (aN (eTs c8 T.z_str (eAx (eVx 0) af))))
theorem i0 (T:Txt K mg t) (G38:dU P w K mg base t) (G40:bw P w K mg base t (1+2*n) n):gB P w K mg base t (2+2*n) n :=
 ((T.d 39 rfl).ok oP (aK T) fun hr=>ax (aN (eBM az (eAx (wt (n:=2) (js:=[]) ["_law_node_here", "_law_one"] [] (eIT (eVx 0)) (BQ (i:=0) (by decide +kernel) rfl rfl (BQ (i:=1) (by decide +kernel) rfl rfl Gn)) (eC fun _ _ _ _=>(eOp ao (eOp ao (eCx G38 hr (T.d 38 rfl) (eAx (eVx 0) af)) az) (eCx G40 hr (T.d 40 rfl) (eAx (eVx 1) af)))) rfl (He (sc:=aa dW) rfl (by decide +kernel)) trivial (fun _=>rfl) (fun _=>rfl) (fun _=>rfl)) af) bx Ku KL KJ rfl rfl rfl rfl rfl)):gB P w K mg base t ((1+2*n)+1) n).mono (by omega)
theorem lU (T:Txt K mg t) (G40:bw P w K mg base t (1+2*n) n) (G38:dU P w K mg base t) (G39:gB P w K mg base t (2+2*n) n):bw P w K mg base t (1+2*(n+1)) (n+1) :=
 ((T.d 40 rfl).ok aA (aK T) fun hr=>ar (bB (eTx (aB hr.units) (eBs bE T.z_len (eAx (eVx 0) af)) ak) (ax (aN (eIy (eVx 0) ak))) bF) (ar (eSx aA.nd 1 (eIy (eVx 0) ak)) (ar (eSx aA.nd 2 (eTs (yt rfl) T.z_list (eAx (eSl (orS ip (orS eg hJ)) (eVx 0) (eP ak) AH) af))) (ar (GV (i:=3) [] (eIL (eVx 2)) (eT1 fun _ _ _ _=>(eUx (eIz T.z_isinstance (eVx 0) T.z_int))) (eC fun _ _ _ _=>(eTs c8 T.z_str (eAx (eVx 0) af))) aA.nd rfl rfl rfl rfl (bsc (sc:=aa bp) rfl (by decide +kernel)) (by decide +kernel) trivial (fun _=>rfl)) (ar (bB (eTx (aB hr.units) (eVx 1) az) (ax (eSx aA.nd 3 (iE (eAx (eCx G38 hr (T.d 38 rfl) (eAx (eIy (eVx 0) ak) af)) (eAx (eCx G40 hr (T.d 40 rfl) (eAx (eIy (eVx 0) ak) af)) af))))) bF) (ar (bB (gD (eU hr.units) (eVx 1) (eQ (eAx az (eAx az (eAx az af)))) (by with_unfolding_all rfl)) (ax (eSx aA.nd 3 (eOp ao (eVx 3) (eKx [] (eIL (eSl (orS ip (orS eg hJ)) (eVx 2) (eP (eBs bE T.z_len (eAx (eVx 3) af))) AH)) eT0 (eC fun _ _ _ _=>(eCx G40 hr (T.d 40 rfl) (eAx (eVx 0) af))) (bsc (sc:=aa bp) rfl (by decide +kernel)) trivial)))) bF) (ar (bB (gD (eU hr.units) (eVx 1) (eQ (eAx az (eAx az (eAx az af)))) (by with_unfolding_all rfl)) (ax (eSx aA.nd 3 (eOp ao (eVx 3) (eKx [] (eIT (eIy (eVx 0) (eUy ak))) eT0 (eC fun _ _ _ _=>(eCx G40 hr (T.d 40 rfl) (eAx (eVx 0) af))) (bsc (sc:=aa bp) rfl (by decide +kernel)) trivial)))) bF) (ar (bB (gD (eU hr.units) (eVx 1) (eQ (eAx az (eAx az af))) (by with_unfolding_all rfl)) (ax (eSx aA.nd 3 (iE (eAx (eCx G39 hr (T.d 39 rfl) (eAx (eIy (eVx 0) ak) af)) af)))) bF) (ar (bB (eTx (aB hr.units) (eVx 1) az) (ax (eSx aA.nd 3 (iE (eAx (eOp ao (eOp ao (eCx G39 hr (T.d 39 rfl) (eAx (eIy (eVx 0) ak) af)) az) (eCx G39 hr (T.d 39 rfl) (eAx (eIy (eVx 0) ak) af))) af)))) bF) (ax (aN (eOp ao (eOp ao (eOp ao (eVx 1) az) (eBM az (eAx (eVx 3) af) bx Ku KL KJ rfl rfl rfl rfl rfl)) az))))))))))):bw P w K mg base t ((2+2*n)+1) (n+1)).mono (by omega)
theorem nZ (T:Txt K mg t):bw P w K mg base t (0+1) 0 :=
 aQ.no (k:=0) (T.d 40 rfl).F aA fun vs H Q E h=>by obtain ⟨G,ds,is,pr,outs,hF,_⟩:=h;cases hF
theorem qm (T:Txt K mg t) (G40:bw P w K mg base t 25 12) (G38:dU P w K mg base t):me P w K mg base t :=
 (T.d 41 rfl).ok kz (aK T) fun hr=>ar (eSx kz.nd 1 (eIy (iE (eAx az (eA az af rfl))) (eTs sN T.z_int (eAx (eIx cM (eVx 0) ak (fun _ _=>rfl)) af)))) (ax (aN (eBM az (eAx (iE (eAx (eCx G38 hr (T.d 38 rfl) (eAx (eIx cM (eVx 0) ak (fun _ _=>rfl)) af)) (eAx (eIx cM (eVx 0) ak (fun _ _=>rfl)) (eA (eVx 1) (eA (eTs c8 T.z_str (eA (eIx cM (eVx 0) ak (fun _ _=>rfl)) af rfl)) (eA (eCl G40 hr (T.d 40 rfl).m (T.d 40 rfl).F.kp (T.d 40 rfl).b (eA (eIx cM (eVx 0) ak (fun _ _=>rfl)) af rfl)) af rfl) rfl) rfl)))) af) bx Ku KL KJ rfl rfl rfl rfl rfl)))
theorem ym (T:Txt K mg t) (G42:j4 P w K mg base t (1+n) n):j4 P w K mg base t (1+(n+1)) (n+1) :=
 ((T.d 42 rfl).ok rK (aK T) fun hr=>ar (bB (eUx (eIz T.z_isinstance (eVx 1) T.z_tuple)) (ar (bB (eW (wA (gR (eUx (eIz T.z_isinstance (eVx 0) T.z_tuple))) (pR (eTx (u3 hr.units) (eBs bE T.z_len (eAx (eVx 0) af)) (eBs bE T.z_len (eAx (eVx 1) af)))))) (ax (aN eBl)) bF) (ax (aN (zX (ph hr.units) eBl (wt (n:=2) (js:=[]) ["_law_one", "_law_other"] [] (eIZ T.z_zip (eAx (eVx 0) (eAx (eVx 1) af))) (BQ (i:=0) (by decide +kernel) rfl rfl (BQ (i:=1) (by decide +kernel) rfl rfl Gn)) (eC fun _ _ _ _=>(eCx G42 hr (T.d 42 rfl) (eAx (eVx 0) (eAx (eVx 1) af)))) rfl (He (sc:=aa lr) rfl (by decide +kernel)) trivial (fun _=>rfl) (fun _=>rfl) (fun _=>rfl)) (by with_unfolding_all rfl))))) bF) (ar (bB (eW (wA (eUx (eIz T.z_isinstance (eVx 1) T.z_bool)) (pR (eUx (eIz T.z_isinstance (eVx 0) T.z_bool))))) (ax (aN (Ae (eIz T.z_isinstance (eVx 1) T.z_bool) (Ae (eIz T.z_isinstance (eVx 0) T.z_bool) (Ds (zX (aB hr.units) (eVx 0) (eVx 1) (gX _))))))) bF) (ar (bB (eUx (eIz T.z_isinstance (eVx 1) T.z_str)) (ax (aN (Ae (eIz T.z_isinstance (eVx 0) T.z_str) (Ds (zX (aB hr.units) (eVx 0) (eVx 1) (gX _)))))) bF) (ax (aN (Ae (eIz T.z_isinstance (eVx 0) T.z_int) (Ds (zX (aB hr.units) (eVx 0) (eVx 1) (gX _)))))))):j4 P w K mg base t ((1+n)+1) (n+1)).mono (by omega)
theorem BK (T:Txt K mg t):j4 P w K mg base t (0+1) 0 :=
 aQ.no (k:=0) (T.d 42 rfl).F rK fun vs H Q E h=>by obtain ⟨G,ds,is,pr,outs,hF,_⟩:=h;cases hF
theorem Cr (T:Txt K mg t) (G27:B5 P w K mg base t) (G29:ve P w K mg base t) (G37:w6 P w K mg base t) (G41:me P w K mg base t) (G26:jx P w K mg base t) (G42:j4 P w K mg base t 46 45) (G13:jy P w K mg base t):HQ P w K mg base t :=
 (T.d 43 rfl).ok jn (aK T) fun hr=>ar (eSx jn.nd 1 (eCx G27 hr (T.d 27 rfl) (eAx (eVx 0) af))) (ar (eSx jn.nd 2 (eCx G29 hr (T.d 29 rfl) (eAx (eVx 1) (eAx ak af)))) (ar (eSx jn.nd 3 (eCx G29 hr (T.d 29 rfl) (eAx (eVx 1) (eAx ak af)))) (ar (eSx jn.nd 4 (eCx G37 hr (T.d 37 rfl) (eAx (eVx 1) (eAx (eVx 2) (eAx (eVx 3) af))))) (ar (eSx jn.nd 5 (eBM az (eAx (eKx [] (eIL (eVx 4)) eT0 (eC fun _ _ _ _=>(eCx G41 hr (T.d 41 rfl) (eAx (eVx 0) af))) (bsc (sc:=aa qq) rfl (by decide +kernel)) trivial) af) bx Ku KL KJ rfl rfl rfl rfl rfl)) (ar (eFx (eR1 rfl T.z_range (eAx ak af) rfl) (eGx jn.nd 6) (ar (eSx jn.nd 7 (eCx G26 hr (T.d 26 rfl) (eAx (eVx 5) af))) (ar (bB (eW (wA (gR (eUx (eIz T.z_isinstance (eVx 7) T.z_list))) (wA (gR (eUx (eCx G42 hr (T.d 42 rfl) (eAx (eTs cD T.z_tuple (eAx (eVx 7) af)) (eAx (eTs cD T.z_tuple (eAx (eVx 4) af)) af))))) (pR (eTx (u3 hr.units) (eCx G13 hr (T.d 13 rfl) (eAx (eVx 7) af)) (eVx 5)))))) (ax (aN eBl)) bF) (ax (eY (eBM (eVx 7) (eAx (eQ (eAx az (eAx az (eAx eBl (eAx ak (eAx (eQ (eAx az af)) af)))))) af) bG K1 KZ KY rfl rfl rfl rfl rfl) rfl))))) (ax (aN eBl)))))))
def pZ (K:Fg) (t:Adr):TS :=
 (z7 (fun D σ H=>(cU 1) σ H fun x H1=>cU 0 σ H1 fun y H2=>(uC "text").r K y .non x H2 (D.nx σ))
  (z7 (fun D σ H=>(cU 2) σ H fun x H1=>cU 0 σ H1 fun y H2=>(uC "line").r K y .non x H2 (D.nx σ))
  (fun D σ H=>(tC (.int 0)) σ H fun x H1=>cU 0 σ H1 fun y H2=>(uC "at").r K y .non x H2 (D.nx σ))))
theorem wI (T:Txt K mg t):rH P w K mg base t:=by
 refine T.xK.okX xB (aK T) (rd:=pZ K t) rfl fun hr=>?_;unfold pZ;refine ar ?_ ?_
 ·exact (eSF T.cl T.na_text (eVx 0) (eVx 1))
 ·refine ar ?_ ?_
  ·exact (eSF T.cl T.na_line (eVx 0) (eVx 2))
  ·refine ax ?_;exact (eSF T.cl T.na_at (eVx 0) ak)
def pQ (K:Fg) (t:Adr):TS :=
 (BR (tBM K nV.T (nV.r K) (tCB ((gJ "text").r K) (bM (cU 0) gC)) (bM (cU 1) (bM (tCB ((gJ "at").r K) (bM (cU 0) gC)) gC))))
theorem xx (T:Txt K mg t):iB P w K mg base t:=by
 refine T.zk.okX wC (aK T) (rd:=pQ K t) rfl fun hr=>?_;unfold pQ;refine ax ?_;exact (aN (eBM (eFl T.cl T.na_text (eVx 0)) (eA (eVx 1) (eA (eFl T.cl T.na_at (eVx 0)) af rfl) rfl) tG Ku PySem.F.slot_str_startswith PySem.F.type_str_startswith rfl rfl rfl rfl rfl))
def o7 (K:Fg) (t:Adr):TS :=
 (z7 (EL (Fh (tB (fun σ H Q=>cU 0 σ H fun x H1=>(bD "sees" bO).tq K x H1/\(bM (cU 1) gC) σ H1 fun xs H2=>(bD "sees" bO).r K x xs H2 Q))) xq yV)
  (fun D σ H=>(tOp (fun x y=>cL.r K [x,y]) (tCB ((gJ "at").r K) (bM (cU 0) gC)) (tCB (md.r K) (bM (cU 1) gC))) σ H fun x H1=>cU 0 σ H1 fun y H2=>(uC "at").r K y .non x H2 (D.nx σ)))
theorem vy (T:Txt K mg t) (G45:iB P w K mg base t):d6 P w K mg base t:=by
 refine T.yi.okX vZ (aK T) (rd:=o7 K t) rfl fun hr=>?_;unfold o7;refine ar ?_ ?_
 ·refine bB ?_ ?_ ?_
  ·exact (gR (Ik (eMt T.cl T.jX G45 hr T.jP (eVx 0) (eA (eVx 1) af rfl)) (fun _=>rfl)))
  ·refine ax ?_;exact g0
  ·exact bF
 ·refine ax ?_;exact (eSF T.cl T.na_at (eVx 0) (eOp ao (eFl T.cl T.na_at (eVx 0)) (eBs bE T.z_len (eA (eVx 1) af rfl))))
def pB (K:Fg) (t:Adr):TS :=
 (z7 (uF (tCB ((gJ "at").r K) (bM (cU 0) gC)) (eZ 1))
  (z7 (tj (EM (ql (tOp (fun x y=>ltP.r K [x,y]) (tCB ((gJ "at").r K) (bM (cU 0) gC)) (tCB (md.r K) (bM (tCB ((gJ "text").r K) (bM (cU 0) gC)) gC)))) (ql (tOp (fun x y=>inP.r K [x,y]) (tOp (fun x y=>ixP.r K [x,y]) (tCB ((gJ "text").r K) (bM (cU 0) gC)) (tCB ((gJ "at").r K) (bM (cU 0) gC))) (tC (.str "abcdefghijklmnopqrstuvwxyz0123456789'-"))))) (fun D σ H=>(tOp (fun x y=>cL.r K [x,y]) (tCB ((gJ "at").r K) (bM (cU 0) gC)) (tC (.int 1))) σ H fun x H1=>cU 0 σ H1 fun y H2=>(uC "at").r K y .non x H2 (D.nx σ)))
  (BR (tSl (B3 F9 (B3 (Gk K) (Hy K))) (tCB ((gJ "text").r K) (bM (cU 0) gC)) (yT (cU 1)) (yT (tCB ((gJ "at").r K) (bM (cU 0) gC)))))))
theorem vz (T:Txt K mg t):jN P w K mg base t:=by
 refine T.ye.okX oG (aK T) (rd:=pB K t) rfl fun hr=>?_;unfold pB;refine ar ?_ ?_
 ·refine Fw (i:=1) ?_ oG.nd rfl (Or.inl rfl) rfl (Or.inl rfl);exact (eFl T.cl T.na_at (eVx 0))
 ·refine ar ?_ ?_
  ·refine rV ?_ ?_ L6
   ·exact (eW (xu (gD ke (eFl T.cl T.na_at (eVx 0)) (eBs bE T.z_len (eA (eFl T.cl T.na_text (eVx 0)) af rfl)) (gX _)) (pW (gD (eU hr.units) (eIx cM (eFl T.cl T.na_text (eVx 0)) (eFl T.cl T.na_at (eVx 0)) (fun _ _=>rfl)) (uo (v:=.str "abcdefghijklmnopqrstuvwxyz0123456789'-") rfl T.g_WORD_SIGNS ⟨_,rfl⟩ rfl) (by with_unfolding_all rfl)))))
   ·refine ax ?_;exact (eSF T.cl T.na_at (eVx 0) (eOp ao (eFl T.cl T.na_at (eVx 0)) ak))
  ·refine ax ?_;exact (aN (eSl (orS ip (orS eg hJ)) (eFl T.cl T.na_text (eVx 0)) (eP (eVx 1)) (eP (eFl T.cl T.na_at (eVx 0)))))
def jr (K:Fg) (t:Adr):TS :=
 (BR (tOp (fun x y=>eqP.r K [x,y]) (tCB ((gJ "at").r K) (bM (cU 0) gC)) (tCB (md.r K) (bM (tCB ((gJ "text").r K) (bM (cU 0) gC)) gC))))
theorem pA (T:Txt K mg t):ky P w K mg base t:=by
 refine T.qG.okX pz (aK T) (rd:=jr K t) rfl fun hr=>?_;unfold jr;refine ax ?_;exact (aN (zX (aB hr.units) (eFl T.cl T.na_at (eVx 0)) (eBs bE T.z_len (eA (eFl T.cl T.na_text (eVx 0)) af rfl)) (gX _)))
end
theorem EB {P:Program} {w:World} {K:Fg} {mg:Str->Option Value} {base:Heap} {t:Adr} (T:Txt K mg t):aQ P w K mg base CX0 58 (t.f 43).1 (t.f 43).2 ["_law_script"] (vQ K):=by
 have h0:=Cv (P:=P) (w:=w) (base:=base) T;have h1:=Ag (P:=P) (w:=w) (base:=base) T;have h2:=xY (P:=P) (w:=w) (base:=base) T h1;have h3:=uX (P:=P) (w:=w) (base:=base) T h1;have h4:=Bk (P:=P) (w:=w) (base:=base) T h1 h3;have h5:=yd (P:=P) (w:=w) (base:=base) T h1;have m_reason:∀ n,aQ P w K mg base CX0 (4+2*n) (t.f 35).1 (t.f 35).2 ["_law_pen_here", "_law_things", "_law_room", "_law_deep"] (pI K n):=by
  intro n;induction n with
  | zero=>exact (zo T).mono (by omega)
  | succ n h8 =>
   have h6:=vB (n:=n) T h1 h8 h4;have h7:=mh (n:=n) T h1 h8;exact (vo (n:=n) T h1 h7 h5 h6 h8 h4).mono (by omega)
 have h8:=m_reason 12;have h6:=vB (n:=12) T h1 h8 h4;have h7:=mh (n:=12) T h1 h8;have h11:=Ek (P:=P) (w:=w) (base:=base) T h4 h1 h8 h5;have h12:=zl (P:=P) (w:=w) (base:=base) T h1 h11;have h13:=oN (P:=P) (w:=w) (base:=base) T;have m_reason_text:∀ n,aQ P w K mg base CX0 (1+2*n) (t.f 40).1 (t.f 40).2 ["_law_reason_here"] (gi K n):=by
  intro n;induction n with
  | zero=>exact (nZ T).mono (by omega)
  | succ n h15 =>
   have h14:=i0 (n:=n) T h13 h15;exact (lU (n:=n) T h15 h13 h14).mono (by omega)
 have h15:=m_reason_text 12;have h14:=i0 (n:=12) T h13 h15;have h17:=qm (P:=P) (w:=w) (base:=base) T h15 h13;have h18:=lG (P:=P) (w:=w) (base:=base) T;have h19:=tK (P:=P) (w:=w) (base:=base) T h18;have h20:=tD (P:=P) (w:=w) (base:=base) T h18;have h21:=pq (P:=P) (w:=w) (base:=base) T;have h22:=tM (P:=P) (w:=w) (base:=base) T h20 h19 h21;have h23:=qt (P:=P) (w:=w) (base:=base) T;have h24:=qr (P:=P) (w:=w) (base:=base) T h22 h23;have h25:=wI (P:=P) (w:=w) (base:=base) T;have h26:=xx (P:=P) (w:=w) (base:=base) T;have h27:=vy (P:=P) (w:=w) (base:=base) T h26;have h28:=vz (P:=P) (w:=w) (base:=base) T;have h29:=jK (P:=P) (w:=w) (base:=base) T h22 h28;have h30:=nO (P:=P) (w:=w) (base:=base) T h24 h28;have m_read_reason:∀ n,aQ P w K mg base CX0 (7+4*n) (t.f 24).1 (t.f 24).2 ["reader", "depth"] (gx K n):=by
  intro n;induction n with
  | zero=>exact (mV T).mono (by omega)
  | succ n h38 =>
   have h31:=i7 (n:=n) T h26 h27 h29 h38;have h32:=fK (n:=n) T h26 h27 h38;have h33:=cv (n:=n) T h27 h38;have h34:=g5 (n:=n) T h30 h26 h33;have h35:=k5 (n:=n) T h30 h27 h33;have h36:=hV (n:=n) T h31 h27;have h37:=gb (n:=n) T h38 h32 h31 h36 h34 h35 h30 h33 h29;exact (lP (n:=n) T h28 h27 h37).mono (by omega)
 have h38:=m_read_reason 12;have h31:=i7 (n:=12) T h26 h27 h29 h38;have h32:=fK (n:=12) T h26 h27 h38;have h33:=cv (n:=12) T h27 h38;have h34:=g5 (n:=12) T h30 h26 h33;have h35:=k5 (n:=12) T h30 h27 h33;have h36:=hV (n:=12) T h31 h27;have h37:=gb (n:=12) T h38 h32 h31 h36 h34 h35 h30 h33 h29;have h46:=pA (P:=P) (w:=w) (base:=base) T;have h47:=qW (P:=P) (w:=w) (base:=base) T h19 h22 h24 h25 h38 h46;have h48:=n6 (P:=P) (w:=w) (base:=base) T h47;have m_alike:∀ n,aQ P w K mg base CX0 (1+n) (t.f 42).1 (t.f 42).2 ["_law_found", "_law_due"] (rW K n):=by
  intro n;induction n with
  | zero=>exact (BK T).mono (by omega)
  | succ n h49 =>
   exact (ym (n:=n) T h49).mono (by omega)
 have h49:=m_alike 45;have h50:=tZ (P:=P) (w:=w) (base:=base) T;have h51:=pU (P:=P) (w:=w) (base:=base) T h50;have m_show_reason:∀ n,aQ P w K mg base CX0 (2+3*n) (t.f 11).1 (t.f 11).2 ["reason"] (gu K n):=by
  intro n;induction n with
  | zero=>exact (nB T).mono (by omega)
  | succ n h55 =>
   have h52:=i8 (n:=n) T h51 h55;have h53:=fD (n:=n) T h55;have h54:=gr (n:=n) T h52 h53 h55 h51;exact (lR (n:=n) T h54).mono (by omega)
 have h55:=m_show_reason 12;have h52:=i8 (n:=12) T h51 h55;have h53:=fD (n:=12) T h55;have h54:=gr (n:=12) T h52 h53 h55 h51;have h59:=rp (P:=P) (w:=w) (base:=base) T h55 h51;have h60:=ng (P:=P) (w:=w) (base:=base) T h59;have h61:=Cr (P:=P) (w:=w) (base:=base) T h0 h2 h12 h17 h48 h49 h60;exact h61
theorem Cz {K:Fg} {h:Heap} {mg:Str->Option Value} (X:K.In h) (G:h.Ns mainGlobals mg) (D:BV K mg dfs)
  {fm0:Addr} {odm0 anm0:Option Addr} {slm0:Array (Option Value)} {ocm0 kVm0 dcm0 pmm0 cdm0 ctm0:Value}
  (am0:PySem.W.findIn K (.ref (182:Addr)) "__init__" = some (some (.ref fm0))) (lm0:K.lookup fm0=some ⟨ocm0,odm0,.func (PySem.W.fnOf "__init__" "ReasonReader.__init__" (bC a9) (aV a9) (aa a9) .none kVm0 dcm0 pmm0 anm0 cdm0 ctm0),slm0⟩) (cm0:PySem.W.codeIn K cdm0 "ReasonReader.__init__" = true) (km0:PySem.W.keepIn K (.ref fm0)=true) (im0:PySem.W.isFn K (.ref fm0)=true)
  {fm1:Addr} {odm1 anm1:Option Addr} {slm1:Array (Option Value)} {ocm1 kVm1 dcm1 pmm1 cdm1 ctm1:Value}
  (am1:PySem.W.findIn K (.ref (182:Addr)) "sees" = some (some (.ref fm1))) (lm1:K.lookup fm1=some ⟨ocm1,odm1,.func (PySem.W.fnOf "sees" "ReasonReader.sees" (bC bg) (aV bg) (aa bg) .none kVm1 dcm1 pmm1 anm1 cdm1 ctm1),slm1⟩) (cm1:PySem.W.codeIn K cdm1 "ReasonReader.sees" = true) (km1:PySem.W.keepIn K (.ref fm1)=true) (im1:PySem.W.isFn K (.ref fm1)=true)
  {fm2:Addr} {odm2 anm2:Option Addr} {slm2:Array (Option Value)} {ocm2 kVm2 dcm2 pmm2 cdm2 ctm2:Value}
  (am2:PySem.W.findIn K (.ref (182:Addr)) "skip" = some (some (.ref fm2))) (lm2:K.lookup fm2=some ⟨ocm2,odm2,.func (PySem.W.fnOf "skip" "ReasonReader.skip" (bC bb) (aV bb) (aa bb) .none kVm2 dcm2 pmm2 anm2 cdm2 ctm2),slm2⟩) (cm2:PySem.W.codeIn K cdm2 "ReasonReader.skip" = true) (km2:PySem.W.keepIn K (.ref fm2)=true) (im2:PySem.W.isFn K (.ref fm2)=true)
  {fm3:Addr} {odm3 anm3:Option Addr} {slm3:Array (Option Value)} {ocm3 kVm3 dcm3 pmm3 cdm3 ctm3:Value}
  (am3:PySem.W.findIn K (.ref (182:Addr)) "word" = some (some (.ref fm3))) (lm3:K.lookup fm3=some ⟨ocm3,odm3,.func (PySem.W.fnOf "word" "ReasonReader.word" (bC ba) (aV ba) (aa ba) .none kVm3 dcm3 pmm3 anm3 cdm3 ctm3),slm3⟩) (cm3:PySem.W.codeIn K cdm3 "ReasonReader.word" = true) (km3:PySem.W.keepIn K (.ref fm3)=true) (im3:PySem.W.isFn K (.ref fm3)=true)
  {fm4:Addr} {odm4 anm4:Option Addr} {slm4:Array (Option Value)} {ocm4 kVm4 dcm4 pmm4 cdm4 ctm4:Value}
  (am4:PySem.W.findIn K (.ref (182:Addr)) "is_done" = some (some (.ref fm4))) (lm4:K.lookup fm4=some ⟨ocm4,odm4,.func (PySem.W.fnOf "is_done" "ReasonReader.is_done" (bC aG) (aV aG) (aa aG) .none kVm4 dcm4 pmm4 anm4 cdm4 ctm4),slm4⟩) (cm4:PySem.W.codeIn K cdm4 "ReasonReader.is_done" = true) (km4:PySem.W.keepIn K (.ref fm4)=true) (im4:PySem.W.isFn K (.ref fm4)=true)
  (C_g:PySem.W.nsIn K mainGlobals "ReasonReader" = some (some (.ref (182:Addr)))) (C_pg:PySem.W.plainGet K (182:Addr) Str.empty=true) (C_hd:PySem.W.hasDictIn K (182:Addr)=true) (C_po:PySem.W.plainOver K (182:Addr)=true) (C_sa:PySem.W.findIn K (.ref (182:Addr)) "__setattr__" = some (some (.builtin "object.__setattr__"))) (C_mk:PySem.W.makesIn K (182:Addr)=true) (C_kp:PySem.W.keepIn K (.ref (182:Addr))=true)
  (na_at:PySem.W.findIn K (.ref (182:Addr)) "at" = some none)
  (na_line:PySem.W.findIn K (.ref (182:Addr)) "line" = some none)
  (na_text:PySem.W.findIn K (.ref (182:Addr)) "text" = some none)
  (z_abs:PySem.W.nsIn K mainGlobals "abs" = some none)
  (z_all:PySem.W.nsIn K mainGlobals "all" = some none)
  (z_bool:PySem.W.nsIn K mainGlobals "bool" = some none)
  (z_enumerate:PySem.W.nsIn K mainGlobals "enumerate" = some none)
  (z_int:PySem.W.nsIn K mainGlobals "int" = some none)
  (z_isinstance:PySem.W.nsIn K mainGlobals "isinstance" = some none)
  (z_len:PySem.W.nsIn K mainGlobals "len" = some none)
  (z_list:PySem.W.nsIn K mainGlobals "list" = some none)
  (z_min:PySem.W.nsIn K mainGlobals "min" = some none)
  (z_range:PySem.W.nsIn K mainGlobals "range" = some none)
  (z_str:PySem.W.nsIn K mainGlobals "str" = some none)
  (z_tuple:PySem.W.nsIn K mainGlobals "tuple" = some none)
  (z_zip:PySem.W.nsIn K mainGlobals "zip" = some none)
  {tk_DEEPEST:Tok} (g_DEEPEST:PySem.W.nsIn K mainGlobals "DEEPEST" = some (some (Value.int 12 tk_DEEPEST)))
  {tk_MOST_FIGURES:Tok} (g_MOST_FIGURES:PySem.W.nsIn K mainGlobals "MOST_FIGURES" = some (some (Value.int 30 tk_MOST_FIGURES)))
  {tk_MOST_LETTERS:Tok} (g_MOST_LETTERS:PySem.W.nsIn K mainGlobals "MOST_LETTERS" = some (some (Value.int 8 tk_MOST_LETTERS)))
  {tk_WORD_SIGNS:Tok} (g_WORD_SIGNS:PySem.W.nsIn K mainGlobals "WORD_SIGNS" = some (some (Value.str "abcdefghijklmnopqrstuvwxyz0123456789'-" tk_WORD_SIGNS)))
  {ca_BARE:Addr} (g_BARE:PySem.W.nsIn K mainGlobals "BARE" = some (some (.ref ca_BARE)))
  {od_BARE:Option Addr} {sl_BARE:Array (Option Value)} {nn_BARE:Nat} {tt_BARE_0:Tok} {tt_BARE_1:Tok} {tt_BARE_2:Tok} (s_BARE:K.lookup ca_BARE=some ⟨.type "tuple", od_BARE,.seq #[.str "plain" tt_BARE_0,.str "claim" tt_BARE_1,.str "bound" tt_BARE_2] nn_BARE,sl_BARE⟩)
  : ∃ t:Adr,(∀ (s:Shared) (u:Value),BindsTo s (t.f 43).2 ⟨[u],[]⟩ [("_law_script", u)])/\Txt K mg t:=by
 obtain ⟨f,hf⟩:=Jp D
 exact ⟨⟨f,fm0,PySem.W.fnOf "__init__" "ReasonReader.__init__" (bC a9) (aV a9) (aa a9) .none kVm0 dcm0 pmm0 anm0 cdm0 ctm0,fm1,PySem.W.fnOf "sees" "ReasonReader.sees" (bC bg) (aV bg) (aa bg) .none kVm1 dcm1 pmm1 anm1 cdm1 ctm1,fm2,PySem.W.fnOf "skip" "ReasonReader.skip" (bC bb) (aV bb) (aa bb) .none kVm2 dcm2 pmm2 anm2 cdm2 ctm2,fm3,PySem.W.fnOf "word" "ReasonReader.word" (bC ba) (aV ba) (aa ba) .none kVm3 dcm3 pmm3 anm3 cdm3 ctm3,fm4,PySem.W.fnOf "is_done" "ReasonReader.is_done" (bC aG) (aV aG) (aa aG) .none kVm4 dcm4 pmm4 anm4 cdm4 ctm4,ca_BARE,tk_DEEPEST,tk_MOST_FIGURES,tk_MOST_LETTERS,tk_WORD_SIGNS⟩,fun s u=>.of_eq ((hf 43 rfl).c [u] rfl),⟨hf,
  L2.fI (st:=a9) lm0 cm0 km0,
  (L2.fI (st:=a9) lm0 cm0 km0).binds (ps:=["self", "text", "line"]) fun _ _ _ _ _ _ us hl=>match us,hl with | [_,_,_],_=>rfl,
  L2.fI (st:=bg) lm1 cm1 km1,
  (L2.fI (st:=bg) lm1 cm1 km1).binds (ps:=["self", "piece"]) fun _ _ _ _ _ _ us hl=>match us,hl with | [_,_],_=>rfl,
  ⟨am1,im1,km1⟩,
  L2.fI (st:=bb) lm2 cm2 km2,
  (L2.fI (st:=bb) lm2 cm2 km2).binds (ps:=["self", "piece"]) fun _ _ _ _ _ _ us hl=>match us,hl with | [_,_],_=>rfl,
  ⟨am2,im2,km2⟩,
  L2.fI (st:=ba) lm3 cm3 km3,
  (L2.fI (st:=ba) lm3 cm3 km3).binds (ps:=["self"]) fun _ _ _ _ _ _ us hl=>match us,hl with | [_],_=>rfl,
  ⟨am3,im3,km3⟩,
  L2.fI (st:=aG) lm4 cm4 km4,
  (L2.fI (st:=aG) lm4 cm4 km4).binds (ps:=["self"]) fun _ _ _ _ _ _ us hl=>match us,hl with | [_],_=>rfl,
  ⟨am4,im4,km4⟩,
  ⟨C_pg,C_hd,C_po,C_sa⟩,
  ⟨C_mk,am0,im0,C_kp⟩,
  LP X G C_g,
  na_at,
  na_line,
  na_text,
  KW X G z_abs,
  KW X G z_all,
  KW X G z_bool,
  KW X G z_enumerate,
  KW X G z_int,
  KW X G z_isinstance,
  KW X G z_len,
  KW X G z_list,
  KW X G z_min,
  KW X G z_range,
  KW X G z_str,
  KW X G z_tuple,
  KW X G z_zip,
  LP X G g_BARE,
  LP X G g_DEEPEST,
  LP X G g_MOST_FIGURES,
  LP X G g_MOST_LETTERS,
  LP X G g_WORD_SIGNS,
  fun H=>Or.inr ⟨_,_,_,s_BARE,rfl,rfl,(by show 3<=sizeLine;decide),(.cons ⟨_,rfl⟩ (.cons ⟨_,rfl⟩ (.cons ⟨_,rfl⟩ .nil)))⟩⟩⟩
local macro_rules | `(tactic| walk_at "e")=>`(tactic| (case e9=>exact rfl))
local macro_rules | `(tactic| walk_at "p")=>`(tactic| first | with_reducible refine pV ?_ | walk_at "p0")
local macro_rules | `(tactic| walk_at "p0")=>`(tactic| first
 | (with_reducible first | refine Df ?_ | refine zY ?_ | refine Ep ?_ | refine Dz ?_ | refine Eg ?_ | refine Gv ?_ | refine D5 ?_ | refine F5 ?_ | refine Jm ?_ | refine HE ?_ | refine Fv ?_ | refine HS ?_ | refine Hb ?_ | refine uv ?_ | refine wL ?_ | refine yF ?_)
 | ((with_reducible refine w_var (d:=?d9) ?e9 ?_);walk_at "e") | ((with_reducible refine CZ (d:=?d9) ?e9 ?_);walk_at "e") | ((with_reducible refine CJ (d:=?d9) ?e9 ?_);walk_at "e") | ((with_reducible refine C2 (d:=?d9) ?e9 ?_);walk_at "e")
 | ((with_reducible refine GJ (d:=?d9) ?e9 ?_);walk_at "e") | ((with_reducible refine FN (d:=?d9) ?e9 ?_);walk_at "e") | ((with_reducible refine FZ (d:=?d9) ?e9 ?_);walk_at "e")
 | (with_reducible first | refine Au ?_ | refine Eu ?_ | refine Hs ?_) | ((with_reducible refine Ga (d:=?d9) ?e9 ?f9 ?_);walk_at "e"; (case f9=>exact rfl))
 | (with_reducible first | refine B9 ?_ | refine DV ?_ | refine Hd ?_ | refine DU ?_ | refine Fx ?_ | refine D1 ?_ | refine Cp ?_ | refine GZ ?_ | refine Hr rfl ?_ | refine DM rfl ?_ | refine HX ?_ | refine Gb ?_ | refine w_and ?_ | refine w_or ?_ | refine w_not ?_ | refine HC ?_ | refine Ij ?_ | refine w_iD ?_ | refine Jl ?_ | refine JM ?_ | refine Jc ?_ | refine Jy ?_ | refine Jz ?_)
 | walk_at "q")
local macro_rules | `(tactic| walk_at "q0")=>`(tactic| first
 | ((with_reducible refine wQ ?e9 ?_);walk_at "e") | ((with_reducible refine lH ?e9 ?_);walk_at "e")
 | ((show WPr _ _ _ _);refine ⟨_,_,rfl,rfl,?_⟩) | ((show WPr _ _ _ _);(refine ⟨_,_,rfl,Km ?c9,?_⟩);(case c9=>walk_at "c")) | ((show ES _ _ _ _);refine ⟨_,_,rfl,rfl,?_⟩) | ((show yg _ _ _);refine ⟨_,rfl,?_⟩) | ((show EO _ _ _ _ _ _ _);refine ⟨_,rfl,rfl,?_⟩) | ((show Ea _ _ _ _ _ _);refine ⟨_,_,_,rfl,rfl,rfl,?_⟩) | ((show EU _ _ _ _ _ _);refine ⟨_,rfl,rfl,?_⟩) | ((show Aa _ _ _ _ _);refine ⟨_,_,_,rfl,rfl,rfl,?_⟩) | ((show WMr _ _ _ _ _);refine ⟨_,_,_,_,rfl,rfl,rfl,?_⟩) | ((show WTp _ _ _ _);refine ⟨_,rfl,K7 rfl,?_⟩) | ((show E4 _ _ _ _);refine ⟨_,_,rfl,rfl,?_⟩) | ((show jE _ _ _ _);refine ⟨_,rfl,rfl,?_⟩) | ((show xf _ _ _ _);refine ⟨_,rfl,rfl,?_⟩)
 | ((with_reducible refine ⟨_,rfl,?_⟩)))
local macro_rules | `(tactic| walk_at "pp")=>`(tactic| repeat walk_at "p")
local macro_rules | `(tactic| walk_at "c")=>`(tactic| first | exact rfl | assumption | (simp only [mulC,LB,KC,KH] <;> omega))
local macro_rules | `(tactic| walk_at "pz")=>`(tactic| repeat walk_at "p0")
local macro_rules | `(tactic| walk_at "n=")=>`(tactic| ((try dsimp only [Cst.i,Cst.s,Cst.b,Cst.n,RV.av,aw,List.replicate_succ,List.replicate_zero,dG,gT,aE,cf,aW,fT,qI,List.set_cons_zero,List.set_cons_succ,List.getElem?_cons_zero,List.getElem?_cons_succ,List.map_cons,List.map_nil,List.tail_cons,Option.getD_some,decide_true,decide_false,List.drop_succ_cons,List.drop_zero]);exact rfl))
local macro_rules | `(tactic| walk_at "n")=>`(tactic| ((with_reducible first | refine DJ (e':=?e9) ?h9 ?_ | refine Ai (e':=?e9) ?h9 ?_ | refine C7 (e':=?e9) ?h9 ?_ | refine J2 (e':=?e9) ?h9 ?_ | refine Jf (e':=?e9) ?h9 ?_ | refine J1 (e':=?e9) ?h9 ?_ | refine JH (e':=?e9) ?h9 ?_ | refine Jg (e':=?e9) ?h9 ?_ | refine GD (e':=?e9) ?h9 ?_ | refine Bq (e':=?e9) ?h9 ?_ | refine Gz (e':=?e9) ?h9 ?_ | refine FD (e':=?e9) ?h9 ?_ | refine HL (e':=?e9) ?h9 ?_ | refine D3 (e':=?e9) ?h9 ?_ | refine Cd (e':=?e9) ?h9 ?_ | refine Bi (e':=?e9) ?h9 ?_ | refine D6 (e':=?e9) ?h9 ?_ | refine Dv (e':=?e9) ?h9 ?_ | refine CH (e':=?e9) ?h9 ?_);(case h9=>walk_at "n=")))
local macro_rules | `(tactic| walk_at "soft")=>`(tactic| first | exact qe | exact jH | exact CI | assumption)
local macro_rules | `(tactic| walk_at "l")=>`(tactic| (rename_i h9;apply yO.out h9;clear h9;dsimp only [xR];intros))
local macro_rules | `(tactic| walk_at "L1")=>`(tactic| first | exact (rfl:yO [] []) | refine ⟨_,?_,rfl⟩ | ((refine ⟨_,_,?s9,?_,rfl⟩);(case s9=>walk_at "soft")))
local macro_rules | `(tactic| walk_at "L")=>`(tactic| repeat walk_at "L1")
local macro_rules | `(tactic| walk_at "q")=>`(tactic| first | walk_at "q0" | ((show Ie _ _ _ _);refine ⟨_,_,_,rfl,rfl,rfl,?_⟩) | ((show Ia _ _ _ _ _);refine ⟨_,_,rfl,rfl,?_⟩) | ((show jE _ _ _ _);(refine ⟨_,rfl,ur rfl ?s9,?_⟩);(case s9=>walk_at "soft")) | ((show xf _ _ _ _);(refine ⟨_,rfl,ur rfl ?s9,?_⟩);(case s9=>walk_at "soft")))
local macro_rules | `(tactic| walk_at "fT1")=>`(tactic| ((refine tN ?f9 ?_);(case f9=>((refine ur rfl ?s9);(case s9=>walk_at "soft")))))
local macro_rules | `(tactic| walk_at "fT")=>`(tactic| ((refine zQ (e2:=?e9) ?h9 ?_);(case h9=>((repeat walk_at "fT1");exact rfl))))
local macro_rules | `(tactic| walk_at "f")=>`(tactic| ((refine Bp ?h9 ?_);(case h9=>((refine ur rfl ?s9);(case s9=>walk_at "soft")));walk_at "n"))
local macro_rules | `(tactic| walk_at "ps1")=>`(tactic| ((fail_if_success (with_reducible refine isEq ?_));walk_at "p"))
local macro_rules | `(tactic| walk_at "ps")=>`(tactic| repeat walk_at "ps1")
noncomputable def chB (c:Nat):Bool:=decide (97<=c)&&decide (c<=122)
noncomputable def xF (d:PyData) (k:Int):Bool:=match d with
 | .str x=>decide (k<=(x.length:Int))&&(decide ((x.length:Int)<=8)&&x.cps.toList.all chB)
 | _=>false
theorem Jo (c:Nat):leS (Str.ofString "a") ⟨#[c]⟩=decide (97<=c):=by
 have e:(Str.ofString "a").cps.toList=[97]:=by decide +kernel
 unfold leS;rw [e];by_cases h:97<=c
 ·rw [Kj h,Kl]
  ·rfl
  ·intro z;have:c < 97:=by simpa [Ld] using z
   omega
 ·rw [Kl h,Kj]
  ·rfl
  ·simp [Ld];omega
theorem Jh (c:Nat):leS ⟨#[c]⟩ (Str.ofString "z")=decide (c<=122):=by
 have e:(Str.ofString "z").cps.toList=[122]:=by decide +kernel
 unfold leS;rw [e];by_cases h:c<=122
 ·rw [Kj h,Kl]
  ·rfl
  ·intro z;have:122 < c:=by simpa [Ld] using z
   omega
 ·rw [Kl h,Kj]
  ·rfl
  ·simp [Ld];omega
theorem f6 {x:Str} {k:Int} {Q:PR->List PyData->Prop} (q:Q (.dat (.bool (xF (.str x) k))) []):WF b7 [.str x,.int k] Q:=by
 refine cG rfl ?_;unfold gs;replace q:Q (.dat (.bool (decide (k<=(x.length:Int))&&(decide ((x.length:Int)<=8)&&x.cps.toList.all chB)))) []:=q;walk_at "pp";refine gS (fun c1=>?_) (fun c1=>?_)
 ·have c1:decide (k<=(x.length:Int))=true:=c1;walk_at "pp";rw [c1,Lh] at q;refine gS (fun c2=>?_) (fun c2=>?_)
  ·have c2:(!decide ((x.length:Int)<=8))=true:=c2;have c2:decide ((x.length:Int)<=8)=false:=by simpa using c2
   walk_at "pp";rw [c2] at q;exact q
  ·have c2:(!decide ((x.length:Int)<=8))=false:=c2;have c2:decide ((x.length:Int)<=8)=true:=by simpa using c2
   rw [c2,Lh] at q;walk_at "pp";refine bT (fun i ys ec=>ys=((x.cps.toList.take i).map chB).map .bool/\ec=[]) ⟨rfl,rfl⟩ ?_ ?_
   ·rintro i d ys ec hd ⟨rfl,rfl⟩;rw [Kt] at hd;obtain ⟨c,hc,rfl⟩:=Kz.mp hd;have e0:((x.cps.toList.take (i+1)).map chB).map PyData.bool=((x.cps.toList.take i).map chB).map PyData.bool++[.bool (chB c)]:=by rw [<- LC hc,K0,K0];rfl
    refine aF ?_;walk_at "pp";have e1:=Jo c;have e2:=Jh c;refine gS (fun d1=>?_) (fun d1=>?_)
    ·have d1:leS (Str.ofString "a") ⟨#[c]⟩=true:=d1;walk_at "pp";refine ⟨?_,rfl⟩;rw [e0];unfold chB;rw [<- e1,d1,<-e2];rfl
    ·have d1:leS (Str.ofString "a") ⟨#[c]⟩=false:=d1;walk_at "pp";refine ⟨?_,rfl⟩;rw [e0];unfold chB;rw [<- e1,d1];rfl
   ·rintro ys ec ⟨rfl,rfl⟩;rw [J5,K8];walk_at "n";walk_at "pp";refine w_all (bs:=x.cps.toList.map chB) rfl ?_;have e3:(x.cps.toList.map chB).all id=x.cps.toList.all chB:=by rw [List.all_map];rfl
    rw [e3];walk_at "pp";exact q
 ·have c1:decide (k<=(x.length:Int))=false:=c1;walk_at "pp";rw [c1] at q;exact q
theorem mB {x:Str} {Q:PR->List PyData->Prop} (q:Q (.dat (.bool (xF (.str x) 1))) []):WF fR [.str x] Q:=by
 refine cG rfl ?_;unfold l0;walk_at "pp";refine ab (is:=[]) rfl rfl (f6 ⟨rfl,?_⟩);walk_at "pp";exact q
noncomputable def whB:PyData->Bool
 | .int _=>true
 | _=>false
theorem rB {d:PyData} {Q:PR->List PyData->Prop} (hd:Fq d=false) (q:Q (.dat (.bool (whB d))) []):WF gE [d] Q:=by
 refine cG rfl ?_;unfold kq;cases d <;> first | (cases hd;done) | (walk_at "pp"; exact q)
noncomputable def ID:PyData->Bool
 | .int i=>decide ((if i < 0 then -i else i)<=999999999999999999999999999999)
 | _=>false
noncomputable def uy:PyData->Bool
 | .tuple [x]=>xF x 0
 | _=>false
theorem uA {x:Str} {Q:PR->List PyData->Prop} (q:Q (.dat (.bool (uy (.tuple [.str x])))) []):WF iJ [.tuple [.str x]] Q:=by
 refine cG rfl ?_;unfold mO;walk_at "pp";refine ab (is:=[]) rfl rfl (f6 ⟨rfl,?_⟩);walk_at "pp";exact q
noncomputable def tE (d:PyData):Bool:=xF d 1||(ID d||uy d)
open PySem.NumText in
theorem IF:∀ {l:List Nat},AllDigits l->(l.map Char.ofNat).map Char.toNat=l
 | [],_=>rfl
 | c :: l,h=>by
  have hc:=h.head;have e:(Char.ofNat c).toNat=c:=by
   have:∀ c,c < 58->(Char.ofNat c).toNat=c:=by decide
   exact this c (by omega)
  rw [List.map_cons,List.map_cons,e,IF h.tail]
noncomputable def codes (m:Nat):List Nat:=(Nat.toDigits 10 m).map Char.toNat
theorem dch:∀ d,d < 10->(Nat.digitChar d).toNat=48+d:=by decide
theorem cH (q:Nat):codes q=(if 9 < q then codes (q / 10) else [])++[48+q % 10]:=by
 by_cases h:9 < q
 ·rw [Km h];have hm:q % 10 < 10:=Nat.mod_lt q (by decide);have t:Nat.toDigits 10 (q / 10)++Nat.toDigits 10 (q % 10)=Nat.toDigits 10 (10*(q / 10)+q % 10):=Nat.toDigits_append_toDigits (by decide) (by omega) hm;rw [Nat.div_add_mod] at t;unfold codes;rw [<- t,K0,Nat.toDigits_of_lt_base hm];show _++[(Nat.digitChar (q % 10)).toNat]=_;rw [dch _ hm]
 ·rw [Kr h];have hq:q < 10:=by omega
  unfold codes;rw [Nat.toDigits_of_lt_base hq];show [(Nat.digitChar q).toNat]=[48+q % 10];rw [dch _ hq,Nat.mod_eq_of_lt hq]
theorem oW:∀ (k m:Nat),m < 10 ^ (k+1)->(codes m).length<=k+1
 | 0,m,h=>by
  have h:m < 10:=h;rw [cH,Kr (by omega)];exact Ke 1
 | k+1,m,h=>by
  rw [cH];by_cases h9:9 < m
  ·rw [Km h9,J6];have hp:10 ^ (k+1+1)=10*10 ^ (k+1):=by rw [Nat.pow_succ,Nat.mul_comm]
   have:=oW k (m / 10) (by rw [hp] at h;omega);have:[48+m % 10].length=1:=rfl;omega
  ·rw [Kr h9];show 1<=_;omega
theorem yR (m:Nat):codes m≠[]:=by rw [cH];simp
open PySem.NumText in
theorem kR (m:Nat):AllDigits (codes m):=by
 induction m using Nat.strongRecOn with
 | _ m ih =>
  intro c hc;rw [cH] at hc;rcases Ls.mp hc with h | h
  ·split at h
   ·exact ih (m / 10) (by omega) c h
   ·simp at h
  ·have:c=48+m % 10:=by simpa using h
   omega
open PySem.NumText in
theorem uS (m:Nat):digitsVal (codes m)=m:=PySem.W.KIN.val_back m
open PySem.NumText in
theorem vJ {f:List Nat} (h:AllDigits f):codes (digitsVal f)=(match f.dropWhile (·==48) with | []=>[48] | c :: r=>c :: r):=by
 unfold codes;rw [toDigits_all f h];have hs:AllDigits (f.dropWhile (·==48)):=fun c hc=>h c ((List.dropWhile_sublist _).mem hc);cases e:f.dropWhile (·==48) with
 | nil=>rfl
 | cons c r =>
  rw [e] at hs;exact IF hs
open PySem.NumText in
theorem ui {f:List Nat} (h:AllDigits f) (hne:f≠[]):codes (digitsVal f)=f↔(f.head?=some 48->f=[48]):=by
 rw [vJ h];cases f with
 | nil=>exact absurd rfl hne
 | cons c r =>
  by_cases hc:c=48
  ·subst hc;rw [List.dropWhile_cons,Km (show ((48:Nat)==48)=true from rfl)];constructor
   ·intro z _;have hl:=congrArg List.length z;have:=(List.dropWhile_sublist (l:=r) (·==48)).length_le;cases e:r.dropWhile (·==48) with
    | nil =>
     rw [e] at z;exact z.symm
    | cons c2 r2 =>
     rw [e] at hl this;have hl:(c2 :: r2).length=(48 :: r).length:=hl;rw [J8 (a:=48)] at hl;omega
   ·intro z;have z:=z rfl;injection z with _ z;rw [z];rfl
  ·rw [List.dropWhile_cons,Kr (by simpa using hc)];exact ⟨fun _ z=>absurd (by simpa using z) hc,fun _=>rfl⟩
theorem fQ (m:Nat):(ag (m:Int)).cps.toList=codes m:=PySem.W.KIN.signs_num m
theorem iX {m:Nat} (h:0 < m):(ag (-(m:Int))).cps.toList=45 :: codes m:=by
 obtain ⟨k,rfl⟩:∃ k,m=k+1:=⟨m - 1,by omega⟩;unfold ag;rw [PyProof.Rows.signs_ofString];show ("-" ++ Nat.repr (k+1)).toList.map Char.toNat=_;rw [String.toList_append,K0,Nat.toList_repr];rfl
theorem fj {x y:Str} (h:x.cps.toList=y.cps.toList):x=y:=by
 obtain ⟨⟨a⟩⟩:=x;obtain ⟨⟨b⟩⟩:=y;have h:a=b:=h;rw [h]
noncomputable def iD (x:Str):List Nat:=match x.cps.toList with | 45 :: r=>r | l=>l
noncomputable def isNeg (x:Str):Bool:=decide (x.cps.toList.head?=some 45)
noncomputable def qc (c:Nat):Bool:=decide (48<=c)&&decide (c<=57)
open PySem.NumText in
noncomputable def vg (x:Str):Int:=if isNeg x=true then -(digitsVal (iD x):Int) else (digitsVal (iD x):Int)
noncomputable def e8 (x:Str):Bool:=decide (1<=(iD x).length)&&(decide ((iD x).length<=30)&&(iD x).all qc)
noncomputable def tL (x:Str):PyData:=if e8 x=true/\((iD x).head?=some 48->x.cps.toList=[48]) then .int (vg x) else .none
theorem m5 {x:Str} {r:List Nat} (h:x.cps.toList=45 :: r):iD x=r:=by unfold iD;rw [h];rfl
theorem pL {x:Str} {r:List Nat} (h:x.cps.toList=45 :: r):isNeg x=true:=by unfold isNeg;rw [h];rfl
theorem dH (x:Str):(∃ r,x.cps.toList=45 :: r/\iD x=r/\isNeg x=true)\/(iD x=x.cps.toList/\isNeg x=false):=by
 cases e:x.cps.toList with
 | nil=>exact .inr ⟨by unfold iD;rw [e],by unfold isNeg;rw [e];rfl⟩
 | cons c r =>
  by_cases hc:c=45
  ·subst hc;exact .inl ⟨r,rfl,m5 e,pL e⟩
  ·refine .inr ⟨?_,?_⟩
   ·unfold iD;rw [e];split
    ·rename_i r2 z;injection z with z _;exact absurd z hc
    ·rfl
   ·unfold isNeg;rw [e];exact Kl (by simpa using hc)
open PySem.NumText in
theorem ig {x:Str} (h:e8 x=true):AllDigits (iD x)/\iD x≠[]/\(iD x).length<=30:=by
 unfold e8 at h;simp only [KC,KH,Lg] at h;refine ⟨fun c hc=>?_,fun z=>by rw [z] at h;simp at h,h.2.1⟩;have:=h.2.2 c hc;unfold qc at this;simpa using this
theorem Dl {x:Str} (h:(iD x).length<=30):x.length<=31:=by
 rw [<- ah];rcases dH x with ⟨r,e,f,_⟩ | ⟨f,_⟩
 ·rw [e,J8,<-f];omega
 ·rw [<- f];omega
open PySem.NumText in
theorem wK {x:Str} (h:e8 x=true):PySem.intText? x=some (vg x):=by
 obtain ⟨h1,h2,h3⟩:=ig h;have hl:=Dl h3;unfold vg;rcases dH x with ⟨r,e,f,g⟩ | ⟨f,g⟩
 ·rw [g,Km rfl,f];rw [f] at h1 h2;exact intText_neg e h1 h2 (by omega)
 ·rw [g,Kr (by decide),f];rw [f] at h1 h2;exact intText_digits h1 h2 (by omega)
open PySem.NumText in
theorem zG:∀ (n:Nat) (f:List Nat),f.length=n->AllDigits f->digitsVal f < 10 ^ n
 | 0,[],_,_=>by decide
 | n+1,f,hl,h=>by
  have hne:f≠[]:=by intro e;rw [e] at hl;simp at hl
  have e:=List.dropLast_concat_getLast hne;generalize f.dropLast=l at e;generalize f.getLast hne=c at e;subst e;have h1:AllDigits l:=fun d hd=>h d (Lv _ hd);have hc:48<=c/\c<=57:=h c (Kp _ (Kc.mpr rfl));have:=zG n l (by rw [J6,L8] at hl;omega) h1;rw [digitsVal_snoc,Nat.pow_succ];omega
theorem By {x:Str} (h:e8 x=true):(vg x).natAbs < 10 ^ 30:=by
 obtain ⟨h1,h2,h3⟩:=ig h;have h4:=Kh (zG _ _ rfl h1) (LQ (by decide) h3);unfold vg;split <;> omega
open PySem.NumText in
theorem n5 {x:Str} (h:e8 x=true):ag (vg x)=x↔((iD x).head?=some 48->x.cps.toList=[48]):=by
 obtain ⟨h1,h2,h3⟩:=ig h;have cb:=ui h1 h2;unfold vg;rcases dH x with ⟨r,e,f,g⟩ | ⟨f,g⟩
 ·rw [g,Km rfl];rw [f] at cb ⊢;by_cases h0:digitsVal r=0
  ·rw [h0];constructor
   ·intro z;have z:=congrArg (fun z:Str=>z.cps.toList) z;have z:(ag ((0:Nat):Int)).cps.toList=x.cps.toList:=z;rw [fQ,e,cH] at z;injection z with z _;exact absurd z (by decide)
   ·intro z;have hh:r.head?=some 48:=by
     rw [f] at h2 h1;cases r with
     | nil=>exact absurd rfl h2
     | cons c r =>
      have hc:=h1.head;by_cases h49:49<=c
      ·have:=digitsVal_pos (cs:=r) h49;omega
      ·rw [List.head?_cons,show c=48 by omega]
    rw [e] at z;exact absurd (z hh) (by simp)
  ·constructor
   ·intro z;have z:=congrArg (fun z:Str=>z.cps.toList) z;have z:(ag (-(digitsVal r:Int))).cps.toList=x.cps.toList:=z;rw [iX (by omega),e] at z;injection z with _ z;intro hh;have z2:=cb.mp z hh;rw [z2] at h0;exact absurd rfl h0
   ·intro z;refine fj ?_;rw [iX (by omega),e];congr 1;refine cb.mpr fun hh=>?_;rw [e] at z;exact absurd (z hh) (by simp)
 ·rw [g,Kr (by decide)];rw [f] at cb ⊢;constructor
  ·intro z;have z:=congrArg (fun z:Str=>z.cps.toList) z;have z:(ag (digitsVal x.cps.toList:Int)).cps.toList=x.cps.toList:=z;rw [fQ] at z;exact cb.mp z
  ·intro z;refine fj ?_;rw [fQ];exact cb.mpr z
noncomputable def lp (x:Str):PyData:=match x.cps.toList with
 | []=>.none
 | c :: r=>if c=39 then (if r.length<=8/\r.all chB=true then .tuple [.str ⟨r.toArray⟩] else .none)
  else if chB c=true then (if r.length<=7/\r.all chB=true then .str x else .none) else tL x
theorem mU (x y:Str) (c:Nat) (hy:y.cps=#[c]):(decide (y.length<=x.length)&&Builtin.Str.subAt x y 0)=decide (x.cps.toList.head?=some c):=by
 obtain ⟨⟨l⟩⟩:=x;obtain ⟨yc⟩:=y;have hy:yc=#[c]:=hy;subst hy;cases l with
 | nil=>rfl
 | cons a l =>
  unfold Builtin.Str.subAt;have e1:decide ((⟨#[c]⟩:Str).length<=(⟨⟨a :: l⟩⟩:Str).length)=true:=Kj (by show 1<=(a :: l).length;simp);rw [e1,Lh];have e2:((⟨⟨a :: l⟩⟩:Str).cps.extract 0 (0+(⟨#[c]⟩:Str).length))=#[a]:=by
   show (⟨a :: l⟩:Array Nat).extract 0 1=#[a];simp
  rw [e2];show ((#[a]:Array Nat)==#[c])=decide (some a=some c);by_cases h:a=c
  ·subst h;simp
  ·rw [Kl (by simpa using h)];simp [h]
theorem B1 {x:Str} {k:Int} (h:0<=k):(jU x (some k) none).cps.toList=x.cps.toList.drop k.toNat:=by
 unfold jU;show List.take (x.length - HT.sIx x.length 0 (some k)) (List.drop (HT.sIx x.length 0 (some k)) x.cps.toList)=_;have e:HT.sIx x.length 0 (some k)=min k.toNat x.length:=by
  show (if k < 0 then (k+(x.length:Int)).toNat else min k.toNat x.length)=_;rw [Kr (by omega)]
 rw [e,L4 (by rw [Lp,ah];exact Ke _)];by_cases hk:k.toNat<=x.length
 ·rw [Nat.min_eq_left hk]
 ·rw [Nat.min_eq_right (by omega),L5 (by rw [ah];exact Ke _),L5 (by rw [ah];omega)]
theorem le_0 (c:Nat):leS (Str.ofString "0") ⟨#[c]⟩=decide (48<=c):=by
 have e:(Str.ofString "0").cps.toList=[48]:=by decide +kernel
 unfold leS;rw [e];by_cases h:48<=c
 ·rw [Kj h,Kl]
  ·rfl
  ·intro z;have:c < 48:=by simpa [Ld] using z
   omega
 ·rw [Kl h,Kj]
  ·rfl
  ·simp [Ld];omega
theorem Js (c:Nat):leS ⟨#[c]⟩ (Str.ofString "9")=decide (c<=57):=by
 have e:(Str.ofString "9").cps.toList=[57]:=by decide +kernel
 unfold leS;rw [e];by_cases h:c<=57
 ·rw [Kj h,Kl]
  ·rfl
  ·intro z;have:57 < c:=by simpa [Ld] using z
   omega
 ·rw [Kl h,Kj]
  ·rfl
  ·simp [Ld];omega
theorem Ec {e:En} {a:AV} {x:Str} {n:Int} {Q:RV->En->Prop} (h1:aU e [a]=some [.str x]) (h2:x.length<=640) (h3:PySem.intText? x=some n) (q:Q (.dat (.int n)) e):WPr yY [a] e Q :=
 ⟨_,.dat (.int n),h1,by show yo (.str x)=_;unfold yo;simp only [h2,LO,h3,L7],q⟩
theorem oQ {x:Str} {Q:PR->List PyData->Prop} (hx:x.length<=100) (q:Q (.dat (tL x)) []):WF fC [.str x] Q:=by
 refine cG rfl ?_;unfold jg;walk_at "pz";with_reducible refine fc fun N eN=>?_
 have rest:∀ f:Str,f.cps.toList=iD x->N ([.dat (.str x),.dat (.str f),.un]:En):=by
  intro f hf;rw [eN];have hfl:(f.length:Int)=((iD x).length:Nat):=by rw [<- hf,ah]
  have no:e8 x=false->Q (.dat .none) []:=fun z=>by
   have:tL x=.none:=by unfold tL;rw [Kr (by rw [z];simp)]
   rw [this] at q;exact q
  walk_at "pp";refine gS (fun c1=>?_) (fun c1=>?_)
  ·have c1:(1:Int)<=(f.length:Int):=K2 c1;walk_at "pp";refine gS (fun c2=>?_) (fun c2=>?_)
   ·have c2:(!decide ((f.length:Int)<=30))=true:=c2;have c2:¬(f.length:Int)<=30:=by simpa using c2
    walk_at "pp";refine no ?_;unfold e8;rw [Kl (p:=(iD x).length<=30) (by omega)];simp
   ·have c2:(!decide ((f.length:Int)<=30))=false:=c2;have c2:(f.length:Int)<=30:=by simpa using c2
    walk_at "pp";refine bT (fun i ys ec=>ys=((f.cps.toList.take i).map qc).map .bool/\ec=[]) ⟨rfl,rfl⟩ ?_ ?_
    ·rintro i d ys ec hd ⟨rfl,rfl⟩;rw [Kt] at hd;obtain ⟨c,hc,rfl⟩:=Kz.mp hd;have e0:((f.cps.toList.take (i+1)).map qc).map PyData.bool=((f.cps.toList.take i).map qc).map PyData.bool++[.bool (qc c)]:=by rw [<- LC hc,K0,K0];rfl
     refine aF ?_;walk_at "pp";have e1:=le_0 c;have e2:=Js c;refine gS (fun d1=>?_) (fun d1=>?_)
     ·have d1:leS (Str.ofString "0") ⟨#[c]⟩=true:=d1;walk_at "pp";refine ⟨?_,rfl⟩;rw [e0];unfold qc;rw [<- e1,d1,<-e2];rfl
     ·have d1:leS (Str.ofString "0") ⟨#[c]⟩=false:=d1;walk_at "pp";refine ⟨?_,rfl⟩;rw [e0];unfold qc;rw [<- e1,d1];rfl
    ·rintro ys ec ⟨rfl,rfl⟩;rw [J5,K8];walk_at "n";walk_at "pp";refine w_all (bs:=f.cps.toList.map qc) rfl ?_;have e3:(f.cps.toList.map qc).all id=(iD x).all qc:=by rw [List.all_map,hf];rfl
     rw [e3];have fk:e8 x=(iD x).all qc:=by
      unfold e8;rw [Kj (p:=1<=(iD x).length) (by omega),Kj (p:=(iD x).length<=30) (by omega),Lh,Lh]
     rw [<- fk];walk_at "pp";refine gS (fun c3=>?_) (fun c3=>?_)
     ·have c3:(!e8 x)=true:=c3;walk_at "pp";exact no (by simpa using c3)
     ·have c3:(!e8 x)=false:=c3;have c3:e8 x=true:=by simpa using c3
      walk_at "pp";refine Ec rfl (by omega) (wK c3) ?_;walk_at "pp";refine cu rfl (Kh (By c3) (LQ (by decide) (by decide))) ?_;walk_at "pp";rw [BM];by_cases hs:ag (vg x)=x
      ·refine wQ (Kj hs) ?_;walk_at "pp";have:tL x=.int (vg x):=by unfold tL;rw [Km ⟨c3,(n5 c3).mp hs⟩]
       rw [this] at q;exact q
      ·refine lH (Kl hs) ?_;walk_at "pp";have:tL x=.none:=by unfold tL;rw [Kr fun z=>hs ((n5 c3).mpr z.2)]
       rw [this] at q;exact q
  ·have c1:¬(1:Int)<=(f.length:Int):=Lf c1;walk_at "pp";refine no ?_;unfold e8;rw [Kl (p:=1<=(iD x).length) (by omega)];rfl
 walk_at "pp";refine gS (fun c1=>?_) (fun c1=>?_)
 ·have c1:=(mU x (Str.ofString "-") 45 rfl).symm.trans c1;have c1:x.cps.toList.head?=some 45:=K2 c1;walk_at "pp";refine rest _ ?_;rw [B1 (by decide)];cases e:x.cps.toList with
  | nil=>rw [e] at c1;cases c1
  | cons a r =>
   rw [e] at c1;cases c1;rw [m5 e];rfl
 ·have c1:=(mU x (Str.ofString "-") 45 rfl).symm.trans c1;have c1:¬x.cps.toList.head?=some 45:=Lf c1;walk_at "pp";refine rest _ ?_;rcases dH x with ⟨r,e,_⟩ | ⟨f,_⟩
  ·rw [e] at c1;exact absurd rfl c1
  ·exact f.symm
theorem lZ {x:Str} {r:List Nat} (h:x.cps.toList=39 :: r):lp x=if r.length<=8/\r.all chB=true then .tuple [.str ⟨r.toArray⟩] else .none:=by
 unfold lp;rw [h];show (if (39:Nat)=39 then _ else _)=_;rw [Km rfl]
theorem BI {x:Str} {c:Nat} {r:List Nat} (h:x.cps.toList=c :: r) (hc:chB c=true):tL x=.none:=by
 have hc:97<=c/\c<=122:=by unfold chB at hc;simpa using hc
 unfold tL;refine Kr fun z=>?_;obtain ⟨h1,_,_⟩:=ig z.1;rcases dH x with ⟨r2,e,_⟩ | ⟨f,_⟩
 ·rw [h] at e;injection e with e _;omega
 ·have:=h1 c (by rw [f,h];exact Ki);omega
theorem pw {x:Str} (h:xF (.str x) 1=true):lp x=.str x:=by
 have h:(decide ((1:Int)<=(x.length:Int))&&(decide ((x.length:Int)<=8)&&x.cps.toList.all chB))=true:=h;simp only [KC,KH] at h;obtain ⟨h1,h2,h3⟩:=h;have hl:=ah x;cases e:x.cps.toList with
 | nil=>rw [e] at hl;simp at hl;omega
 | cons c r =>
  rw [e] at hl h3;rw [List.all_cons,KC] at h3;rw [J8] at hl;have hc:97<=c/\c<=122:=by have:=h3.1;unfold chB at this;simpa using this
  unfold lp;rw [e];show (if c=39 then _ else if chB c=true then _ else _)=_;rw [Kr (by omega),Km h3.1,Km ⟨by omega,h3.2⟩]
theorem pS {x:Str} (h0:x.cps.toList.head?≠some 39) (h:xF (.str x) 1=false):lp x=tL x:=by
 have h:(decide ((1:Int)<=(x.length:Int))&&(decide ((x.length:Int)<=8)&&x.cps.toList.all chB))=false:=h;have hl:=ah x;cases e:x.cps.toList with
 | nil =>
  have f0:iD x=[]:=by unfold iD;rw [e]
  unfold lp tL e8;rw [e,f0];rfl
 | cons c r =>
  rw [e] at hl h h0;rw [J8] at hl;have hne:c≠39:=fun z=>h0 (by rw [z];rfl);by_cases hc:chB c=true
  ·rw [BI e hc];unfold lp;rw [e];show (if c=39 then _ else if chB c=true then _ else _)=_;rw [Kr hne,Km hc];refine Kr fun z=>?_;rw [List.all_cons,hc,z.2,Kj (by omega),Kj (by omega)] at h;exact absurd h (by decide)
  ·unfold lp;rw [e];show (if c=39 then _ else if chB c=true then _ else _)=_;rw [Kr hne,Kr hc]
theorem iY {x:Str} {Q:PR->List PyData->Prop} (hx:x.length<=100) (q:Q (.dat (lp x)) []):WF du [.str x] Q:=by
 refine cG rfl ?_;unfold lY;walk_at "pp";refine gS (fun c1=>?_) (fun c1=>?_)
 ·have c1:=(mU x (Str.ofString "'") 39 rfl).symm.trans c1;have c1:x.cps.toList.head?=some 39:=K2 c1;obtain ⟨r,e⟩:∃ r,x.cps.toList=39 :: r:=by
   cases e:x.cps.toList with
   | nil=>rw [e] at c1;cases c1
   | cons a r=>rw [e] at c1;cases c1;exact ⟨r,rfl⟩
  have ec:(jU x (some 1) none).cps.toList=r:=by
   rw [B1 (by decide),e];rfl
  have ec2:jU x (some 1) none=⟨r.toArray⟩:=fj ec;rw [lZ e] at q;walk_at "pp";rw [ec2];refine ab (ds:=[.tuple [.str ⟨r.toArray⟩]]) (is:=[]) rfl rfl (uA ⟨rfl,?_⟩);have eb:uy (.tuple [.str ⟨r.toArray⟩])=decide (r.length<=8/\r.all chB=true):=by
   have e0:uy (.tuple [.str ⟨r.toArray⟩])=(decide ((0:Int)<=((⟨r.toArray⟩:Str).length:Int))&&(decide (((⟨r.toArray⟩:Str).length:Int)<=8)&&(⟨r.toArray⟩:Str).cps.toList.all chB)):=rfl;have l1:(⟨r.toArray⟩:Str).length=r.length:=by rw [<- ah]
   rw [e0,l1,Kj (p:=(0:Int)<=(r.length:Int)) (by omega),Lh];show (decide ((r.length:Int)<=8)&&r.all chB)=_;by_cases h8:r.length<=8
   ·rw [Kj (by omega),Lh];cases h9:r.all chB <;> simp [h8]
   ·rw [Kl (by omega),Kl (fun z=>h8 z.1)];rfl
  rw [eb];walk_at "pp";refine gS (fun c2=>?_) (fun c2=>?_)
  ·walk_at "pp";rw [Km (K2 c2)] at q;exact q
  ·walk_at "pp";rw [Kr (Lf c2)] at q;exact q
 ·have c1:=(mU x (Str.ofString "'") 39 rfl).symm.trans c1;have c1:¬x.cps.toList.head?=some 39:=Lf c1;walk_at "pp";refine ab (ds:=[.str x]) (is:=[]) rfl rfl (mB ⟨rfl,?_⟩);walk_at "pp";refine gS (fun c2=>?_) (fun c2=>?_)
  ·walk_at "pp";rw [pw c2] at q;exact q
  ·walk_at "pp";rw [pS c1 c2] at q;refine ab (ds:=[.str x]) (is:=[]) rfl rfl (oQ hx ⟨rfl,?_⟩);walk_at "pp";exact q
theorem qU {a b:Int} (h:PyData.eqv (.int a) (.int b)=true):a=b:=by simpa [PyData.eqv] using h
noncomputable def bN (cs:List Int) (p l:Int):PyData:=.list [.list (cs.map .int),.int p,.int l]
theorem Jn {cs:List Int} {p:Int} (h:0 < cs.length):∃ c,atI (cs.map PyData.int) (p % (((cs.map PyData.int).length:Nat):Int))=some (.int c):=by
 have hn:(((cs.map PyData.int).length:Nat):Int)=cs.length:=by rw [J5]
 rw [hn];have hj0:=Int.emod_nonneg p (by omega:(cs.length:Int)≠0);have hj1:=Int.emod_lt_of_pos p (by omega:(0:Int) < cs.length);obtain ⟨v,hv,ev⟩:=atV (xs:=cs.map PyData.int) hj0 (by rw [J5];exact hj1);obtain ⟨c,_,rfl⟩:=Ll.mp hv;exact ⟨c,ev⟩
theorem DQ {ns:List Int} {Q:PR->List PyData->Prop} (q:Q (.frs (bN ns 0 0)) []):WF vY [.list (ns.map .int)] Q:=⟨_,_,rfl,q⟩
theorem xk {cs:List Int} {p l m:Int} {Q:PR->List PyData->Prop} (hp:0<=p) (hb:p < 2 ^ 60) (hl:0<=l) (h0:0 < m) (hm:m < 2 ^ 200) (q:∀ v p' l',0<=v->v < m->0<=p'->p'<=p+1->0<=l'->Q (.dat (.int v)) [bN cs p' l']):WF aq [bN cs p l,.int m] Q:=by
 refine cG rfl ?_;have m0:∀ x:Int,0<=x % m/\x % m < m:=fun x=>⟨Int.emod_nonneg _ (by omega),Int.emod_lt_of_pos _ h0⟩;have d0:∀ x:Int,0<=x->0<=x / m:=fun x h=>Int.ediv_nonneg h (Int.le_of_lt h0);have fin:∀ c:Int,0<=(if c < 0 then -c else c):=fun c=>by split <;> omega
 unfold vP;walk_at "pp";refine gS (fun e0=>?_) (fun e0=>?_)
 ·walk_at "pp";exact q _ _ _ (m0 l).1 (m0 l).2 hp (by omega) (d0 l hl)
 ·walk_at "pp";refine gS (fun e1=>?_) (fun e1=>?_)
  ·have h1:(0:Int) < (((cs.map PyData.int).length:Nat):Int):=K2 e1;obtain ⟨c,hc⟩:=Jn (cs:=cs) (p:=p) (by rw [J5] at h1;omega);walk_at "pp";refine tI rfl hc ?_;clear hc;walk_at "pp";refine gS (fun e2=>?_) (fun e2=>?_)
   ·walk_at "pp";refine gS (fun e3=>?_) (fun e3=>?_)
    ·walk_at "pp";exact q _ _ _ (m0 _).1 (m0 _).2 (by omega) (by omega) (d0 _ (fin c))
    ·walk_at "pp";exact q _ _ _ (m0 _).1 (m0 _).2 (by omega) (by omega) hl
   ·walk_at "pp";exact q _ _ _ (m0 _).1 (m0 _).2 (by omega) (by omega) hl
  ·walk_at "pp";refine gS (fun e2=>?_) (fun e2=>?_)
   ·walk_at "pp";exact q _ _ _ (m0 _).1 (m0 _).2 (by omega) (by omega) hl
   ·walk_at "pp";exact q _ _ _ (m0 _).1 (m0 _).2 (by omega) (by omega) hl
def fv (cs:List Int) (B:Nat) (d:PyData):Prop:=∃ p l:Int,d=bN cs p l/\0<=p/\p<=B/\0<=l
theorem fv.mono {cs:List Int} {B C:Nat} {d:PyData} (h:fv cs B d) (hb:B<=C):fv cs C d:=by
 obtain ⟨p,l,e,a,b,c⟩:=h;exact ⟨p,l,e,a,by omega,c⟩
theorem ua {cs:List Int} {B:Nat} {pn:PyData} {m:Int} {e1:En} {Q:RV->En->Prop} {i:Nat} (hi:aT e1 i=some pn) (hP:fv cs B pn) (hb:B < 2 ^ 60) (h0:0 < m) (hm:m < 2 ^ 200) (q:∀ v pn',fv cs (B+1) pn'->0<=v->v < m->Q (.dat (.int v)) (gT e1 i pn')):oa aq [.bor i,.dat (.int m)] e1 Q:=by
 obtain ⟨p,l,rfl,hp,hb',hl⟩:=hP;refine ab (ds:=[bN cs p l,.int m]) (is:=[i]) ?_ rfl (xk hp (by omega) hl h0 hm fun v p' l' a b c d e=>⟨?_,q v _ ⟨p',l',rfl,c,by omega,e⟩ a b⟩)
 ·show jJ e1 [.ino,.dat] _=_;simp only [jJ,HF,hi]
 ·rfl
local macro_rules | `(tactic| walk_at "d")=>`(tactic| ((repeat walk_at "p");(refine ua (cs:=?c9) (B:=?b9) (pn:=?n9) (m:=?m9) (hi:=?hi9) (hP:=?hP9) ?hb9 ?h09 ?hm9 ?_);(case hi9=>exact rfl);(case hP9=>assumption);(case hb9=>omega);(case h09=>first | decide | omega);(case hm9=>first | decide | omega)))
abbrev abc:Str := "abcdefghijklmnopqrstuvwxyz"
abbrev wds:List PyData:=[.str "any", .str "all", .str "keeps", .str "is", .str "many", .str "each", .str "not", .str "closed"]
abbrev wdS:List Str:=["any", "all", "keeps", "is", "many", "each", "not", "closed"]
def Ltr (x:Str):Prop:=∀ c∈x.cps.toList,97<=c/\c<=122
theorem ae (x y:Str):(x++y).length=x.length+y.length:=b3 x y
theorem aI (x y:Str):(x++y).cps.toList=x.cps.toList++y.cps.toList:=by
 show (x.cps++y.cps).toList=_;simp
theorem bZ (c:Nat):(⟨#[c]⟩:Str).length=1:=rfl
theorem nN {x y:Str} (hx:Ltr x) (hy:Ltr y):Ltr (x++y):=fun c hc=>by
 rw [aI] at hc;rcases Ls.mp hc with h | h
 ·exact hx c h
 ·exact hy c h
theorem Dg:∀ n < 26,abc.cps.toList[n]?=some (97+n):=by decide +kernel
theorem vO {r:Int} (h0:0<=r) (h1:r < 26):atI abc.cps.toList r=some (97+r.toNat):=by
 have:=nU (xs:=abc.cps.toList) (j:=r.toNat) (Dg r.toNat (by omega))
 rwa [Int.toNat_of_nonneg h0] at this
theorem EV {r:Int} (h0:0<=r) (h1:r < 26):Ltr ⟨#[97+r.toNat]⟩:=fun c hc=>by
 have:c=97+r.toNat:=by simpa using hc
 omega
theorem vv {x:Str} {k:Int} (h:Ltr x) (h1:k<=x.length) (h2:x.length<=8):xF (.str x) k=true:=by
 show (decide (k<=(x.length:Int))&&(decide ((x.length:Int)<=8)&&x.cps.toList.all chB))=true;rw [Kj h1,Kj (by omega),Lh,Lh,Lg];intro c hc;have:=h c hc;unfold chB;rw [Kj this.1,Kj this.2];rfl
theorem y8 {x:Str} {k:Int} (h:0<=k):(jU x none (some k)).cps.toList=x.cps.toList.take k.toNat:=by
 have:=zr (xs:=x.cps.toList) h;unfold L2.cutD at this;rw [ah] at this;unfold jU;simpa using this
theorem Cw {x:Str} {j k:Int} (hj:0<=j) (hk:0<=k):(jU x (some j) (some k)).cps.toList=(x.cps.toList.take k.toNat).drop j.toNat:=by
 unfold jU;have e1:HT.sIx x.length 0 (some j)=min j.toNat x.length:=by
  simp only [HT.sIx];rw [Kr (by omega)]
 have e2:HT.sIx x.length x.length (some k)=min k.toNat x.length:=by
  simp only [HT.sIx];rw [Kr (by omega)]
 rw [e1,e2];show (((x.cps.toList.drop (min j.toNat x.length)).take (min k.toNat x.length - min j.toNat x.length)).toArray).toList=_;apply List.ext_getElem?;intro i;have hn:=ah x;simp only [List.getElem?_take,List.getElem?_drop];by_cases h1:i < min k.toNat x.length - min j.toNat x.length
 ·rw [Km h1,Km (by omega)];congr 1;omega
 ·rw [Kr h1];by_cases h2:j.toNat+i < k.toNat
  ·rw [Km h2,List.getElem?_eq_none (by rw [hn];omega)]
  ·rw [Kr h2]
theorem qZ {x y:Str} (h:Ltr x) (hs:∀ c∈y.cps.toList,c∈x.cps.toList):Ltr y:=fun c hc=>h c (hs c hc)
theorem wJ:∀ w∈wdS,2<=w.length/\w.length<=6/\Ltr w:=by unfold Ltr;decide +kernel
theorem CS {k:Int} (h0:0<=k) (h1:k < 8):∃ w,wdS[k.toNat]?=some w/\atI wds k=some (.str w):=by
 have hk:k.toNat < wdS.length:=by show k.toNat < 8;omega
 refine ⟨wdS[k.toNat],J9 hk,?_⟩;have:wds[k.toNat]?=some (.str wdS[k.toNat]):=by
  show (wdS.map PyData.str)[k.toNat]?=_;rw [Kt,J9 hk];rfl
 have:=nU this
 rwa [Int.toNat_of_nonneg h0] at this
theorem zS:∀ i < 8,∀ j < 8,wdS[i]?=wdS[j]?->i=j:=by decide +kernel
def NmK (bs:Str) (wy tn at_ sz:Int) (k:Nat) (x:Str):Prop :=
 (wy=0/\x=jU bs none (some ((tn+3*k) % 8+1)))\/(wy=1/\wdS[((tn+k) % 8).toNat]?=some x) \/
 (wy=2/\∃ w,wdS[k % 8]?=some w/\x=w++⟨#[97+((tn+5*k) % 26).toNat]⟩) \/
 (x=jU bs none (some at_)++⟨#[97+((tn+5*k) % 26).toNat]⟩++jU bs (some (at_+1)) (some sz)/\wy≠0/\wy≠1/\wy≠2)
theorem BF {bs:Str} {wy tn at_ sz:Int} {k:Nat} {x:Str} (h:NmK bs wy tn at_ sz k x) (hb:Ltr bs) (hl:bs.length=8) (ha:0<=at_) (has:at_ < sz) (hz:sz<=8):Ltr x/\1<=x.length/\x.length<=8:=by
 have hn:=ah bs;rcases h with ⟨_,rfl⟩ | ⟨_,h⟩ | ⟨_,w,h,rfl⟩ | ⟨rfl,_⟩
 ·have e:=y8 (x:=bs) (k:=(tn+3*k) % 8+1) (by omega);have el:(jU bs none (some ((tn+3*k) % 8+1))).length=min ((tn+3*k) % 8+1).toNat 8:=by rw [<- ah,e,K9,hn,hl]
  exact ⟨qZ hb fun c hc=>by rw [e] at hc;exact List.mem_of_mem_take hc,by rw [el];omega,by rw [el];omega⟩
 ·obtain ⟨a,b,c⟩:=wJ x (KQ h);exact ⟨c,by omega,by omega⟩
 ·obtain ⟨a,b,c⟩:=wJ w (KQ h);exact ⟨nN c (EV (by omega) (by omega)),by rw [ae,bZ];omega,by rw [ae,bZ];omega⟩
 ·have e1:=y8 (x:=bs) ha;have e2:=Cw (x:=bs) (j:=at_+1) (k:=sz) (by omega) (by omega);have l1:(jU bs none (some at_)).length=at_.toNat:=by rw [<- ah,e1,K9,hn,hl];omega
  have l2:(jU bs (some (at_+1)) (some sz)).length=sz.toNat - (at_+1).toNat:=by rw [<- ah,e2,Lp,K9,hn,hl];omega
  refine ⟨nN (nN (qZ hb fun c hc=>?_) (EV (by omega) (by omega))) (qZ hb fun c hc=>?_),?_,?_⟩
  ·rw [e1] at hc;exact List.mem_of_mem_take hc
  ·rw [e2] at hc;exact List.mem_of_mem_take (List.mem_of_mem_drop hc)
  ·rw [ae,ae,bZ];omega
  ·rw [ae,ae,bZ,l1,l2];omega
theorem rj {x y a b:Str} (h:x++a=y++b) (hl:a.length=b.length):x=y/\a=b:=by
 have e:x.cps.toList++a.cps.toList=y.cps.toList++b.cps.toList:=by rw [<- aI,<-aI,h]
 have hll:a.cps.toList.length=b.cps.toList.length:=by rw [ah,ah,hl]
 obtain ⟨e1,e2⟩:=List.append_inj' e hll;constructor
 ·cases x;cases y;simp only [Str.mk.injEq];exact Array.toList_inj.mp e1
 ·cases a;cases b;simp only [Str.mk.injEq];exact Array.toList_inj.mp e2
theorem one_inj {a b:Nat} (h:(⟨#[a]⟩:Str)=⟨#[b]⟩):a=b:=by
 injection h with h;simpa using h
theorem Bt {bs:Str} {wy tn at_ sz:Int} {i j:Nat} {x:Str} (h:NmK bs wy tn at_ sz i x) (h':NmK bs wy tn at_ sz j x) (hl:bs.length=8) (hi:i < 12) (hj:j < 12) (hs:wy=0\/wy=1->i < 8/\j < 8):i=j:=by
 have hn:=ah bs;rcases h with ⟨z1,rfl⟩ | ⟨z1,h⟩ | ⟨z1,w,h,rfl⟩ | ⟨rfl,y0,y1,y2⟩
 ·rcases h' with ⟨_,h'⟩ | ⟨z,_⟩ | ⟨z,_⟩ | ⟨_,z,_⟩
  ·have e:=congrArg (fun s:Str=>s.cps.toList.length) h';rw [y8 (by omega),y8 (by omega),K9,K9,hn,hl] at e;have:=hs (.inl z1);omega
  ·omega
  ·omega
  ·exact absurd z1 z
 ·rcases h' with ⟨z,_⟩ | ⟨_,h'⟩ | ⟨z,_⟩ | ⟨_,_,z,_⟩
  ·omega
  ·have:=zS _ (by omega) _ (by omega) (h.trans h'.symm);have:=hs (.inr z1);omega
  ·omega
  ·exact absurd z1 z
 ·rcases h' with ⟨z,_⟩ | ⟨z,_⟩ | ⟨_,w',h',e⟩ | ⟨_,_,_,z⟩
  ·omega
  ·omega
  ·obtain ⟨e1,e2⟩:=rj e rfl;subst e1;have a1:=zS _ (by omega) _ (by omega) (h.trans h'.symm);have a2:=one_inj e2;omega
  ·exact absurd z1 z
 ·rcases h' with ⟨z,_⟩ | ⟨z,_⟩ | ⟨z,_⟩ | ⟨e,_⟩
  ·exact absurd z y0
  ·exact absurd z y1
  ·exact absurd z y2
  ·obtain ⟨e1,_⟩:=rj e rfl;obtain ⟨_,e2⟩:=rj e1 rfl;have a2:=one_inj e2;omega
theorem foldl_nil:∀ (ps:List Str) (acc:Array Nat),(ps.foldl (fun acc p=>acc++(Str.ofString "").cps++p.cps) acc).toList=acc.toList++ps.flatMap fun s=>s.cps.toList
 | [],acc=>by simp
 | p :: ps,acc=>by
  rw [List.foldl_cons,foldl_nil ps,List.flatMap_cons];have e:(Str.ofString "").cps=#[]:=by decide +kernel
  rw [e];simp
theorem oH (ss:List Str):(PySem.Txt.join "" ss).cps.toList=ss.flatMap fun s=>s.cps.toList:=by
 cases ss with
 | nil=>rfl
 | cons x r =>
  show (r.foldl (fun acc p=>acc++(Str.ofString "").cps++p.cps) x.cps).toList=_;rw [foldl_nil,List.flatMap_cons]
def Nm (x:Str):Prop:=xF (.str x) 1=true/\x.length<=8
noncomputable def ef (wy m:Int):Int:=if (wy=0\/wy=1)/\9<=m then 3 else wy
theorem yk {cs:List Int} {B:Nat} {pn:PyData} {m:Int} {Q:PR->List PyData->Prop} (hP:fv cs B pn) (hb:B < 2 ^ 59) (h0:0<=m) (hm:m<=12) (q:∀ (xs:List Str) pn',fv cs (B+40) pn'->(xs.length:Int)=m->xs.Nodup->(∀ x∈xs,Nm x)->Q (.frs (.list (xs.map .str))) [pn']):WF hG [pn,.int m] Q:=by
 refine cG rfl ?_;unfold tf;walk_at "pp";refine ⟨⟨by omega,by omega⟩,?_⟩;refine bT (fun i ys ec=>∃ (ss:List Str) (pn':PyData),ys=ss.map .str/\ss.length=i/\(∀ s∈ss,s.length=1/\Ltr s)/\fv cs (B+i) pn'/\ec=[.dat (.str abc),.ino pn']) ⟨[],pn,rfl,rfl,fun s h=>(by cases h),hP,rfl⟩ ?_ ?_
 ·rintro i d ys ec hd ⟨ss,pn',rfl,hsl,h1,hP',rfl⟩;obtain ⟨rfl,hi⟩:=gK hd;have hi:i < 8:=hi;refine aF ?_;walk_at "d";intro v pn4 hP4 v0 v1;walk_at "n";walk_at "pp";refine wU rfl (vO v0 v1) ?_;exact ⟨_,rfl,ss++[⟨#[97+v.toNat]⟩],pn4,by simp,by rw [J6,hsl];rfl,zh h1 ⟨rfl,EV v0 v1⟩,hP4,rfl⟩
 rintro ys ec ⟨ss,pn1,rfl,hsl,h1,hP1,rfl⟩;rw [iI] at hsl hP1;replace hsl:ss.length=8:=hsl;replace hP1:fv cs (B+8) pn1:=hP1;walk_at "n";walk_at "pp";have hs:=zR (k:=1) (ss:=ss) fun s h=>by have:=(h1 s h).1;omega
 have hjo:cJ "" ss=true:=by simp only [cJ,KH];have e0:(Str.ofString "").length=0:=(by decide);rw [e0];omega
 refine gm (ss:=ss) rfl rfl hjo ?_;have hj:(Txt.join "" ss).cps.toList=ss.flatMap fun s=>s.cps.toList:=oH ss;have hjl:(Txt.join "" ss).length=8:=by
  rw [<- ah,hj,<-hsl];clear hj hjo hs hsl hP1;induction ss with
  | nil=>rfl
  | cons s r ih =>
   rw [List.flatMap_cons,J6,ih fun x hx=>h1 x (Kb _ hx),ah,(h1 s Ki).1,J8];omega
 have hjL:Ltr (Txt.join "" ss):=fun c hc=>by
  rw [hj] at hc;obtain ⟨s,hs,hc⟩:=List.mem_flatMap.mp hc;exact (h1 s hs).2 c hc
 clear hj;generalize Txt.join "" ss=bs at hjl hjL;walk_at "n";walk_at "d";intro wy pn2 hP2 wy0 wy1;walk_at "n";walk_at "d";intro sz pn3 hP3 sz0 sz1;walk_at "n";walk_at "d";intro at_ pn4 hP4 at0' at1;walk_at "n";walk_at "d";intro tn pn5 hP5 tn0 tn1;walk_at "n";walk_at "pp";refine ⟨⟨by omega,by omega⟩,?_⟩;have fins:∀ (xs:List Str),(xs.length:Int)=m->(∀ k x,xs[k]?=some x->NmK bs (ef wy m) tn at_ (1+sz) k x)->xs.Nodup/\∀ x∈xs,Nm x:=by
  intro xs hxl hx;constructor
  ·refine List.pairwise_iff_getElem.mpr fun i j hi hj hij e=>?_;have a:=hx i _ (J9 hi);have b:=hx j _ (J9 hj);rw [e] at a;have:=Bt a b hjl (by omega) (by omega) fun z=>by unfold ef at z;split at z <;> omega
   omega
  ·intro x hm';obtain ⟨k,hk⟩:=List.mem_iff_getElem?.mp hm';obtain ⟨a,b,c⟩:=BF (hx k x hk) hjL hjl at0' at1 (by omega);exact ⟨vv a (by omega) c,c⟩
 refine ku (fun i e=>∃ (xs:List Str),xs.length=i/\(∀ k x,xs[k]?=some x->NmK bs (ef wy m) tn at_ (1+sz) k x)/\yO [some (.ino pn5),some (.dat (.int m)),some (.dat (.str abc)),some (.dat (.str bs)),some (.dat (.list wds)),some (.dat (.int wy)),some (.dat (.int (1+sz))),some (.dat (.int at_)),some (.dat (.int tn)),some (.own (.list (xs.map .str))),none,none] e) ⟨[],rfl,fun k x h=>by simp at h,by walk_at "L"⟩ ?_ ?_
 ·rintro i d e hd ⟨xs,hxl,hx,_⟩;walk_at "l";obtain ⟨rfl,hi⟩:=gK hd;walk_at "f";walk_at "pp";refine wU rfl (vO (r:=(tn+5*i) % 26) (by omega) (by omega)) ?_;walk_at "n";have hxz:(xs.map PyData.str).length < sizeLine:=by rw [J5,hxl];show i < 2 ^ 24;omega
  have snoc:∀ y:Str,NmK bs (ef wy m) tn at_ (1+sz) i y->∀ k x,(xs++[y])[k]?=some x->NmK bs (ef wy m) tn at_ (1+sz) k x:=by
   intro y hy k x h;rcases Nat.lt_or_ge k xs.length with z | z
   ·rw [KO z] at h;exact hx k x h
   ·rw [Kk z] at h;have hk:k - xs.length=0:=by
     rcases Nat.eq_zero_or_pos (k - xs.length) with y | y
     ·exact y
     ·rw [List.getElem?_eq_none (by simp;omega)] at h;cases h
    rw [hk] at h;have hk2:k=i:=by omega
    subst hk2;cases h;exact hy
  have fin:∀ (y:Str) (x11:Sl),soft x11->NmK bs (ef wy m) tn at_ (1+sz) i y->∃ (zs:List Str),zs.length=i+1/\(∀ k x,zs[k]?=some x->NmK bs (ef wy m) tn at_ (1+sz) k x)/\yO [some (.ino pn5),some (.dat (.int m)),some (.dat (.str abc)),some (.dat (.str bs)),some (.dat (.list wds)),some (.dat (.int wy)),some (.dat (.int (1+sz))),some (.dat (.int at_)),some (.dat (.int tn)),some (.own (.list (zs.map .str))),none,none] ([.ino pn5,.dat (.int m),.dat (.str abc),.dat (.str bs),.dat (.list wds),.dat (.int wy),.dat (.int (1+sz)),.dat (.int at_),.dat (.int tn),.own (.list (xs.map .str++[.str y])),.dat (.int i),x11]:En) :=
   fun y x11 s11 hy=>⟨xs++[y],by rw [J6,hxl];rfl,snoc y hy,by rw [K0];walk_at "L"⟩
  have w2:(wy=2->wdS[i % 8]?=wdS[i % 8]?):=fun _=>rfl;walk_at "pp";have last:wy≠0/\wy≠1\/¬m < 9->True:=fun _=>trivial;clear last w2;have c1':=dX bs none (some at_);have c2':=dX bs (some (at_+1)) (some (1+sz));refine gS (fun a1=>?_) (fun a1=>?_)
  ·have a1:wy=0:=qU a1;walk_at "pp";refine gS (fun a2=>?_) (fun a2=>?_)
   ·have a2:m < 9:=K2 a2;walk_at "pp";refine jD rfl hxz rfl ?_;exact fin (jU bs none (some ((tn+3*(i:Int)) % 8+1))) _ jH (.inl ⟨by unfold ef;rw [Kr (by omega)];exact a1,rfl⟩)
   ·have a2:¬m < 9:=Lf a2;subst a1;walk_at "pp";refine ay rfl (by rw [bZ];show _<=2 ^ 24;omega) ?_;walk_at "pp";refine ⟨_,_,rfl,rfl,?_⟩;walk_at "pp";refine ay rfl (by rw [ae,bZ];show _<=2 ^ 24;omega) ?_;walk_at "pp";refine jD rfl hxz rfl ?_;exact fin _ _ jH (.inr (.inr (.inr ⟨rfl,by unfold ef;rw [Km (by omega)];omega⟩)))
  ·have a1:wy≠0:=fun z=>by subst z;cases a1
   walk_at "pp";refine gS (fun a2=>?_) (fun a2=>?_)
   ·have a2:wy=1:=qU a2;walk_at "pp";refine gS (fun a3=>?_) (fun a3=>?_)
    ·have a3:m < 9:=K2 a3;walk_at "pp";obtain ⟨w,hw,ew⟩:=CS (k:=(tn+i) % 8) (by omega) (by omega);refine tI rfl ew ?_;walk_at "pp";refine jD rfl hxz rfl ?_;exact fin w _ jH (.inr (.inl ⟨by unfold ef;rw [Kr (by omega)];exact a2,hw⟩))
    ·have a3:¬m < 9:=Lf a3;subst a2;walk_at "pp";refine ay rfl (by rw [bZ];show _<=2 ^ 24;omega) ?_;walk_at "pp";refine ⟨_,_,rfl,rfl,?_⟩;walk_at "pp";refine ay rfl (by rw [ae,bZ];show _<=2 ^ 24;omega) ?_;walk_at "pp";refine jD rfl hxz rfl ?_;exact fin _ _ jH (.inr (.inr (.inr ⟨rfl,by unfold ef;rw [Km (by omega)];omega⟩)))
   ·have a2:wy≠1:=fun z=>by subst z;cases a2
    walk_at "pp";refine gS (fun a3=>?_) (fun a3=>?_)
    ·have a3:wy=2:=qU a3;walk_at "pp";obtain ⟨w,hw,ew⟩:=CS (k:=(i:Int) % 8) (by omega) (by omega);have hw2:=(wJ w (KQ hw)).2.1;refine tI rfl ew ?_;walk_at "pp";refine ay rfl (by rw [bZ];show _<=2 ^ 24;omega) ?_;walk_at "pp";refine jD rfl hxz rfl ?_;exact fin _ _ jH (.inr (.inr (.inl ⟨by unfold ef;rw [Kr (by omega)];exact a3,w,by rw [<- hw];congr 1,rfl⟩)))
    ·have a3:wy≠2:=fun z=>by subst z;cases a3
     walk_at "pp";refine ay rfl (by rw [bZ];show _<=2 ^ 24;omega) ?_;walk_at "pp";refine ⟨_,_,rfl,rfl,?_⟩;walk_at "pp";refine ay rfl (by rw [ae,bZ];show _<=2 ^ 24;omega) ?_;walk_at "pp";refine jD rfl hxz rfl ?_;exact fin _ _ jH (.inr (.inr (.inr ⟨rfl,by unfold ef;split <;> omega⟩)))
 ·rintro e ⟨xs,hxl,hx,_⟩;walk_at "l";rw [iI] at hxl;obtain ⟨f1,f2⟩:=fins xs (by omega) hx;walk_at "pp";exact q xs pn5 (hP5.mono (by omega)) (by omega) f1 f2
local macro_rules | `(tactic| walk_at "d")=>`(tactic| ((repeat walk_at "p");(refine ua (cs:=?c9) (B:=?b9) (pn:=?n9) (m:=?m9) (hi:=?hi9) (hP:=?hP9) ?hb9 ?h09 ?hm9 ?_);(case hi9=>exact rfl);(case hP9=>assumption);(case hb9=>omega);(case h09=>first | decide | omega);(case hm9=>first | decide | omega)))
theorem EI {v:Int} (h:v.natAbs < 10 ^ 30):ID (.int v)=true:=by
 show decide ((if v < 0 then -v else v)<=999999999999999999999999999999)=true;rw [Kj];split <;> omega
theorem uW {cs:List Int} {B:Nat} {pn:PyData} {Q:PR->List PyData->Prop} (hP:fv cs B pn) (hb:B < 2 ^ 59) (q:∀ (v:Int) pn',fv cs (B+10) pn'->v.natAbs < 10 ^ 30->Q (.dat (.int v)) [pn']):WF j3 [pn] Q:=by
 refine cG rfl ?_;unfold p9;walk_at "d";intro w pn1 hP1 w0 w1;walk_at "n";walk_at "d";intro v pn2 hP2 v0 v1;walk_at "n";walk_at "q";with_reducible refine fc fun N eN=>?_
 have rest:∀ (v:Int) (pn':PyData),0<=v->v < 10 ^ 30->fv cs (B+6) pn'->N ([.ino pn',.dat (.int w),.dat (.int v)]:En):=by
  intro v pn' v0 v1 hP';rw [eN];clear eN N;with_reducible refine fc fun N eN=>?_
  have rest:∀ (v:Int) (pn':PyData),0<=v->v < 10 ^ 30->fv cs (B+9) pn'->N ([.ino pn',.dat (.int w),.dat (.int v)]:En):=by
   intro v pn' v0 v1 hP';rw [eN];walk_at "d";intro u pn2 hP2 u0 u1;walk_at "n";walk_at "pp";refine gS (fun e5=>?_) (fun e5=>?_)
   ·walk_at "pp";exact q _ _ (hP2.mono (by omega)) (by omega)
   ·walk_at "pp";exact q _ _ (hP2.mono (by omega)) (by omega)
  walk_at "pp";refine gS (fun e5=>?_) (fun e5=>?_)
  ·walk_at "pp";refine ua (hi:=rfl) (hP:=hP') (m:=1000000000) (by omega) (by decide) (by decide) ?_;intro u pn2 hP2 u0 u1;walk_at "n";walk_at "pp";refine ua (hi:=rfl) (hP:=hP2) (m:=1000000000) (by omega) (by decide) (by decide) ?_;intro u' pn3 hP3 u0' u1';walk_at "n";walk_at "pp";refine Es (i:=u*1000000000+u') (j:=1000000000000) rfl (by decide) (by decide) ?_;walk_at "pp";refine ua (hi:=rfl) (hP:=hP3) (m:=1000000000000) (by omega) (by decide) (by decide) ?_;intro u'' pn4 hP4 u0'' u1'';walk_at "n";walk_at "pp";exact rest ((u*1000000000+u')*1000000000000+u'') pn4 (by omega) (by omega) (hP4.mono (by omega))
  ·walk_at "pp";exact rest _ _ v0 v1 (hP'.mono (by omega))
 walk_at "pp";refine gS (fun e5=>?_) (fun e5=>?_)
 ·walk_at "d";intro u pn3 hP3 u0 u1;walk_at "n";walk_at "pp";exact rest (10 ^ 30 - 1 - u) pn3 (by omega) (by omega) (hP3.mono (by omega))
 ·walk_at "pp";exact rest _ _ v0 (by omega) (hP2.mono (by omega))
theorem Ay {cs:List Int} {B:Nat} {pn:PyData} {ns:List Str} {Q:PR->List PyData->Prop} (hP:fv cs B pn) (hb:B < 2 ^ 58) (hn:0 < ns.length) (hn2:ns.length<=12) (hs:∀ x∈ns,Nm x) (q:∀ d pn',fv cs (B+30) pn'->tE d=true->Q (.dat d) [pn']):WF iQ [pn,.list (ns.map .str)] Q:=by
 refine cG rfl ?_;unfold wb;walk_at "d";intro w pn1 hP1 w0 w1;walk_at "n";walk_at "pp";refine gS (fun e5=>?_) (fun e5=>?_)
 ·walk_at "pp";refine ua (hi:=rfl) (hP:=hP1) (m:=((ns.map PyData.str).length:Nat)) (by omega) (by rw [J5];omega) (by rw [J5];omega) ?_;intro v pn2 hP2 v0 v1;walk_at "n";walk_at "pp";obtain ⟨d,hd,ed⟩:=atV (xs:=ns.map PyData.str) v0 v1;obtain ⟨x,hx,rfl⟩:=Ll.mp hd;refine tI rfl ed ?_;walk_at "pp";exact q _ _ (hP2.mono (by omega)) (by unfold tE;rw [(hs x hx).1];rfl)
 ·walk_at "pp";refine gS (fun e6=>?_) (fun e6=>?_)
  ·walk_at "pp";refine ab (is:=[0]) rfl rfl (uW hP1 (by omega) fun v pn2 hP2 hv=>⟨rfl,?_⟩);walk_at "n";walk_at "pp";exact q _ _ (hP2.mono (by omega)) (by unfold tE;rw [EI hv];rfl)
  ·walk_at "d";intro u pn2 hP2 u0 u1;walk_at "n";walk_at "d";intro z pn3 hP3 z0 z1;walk_at "n";walk_at "pp";obtain ⟨d,hd,ed⟩:=atV (xs:=([.int 0,.int 8,.int (1+u),.int 3]:List PyData)) z0 z1;have hc:∃ i:Int,d=.int i/\0<=i/\i<=8:=by
    simp only [Kd,K3,Lb] at hd;rcases hd with rfl | rfl | rfl | rfl <;> exact ⟨_,rfl,by omega,by omega⟩
   obtain ⟨m,rfl,hm0,hm1⟩:=hc;refine tI rfl ed ?_;walk_at "pp";refine ⟨⟨by omega,by omega⟩,?_⟩;refine ku (fun i e=>∃ (wd:Str) (pn':PyData),wd.length=i/\Ltr wd/\fv cs (B+3+i) pn'/\yO [some (.ino pn'),some (.dat (.list (ns.map .str))),some (.dat (.int w)),some (.dat (.str wd)),none] e)
    ⟨"", pn3,rfl,by unfold Ltr;decide,hP3,by walk_at "L"⟩ ?_ ?_
   ·rintro i d e hd ⟨wd,pn',hw,hL,hP',_⟩;walk_at "l";obtain ⟨rfl,hi⟩:=gK hd;walk_at "f";walk_at "d";intro v pn4 hP4 v0 v1;walk_at "n";walk_at "pp";refine wU rfl (vO v0 v1) ?_;walk_at "pp";refine ay rfl (by rw [hw,bZ];show _<=2 ^ 24;omega) ?_;walk_at "pp";exact ⟨_,pn4,by rw [ae,hw,bZ],nN hL (EV v0 v1),hP4,by walk_at "L"⟩
   ·rintro e ⟨wd,pn',hw,hL,hP',_⟩;walk_at "l";rw [iI] at hw hP';walk_at "pp";refine q _ _ (hP'.mono (by omega)) ?_;unfold tE;have:uy (.tuple [.str wd])=true:=vv (k:=0) hL (by omega) (by omega);rw [this];simp
def Sh (x:Str):Prop:=Ltr x/\1<=x.length/\x.length<=8
def Sa (x:Str):Prop:=Ltr x/\x.length<=8
def jG (d:PyData) (T:Str):Prop:=(∃ x,d=.str x/\Sh x/\T=x)\/(∃ i:Int,d=.int i/\i.natAbs < 10 ^ 30/\T=ag i)\/∃ x,d=.tuple [.str x]/\Sa x/\T=("'" : Str)++x
def lE (P:PyData->Str->Nat->Prop):List PyData->List Str->Nat->Prop
 | [],[],k=>k=0
 | u :: us,S :: Ss,k=>∃ j m,P u S j/\lE P us Ss m/\k=j+m
 | _,_,_=>False
def Pair (P:PyData->Str->Nat->Prop) (d:PyData) (T:Str) (k:Nat):Prop:=∃ x u X S,d=.tuple [x,u]/\jG x X/\P u S k/\T=X++(": " : Str)++S
def lj (P:PyData->Str->Nat->Prop) (d:PyData) (S:Str) (k:Nat):Prop:=∃ us Ss,d=.tuple us/\lE (Pair P) us Ss k/\us.length<=3/\S=Txt.join ", " Ss
def m8 (P:PyData->Str->Nat->Prop) (d:PyData) (Ss:List Str) (k:Nat):Prop:=∃ us,d=.tuple us/\lE P us Ss k/\us.length<=4
def Cnt (i:Int):Prop:=0<=i/\i.natAbs < 10 ^ 30
def RIn (P:PyData->Str->Nat->Prop) (d:PyData) (w J:Str) (k:Nat):Prop :=
  ((w = "every" \/ w = "ends")/\∃ u Ss j,d=.tuple [.str w,u]/\m8 P u Ss j/\k=j+1/\J=Txt.join ", " Ss)
 \/ (w = "alone" /\ ∃ (i:Int) (u:PyData) (Ss:List Str) (j:Nat),d=.tuple [.str "alone", .int i,u]/\Cnt i/\m8 P u Ss j/\k=j+1/\J=Txt.join ", " ([ag i]++Ss))
 \/ (w = "count" /\ ∃ u u' S S' j j',d=.tuple [.str "count", u,u']/\lj P u S j/\lj P u' S' j'/\k=j+j'+1/\J=S++(" / " : Str)++S')
 \/ ((w = "lacks" \/ w = "over")/\∃ u j,d=.tuple [.str w,u]/\lj P u J j/\k=j+1)
 \/ (w = "two" /\ ∃ (i i':Int) (u u':PyData) (S S':Str) (j j':Nat),d=.tuple [.str "two", .int i,.int i',u,u']/\Cnt i/\Cnt i'/\P u S j/\P u' S' j'/\k=j+j'+1/\J=Txt.join ", " [ag i,ag i',S,S'])
 \/ (w = "part" /\ ∃ (i:Int) (u:PyData) (S:Str) (j:Nat),d=.tuple [.str "part", .int i,u]/\Cnt i/\P u S j/\k=j+1/\J=Txt.join ", " [ag i,S])
 \/ (w = "end" /\ ∃ x u X S j,d=.tuple [.str "end", x,u]/\jG x X/\P u S j/\k=j+1/\J=Txt.join ", " [X,S])
 \/ (w = "turn" /\ ∃ u j,d=.tuple [.str "turn", u]/\P u J j/\k=j+1)
def Rv:Nat->PyData->Str->Nat->Prop
 | 0,_,_,_=>False
 | n+1,d,T,k=>(k=1/\d=.tuple [.str T]/\(T = "plain" \/ T = "claim" \/ T = "bound"))\/∃ w J,RIn (Rv n) d w J k/\T=w++("(" : Str)++J++(")" : Str)
noncomputable def yn:Bool->Str | true => "yes" | false => "no"
def yI (d:PyData) (T:Str):Prop:=∃ (x:PyData) (X nm:Str) (b:Bool) (i:Int) (u:PyData) (S:Str) (k:Nat),d=.tuple [x,.str nm,.bool b,.int i,u]/\jG x X/\Sh nm/\Cnt i/\Rv 12 u S k/\k<=200/\T=Txt.join " " [X,nm,yn b,ag i,S]
def jO:List PyData->List Str->Prop
 | [],[]=>True
 | u :: us,S :: Ss=>yI u S/\jO us Ss
 | _,_=>False
theorem aO {i:Int} (h:i.natAbs < 10 ^ 30):(ag i).length<=61:=by
 show (Str.ofString (toString i)).length<=_;rw [PySem.ofString_length];exact Ks (int_text_length_le10 (k:=30) (by decide) h) (by decide)
theorem bU {d:PyData} {T:Str} (h:jG d T):T.length<=61:=by
 rcases h with ⟨x,_,h,rfl⟩ | ⟨i,_,h,rfl⟩ | ⟨x,_,h,rfl⟩
 ·have:=h.2.2;omega
 ·exact aO h
 ·rw [ae];have:("'" : Str).length=1:=by decide
  have:=h.2;omega
theorem bS:(", " : Str).length=2:=by decide
theorem D2 {P:PyData->Str->Nat->Prop} {c:Nat} (hP:∀ u S j,P u S j->S.length+c<=400*j):∀ {us:List PyData} {Ss:List Str} {k:Nat},lE P us Ss k->(Ss.map (·.length)).sum+c*Ss.length<=400*k/\Ss.length=us.length
 | [],[],k,h=>⟨by simp,rfl⟩
 | u :: us,S :: Ss,k,⟨i,m,h1,h2,e⟩=>by
  obtain ⟨i1,i2⟩:=D2 hP h2;have:=hP _ _ _ h1;simp only [List.map_cons,Kw,J8,Nat.mul_succ];exact ⟨by omega,by omega⟩
 | [],_ :: _,_,h=>False.elim h
 | _ :: _,[],_,h=>False.elim h
theorem lE.snoc {P:PyData->Str->Nat->Prop} {u:PyData} {S:Str} {j:Nat} (hu:P u S j):∀ {us:List PyData} {Ss:List Str} {k:Nat},lE P us Ss k->lE P (us++[u]) (Ss++[S]) (k+j)
 | [],[],k,h=>⟨j,0,hu,rfl,by have h:k=0:=h;omega⟩
 | v :: us,T :: Ss,k,⟨i,m,h1,h2,e⟩=>⟨i,m+j,h1,lE.snoc hu h2,by omega⟩
 | [],_ :: _,_,h=>False.elim h
 | _ :: _,[],_,h=>False.elim h
theorem lE.len {P:PyData->Str->Nat->Prop}:∀ {us:List PyData} {Ss:List Str} {k:Nat},lE P us Ss k->Ss.length=us.length
 | [],[],k,h=>rfl
 | v :: us,T :: Ss,k,⟨i,m,h1,h2,e⟩=>by rw [J8,J8,lE.len h2]
 | [],_ :: _,_,h=>False.elim h
 | _ :: _,[],_,h=>False.elim h
theorem lE.get {P:PyData->Str->Nat->Prop}:∀ {us:List PyData} {Ss:List Str} {k:Nat} (i:Nat) {d:PyData},lE P us Ss k->us[i]?=some d->∃ S j,P d S j/\j<=k/\Ss[i]?=some S
 | v :: us,T :: Ss,k,0,d,⟨i,m,h1,h2,e⟩,hd=>by
  have:v=d:=by simpa using hd
  subst this;exact ⟨T,i,h1,by omega,rfl⟩
 | v :: us,T :: Ss,k,n+1,d,⟨i,m,h1,h2,e⟩,hd=>by
  obtain ⟨S,j,a,b,c⟩:=lE.get n h2 (by simpa using hd);exact ⟨S,j,a,by omega,by simpa using c⟩
 | [],[],k,i,d,h,hd=>by simp at hd
 | [],_ :: _,_,_,_,h,_=>False.elim h
 | _ :: _,[],_,_,_,h,_=>False.elim h
theorem LC {α:Type} {xs:List α} {i:Nat} {x:α} (h:xs[i]?=some x):xs.take i++[x]=xs.take (i+1):=by
 rw [List.take_add_one,h];rfl
theorem iH:(": " : Str).length=2:=by decide
theorem gG:(" / " : Str).length=3:=by decide
theorem br1:("(" : Str).length=1:=by decide
theorem br2:(")" : Str).length=1:=by decide
theorem nM {P:PyData->Str->Nat->Prop} (hP:∀ u S j,P u S j->S.length+100<=400*j) (v:PyData) (T:Str) (k:Nat) (h:Pair P v T k):T.length+37<=400*k:=by
 obtain ⟨x,u,X,S,e,hn,hp,rfl⟩:=h;have h1:=bU hn;have h2:=hP _ _ _ hp;rw [ae,ae,iH];omega
theorem cW {P:PyData->Str->Nat->Prop} (hP:∀ u S j,P u S j->S.length+100<=400*j) {v:PyData} {T:Str} {k:Nat} (h:lj P v T k):T.length<=400*k:=by
 obtain ⟨us,Ss,e,ha,hl,rfl⟩:=h;obtain ⟨h1,h2⟩:=D2 (nM hP) ha;have:=bh ", " Ss;rw [bS] at this;omega
theorem fP {P:PyData->Str->Nat->Prop} (hP:∀ u S j,P u S j->S.length+100<=400*j) {v:PyData} {Ss:List Str} {k:Nat} (h:m8 P v Ss k):(Ss.map (·.length)).sum+100*Ss.length<=400*k/\Ss.length<=4:=by
 obtain ⟨us,e,ha,hl⟩:=h;obtain ⟨h1,h2⟩:=D2 hP ha;omega
theorem xa {P:PyData->Str->Nat->Prop} (hP:∀ u S j,P u S j->S.length+100<=400*j) {v:PyData} {w J:Str} {n:Nat} (h:RIn P v w J n):J.length+300<=400*n/\w.length<=6:=by
 rcases h with ⟨hw,u,Ss,j,e,hs,rfl,rfl⟩ | ⟨rfl,i,u,Ss,j,e,hc,hs,rfl,rfl⟩ | ⟨rfl,u,u',S,S',j,j',e,h1,h2,rfl,rfl⟩ | ⟨hw,u,j,e,h1,rfl⟩ | ⟨rfl,i,i',u,u',S,S',j,j',e,c1,c2,h1,h2,rfl,rfl⟩ | ⟨rfl,i,u,S,j,e,c1,h1,rfl,rfl⟩ | ⟨rfl,x,u,X,S,j,e,hx,h1,rfl,rfl⟩ | ⟨rfl,u,j,e,h1,rfl⟩
 ·obtain ⟨z1,z2⟩:=fP hP hs;have:=bh ", " Ss;rw [bS] at this;refine ⟨by omega,?_⟩;rcases hw with rfl | rfl <;> decide
 ·obtain ⟨z1,z2⟩:=fP hP hs;have z3:=aO hc.2;have:=bh ", " ([ag i]++Ss);rw [bS] at this;simp only [KR,KD,List.map_cons,Kw,J8] at this;exact ⟨by simp only [KR,KD];omega,by decide⟩
 ·have z1:=cW hP h1;have z2:=cW hP h2;rw [ae,ae,gG];exact ⟨by omega,by decide⟩
 ·have z1:=cW hP h1;refine ⟨by omega,?_⟩;rcases hw with rfl | rfl <;> decide
 ·have z1:=hP _ _ _ h1;have z2:=hP _ _ _ h2;have z3:=aO c1.2;have z4:=aO c2.2;have:=bh ", " [ag i,ag i',S,S'];rw [bS] at this;simp only [List.map_cons,Kw,J8,List.map_nil,KS,Ky] at this;exact ⟨by omega,by decide⟩
 ·have z1:=hP _ _ _ h1;have z3:=aO c1.2;have:=bh ", " [ag i,S];rw [bS] at this;simp only [List.map_cons,Kw,J8,List.map_nil,KS,Ky] at this;exact ⟨by omega,by decide⟩
 ·have z1:=hP _ _ _ h1;have z3:=bU hx;have:=bh ", " [X,S];rw [bS] at this;simp only [List.map_cons,Kw,J8,List.map_nil,KS,Ky] at this;exact ⟨by omega,by decide⟩
 ·have z1:=hP _ _ _ h1;exact ⟨by omega,by decide⟩
theorem eV:∀ (n:Nat) (v:PyData) (T:Str) (k:Nat),Rv n v T k->T.length+100<=400*k
 | 0,_,_,_,h=>False.elim h
 | n+1,v,T,m,h=>by
  rcases h with ⟨rfl,q,hw⟩ | ⟨w,J,h,rfl⟩
  ·rcases hw with rfl | rfl | rfl <;> decide
  ·obtain ⟨z1,z2⟩:=xa (eV n) h;rw [ae,ae,ae,br1,br2];omega
theorem wV {x:Str} {k:Int} (h:xF (.str x) k=true):Ltr x/\k<=x.length/\x.length<=8:=by
 have h:(decide (k<=(x.length:Int))&&(decide ((x.length:Int)<=8)&&x.cps.toList.all chB))=true:=h;rw [KC,KC] at h;have h1:=K2 h.1;have h2:=K2 h.2.1;refine ⟨fun c hc=>?_,h1,by omega⟩;have:=Lg.mp h.2.2 c hc;unfold chB at this;rw [KC] at this;exact ⟨K2 this.1,K2 this.2⟩
theorem AN {x:Str} (h:Sh x):Nm x:=⟨vv h.1 (by have:=h.2.1;omega) h.2.2,h.2.2⟩
theorem Hc {x:Str} (h:Nm x):Sh x:=by
 have:=wV h.1;exact ⟨this.1,by omega,this.2.2⟩
theorem CG {cs:List Int} {p l:Int} (hp:0<=p) (hl:0<=l):fv cs p.toNat (bN cs p l):=⟨p,l,rfl,hp,by omega,hl⟩
theorem AJ {d:PyData} (h:tE d=true):∃ T,jG d T:=by
 unfold tE at h;rw [LB,LB] at h;rcases h with h | h | h
 ·cases d with
  | str x=>have:=wV h;exact ⟨x,.inl ⟨x,rfl,⟨this.1,by omega,this.2.2⟩,rfl⟩⟩
  | _=>cases h
 ·cases d with
  | int i =>
   have h:decide ((if i < 0 then -i else i)<=999999999999999999999999999999)=true:=h;have h:=K2 h;refine ⟨_,.inr (.inl ⟨i,rfl,?_,rfl⟩)⟩;split at h <;> omega
  | _=>cases h
 ·unfold uy at h;split at h
  ·rename_i x;cases x with
   | str x=>have:=wV h;exact ⟨_,.inr (.inr ⟨x,rfl,⟨this.1,this.2.2⟩,rfl⟩)⟩
   | _=>cases h
  ·cases h
theorem nS {cs:List Int} {p l:Int} {ns:List Str} {Q:PR->List PyData->Prop} (hp:0<=p) (hb:p < 2 ^ 58) (hl:0<=l) (hn:0 < ns.length) (hn2:ns.length<=8) (hs:∀ x∈ns,Sh x) (q:∀ d T p' l',jG d T->0<=p'->p'<=p+30->0<=l'->Q (.dat d) [bN cs p' l']):WF iQ [bN cs p l,.list (ns.map .str)] Q:=by
 refine Ay (CG hp hl) (by omega) hn (by omega) (fun x hx=>AN (hs x hx)) fun d pn' hP hd=>?_;obtain ⟨p',l',rfl,h1,h2,h3⟩:=hP;obtain ⟨T,hT⟩:=AJ hd;exact q d T p' l' hT h1 (by omega) h3
theorem oz {cs:List Int} {p l m:Int} {Q:PR->List PyData->Prop} (hp:0<=p) (hb:p < 2 ^ 58) (hl:0<=l) (h0:0<=m) (hm:m<=8) (q:∀ (xs:List Str) p' l',(xs.length:Int)=m->(∀ x∈xs,Sh x)->0<=p'->p'<=p+40->0<=l'->Q (.frs (.list (xs.map .str))) [bN cs p' l']):WF hG [bN cs p l,.int m] Q:=by
 refine yk (CG hp hl) (by omega) h0 (by omega) fun xs pn' hP e _ hx=>?_;obtain ⟨p',l',rfl,h1,h2,h3⟩:=hP;exact q xs p' l' e (fun x h=>Hc (hx x h)) h1 (by omega) h3
theorem take1 {cs:List Int} {p l:Int} {m:Int} {e1:En} {avs:List AV} {Q:RV->En->Prop} {is:List Nat} (h1:jJ e1 aq.ms avs=some [bN cs p l,.int m]) (h2:dt aq.ms avs=is) (h3:ckA is (uw aq.ms avs) 1=true) (hp:0<=p) (hb:p < 2 ^ 60) (hl:0<=l) (h0:0 < m) (hm:m < 2 ^ 200) (q:∀ v p' l',0<=v->v < m->0<=p'->p'<=p+1->0<=l'->Q (.dat (.int v)) (dG e1 is [bN cs p' l'])):oa aq avs e1 Q :=
 ab h1 h2 (xk hp hb hl h0 hm fun v p' l' a b c d e=>⟨h3,q v p' l' a b c d e⟩)
theorem gY {cs:List Int} {p l:Int} {Q:PR->List PyData->Prop} (hp:0<=p) (hb:p < 2 ^ 59) (hl:0<=l) (q:∀ (v:Int) p' l',Cnt v->0<=p'->p'<=p+10->0<=l'->Q (.dat (.int v)) [bN cs p' l']):WF eD [bN cs p l] Q:=by
 refine cG rfl ?_;unfold s8;walk_at "pp";refine take1 rfl rfl rfl hp (by omega) hl (by decide) (by decide) fun w p1 l1 w0 w1 hp1 hb1 hl1=>?_;walk_at "pp";refine take1 rfl rfl rfl hp1 (by omega) hl1 (by decide) (by decide) fun v p2 l2 v0 v1 hp2 hb2 hl2=>?_;walk_at "pp";refine take1 rfl rfl rfl hp2 (by omega) hl2 (by decide) (by decide) fun u p3 l3 u0 u1 hp3 hb3 hl3=>?_;walk_at "pp";refine take1 rfl rfl rfl hp3 (by omega) hl3 (by decide) (by decide) fun z p4 l4 z0 z1 hp4 hb4 hl4=>?_;walk_at "pp";obtain ⟨d,hd,ed⟩:=atV (xs:=([.int 0,.int w,.int v,.int (10 ^ 30 - 1 - u)]:List PyData)) z0 z1;refine tI rfl ed ?_;walk_at "pp";have hc:∃ i:Int,d=.int i/\Cnt i:=by
  simp only [Kd,K3,Lb] at hd;rcases hd with rfl | rfl | rfl | rfl <;> exact ⟨_,rfl,by unfold Cnt;omega⟩
 obtain ⟨i,rfl,hi⟩:=hc;exact q _ _ _ hi hp4 (by omega) hl4
theorem Ab {x y:Str} (h:decide (x=y)=false):PyData.eqv (.str x) (.str y)=false:=by simpa [PyData.eqv] using h
theorem nh {x:Str}:PyData.eqv (.str x) (.str x)=true:=by simp [PyData.eqv]
theorem jZ {z:Str}:∀ (ss:List Str),tF (ss.map .str) (.str z)=ss.any fun s=>decide (s=z)
 | []=>rfl
 | s :: ss=>by
  have:=jZ (z:=z) ss;unfold tF at this ⊢;rw [List.map_cons,List.any_cons,List.any_cons,this];have:PyData.eqv (.str s) (.str z)=decide (s=z):=by
   simp only [PyData.eqv];rfl
  rw [this]
theorem mW:∀ (ss:List Str),iF (ss.map .str)=true
 | []=>by simp [iF]
 | s :: ss=>by simp [iF,noD,mW ss]
theorem w_inS {e:En} {x y:AV} {z:Str} (ss:List Str) {Q:RV->En->Prop} (h1:aU e [x,y]=some [.str z,.tuple (ss.map .str)]) (q:Q (.dat (.bool (ss.any fun s=>decide (s=z)))) e):WPr inP [x,y] e Q:=by
 refine ⟨_,.dat (.bool (ss.any fun s=>decide (s=z))),h1,?_,q⟩;show (if vV (.str z)=true/\iF (ss.map .str)=true then some (PR.dat (.bool (ngB false (tF (ss.map .str) (.str z))))) else none)=_;rw [Km ⟨by simp [vV,noD,PyData.depth],mW ss⟩,jZ];rfl
theorem cP {d:PyData} {T:Str} {Q:PR->List PyData->Prop} (h:jG d T) (q:Q (.dat (.str T)) []):WF ck [d] Q:=by
 refine cG rfl ?_;unfold jj;rcases h with ⟨x,rfl,hx,rfl⟩ | ⟨i,rfl,hi,rfl⟩ | ⟨x,rfl,hx,rfl⟩
 ·walk_at "pp";refine ab rfl rfl ⟨_,_,rfl,rfl,?_⟩;walk_at "pp";exact q
 ·walk_at "pp";refine ab rfl rfl ⟨_,_,rfl,rfl,?_⟩;walk_at "pp";refine cu rfl (Kh hi (LQ (by decide) (by decide))) ?_;walk_at "pp";exact q
 ·walk_at "pp";refine ab rfl rfl ⟨_,_,rfl,rfl,?_⟩;walk_at "pp";refine ay rfl (by have:(Str.ofString "'").length=1:=(by decide);rw [this];have:=hx.2;show _<=2 ^ 24;omega) ?_;walk_at "pp";exact q
theorem bL {d:PyData} {T:Str} {Q:PR->List PyData->Prop} (h:jG d T) (q:Q (.dat (.str T)) []):WF cj [d] Q:=by
 refine cG rfl ?_;unfold iZ;rcases h with ⟨x,rfl,hx,rfl⟩ | ⟨i,rfl,hi,rfl⟩ | ⟨x,rfl,hx,rfl⟩
 ·walk_at "pp";exact q
 ·walk_at "pp";refine cu rfl (Kh hi (LQ (by decide) (by decide))) ?_;walk_at "pp";exact q
 ·walk_at "pp";refine ay rfl (by have:(Str.ofString "'").length=1:=(by decide);rw [this];have:=hx.2;show _<=2 ^ 24;omega) ?_;walk_at "pp";exact q
theorem aC {f:Fn} {e1:En} {avs:List AV} {ds:List PyData} {is:List Nat} {ms:List PM} {Q:RV->En->Prop} (hm:f.ms=ms) (h1:jJ e1 ms avs=some ds) (h2:dt ms avs=is) (h:WF f ds fun pr outs=>ckA is (uw ms avs) outs.length=true/\Q pr.rv (dG e1 is outs)):oa f avs e1 Q:=by
 subst hm;exact ab h1 h2 h
theorem k8 (n:Nat):(aL n).ms=[.dat]:=by cases n <;> rfl
theorem lh (n:Nat):(aR n).ms=[.dat]:=by cases n <;> rfl
theorem cc (n:Nat):(bP n).ms=[.ino,.dat,.ino,.dat]:=by cases n <;> rfl
def wD (n:Nat):Prop:=∀ {d:PyData} {T:Str} {k:Nat} {Q:PR->List PyData->Prop},Rv n d T k->k<=200->Q (.dat (.str T)) []->WF (aL n) [d] Q
theorem bQ {n:Nat} (ih:wD n) {d:PyData} {Ss:List Str} {k:Nat} {Q:PR->List PyData->Prop} (h:m8 (Rv n) d Ss k) (hk:k<=200) (q:Q (.frs (.list (Ss.map .str))) []):WF (fe n) [d] Q:=by
 obtain ⟨us,rfl,ha,hl⟩:=h;refine cG rfl ?_;unfold fq;walk_at "pp";refine bT (fun i ys ec=>ys=(Ss.take i).map .str/\ec=[]) ⟨rfl,rfl⟩ ?_ ?_
 ·rintro i d ys ec hd ⟨rfl,rfl⟩;obtain ⟨S,j,hs,hj,hS⟩:=ha.get i hd;refine aF ?_;walk_at "pp";refine aC (k8 n) rfl rfl (ih hs (by omega) ⟨rfl,?_⟩);walk_at "pp";exact ⟨by rw [<- LC hS,K0];rfl,rfl⟩
 ·rintro ys ec ⟨rfl,rfl⟩;rw [<- ha.len,K8];walk_at "pp";exact q
theorem cR {n:Nat} (ih:wD n) {d:PyData} {T:Str} {k:Nat} {Q:PR->List PyData->Prop} (h:lj (Rv n) d T k) (hk:k<=200) (q:Q (.dat (.str T)) []):WF (jh n) [d] Q:=by
 obtain ⟨us,Ss,rfl,ha,hl,rfl⟩:=h;obtain ⟨z1,z2⟩:=D2 (nM (eV n)) ha;refine cG rfl ?_;unfold jf;walk_at "pp";refine ku (fun i e=>∃ x2 x3,soft x2/\soft x3/\e=[.dat (.tuple us),.own (.list ((Ss.take i).map .str)),x2,x3]) ⟨.un,.un,qe,qe,rfl⟩ ?_ ?_
 ·rintro i d e hd ⟨x2,x3,s2,s3,rfl⟩;obtain ⟨S,j,⟨x,u,X,Y,rfl,hx,hu,rfl⟩,hj,hS⟩:=ha.get i hd;refine zQ (e2:=[.dat (.tuple us),.own (.list ((Ss.take i).map .str)),.dat x,.dat u]) (by cases x2 <;> cases x3 <;> first | rfl | (exact absurd rfl (s2.1 _)) | (exact absurd rfl (s2.2 _)) | (exact absurd rfl (s3.1 _)) | (exact absurd rfl (s3.2 _))) ?_;walk_at "pp";refine ab rfl rfl (cP hx ⟨rfl,?_⟩);walk_at "pp";have c1:=bU hx;have c2:=eV n _ _ _ hu;refine ay rfl (by rw [iH];show _<=2 ^ 24;omega) ?_;walk_at "pp";refine aC (k8 n) rfl rfl (ih hu (by omega) ⟨rfl,?_⟩);walk_at "pp";refine ay rfl (by rw [ae,iH];show _<=2 ^ 24;omega) ?_;walk_at "pp";refine jD rfl (by rw [J5,K9];show _ < 2 ^ 24;omega) rfl ?_;exact ⟨_,_,jH,jH,by rw [<- LC hS,K0];rfl⟩
 ·rintro e ⟨x2,x3,s2,s3,rfl⟩;rw [<- ha.len,K8];walk_at "pp";refine gm (ss:=Ss) rfl rfl (by simp only [cJ,KH];rw [bS];omega) ?_;walk_at "pp";exact q
theorem iM {i:Int} (h:i.natAbs < 10 ^ 30):i.natAbs < 10 ^ 400:=Kh h (LQ (by decide) (by decide))
theorem w_j {r:RV} {avs:List AV} {e:En} {ss:List Str} {Q:RV->En->Prop} (h1:r.view e=some (.str ", ")) (h2:aU e avs=some [.list (ss.map .str)]) (h3:(ss.map (·.length)).sum+2*ss.length<=16777216) (q:Q (.dat (.str (Txt.join ", " ss))) e):Aa joinM r avs e Q :=
 gm h1 h2 (by simp only [cJ,KH];rw [bS];omega) q
theorem da {n:Nat} (ih:wD n) {d:PyData} {w J:Str} {k:Nat} {Q:PR->List PyData->Prop} (h:RIn (Rv n) d w J k) (hk:k<=200) (q:Q (.dat (.str J)) []):WF (gz n) [d] Q:=by
 have lw:=eV n;refine cG rfl ?_;unfold gv;rcases h with ⟨hw,u,Ss,j,rfl,hs,rfl,rfl⟩ | ⟨rfl,i,u,Ss,j,rfl,hc,hs,rfl,rfl⟩ | ⟨rfl,u,u',S,S',j,j',rfl,h1,h2,rfl,rfl⟩ | ⟨hw,u,j,rfl,h1,rfl⟩ | ⟨rfl,i,i',u,u',S,S',j,j',rfl,c1,c2,h1,h2,rfl,rfl⟩ | ⟨rfl,i,u,S,j,rfl,c1,h1,rfl,rfl⟩ | ⟨rfl,x,u,X,S,j,rfl,hx,h1,rfl,rfl⟩ | ⟨rfl,u,j,rfl,h1,rfl⟩
 ·obtain ⟨z1,z2⟩:=fP lw hs;rcases hw with rfl | rfl
  ·walk_at "pp";refine ab rfl rfl (bQ ih hs (by omega) ⟨rfl,?_⟩);walk_at "pp";refine w_j (ss:=Ss) rfl rfl (by omega) ?_;walk_at "pp";exact q
  ·walk_at "pp";refine ab rfl rfl (bQ ih hs (by omega) ⟨rfl,?_⟩);walk_at "pp";refine w_j (ss:=Ss) rfl rfl (by omega) ?_;walk_at "pp";exact q
 ·obtain ⟨z1,z2⟩:=fP lw hs;have z3:=aO hc.2;walk_at "pp";refine cu rfl (iM hc.2) ?_;walk_at "pp";refine ab rfl rfl (bQ ih hs (by omega) ⟨rfl,?_⟩);walk_at "pp";refine lz rfl (by rw [J5];show 1+_<=2 ^ 24;omega) ?_;walk_at "pp";refine w_j (ss:=[ag i]++Ss) rfl rfl (by simp only [KR,KD,List.map_cons,Kw,J8];omega) ?_;walk_at "pp";exact q
 ·have z1:=cW lw h1;have z2:=cW lw h2;walk_at "pp";refine ab rfl rfl (cR ih h1 (by omega) ⟨rfl,?_⟩);walk_at "pp";refine ay rfl (by rw [gG];show _<=2 ^ 24;omega) ?_;walk_at "pp";refine ab rfl rfl (cR ih h2 (by omega) ⟨rfl,?_⟩);walk_at "pp";refine ay rfl (by rw [ae,gG];show _<=2 ^ 24;omega) ?_;walk_at "pp";exact q
 ·rcases hw with rfl | rfl
  ·walk_at "pp";refine ab rfl rfl (cR ih h1 (by omega) ⟨rfl,?_⟩);walk_at "pp";exact q
  ·walk_at "pp";refine ab rfl rfl (cR ih h1 (by omega) ⟨rfl,?_⟩);walk_at "pp";exact q
 ·have z1:=lw _ _ _ h1;have z2:=lw _ _ _ h2;have z3:=aO c1.2;have z4:=aO c2.2;walk_at "pp";refine cu rfl (iM c1.2) ?_;walk_at "pp";refine cu rfl (iM c2.2) ?_;walk_at "pp";refine ab rfl rfl (bQ (Ss:=[S,S']) (k:=j+j') ih ⟨[u,u'],rfl,⟨j,j',h1,⟨j',0,h2,rfl,rfl⟩,rfl⟩,by simp⟩ (by omega) ⟨rfl,?_⟩);walk_at "pp";refine w_j (ss:=[ag i,ag i',S,S']) rfl rfl (by simp only [List.map_cons,Kw,J8,List.map_nil,KS,Ky];omega) ?_;walk_at "pp";exact q
 ·have z1:=lw _ _ _ h1;have z3:=aO c1.2;walk_at "pp";refine cu rfl (iM c1.2) ?_;walk_at "pp";refine aC (k8 n) rfl rfl (ih h1 (by omega) ⟨rfl,?_⟩);walk_at "pp";refine w_j (ss:=[ag i,S]) rfl rfl (by simp only [List.map_cons,Kw,J8,List.map_nil,KS,Ky];omega) ?_;walk_at "pp";exact q
 ·have z1:=lw _ _ _ h1;have z3:=bU hx;walk_at "pp";refine ab rfl rfl (cP hx ⟨rfl,?_⟩);walk_at "pp";refine aC (k8 n) rfl rfl (ih h1 (by omega) ⟨rfl,?_⟩);walk_at "pp";refine w_j (ss:=[X,S]) rfl rfl (by simp only [List.map_cons,Kw,J8,List.map_nil,KS,Ky];omega) ?_;walk_at "pp";exact q
 ·walk_at "pp";refine aC (k8 n) rfl rfl (ih h1 (by omega) ⟨rfl,?_⟩);walk_at "pp";exact q
theorem emp (x:Str):Str.empty++x=x:=by
 cases x with
 | mk c =>
  show (⟨#[]++c⟩:Str)=⟨c⟩;simp
theorem kC {P:PyData->Str->Nat->Prop} {d:PyData} {w J:Str} {k:Nat} (h:RIn P d w J k):((["plain", "claim", "bound"]:List Str).any fun s=>decide (s=w))=false/\((∃ a,d=.tuple [.str w,a])\/(∃ a b,d=.tuple [.str w,a,b])\/∃ a b c e,d=.tuple [.str w,a,b,c,e]):=by
 rcases h with ⟨hw,u,Ss,j,rfl,hs,rfl,rfl⟩ | ⟨rfl,i,u,Ss,j,rfl,hc,hs,rfl,rfl⟩ | ⟨rfl,u,u',S,S',j,j',rfl,h1,h2,rfl,rfl⟩ | ⟨hw,u,j,rfl,h1,rfl⟩ | ⟨rfl,i,i',u,u',S,S',j,j',rfl,c1,c2,h1,h2,rfl,rfl⟩ | ⟨rfl,i,u,S,j,rfl,c1,h1,rfl,rfl⟩ | ⟨rfl,x,u,X,S,j,rfl,hx,h1,rfl,rfl⟩ | ⟨rfl,u,j,rfl,h1,rfl⟩
 ·rcases hw with rfl | rfl <;> exact ⟨by decide +kernel,.inl ⟨_,rfl⟩⟩
 ·exact ⟨by decide +kernel,.inr (.inl ⟨_,_,rfl⟩)⟩
 ·exact ⟨by decide +kernel,.inr (.inl ⟨_,_,rfl⟩)⟩
 ·rcases hw with rfl | rfl <;> exact ⟨by decide +kernel,.inl ⟨_,rfl⟩⟩
 ·exact ⟨by decide +kernel,.inr (.inr ⟨_,_,_,_,rfl⟩)⟩
 ·exact ⟨by decide +kernel,.inr (.inl ⟨_,_,rfl⟩)⟩
 ·exact ⟨by decide +kernel,.inr (.inl ⟨_,_,rfl⟩)⟩
 ·exact ⟨by decide +kernel,.inl ⟨_,rfl⟩⟩
theorem cZ:∀ n,wD n
 | 0=>fun h=>False.elim h
 | n+1=>by
  rename_i d T k Q;intro h hk q;have ih:wD n:=cZ n;refine cG rfl ?_;unfold gc;rcases h with ⟨rfl,rfl,hw⟩ | ⟨w,J,h,rfl⟩
  ·rcases hw with rfl | rfl | rfl
   ·walk_at "pp";exact q
   ·walk_at "pp";exact q
   ·walk_at "pp";exact q
  ·obtain ⟨hne,sh⟩:=kC h;obtain ⟨z1,z2⟩:=xa (eV n) h;have hin:ngB false (tF ((["plain", "claim", "bound"]:List Str).map .str) (.str w))=false:=by
    show tF ((["plain", "claim", "bound"]:List Str).map .str) (.str w)=false;rw [jZ];exact hne
   have fin:∀ {e:En} {R:RV->En->Prop},e[1]?=some (.dat (.str w))->e[2]?=some (.dat (.str J))->R (.dat (.str (w++("(" : Str)++J++(")" : Str)))) e->WE gds (.fst (.cons (.prm fvP (.cons (.var 1) .nil)) (.cons (.cst (.s "(" (by decide +kernel) (cy _))) (.cons (.prm fvP (.cons (.var 2) .nil)) (.cons (.cst (.s ")" (by decide +kernel) (cy _))) .nil))))) e R:=by
    intro e R e1 e2 r;refine IY (yx (Au (wL (w_var e1 (uv ⟨_,_,rfl,rfl,_,rfl,?_,?_⟩)))))
    ·rw [emp];show _<=2 ^ 24;omega
    rw [emp];refine yx (yF ⟨_,rfl,?_,?_⟩)
    ·show (w++("(" : Str)).length<=2 ^ 24;rw [ae,br1];omega
    refine yx (Au (wL (w_var e2 (uv ⟨_,_,rfl,rfl,_,rfl,?_,?_⟩))))
    ·show (w++("(" : Str)++J).length<=2 ^ 24;rw [ae,ae,br1];omega
    refine yx (yF ⟨_,rfl,?_,?_⟩)
    ·show (w++("(" : Str)++J++(")" : Str)).length<=2 ^ 24;rw [ae,ae,ae,br1,br2];omega
    refine HU ?_ r;show (w++("(" : Str)++J++(")" : Str)).length<=2 ^ 24;rw [ae,ae,ae,br1,br2];omega
   rcases sh with ⟨a,rfl⟩ | ⟨a,b,rfl⟩ | ⟨a,b,c,f,rfl⟩
   ·walk_at "pp";refine lH hin ?_;walk_at "pp";refine ab rfl rfl (da ih h hk ⟨rfl,?_⟩);walk_at "pp";exact fin rfl rfl ⟨_,_,rfl,rfl,q⟩
   ·walk_at "pp";refine lH hin ?_;walk_at "pp";refine ab rfl rfl (da ih h hk ⟨rfl,?_⟩);walk_at "pp";exact fin rfl rfl ⟨_,_,rfl,rfl,q⟩
   ·walk_at "pp";refine lH hin ?_;walk_at "pp";refine ab rfl rfl (da ih h hk ⟨rfl,?_⟩);walk_at "pp";exact fin rfl rfl ⟨_,_,rfl,rfl,q⟩
theorem Ad:(" " : Str).length=1:=by decide
theorem xr {d:PyData} {T:Str} (h:yI d T):T.length<=80400:=by
 obtain ⟨x,X,nm,b,i,u,S,k,rfl,hx,hn,hc,hr,hk,rfl⟩:=h;have z1:=bU hx;have z2:=aO hc.2;have z3:=eV 12 _ _ _ hr;have z4:(yn b).length<=3:=by cases b <;> decide
 have hn:=hn.2.2;have:=bh " " [X,nm,yn b,ag i,S];rw [Ad] at this;simp only [List.map_cons,Kw,J8,List.map_nil,KS,Ky] at this;omega
theorem r8 {X nm S:Str} {b:Bool} {i:Int} (z1:X.length<=61) (z2:(ag i).length<=61) (z3:S.length<=80000) (z4:nm.length<=20):cJ " " [X,nm,yn b,ag i,S]=true:=by
 have z5:(yn b).length<=3:=by cases b <;> decide
 simp only [cJ,KH];rw [Ad];simp only [List.map_cons,Kw,J8,List.map_nil,KS,Ky];omega
theorem rz {d:PyData} {T:Str} {Q:PR->List PyData->Prop} (h:yI d T) (q:Q (.dat (.str T)) []):WF gI [d] Q:=by
 obtain ⟨x,X,nm,b,i,u,S,k,rfl,hx,hn,hc,hr,hk,rfl⟩:=h;have z1:=bU hx;have z2:=aO hc.2;have z3:=eV 12 _ _ _ hr;have jo:=r8 (b:=b) z1 z2 (S:=S) (by omega) (Ks hn.2.2 (by decide));refine cG rfl ?_;unfold j0;cases b with
 | true =>
  walk_at "pp";refine ab rfl rfl (cP hx ⟨rfl,?_⟩);walk_at "pp";refine cu rfl (iM hc.2) ?_;walk_at "pp";refine ab rfl rfl (cZ 12 hr hk ⟨rfl,?_⟩);walk_at "pp";refine gm (ss:=[X,nm,yn true,ag i,S]) rfl rfl jo ?_;walk_at "pp";exact q
 | false =>
  walk_at "pp";refine ab rfl rfl (cP hx ⟨rfl,?_⟩);walk_at "pp";refine cu rfl (iM hc.2) ?_;walk_at "pp";refine ab rfl rfl (cZ 12 hr hk ⟨rfl,?_⟩);walk_at "pp";refine gm (ss:=[X,nm,yn false,ag i,S]) rfl rfl jo ?_;walk_at "pp";exact q
def WCl (st:PyData->En->Option (Option PyData×En)) (ds:List PyData) (ec:En) (R:List PyData->En->Prop):Prop:=∃ ys ec',rN st ds ec=some (ys,ec')/\R ys ec'
theorem qd {st:PyData->En->Option (Option PyData×En)} {js:List Nat} {ds:List PyData} {lk:Option Nat} {e1:En} {Q:RV->En->Prop} (h:WCl st ds (fT e1 lk js) fun ys ec=>Q (.frs (.list ys)) (aW e1 js ec)):Ct st js ds lk e1 Q:=h
theorem fX {st:PyData->En->Option (Option PyData×En)} {ec:En} {R:List PyData->En->Prop} (h:R [] ec):WCl st [] ec R:=⟨_,_,rfl,h⟩
theorem b8 {st:PyData->En->Option (Option PyData×En)} {d:PyData} {ds:List PyData} {ec:En} {R:List PyData->En->Prop} (h:rl st d ec fun y e=>WCl st ds e fun ys e2=>R (y.toList++ys) e2):WCl st (d :: ds) ec R:=by
 obtain ⟨y,e,h1,ys,e2,h2,h3⟩:=h;refine ⟨y.toList++ys,e2,?_,h3⟩;unfold rN;simp only [h1,h2]
theorem ot:∀ {n:Nat} {d:PyData} {T:Str} {k:Nat},Rv n d T k->∃ xs,d=.tuple xs
 | 0,_,_,_,h=>False.elim h
 | n+1,d,T,k,h=>by
  rcases h with ⟨rfl,rfl,hw⟩ | ⟨w,J,h,rfl⟩
  ·exact ⟨_,rfl⟩
  ·obtain ⟨_,sh⟩:=kC h;rcases sh with ⟨a,rfl⟩ | ⟨a,b,rfl⟩ | ⟨a,b,c,f,rfl⟩ <;> exact ⟨_,rfl⟩
def Af (n:Nat):Prop:=∀ {d:PyData} {T:Str} {k:Nat} {Q:PR->List PyData->Prop},Rv n d T k->k<=200->Q (.dat (.str T)) []->WF (aR n) [d] Q
theorem cS {n:Nat} (ih:Af n) {d:PyData} {T:Str} {k:Nat} {Q:PR->List PyData->Prop} (h:lj (Rv n) d T k) (hk:k<=200) (q:Q (.dat (.str T)) []):WF (ji n) [d] Q:=by
 obtain ⟨us,Ss,rfl,ha,hl,rfl⟩:=h;obtain ⟨z1,z2⟩:=D2 (nM (eV n)) ha;refine cG rfl ?_;unfold je;walk_at "pp";refine bT (fun i ys ec=>ys=(Ss.take i).map .str/\ec=[]) ⟨rfl,rfl⟩ ?_ ?_
 ·rintro i d ys ec hd ⟨rfl,rfl⟩;obtain ⟨S,j,⟨x,u,X,Y,rfl,hx,hu,rfl⟩,hj,hS⟩:=ha.get i hd;refine rD rfl ?_;walk_at "pp";refine ab rfl rfl (bL hx ⟨rfl,?_⟩);walk_at "pp";have c1:=bU hx;have c2:=eV n _ _ _ hu;refine ay rfl (by rw [iH];show _<=2 ^ 24;omega) ?_;walk_at "pp";refine aC (lh n) rfl rfl (ih hu (by omega) ⟨rfl,?_⟩);walk_at "pp";refine ay rfl (by rw [ae,iH];show _<=2 ^ 24;omega) ?_;walk_at "pp";exact ⟨by rw [<- LC hS,K0];rfl,rfl⟩
 ·rintro ys ec ⟨rfl,rfl⟩;rw [<- ha.len,K8];walk_at "pp";refine gm (ss:=Ss) rfl rfl (by simp only [cJ,KH];rw [bS];omega) ?_;walk_at "pp";exact q
theorem y9 (s x:Str):Txt.join s [x]=x:=by
 simp [Txt.join,Builtin.Str.glued]
theorem c7:∀ n,Af n
 | 0=>fun h=>False.elim h
 | n+1=>by
  rename_i d T k Q;intro h hk q;have ih:Af n:=c7 n;have lw:=eV n;refine cG rfl ?_;unfold gq;rcases h with ⟨rfl,rfl,hw⟩ | ⟨w,J,h,rfl⟩
  ·walk_at "pp";exact q
  ·rcases h with ⟨hw,u,Ss,j,rfl,hs,rfl,rfl⟩ | ⟨rfl,i,u,Ss,j,rfl,hc,hs,rfl,rfl⟩ | ⟨rfl,u,u',S,S',j,j',rfl,h1,h2,rfl,rfl⟩ | ⟨hw,u,j,rfl,h1,rfl⟩ | ⟨rfl,i,i',u,u',S,S',j,j',rfl,c1,c2,h1,h2,rfl,rfl⟩ | ⟨rfl,i,u,S,j,rfl,c1,h1,rfl,rfl⟩ | ⟨rfl,x,u,X,S,j,rfl,hx,h1,rfl,rfl⟩ | ⟨rfl,u,j,rfl,h1,rfl⟩
   ·obtain ⟨z1,z2⟩:=fP lw hs;obtain ⟨us,rfl,ha,hl⟩:=hs;have jl:=bh ", " Ss;rw [bS] at jl;rcases hw with rfl | rfl
    ·walk_at "pp";refine fU (ds:=[.tuple us]) rfl (qd ?_);refine b8 (aF ?_);walk_at "pp";refine fX ?_;show jE 3 (.frs (.list [])) ([.dat (.tuple [.str "every", .tuple us]),.dat (.str "every"),.dat (.list [.tuple us]),.un]:En) _;walk_at "pp";refine bT (fun i ys ec=>ys=(Ss.take i).map .str/\ec=[]) ⟨rfl,rfl⟩ ?_ ?_
     ·rintro i d ys ec hd ⟨rfl,rfl⟩;obtain ⟨S,m,hs,hj,hS⟩:=ha.get i hd;refine aF ?_;walk_at "pp";refine aC (lh n) rfl rfl (ih hs (by omega) ⟨rfl,?_⟩);walk_at "pp";exact ⟨by rw [<- LC hS,K0];rfl,rfl⟩
     rintro ys ec ⟨rfl,rfl⟩;rw [<- ha.len,K8];walk_at "pp";refine lz rfl (by rw [J5];show 0+_<=2 ^ 24;omega) ?_;walk_at "pp";refine w_j (ss:=Ss) rfl rfl (by omega) ?_;walk_at "pp";refine ay rfl (by rw [ae,br1];have:("every" : Str).length<=6:=(by decide);show _<=2 ^ 24;omega) ?_;walk_at "pp";refine ay rfl (by rw [ae,ae,br1,br2];have:("every" : Str).length<=6:=(by decide);show _<=2 ^ 24;omega) ?_;walk_at "pp";exact q
    ·walk_at "pp";refine fU (ds:=[.tuple us]) rfl (qd ?_);refine b8 (aF ?_);walk_at "pp";refine fX ?_;show jE 3 (.frs (.list [])) ([.dat (.tuple [.str "ends", .tuple us]),.dat (.str "ends"),.dat (.list [.tuple us]),.un]:En) _;walk_at "pp";refine bT (fun i ys ec=>ys=(Ss.take i).map .str/\ec=[]) ⟨rfl,rfl⟩ ?_ ?_
     ·rintro i d ys ec hd ⟨rfl,rfl⟩;obtain ⟨S,m,hs,hj,hS⟩:=ha.get i hd;refine aF ?_;walk_at "pp";refine aC (lh n) rfl rfl (ih hs (by omega) ⟨rfl,?_⟩);walk_at "pp";exact ⟨by rw [<- LC hS,K0];rfl,rfl⟩
     rintro ys ec ⟨rfl,rfl⟩;rw [<- ha.len,K8];walk_at "pp";refine lz rfl (by rw [J5];show 0+_<=2 ^ 24;omega) ?_;walk_at "pp";refine w_j (ss:=Ss) rfl rfl (by omega) ?_;walk_at "pp";refine ay rfl (by rw [ae,br1];have:("ends" : Str).length<=6:=(by decide);show _<=2 ^ 24;omega) ?_;walk_at "pp";refine ay rfl (by rw [ae,ae,br1,br2];have:("ends" : Str).length<=6:=(by decide);show _<=2 ^ 24;omega) ?_;walk_at "pp";exact q
   ·obtain ⟨z1,z2⟩:=fP lw hs;have z3:=aO hc.2;obtain ⟨us,rfl,ha,hl⟩:=hs;have jl:=bh ", " ([ag i]++Ss);rw [bS] at jl;simp only [KR,KD,List.map_cons,Kw,J8] at jl;walk_at "pp";refine fU (ds:=[.int i,.tuple us]) rfl (qd ?_);refine b8 (aF ?_);walk_at "pp";refine cu rfl (iM hc.2) ?_;walk_at "pp";refine b8 (aF ?_);walk_at "pp";refine fX ?_;show jE 3 (.frs (.list [.str (ag i)])) ([.dat (.tuple [.str "alone", .int i,.tuple us]),.dat (.str "alone"),.dat (.list [.int i,.tuple us]),.un]:En) _;walk_at "pp";refine bT (fun i ys ec=>ys=(Ss.take i).map .str/\ec=[]) ⟨rfl,rfl⟩ ?_ ?_
    ·rintro i d ys ec hd ⟨rfl,rfl⟩;obtain ⟨S,m,hs,hj,hS⟩:=ha.get i hd;refine aF ?_;walk_at "pp";refine aC (lh n) rfl rfl (ih hs (by omega) ⟨rfl,?_⟩);walk_at "pp";exact ⟨by rw [<- LC hS,K0];rfl,rfl⟩
    rintro ys ec ⟨rfl,rfl⟩;rw [<- ha.len,K8];walk_at "pp";refine lz rfl (by rw [J5];show 1+_<=2 ^ 24;omega) ?_;walk_at "pp";refine w_j (ss:=[ag i]++Ss) rfl rfl (by simp only [KR,KD,List.map_cons,Kw,J8,List.map_nil,KS,Ky];omega) ?_;walk_at "pp";refine ay rfl (by simp only [ae,br1,KR,KD];have:("alone" : Str).length<=6:=(by decide);show _<=2 ^ 24;omega) ?_;walk_at "pp";refine ay rfl (by simp only [ae,br1,br2,KR,KD];have:("alone" : Str).length<=6:=(by decide);show _<=2 ^ 24;omega) ?_;walk_at "pp";exact q
   ·have z1:=cW lw h1;have z2:=cW lw h2;have e1:=h1;have e2:=h2;obtain ⟨us,Us,rfl,_⟩:=e1;obtain ⟨vs,Vs,rfl,_⟩:=e2;walk_at "pp";refine fU (ds:=[.tuple us,.tuple vs]) rfl (qd ?_);refine b8 (aF ?_);walk_at "pp";refine b8 (aF ?_);walk_at "pp";refine fX ?_;show jE 3 (.frs (.list [])) ([.dat (.tuple [.str "count", .tuple us,.tuple vs]),.dat (.str "count"),.dat (.list [.tuple us,.tuple vs]),.un]:En) _;walk_at "pp";refine ab rfl rfl (cS ih h1 (by omega) ⟨rfl,?_⟩);walk_at "pp";refine ay rfl (by rw [gG];show _<=2 ^ 24;omega) ?_;walk_at "pp";refine ab rfl rfl (cS ih h2 (by omega) ⟨rfl,?_⟩);walk_at "pp";refine ay rfl (by rw [ae,gG];show _<=2 ^ 24;omega) ?_;walk_at "pp";have j1:Txt.join ", " [S++(" / " : Str)++S']=S++(" / " : Str)++S':=y9 _ _;have l1:(S++(" / " : Str)++S').length<=400000:=by rw [ae,ae,gG];omega
    refine w_j (ss:=[S++(" / " : Str)++S']) rfl rfl (by simp only [KR,KD,List.map_cons,Kw,J8,List.map_nil,KS,Ky];omega) ?_;walk_at "pp";rw [j1];refine ay rfl (by rw [ae,br1];have:("count" : Str).length<=6:=(by decide);show _<=2 ^ 24;omega) ?_;walk_at "pp";refine ay rfl (by rw [ae,ae,br1,br2];have:("count" : Str).length<=6:=(by decide);show _<=2 ^ 24;omega) ?_;walk_at "pp";exact q
   ·have z1:=cW lw h1;have e1:=h1;obtain ⟨us,Us,rfl,_⟩:=e1;rcases hw with rfl | rfl
    ·walk_at "pp";refine fU (ds:=[.tuple us]) rfl (qd ?_);refine b8 (aF ?_);walk_at "pp";refine fX ?_;show jE 3 (.frs (.list [])) ([.dat (.tuple [.str "lacks", .tuple us]),.dat (.str "lacks"),.dat (.list [.tuple us]),.un]:En) _;walk_at "pp";refine ab rfl rfl (cS ih h1 (by omega) ⟨rfl,?_⟩);walk_at "pp";have j1:Txt.join ", " [J]=J:=y9 _ _;refine w_j (ss:=[J]) rfl rfl (by simp only [KR,KD,List.map_cons,Kw,J8,List.map_nil,KS,Ky];omega) ?_;walk_at "pp";rw [j1];refine ay rfl (by rw [ae,br1];have:("lacks" : Str).length<=6:=(by decide);show _<=2 ^ 24;omega) ?_;walk_at "pp";refine ay rfl (by rw [ae,ae,br1,br2];have:("lacks" : Str).length<=6:=(by decide);show _<=2 ^ 24;omega) ?_;walk_at "pp";exact q
    ·walk_at "pp";refine fU (ds:=[.tuple us]) rfl (qd ?_);refine b8 (aF ?_);walk_at "pp";refine fX ?_;show jE 3 (.frs (.list [])) ([.dat (.tuple [.str "over", .tuple us]),.dat (.str "over"),.dat (.list [.tuple us]),.un]:En) _;walk_at "pp";refine ab rfl rfl (cS ih h1 (by omega) ⟨rfl,?_⟩);walk_at "pp";have j1:Txt.join ", " [J]=J:=y9 _ _;refine w_j (ss:=[J]) rfl rfl (by simp only [KR,KD,List.map_cons,Kw,J8,List.map_nil,KS,Ky];omega) ?_;walk_at "pp";rw [j1];refine ay rfl (by rw [ae,br1];have:("over" : Str).length<=6:=(by decide);show _<=2 ^ 24;omega) ?_;walk_at "pp";refine ay rfl (by rw [ae,ae,br1,br2];have:("over" : Str).length<=6:=(by decide);show _<=2 ^ 24;omega) ?_;walk_at "pp";exact q
   ·have z1:=lw _ _ _ h1;have z2:=lw _ _ _ h2;have z3:=aO c1.2;have z4:=aO c2.2;obtain ⟨us,rfl⟩:=ot h1;obtain ⟨vs,rfl⟩:=ot h2;have jl:=bh ", " [ag i,ag i',S,S'];rw [bS] at jl;simp only [List.map_cons,Kw,J8,List.map_nil,KS,Ky] at jl;walk_at "pp";refine fU (ds:=[.int i,.int i',.tuple us,.tuple vs]) rfl (qd ?_);refine b8 (aF ?_);walk_at "pp";refine cu rfl (iM c1.2) ?_;walk_at "pp";refine b8 (aF ?_);walk_at "pp";refine cu rfl (iM c2.2) ?_;walk_at "pp";refine b8 (aF ?_);walk_at "pp";refine b8 (aF ?_);walk_at "pp";refine fX ?_;show jE 3 (.frs (.list [.str (ag i),.str (ag i')])) ([.dat (.tuple [.str "two", .int i,.int i',.tuple us,.tuple vs]),.dat (.str "two"),.dat (.list [.int i,.int i',.tuple us,.tuple vs]),.un]:En) _;walk_at "pp";refine fU (ds:=[.tuple us,.tuple vs]) rfl (qd ?_);refine b8 (aF ?_);walk_at "pp";refine aC (lh n) rfl rfl (ih h1 (by omega) ⟨rfl,?_⟩);walk_at "pp";refine b8 (aF ?_);walk_at "pp";refine aC (lh n) rfl rfl (ih h2 (by omega) ⟨rfl,?_⟩);walk_at "pp";refine fX ?_;show WA gds .nil ([.dat (.tuple [.str "two", .int i,.int i',.tuple us,.tuple vs]),.dat (.str "two"),.dat (.list [.int i,.int i',.tuple us,.tuple vs]),.dat (.list [.str (ag i),.str (ag i')])]:En) _;refine uv ?_;refine lz (xs:=[.str (ag i),.str (ag i')]) (ys:=[.str S,.str S']) rfl (by show _<=2 ^ 24;simp) ?_;walk_at "pp";refine w_j (ss:=[ag i,ag i',S,S']) rfl rfl (by simp only [KR,KD,List.map_cons,Kw,J8,List.map_nil,KS,Ky];omega) ?_;walk_at "pp";refine ay rfl (by rw [ae,br1];have:("two" : Str).length<=6:=(by decide);show _<=2 ^ 24;omega) ?_;walk_at "pp";refine ay rfl (by rw [ae,ae,br1,br2];have:("two" : Str).length<=6:=(by decide);show _<=2 ^ 24;omega) ?_;walk_at "pp";exact q
   ·have z1:=lw _ _ _ h1;have z3:=aO c1.2;obtain ⟨us,rfl⟩:=ot h1;have jl:=bh ", " [ag i,S];rw [bS] at jl;simp only [List.map_cons,Kw,J8,List.map_nil,KS,Ky] at jl;walk_at "pp";refine fU (ds:=[.int i,.tuple us]) rfl (qd ?_);refine b8 (aF ?_);walk_at "pp";refine cu rfl (iM c1.2) ?_;walk_at "pp";refine b8 (aF ?_);walk_at "pp";refine fX ?_;show jE 3 (.frs (.list [.str (ag i)])) ([.dat (.tuple [.str "part", .int i,.tuple us]),.dat (.str "part"),.dat (.list [.int i,.tuple us]),.un]:En) _;walk_at "pp";refine fU (ds:=[.tuple us]) rfl (qd ?_);refine b8 (aF ?_);walk_at "pp";refine aC (lh n) rfl rfl (ih h1 (by omega) ⟨rfl,?_⟩);walk_at "pp";refine fX ?_;show WA gds .nil ([.dat (.tuple [.str "part", .int i,.tuple us]),.dat (.str "part"),.dat (.list [.int i,.tuple us]),.dat (.list [.str (ag i)])]:En) _;refine uv ?_;refine lz (xs:=[.str (ag i)]) (ys:=[.str S]) rfl (by show _<=2 ^ 24;simp) ?_;walk_at "pp";refine w_j (ss:=[ag i,S]) rfl rfl (by simp only [KR,KD,List.map_cons,Kw,J8,List.map_nil,KS,Ky];omega) ?_;walk_at "pp";refine ay rfl (by rw [ae,br1];have:("part" : Str).length<=6:=(by decide);show _<=2 ^ 24;omega) ?_;walk_at "pp";refine ay rfl (by rw [ae,ae,br1,br2];have:("part" : Str).length<=6:=(by decide);show _<=2 ^ 24;omega) ?_;walk_at "pp";exact q
   ·have z1:=lw _ _ _ h1;have z3:=bU hx;obtain ⟨us,rfl⟩:=ot h1;have jl:=bh ", " [X,S];rw [bS] at jl;simp only [List.map_cons,Kw,J8,List.map_nil,KS,Ky] at jl;have hx0:=hx;rcases hx0 with ⟨x,rfl,hx1,rfl⟩ | ⟨i,rfl,hx1,rfl⟩ | ⟨x,rfl,hx1,rfl⟩
    ·walk_at "pp";refine fU (ds:=[.str X,.tuple us]) rfl (qd ?_);refine b8 (aF ?_);walk_at "pp";refine b8 (aF ?_);walk_at "pp";refine fX ?_;show jE 3 (.frs (.list [])) ([.dat (.tuple [.str "end", .str X,.tuple us]),.dat (.str "end"),.dat (.list [.str X,.tuple us]),.un]:En) _;walk_at "pp";refine ab rfl rfl (bL hx ⟨rfl,?_⟩);walk_at "pp";refine aC (lh n) rfl rfl (ih h1 (by omega) ⟨rfl,?_⟩);walk_at "pp";refine w_j (ss:=[X,S]) rfl rfl (by simp only [KR,KD,List.map_cons,Kw,J8,List.map_nil,KS,Ky];omega) ?_;walk_at "pp";refine ay rfl (by rw [ae,br1];have:("end" : Str).length<=6:=(by decide);show _<=2 ^ 24;omega) ?_;walk_at "pp";refine ay rfl (by rw [ae,ae,br1,br2];have:("end" : Str).length<=6:=(by decide);show _<=2 ^ 24;omega) ?_;walk_at "pp";exact q
    ·walk_at "pp";refine fU (ds:=[.int i,.tuple us]) rfl (qd ?_);refine b8 (aF ?_);walk_at "pp";refine cu rfl (iM hx1) ?_;walk_at "pp";refine b8 (aF ?_);walk_at "pp";refine fX ?_;show jE 3 (.frs (.list [.str (ag i)])) ([.dat (.tuple [.str "end", .int i,.tuple us]),.dat (.str "end"),.dat (.list [.int i,.tuple us]),.un]:En) _;walk_at "pp";refine ab rfl rfl (bL hx ⟨rfl,?_⟩);walk_at "pp";refine aC (lh n) rfl rfl (ih h1 (by omega) ⟨rfl,?_⟩);walk_at "pp";refine w_j (ss:=[ag i,S]) rfl rfl (by simp only [KR,KD,List.map_cons,Kw,J8,List.map_nil,KS,Ky];omega) ?_;walk_at "pp";refine ay rfl (by rw [ae,br1];have:("end" : Str).length<=6:=(by decide);show _<=2 ^ 24;omega) ?_;walk_at "pp";refine ay rfl (by rw [ae,ae,br1,br2];have:("end" : Str).length<=6:=(by decide);show _<=2 ^ 24;omega) ?_;walk_at "pp";exact q
    ·walk_at "pp";refine fU (ds:=[.tuple [.str x],.tuple us]) rfl (qd ?_);refine b8 (aF ?_);walk_at "pp";refine b8 (aF ?_);walk_at "pp";refine fX ?_;show jE 3 (.frs (.list [])) ([.dat (.tuple [.str "end", .tuple [.str x],.tuple us]),.dat (.str "end"),.dat (.list [.tuple [.str x],.tuple us]),.un]:En) _;walk_at "pp";refine ab rfl rfl (bL hx ⟨rfl,?_⟩);walk_at "pp";refine aC (lh n) rfl rfl (ih h1 (by omega) ⟨rfl,?_⟩);walk_at "pp";refine w_j (ss:=[("'" : Str)++x,S]) rfl rfl (by simp only [KR,KD,List.map_cons,Kw,J8,List.map_nil,KS,Ky];omega) ?_;walk_at "pp";refine ay rfl (by rw [ae,br1];have:("end" : Str).length<=6:=(by decide);show _<=2 ^ 24;omega) ?_;walk_at "pp";refine ay rfl (by rw [ae,ae,br1,br2];have:("end" : Str).length<=6:=(by decide);show _<=2 ^ 24;omega) ?_;walk_at "pp";exact q
   ·have z1:=lw _ _ _ h1;obtain ⟨us,rfl⟩:=ot h1;have j1:Txt.join ", " [J]=J:=y9 _ _;walk_at "pp";refine fU (ds:=[.tuple us]) rfl (qd ?_);refine b8 (aF ?_);walk_at "pp";refine fX ?_;show jE 3 (.frs (.list [])) ([.dat (.tuple [.str "turn", .tuple us]),.dat (.str "turn"),.dat (.list [.tuple us]),.un]:En) _;walk_at "pp";refine fU (ds:=[.tuple us]) rfl (qd ?_);refine b8 (aF ?_);walk_at "pp";refine aC (lh n) rfl rfl (ih h1 (by omega) ⟨rfl,?_⟩);walk_at "pp";refine fX ?_;show WA gds .nil ([.dat (.tuple [.str "turn", .tuple us]),.dat (.str "turn"),.dat (.list [.tuple us]),.dat (.list [])]:En) _;refine uv ?_;refine lz (xs:=[]) (ys:=[.str J]) rfl (by show _<=2 ^ 24;simp) ?_;walk_at "pp";refine w_j (ss:=[J]) rfl rfl (by simp only [KR,KD,List.map_cons,Kw,J8,List.map_nil,KS,Ky];omega) ?_;walk_at "pp";rw [j1];refine ay rfl (by rw [ae,br1];have:("turn" : Str).length<=6:=(by decide);show _<=2 ^ 24;omega) ?_;walk_at "pp";refine ay rfl (by rw [ae,ae,br1,br2];have:("turn" : Str).length<=6:=(by decide);show _<=2 ^ 24;omega) ?_;walk_at "pp";exact q
theorem qV {d:PyData} {T:Str} {Q:PR->List PyData->Prop} (h:yI d T) (q:Q (.dat (.str T)) []):WF gN [d] Q:=by
 obtain ⟨x,X,nm,b,i,u,S,k,rfl,hx,hn,hc,hr,hk,rfl⟩:=h;have z1:=bU hx;have z2:=aO hc.2;have z3:=eV 12 _ _ _ hr;have jo:=r8 (b:=b) z1 z2 (S:=S) (by omega) (Ks hn.2.2 (by decide));refine cG rfl ?_;unfold k9;cases b with
 | true =>
  walk_at "pp";refine ab rfl rfl (bL hx ⟨rfl,?_⟩);walk_at "pp";refine cu rfl (iM hc.2) ?_;walk_at "pp";refine ab rfl rfl (c7 12 hr hk ⟨rfl,?_⟩);walk_at "pp";refine gm (ss:=[X,nm,yn true,ag i,S]) rfl rfl jo ?_;walk_at "pp";exact q
 | false =>
  walk_at "pp";refine ab rfl rfl (bL hx ⟨rfl,?_⟩);walk_at "pp";refine cu rfl (iM hc.2) ?_;walk_at "pp";refine ab rfl rfl (c7 12 hr hk ⟨rfl,?_⟩);walk_at "pp";refine gm (ss:=[X,nm,yn false,ag i,S]) rfl rfl jo ?_;walk_at "pp";exact q
theorem jO.len:∀ {us:List PyData} {Ss:List Str},jO us Ss->Ss.length=us.length
 | [],[],h=>rfl
 | v :: us,T :: Ss,⟨h1,h2⟩=>by rw [J8,J8,jO.len h2]
 | [],_ :: _,h=>False.elim h
 | _ :: _,[],h=>False.elim h
theorem jO.get:∀ {us:List PyData} {Ss:List Str} (i:Nat) {d:PyData},jO us Ss->us[i]?=some d->∃ S,yI d S/\Ss[i]?=some S
 | v :: us,T :: Ss,0,d,⟨h1,h2⟩,hd=>by
  have:v=d:=by simpa using hd
  subst this;exact ⟨T,h1,rfl⟩
 | v :: us,T :: Ss,n+1,d,⟨h1,h2⟩,hd=>by
  obtain ⟨S,a,c⟩:=jO.get n h2 (by simpa using hd);exact ⟨S,a,by simpa using c⟩
 | [],[],i,d,h,hd=>by simp at hd
 | [],_ :: _,_,_,h,_=>False.elim h
 | _ :: _,[],_,_,h,_=>False.elim h
theorem jO.snoc {u:PyData} {S:Str} (hu:yI u S):∀ {us:List PyData} {Ss:List Str},jO us Ss->jO (us++[u]) (Ss++[S])
 | [],[],h=>⟨hu,trivial⟩
 | v :: us,T :: Ss,⟨h1,h2⟩=>⟨h1,jO.snoc hu h2⟩
 | [],_ :: _,h=>False.elim h
 | _ :: _,[],h=>False.elim h
theorem jO.sum:∀ {us:List PyData} {Ss:List Str},jO us Ss->(Ss.map (·.length)).sum<=80400*Ss.length
 | [],[],h=>by simp
 | v :: us,T :: Ss,⟨h1,h2⟩=>by
  have:=jO.sum h2;have:=xr h1;simp only [List.map_cons,Kw,J8];omega
 | [],_ :: _,h=>False.elim h
 | _ :: _,[],h=>False.elim h
theorem zv:("\n" : Str).length=1:=by decide
theorem mR {us:List PyData} {Ss:List Str} {Q:PR->List PyData->Prop} (h:jO us Ss) (hl:us.length<=12) (q:Q (.dat (.str (Txt.join "\n" Ss))) []):WF cx [.list us] Q:=by
 have z0:=h.len;have z1:=h.sum;refine cG rfl ?_;unfold iz;walk_at "pp";refine HR rfl rfl (bT (fun i ys ec=>ys=(Ss.take i).map .str/\ec=[]) ⟨rfl,rfl⟩ ?_ ?_)
 ·rintro i d ys ec hd ⟨rfl,rfl⟩;obtain ⟨S,hs,hS⟩:=h.get i hd;refine aF ?_;walk_at "pp";refine ab rfl rfl (rz hs ⟨rfl,?_⟩);walk_at "pp";exact ⟨by rw [<- LC hS,K0];rfl,rfl⟩
 ·rintro ys ec ⟨rfl,rfl⟩;rw [<- h.len,K8];walk_at "pp";refine gm (ss:=Ss) rfl rfl (by simp only [cJ,KH];rw [zv];omega) ?_;walk_at "pp";exact q
def Low (n:Nat) (R R':Int):Prop:=(R < 2/\R'=R)\/6 - (6*n:Int)<=R'
def n0 (n:Nat):Prop:=∀ {cs:List Int} {p l R d:Int} {ns:List Str} {Q:PR->List PyData->Prop},n<=13->1<=n->d<=n->0<=p->p+1000000*n < 2 ^ 56->0<=l->-120<=R->R<=39->0 < ns.length->ns.length<=8->(∀ x∈ns,Sh x) ->
 (∀ v T (k:Nat) R' p' l',Rv n v T k->Low n R R'->(k:Int)+R'<=1+R->0<=p'->p'+100<=p+200*k->0<=l'->Q (.dat v) [bN cs p' l',.list [.int R']]) ->
 WF (bP n) [bN cs p l,.list (ns.map .str),.list [.int R],.int d] Q
theorem nI {n:Nat} (ih:n0 n) {cs:List Int} {p l R d:Int} {ns:List Str} {Q:PR->List PyData->Prop} (hn:n<=12) (hn1:1<=n) (hd:d<=n) (hp:0<=p) (hb:p+1000000*n+500000 < 2 ^ 56) (hl:0<=l) (hR:-110<=R) (hR2:R<=39) (s0:0 < ns.length) (s1:ns.length<=8) (hs:∀ x∈ns,Sh x)
  (q:∀ v T (k:Nat) R' p' l',lj (Rv n) v T k->(3 - (6*n:Int)<=R'\/R - 3<=R')->(k:Int)+R'<=R->0<=p'->p'<=p+5+200*k->0<=l'->Q (.dat v) [bN cs p' l',.list [.int R']]) :
  WF (uP n) [bN cs p l,.list (ns.map .str),.list [.int R],.int d] Q:=by
 refine cG rfl ?_;unfold wW;walk_at "pp";refine take1 rfl rfl rfl hp (by omega) hl (by decide) (by decide) fun t p1 l1 t0 t1 hp1 hb1 hl1=>?_;walk_at "pp";have hm:(if R < t then R else t)<=3:=by split <;> omega
 have hm2:-110<=(if R < t then R else t):=by split <;> omega
 generalize (if R < t then R else t)=m at hm hm2;refine ⟨⟨by omega,by omega⟩,?_⟩;refine ku (fun i e=>∃ (us:List PyData) (Ss:List Str) (k:Nat) (R' p' l':Int) (x:Sl),us.length=i/\lE (Pair (Rv n)) us Ss k/\(R - i<=R'\/6 - (6*n:Int) - i<=R')/\(k:Int)+R'<=R/\0<=p'/\p'<=p1+200*k/\0<=l'/\soft x/\e=[.ino (bN cs p' l'),.dat (.list (ns.map .str)),.ino (.list [.int R']),.dat (.int d),.own (.list us),x])
  ⟨[],[],0,R,p1,l1,.un,rfl,rfl,.inl (by omega),by omega,hp1,by omega,hl1,qe,rfl⟩ ?_ ?_
 ·rintro i dd e hd' ⟨us,Ss,k,R',p',l',x,hu,ha,hr,hk,hp',hb',hl',hx,rfl⟩;obtain ⟨rfl,hi⟩:=gK hd';refine Bp (ur rfl hx) ?_;walk_at "pp";refine ab rfl rfl (nS hp' (by omega) hl' s0 s1 hs fun v T p2 l2 hv hp2 hb2 hl2=>⟨rfl,?_⟩);show WA gds _ ([.ino (bN cs p2 l2),.dat (.list (ns.map .str)),.ino (.list [.int (R' - 1)]),.dat (.int d),.own (.list us),.dat (.int i)]:En) _;walk_at "pp";refine aC (cc n) rfl rfl (ih (by omega) hn1 hd hp2 (by omega) hl2 (by omega) (by omega) s0 s1 hs fun v2 T2 k2 R2 p3 l3 hv2 low hk2 hp3 hb3 hl3=>⟨rfl,?_⟩);show WA gds _ ([.ino (bN cs p3 l3),.dat (.list (ns.map .str)),.ino (.list [.int R2]),.dat (.int d),.own (.list us),.dat (.int i)]:En) _;walk_at "pp";refine jD rfl (by show _ < 2 ^ 24;omega) rfl ?_;unfold Low at low;exact ⟨us++[.tuple [v,v2]],Ss++[T++(": " : Str)++T2],k+k2,R2,p3,l3,_,by rw [J6,hu];rfl,ha.snoc ⟨v,v2,T,T2,rfl,hv,hv2,rfl⟩,by omega,by omega,hp3,by omega,hl3,jH,rfl⟩
 ·rintro e ⟨us,Ss,k,R',p',l',x,hu,ha,hr,hk,hp',hb',hl',hx,rfl⟩;rw [iI] at hu hr;walk_at "pp";exact q _ _ k R' p' l' ⟨us,Ss,rfl,ha,by omega,rfl⟩ (by omega) hk hp' (by omega) hl'
theorem iL {n:Nat} (ih:n0 n) {cs:List Int} {p l R d:Int} {ns:List Str} {Q:PR->List PyData->Prop} (hn:n<=12) (hn1:1<=n) (hd:d<=n) (hp:0<=p) (hb:p+1000000*n+500000 < 2 ^ 56) (hl:0<=l) (hR:0<=R) (hR2:R<=39) (s0:0 < ns.length) (s1:ns.length<=8) (hs:∀ x∈ns,Sh x)
  (q:∀ v Ss (k:Nat) R' p' l',m8 (Rv n) v Ss k->6 - (6*n:Int)<=R'->(k:Int)+R'<=R->0<=p'->p'<=p+5+200*k->0<=l'->Q (.dat v) [bN cs p' l',.list [.int R']]) :
  WF (mI n) [bN cs p l,.list (ns.map .str),.list [.int R],.int d] Q:=by
 refine cG rfl ?_;unfold mD;walk_at "pp";refine take1 rfl rfl rfl hp (by omega) hl (by decide) (by decide) fun t p1 l1 t0 t1 hp1 hb1 hl1=>?_;walk_at "pp";have hm:(if R < t then R else t)<=4/\0<=(if R < t then R else t)/\(if R < t then R else t)<=R:=by split <;> omega
 generalize (if R < t then R else t)=m at hm;obtain ⟨hm1,hm2,hm3⟩:=hm;refine ⟨⟨by omega,by omega⟩,?_⟩;refine bT (fun i ys ec=>∃ (Ss:List Str) (k:Nat) (R' p' l':Int),ys.length=i/\lE (Rv n) ys Ss k/\6 - (6*n:Int)<=R'/\(k:Int)+R'<=R - m+i/\0<=p'/\p'<=p1+200*k/\0<=l'/\ec=[.ino (bN cs p' l'),.dat (.list (ns.map .str)),.ino (.list [.int R']),.dat (.int d)])
  ⟨[],0,R - m,p1,l1,rfl,rfl,by omega,by omega,hp1,by omega,hl1,rfl⟩ ?_ ?_
 ·rintro i dd ys ec hd' ⟨Ss,k,R',p',l',hu,ha,hr,hk,hp',hb',hl',rfl⟩;obtain ⟨rfl,hi⟩:=gK hd';refine aF ?_;walk_at "pp";refine aC (cc n) rfl rfl (ih (by omega) hn1 hd hp' (by omega) hl' (by omega) (by omega) s0 s1 hs fun v2 T2 k2 R2 p3 l3 hv2 low hk2 hp3 hb3 hl3=>⟨rfl,?_⟩);unfold Low at low;exact ⟨_,rfl,Ss++[T2],k+k2,R2,p3,l3,by rw [J6,hu];rfl,ha.snoc hv2,by omega,by omega,hp3,by omega,hl3,rfl⟩
 ·rintro ys ec ⟨Ss,k,R',p',l',hu,ha,hr,hk,hp',hb',hl',rfl⟩;rw [iI] at hu hk;walk_at "pp";exact q _ _ k R' p' l' ⟨ys,rfl,ha,by omega⟩ (by omega) (by omega) hp' (by omega) hl'
theorem oK:∀ n,n0 n
 | 0=>by
  rename_i cs p l R d ns Q;intro _ h;omega
 | n+1=>by
  rename_i cs p l R d ns Q;intro hn _ hd hp hb hl hR hR2 s0 s1 hs q;have ih:n0 n:=oK n;refine cG rfl ?_;unfold oF;walk_at "pp";refine take1 rfl rfl rfl hp (by omega) hl (by decide) (by decide) fun way p1 l1 way0 way1 hp1 hb1 hl1=>?_;walk_at "q";show WS gds _ ([.ino (bN cs p1 l1),.dat (.list (ns.map .str)),.ino (.list [.int R]),.dat (.int d),.dat (.int way),.un,.un]:En) _;with_reducible refine fc fun N eN=>?_
  have rest:4<=way->2<=d->2<=R->N [.ino (bN cs p1 l1),.dat (.list (ns.map .str)),.ino (.list [.int R]),.dat (.int d),.dat (.int way),.un,.un]:=by
   intro w4 d2 r2;rw [eN];clear eN N;have wc:way=4\/way=5\/way=6\/way=7\/way=8\/way=9\/way=10\/way=11\/way=12\/way=13:=by omega
   have low:∀ R':Int,-(6*n:Int)<=R'->Low (n+1) R R':=fun R' h=>.inr (by omega);rcases wc with rfl | rfl | rfl | rfl | rfl | rfl | rfl | rfl | rfl | rfl
   ·walk_at "pp";refine ab rfl rfl (iL (R:=R) ih (by omega) (by omega) (by omega) hp1 (by omega) hl1 (by omega) (by omega) s0 s1 hs fun v Ss k R2 p3 l3 hv lo hk hp3 hb3 hl3=>⟨rfl,?_⟩);show WA gds _ ([.ino (bN cs p3 l3),.dat (.list (ns.map .str)),.ino (.list [.int R2]),.dat (.int d),.dat (.int 4),.un,.un]:En) _;walk_at "pp";exact q _ _ (k+1) R2 p3 l3 (.inr ⟨"every", _,.inl ⟨.inl rfl,v,Ss,k,rfl,hv,rfl,rfl⟩,rfl⟩) (low _ (by omega)) (by omega) hp3 (by omega) hl3
   ·walk_at "pp";refine ab rfl rfl (iL (R:=R) ih (by omega) (by omega) (by omega) hp1 (by omega) hl1 (by omega) (by omega) s0 s1 hs fun v Ss k R2 p3 l3 hv lo hk hp3 hb3 hl3=>⟨rfl,?_⟩);show WA gds _ ([.ino (bN cs p3 l3),.dat (.list (ns.map .str)),.ino (.list [.int R2]),.dat (.int d),.dat (.int 5),.un,.un]:En) _;walk_at "pp";exact q _ _ (k+1) R2 p3 l3 (.inr ⟨"ends", _,.inl ⟨.inr rfl,v,Ss,k,rfl,hv,rfl,rfl⟩,rfl⟩) (low _ (by omega)) (by omega) hp3 (by omega) hl3
   ·walk_at "pp";refine ab rfl rfl (gY hp1 (by omega) hl1 fun i5 p5 l5 hi5 hp5 hb5 hl5=>⟨rfl,?_⟩);show WA gds _ ([.ino (bN cs p5 l5),.dat (.list (ns.map .str)),.ino (.list [.int R]),.dat (.int d),.dat (.int 6),.un,.un]:En) _;walk_at "pp";refine ab rfl rfl (iL (R:=R) ih (by omega) (by omega) (by omega) hp5 (by omega) hl5 (by omega) (by omega) s0 s1 hs fun v Ss k R2 p3 l3 hv lo hk hp3 hb3 hl3=>⟨rfl,?_⟩);show WA gds _ ([.ino (bN cs p3 l3),.dat (.list (ns.map .str)),.ino (.list [.int R2]),.dat (.int d),.dat (.int 6),.un,.un]:En) _;walk_at "pp";exact q _ _ (k+1) R2 p3 l3 (.inr ⟨"alone", _,.inr (.inl ⟨rfl,i5,v,Ss,k,rfl,hi5,hv,rfl,rfl⟩),rfl⟩) (low _ (by omega)) (by omega) hp3 (by omega) hl3
   ·walk_at "pp";refine ab rfl rfl (nI (R:=R) ih (by omega) (by omega) (by omega) hp1 (by omega) hl1 (by omega) (by omega) s0 s1 hs fun v3 T3 k3 R3 p3 l3 hv3 lo3 hk3 hp3 hb3 hl3=>⟨rfl,?_⟩);show WA gds _ ([.ino (bN cs p3 l3),.dat (.list (ns.map .str)),.ino (.list [.int R3]),.dat (.int d),.dat (.int 7),.un,.un]:En) _;walk_at "pp";refine ab rfl rfl (nI (R:=R3) ih (by omega) (by omega) (by omega) hp3 (by omega) hl3 (by omega) (by omega) s0 s1 hs fun v4 T4 k4 R4 p4 l4 hv4 lo4 hk4 hp4 hb4 hl4=>⟨rfl,?_⟩);show WA gds _ ([.ino (bN cs p4 l4),.dat (.list (ns.map .str)),.ino (.list [.int R4]),.dat (.int d),.dat (.int 7),.un,.un]:En) _;walk_at "pp";exact q _ _ (k3+k4+1) R4 p4 l4 (.inr ⟨"count", _,.inr (.inr (.inl ⟨rfl,v3,v4,T3,T4,k3,k4,rfl,hv3,hv4,rfl,rfl⟩)),rfl⟩) (low _ (by omega)) (by omega) hp4 (by omega) hl4
   ·walk_at "pp";refine ab rfl rfl (nI (R:=R) ih (by omega) (by omega) (by omega) hp1 (by omega) hl1 (by omega) (by omega) s0 s1 hs fun v3 T3 k3 R3 p3 l3 hv3 lo3 hk3 hp3 hb3 hl3=>⟨rfl,?_⟩);show WA gds _ ([.ino (bN cs p3 l3),.dat (.list (ns.map .str)),.ino (.list [.int R3]),.dat (.int d),.dat (.int 8),.un,.un]:En) _;walk_at "pp";exact q _ _ (k3+1) R3 p3 l3 (.inr ⟨"lacks", _,.inr (.inr (.inr (.inl ⟨.inl rfl,v3,k3,rfl,hv3,rfl⟩))),rfl⟩) (low _ (by omega)) (by omega) hp3 (by omega) hl3
   ·walk_at "pp";refine ab rfl rfl (nI (R:=R) ih (by omega) (by omega) (by omega) hp1 (by omega) hl1 (by omega) (by omega) s0 s1 hs fun v3 T3 k3 R3 p3 l3 hv3 lo3 hk3 hp3 hb3 hl3=>⟨rfl,?_⟩);show WA gds _ ([.ino (bN cs p3 l3),.dat (.list (ns.map .str)),.ino (.list [.int R3]),.dat (.int d),.dat (.int 9),.un,.un]:En) _;walk_at "pp";exact q _ _ (k3+1) R3 p3 l3 (.inr ⟨"over", _,.inr (.inr (.inr (.inl ⟨.inr rfl,v3,k3,rfl,hv3,rfl⟩))),rfl⟩) (low _ (by omega)) (by omega) hp3 (by omega) hl3
   ·walk_at "pp";refine ab rfl rfl (gY hp1 (by omega) hl1 fun i5 p5 l5 hi5 hp5 hb5 hl5=>⟨rfl,?_⟩);show WA gds _ ([.ino (bN cs p5 l5),.dat (.list (ns.map .str)),.ino (.list [.int (R - 1 - 1)]),.dat (.int d),.dat (.int 10),.un,.un]:En) _;walk_at "pp";refine ab rfl rfl (gY hp5 (by omega) hl5 fun i6 p6 l6 hi6 hp6 hb6 hl6=>⟨rfl,?_⟩);show WA gds _ ([.ino (bN cs p6 l6),.dat (.list (ns.map .str)),.ino (.list [.int (R - 1 - 1)]),.dat (.int d),.dat (.int 10),.un,.un]:En) _;walk_at "pp";refine aC (cc n) rfl rfl (ih (R:=R - 1 - 1) (by omega) (by omega) (by omega) hp6 (by omega) hl6 (by omega) (by omega) s0 s1 hs fun v3 T3 k3 R3 p3 l3 hv3 lo3 hk3 hp3 hb3 hl3=>⟨rfl,?_⟩);show jE _ _ ([.ino (bN cs p3 l3),.dat (.list (ns.map .str)),.ino (.list [.int R3]),.dat (.int d),.dat (.int 10),.dat (.tuple [.int i5,.int i6]),.un]:En) _;unfold Low at lo3;walk_at "pp";refine aC (cc n) rfl rfl (ih (R:=R3) (by omega) (by omega) (by omega) hp3 (by omega) hl3 (by omega) (by omega) s0 s1 hs fun v4 T4 k4 R4 p4 l4 hv4 lo4 hk4 hp4 hb4 hl4=>⟨rfl,?_⟩);show WA gds _ ([.ino (bN cs p4 l4),.dat (.list (ns.map .str)),.ino (.list [.int R4]),.dat (.int d),.dat (.int 10),.dat (.tuple [.int i5,.int i6]),.dat v3]:En) _;unfold Low at lo4;walk_at "pp";exact q _ _ (k3+k4+1) R4 p4 l4 (.inr ⟨"two", _,.inr (.inr (.inr (.inr (.inl ⟨rfl,i5,i6,v3,v4,T3,T4,k3,k4,rfl,hi5,hi6,hv3,hv4,rfl,rfl⟩)))),rfl⟩) (low _ (by omega)) (by omega) hp4 (by omega) hl4
   ·walk_at "pp";refine ab rfl rfl (gY hp1 (by omega) hl1 fun i5 p5 l5 hi5 hp5 hb5 hl5=>⟨rfl,?_⟩);show WA gds _ ([.ino (bN cs p5 l5),.dat (.list (ns.map .str)),.ino (.list [.int (R - 1)]),.dat (.int d),.dat (.int 11),.un,.un]:En) _;walk_at "pp";refine aC (cc n) rfl rfl (ih (R:=R - 1) (by omega) (by omega) (by omega) hp5 (by omega) hl5 (by omega) (by omega) s0 s1 hs fun v3 T3 k3 R3 p3 l3 hv3 lo3 hk3 hp3 hb3 hl3=>⟨rfl,?_⟩);show WA gds _ ([.ino (bN cs p3 l3),.dat (.list (ns.map .str)),.ino (.list [.int R3]),.dat (.int d),.dat (.int 11),.un,.un]:En) _;unfold Low at lo3;walk_at "pp";exact q _ _ (k3+1) R3 p3 l3 (.inr ⟨"part", _,.inr (.inr (.inr (.inr (.inr (.inl ⟨rfl,i5,v3,T3,k3,rfl,hi5,hv3,rfl,rfl⟩))))),rfl⟩) (low _ (by omega)) (by omega) hp3 (by omega) hl3
   ·walk_at "pp";refine ab rfl rfl (nS hp1 (by omega) hl1 s0 s1 hs fun x5 X5 p5 l5 hi5 hp5 hb5 hl5=>⟨rfl,?_⟩);show WA gds _ ([.ino (bN cs p5 l5),.dat (.list (ns.map .str)),.ino (.list [.int (R - 1)]),.dat (.int d),.dat (.int 12),.un,.un]:En) _;walk_at "pp";refine aC (cc n) rfl rfl (ih (R:=R - 1) (by omega) (by omega) (by omega) hp5 (by omega) hl5 (by omega) (by omega) s0 s1 hs fun v3 T3 k3 R3 p3 l3 hv3 lo3 hk3 hp3 hb3 hl3=>⟨rfl,?_⟩);show WA gds _ ([.ino (bN cs p3 l3),.dat (.list (ns.map .str)),.ino (.list [.int R3]),.dat (.int d),.dat (.int 12),.un,.un]:En) _;unfold Low at lo3;walk_at "pp";exact q _ _ (k3+1) R3 p3 l3 (.inr ⟨"end", _,.inr (.inr (.inr (.inr (.inr (.inr (.inl ⟨rfl,x5,v3,X5,T3,k3,rfl,hi5,hv3,rfl,rfl⟩)))))),rfl⟩) (low _ (by omega)) (by omega) hp3 (by omega) hl3
   ·walk_at "pp";refine aC (cc n) rfl rfl (ih (R:=R - 1) (by omega) (by omega) (by omega) hp1 (by omega) hl1 (by omega) (by omega) s0 s1 hs fun v3 T3 k3 R3 p3 l3 hv3 lo3 hk3 hp3 hb3 hl3=>⟨rfl,?_⟩);show WA gds _ ([.ino (bN cs p3 l3),.dat (.list (ns.map .str)),.ino (.list [.int R3]),.dat (.int d),.dat (.int 13),.un,.un]:En) _;unfold Low at lo3;walk_at "pp";exact q _ _ (k3+1) R3 p3 l3 (.inr ⟨"turn", _,.inr (.inr (.inr (.inr (.inr (.inr (.inr ⟨rfl,v3,k3,rfl,hv3,rfl⟩)))))),rfl⟩) (low _ (by omega)) (by omega) hp3 (by omega) hl3
  have lowL:Low (n+1) R R:=by unfold Low;omega
  walk_at "pp";refine gS (fun e1=>?_) (fun e1=>?_)
  ·walk_at "pp";refine take1 rfl rfl rfl hp1 (by omega) hl1 (by decide) (by decide) fun z p4 l4 z0 z1 hp4 hb4 hl4=>?_;walk_at "pp";obtain ⟨e,he,ee⟩:=atV (xs:=([.str "plain", .str "claim", .str "claim", .str "bound"]:List PyData)) z0 z1;refine tI rfl ee ?_;have hc:∃ T:Str,e=.str T/\(T = "plain" \/ T = "claim" \/ T = "bound"):=by
    simp only [Kd,K3,Lb] at he;rcases he with rfl | rfl | rfl | rfl
    ·exact ⟨_,rfl,.inl rfl⟩
    ·exact ⟨_,rfl,.inr (.inl rfl)⟩
    ·exact ⟨_,rfl,.inr (.inl rfl)⟩
    ·exact ⟨_,rfl,.inr (.inr rfl)⟩
   obtain ⟨T,rfl,hT⟩:=hc;walk_at "pp";exact q _ T 1 R p4 l4 (.inl ⟨rfl,rfl,hT⟩) lowL (by omega) hp4 (by omega) hl4
  ·walk_at "pp";refine gS (fun e2=>?_) (fun e2=>?_)
   ·walk_at "pp";refine take1 rfl rfl rfl hp1 (by omega) hl1 (by decide) (by decide) fun z p4 l4 z0 z1 hp4 hb4 hl4=>?_;walk_at "pp";obtain ⟨e,he,ee⟩:=atV (xs:=([.str "plain", .str "claim", .str "claim", .str "bound"]:List PyData)) z0 z1;refine tI rfl ee ?_;have hc:∃ T:Str,e=.str T/\(T = "plain" \/ T = "claim" \/ T = "bound"):=by
     simp only [Kd,K3,Lb] at he;rcases he with rfl | rfl | rfl | rfl
     ·exact ⟨_,rfl,.inl rfl⟩
     ·exact ⟨_,rfl,.inr (.inl rfl)⟩
     ·exact ⟨_,rfl,.inr (.inl rfl)⟩
     ·exact ⟨_,rfl,.inr (.inr rfl)⟩
    obtain ⟨T,rfl,hT⟩:=hc;walk_at "pp";exact q _ T 1 R p4 l4 (.inl ⟨rfl,rfl,hT⟩) lowL (by omega) hp4 (by omega) hl4
   ·walk_at "pp";refine gS (fun e3=>?_) (fun e3=>?_)
    ·walk_at "pp";refine take1 rfl rfl rfl hp1 (by omega) hl1 (by decide) (by decide) fun z p4 l4 z0 z1 hp4 hb4 hl4=>?_;walk_at "pp";obtain ⟨e,he,ee⟩:=atV (xs:=([.str "plain", .str "claim", .str "claim", .str "bound"]:List PyData)) z0 z1;refine tI rfl ee ?_;have hc:∃ T:Str,e=.str T/\(T = "plain" \/ T = "claim" \/ T = "bound"):=by
      simp only [Kd,K3,Lb] at he;rcases he with rfl | rfl | rfl | rfl
      ·exact ⟨_,rfl,.inl rfl⟩
      ·exact ⟨_,rfl,.inr (.inl rfl)⟩
      ·exact ⟨_,rfl,.inr (.inl rfl)⟩
      ·exact ⟨_,rfl,.inr (.inr rfl)⟩
     obtain ⟨T,rfl,hT⟩:=hc;walk_at "pp";exact q _ T 1 R p4 l4 (.inl ⟨rfl,rfl,hT⟩) lowL (by omega) hp4 (by omega) hl4
    ·walk_at "pp";have e1:=Lf e1;have e2:=Lf e2;have e3:=Lf e3;exact rest (by omega) (by omega) (by omega)
theorem DH {cs:List Int} {p l m:Int} {ns ms:List Str} {Q:PR->List PyData->Prop} (hp:0<=p) (hb:p < 2 ^ 50) (hl:0<=l) (m0:0<=m) (m1:m<=12) (s0:0 < ns.length) (s1:ns.length<=8) (hs:∀ x∈ns,Sh x) (t0:0 < ms.length) (t1:ms.length<=8) (ht:∀ x∈ms,Sh x)
  (q:∀ v T p' l',yI v T->0<=p'->p'<=p+100000->0<=l'->Q (.dat v) [bN cs p' l']):WF wO [bN cs p l,.list (ns.map .str),.list (ms.map .str),.int m] Q:=by
 refine cG rfl ?_;unfold zL;walk_at "pp";refine ab rfl rfl (nS hp (by omega) hl s0 s1 hs fun x X p1 l1 hx hp1 hb1 hl1=>⟨rfl,?_⟩);show jE _ _ ([.ino (bN cs p1 l1),.dat (.list (ns.map .str)),.dat (.list (ms.map .str)),.dat (.int m),.un,.un,.un,.un]:En) _;walk_at "pp";refine take1 (m:=((ms.map PyData.str).length:Nat)) rfl rfl rfl hp1 (by omega) hl1 (by rw [J5];omega) (by rw [J5];omega) fun v p2 l2 v0 v1 hp2 hb2 hl2=>?_;walk_at "pp";obtain ⟨e,he,ee⟩:=atV (xs:=ms.map PyData.str) v0 v1;obtain ⟨nm,hnm,rfl⟩:=Ll.mp he;refine tI rfl ee ?_;clear ee he;show jE _ _ ([.ino (bN cs p2 l2),.dat (.list (ns.map .str)),.dat (.list (ms.map .str)),.dat (.int m),.dat x,.un,.un,.un]:En) _;walk_at "pp";refine take1 rfl rfl rfl hp2 (by omega) hl2 (by decide) (by decide) fun b p3 l3 b0 b1 hp3 hb3 hl3=>?_;walk_at "pp";refine take1 rfl rfl rfl hp3 (by omega) hl3 (by decide) (by decide) fun c p4 l4 c0 c1 hp4 hb4 hl4=>?_;walk_at "pp";obtain ⟨e,he,ee⟩:=atV (xs:=([.int 2,.int 6,.int 12]:List PyData)) c0 c1;refine tI rfl ee ?_;have hc:∃ i:Int,e=.int i/\2<=i/\i<=12:=by
  simp only [Kd,K3,Lb] at he;rcases he with rfl | rfl | rfl <;> exact ⟨_,rfl,by omega,by omega⟩
 obtain ⟨i,rfl,hi0,hi1⟩:=hc;clear ee he;walk_at "pp";have hr:0<=(if i < m then i else m)/\(if i < m then i else m)<=12:=by split <;> omega
 generalize PyData.eqv _ _=bo;show oa _ _ ([.ino (bN cs p4 l4),.dat (.list (ns.map .str)),.dat (.list (ms.map .str)),.dat (.int m),.dat x,.dat (.str nm),.dat (.bool bo),.own (.list [.int (if i < m then i else m)])]:En) _;generalize (if i < m then i else m)=R at hr;obtain ⟨hr0,hr1⟩:=hr;refine ab rfl rfl (gY hp4 (by omega) hl4 fun n p5 l5 hn hp5 hb5 hl5=>⟨rfl,?_⟩);show WA gds _ ([.ino (bN cs p5 l5),.dat (.list (ns.map .str)),.dat (.list (ms.map .str)),.dat (.int m),.dat x,.dat (.str nm),.dat (.bool bo),.own (.list [.int R])]:En) _;walk_at "pp";refine take1 rfl rfl rfl hp5 (by omega) hl5 (by decide) (by decide) fun c p6 l6 c0 c1 hp6 hb6 hl6=>?_;walk_at "pp";obtain ⟨e,he,ee⟩:=atV (xs:=([.int 3,.int 6,.int 12]:List PyData)) c0 c1;refine tI rfl ee ?_;have hc:∃ i:Int,e=.int i/\2<=i/\i<=12:=by
  simp only [Kd,K3,Lb] at he;rcases he with rfl | rfl | rfl <;> exact ⟨_,rfl,by omega,by omega⟩
 obtain ⟨dd,rfl,hd0,hd1⟩:=hc;clear ee he;walk_at "pp";refine aC (cc 12) rfl rfl (oK 12 (R:=R) (by omega) (by omega) (by omega) hp6 (by omega) hl6 (by omega) (by omega) s0 s1 hs fun v3 T3 k3 R3 p7 l7 hv3 lo3 hk3 hp7 hb7 hl7=>⟨rfl,?_⟩);show WA gds _ ([.ino (bN cs p7 l7),.dat (.list (ns.map .str)),.dat (.list (ms.map .str)),.dat (.int m),.dat x,.dat (.str nm),.dat (.bool bo),.own (.list [.int R3])]:En) _;unfold Low at lo3;walk_at "pp";exact q _ _ p7 l7 ⟨x,X,nm,bo,n,v3,T3,k3,rfl,hx,ht nm hnm,hn,hv3,by omega,rfl⟩ hp7 (by omega) hl7
theorem zj {cs:List Int} {p l:Int} {ns ms:List Str} {Q:PR->List PyData->Prop} (hp:0<=p) (hb:p < 2 ^ 40) (hl:0<=l) (s0:0 < ns.length) (s1:ns.length<=8) (hs:∀ x∈ns,Sh x) (t0:0 < ms.length) (t1:ms.length<=8) (ht:∀ x∈ms,Sh x)
  (q:∀ us Ss p' l',jO us Ss->us.length<=12->0<=p'->0<=l'->Q (.frs (.list us)) [bN cs p' l']):WF m7 [bN cs p l,.list (ns.map .str),.list (ms.map .str)] Q:=by
 refine cG rfl ?_;unfold rO;walk_at "pp";refine take1 rfl rfl rfl hp (by omega) hl (by decide) (by decide) fun a p1 l1 a0 a1 hp1 hb1 hl1=>?_;walk_at "pp";refine take1 rfl rfl rfl hp1 (by omega) hl1 (by decide) (by decide) fun b p2 l2 b0 b1 hp2 hb2 hl2=>?_;walk_at "pp";refine take1 rfl rfl rfl hp2 (by omega) hl2 (by decide) (by decide) fun c p3 l3 c0 c1 hp3 hb3 hl3=>?_;walk_at "pp";refine take1 rfl rfl rfl hp3 (by omega) hl3 (by decide) (by decide) fun f p4 l4 f0 f1 hp4 hb4 hl4=>?_;walk_at "pp";obtain ⟨e,he,ee⟩:=atV (xs:=([.int a,.int b,.int c,.int 12]:List PyData)) f0 f1;refine tI rfl ee ?_;have hc:∃ i:Int,e=.int i/\0<=i/\i<=12:=by
  simp only [Kd,K3,Lb] at he;rcases he with rfl | rfl | rfl | rfl <;> exact ⟨_,rfl,by omega,by omega⟩
 obtain ⟨m,rfl,hm0,hm1⟩:=hc;clear ee he;show jE _ _ ([.ino (bN cs p4 l4),.dat (.list (ns.map .str)),.dat (.list (ms.map .str)),.un,.un]:En) _;walk_at "q";refine pV (zY (yF ?_));walk_at "q";with_reducible refine fc fun N eN=>?_
 have rest:∀ mo:Int,0<=mo->mo<=12->N [.ino (bN cs p4 l4),.dat (.list (ns.map .str)),.dat (.list (ms.map .str)),.dat (.int m),.dat (.int mo)]:=by
  intro mo mo0 mo1;rw [eN];walk_at "pp";refine ⟨⟨by omega,by omega⟩,?_⟩;refine bT (fun i ys ec=>∃ (Ss:List Str) (p' l':Int),ys.length=i/\jO ys Ss/\0<=p'/\p'<=p4+100000*i/\0<=l'/\ec=[.ino (bN cs p' l'),.dat (.list (ns.map .str)),.dat (.list (ms.map .str)),.dat (.int mo)])
   ⟨[],p4,l4,rfl,trivial,hp4,by omega,hl4,rfl⟩ ?_ ?_
  ·rintro i dd ys ec hd' ⟨Ss,p',l',hu,ha,hp',hb',hl',rfl⟩;obtain ⟨rfl,hi⟩:=gK hd';refine aF ?_;walk_at "pp";refine ab rfl rfl (DH hp' (by omega) hl' mo0 mo1 s0 s1 hs t0 t1 ht fun v T p5 l5 hv hp5 hb5 hl5=>⟨rfl,?_⟩);exact ⟨_,rfl,Ss++[T],p5,l5,by rw [J6,hu];rfl,ha.snoc hv,hp5,by omega,hl5,rfl⟩
  ·rintro ys ec ⟨Ss,p',l',hu,ha,hp',hb',hl',rfl⟩;rw [iI] at hu;walk_at "pp";exact q _ _ p' l' ha (by omega) hp' hl'
 walk_at "pp";refine gS (fun e5=>?_) (fun e5=>?_)
 ·walk_at "pp";exact rest 2 (by omega) (by omega)
 ·walk_at "pp";exact rest 12 (by omega) (by omega)
abbrev rdr (Z:Str) (ln:Int) (a:Nat):PyData:=.dict [(.str "text", .str Z),(.str "line", .int ln),(.str "at", .int (a:Int))]
theorem B0 {m:Str} {f:Fn} {i:Nat} {avs:List AV} {e:En} {Q:RV->En->Prop} (h:WMr (bD m f) i avs e Q):WMr (bD m f) i avs e Q:=h
theorem Cy {b:Bool} {avs:List AV} {e:En} {Q:RV->En->Prop} (h:WPr (E9 b) avs e Q):WPr (E9 b) avs e Q:=h
section
variable {Z:Str} {ln:Int} {a:Nat} {e:En} {x:AV} {Q:RV->En->Prop}
theorem IS (h:aU e [x]=some [rdr Z ln a]) (q:Q (.dat (.str Z)) e):WPr (gJ "text") [x] e Q:=⟨_,.dat (.str Z),h,rfl,q⟩
theorem Il (h:aU e [x]=some [rdr Z ln a]) (q:Q (.dat (.int ln)) e):WPr (gJ "line") [x] e Q:=⟨_,.dat (.int ln),h,rfl,q⟩
theorem Ib (h:aU e [x]=some [rdr Z ln a]) (q:Q (.dat (.int (a:Int))) e):WPr (gJ "at") [x] e Q:=⟨_,.dat (.int (a:Int)),h,rfl,q⟩
end
local macro_rules | `(tactic| walk_at "pm1")=>`(tactic| ((fail_if_success (with_reducible refine B0 ?_));(fail_if_success (with_reducible refine Cy ?_));first | ((with_reducible refine IS ?e9 ?_);(case e9=>exact rfl)) | ((with_reducible refine Il ?e9 ?_);(case e9=>exact rfl)) | ((with_reducible refine Ib ?e9 ?_);(case e9=>exact rfl)) | walk_at "p"))
local macro_rules | `(tactic| walk_at "pm")=>`(tactic| repeat walk_at "pm1")
local macro_rules | `(tactic| walk_at "pz1")=>`(tactic| ((fail_if_success (with_reducible refine B0 ?_));(fail_if_success (with_reducible refine Cy ?_));first | ((with_reducible refine IS ?e9 ?_);(case e9=>exact rfl)) | ((with_reducible refine Il ?e9 ?_);(case e9=>exact rfl)) | ((with_reducible refine Ib ?e9 ?_);(case e9=>exact rfl)) | walk_at "p0"))
local macro_rules | `(tactic| walk_at "pmz")=>`(tactic| repeat walk_at "pz1")
theorem zp {m:Str} {f:Fn} {ms:List PM} {i:Nat} {avs:List AV} {e:En} {d:PyData} {as:List (Bool×PyData)} {Q:RV->En->Prop} (hm:f.ms=.ino :: ms) (h1:aT e i=some d) (h2:cq e avs=some as) {ds:List PyData} (h3:qD ms as=true) (h4:d :: as.map Prod.snd=ds) (h:WF f ds fun pr outs=>∃ x d',pr=.dat x/\outs=[d']/\Q (.dat x) (gT e i d')):WMr (bD m f) i avs e Q:=by
 subst h4;obtain ⟨pr,outs,hF,x,d',rfl,rfl,q⟩:=h;refine ⟨d,as,d',x,h1,h2,?_,q⟩;show (match f.ms with | .ino :: ms=>if qD ms as=true then (match f.F (d :: as.map Prod.snd) with | some (.dat x,[d'])=>some (d',x) | _=>none) else none | _=>none)=_;rw [hm];show (if qD ms as=true then (match f.F (d :: as.map Prod.snd) with | some (.dat x,[d'])=>some (d',x) | _=>none) else none)=_;rw [Km h3,hF]
theorem qT {f:Str} {i:Nat} {v k:PyData} {rk:RV} {e:En} {kvs kvs':List (PyData×PyData)} {N:En->Prop} (h1:aT e i=some (.dict kvs)) (hk:rk.view e=some k) (h3:f.length<=sizeLine/\PyData.strOk f=true/\kvs.length < 1000) (h2:tX f v kvs=some kvs') (q:N (gT e i (.dict kvs'))):Ea (uC f) i v rk e N :=
 ⟨_,_,.dict kvs',hk,h1,by show (if f.length<=sizeLine/\PyData.strOk f=true/\kvs.length < 1000 then (tX f v kvs).map PyData.dict else none)=_;rw [Km h3,h2];rfl,q⟩
def Rest (Z:Str) (a:Nat) (L:List Nat):Prop:=a<=Z.length/\Z.length<=99000/\Z.cps.toList.drop a=L
theorem Rest.skip {Z:Str} {a:Nat} {W L:List Nat} (h:Rest Z a (W++L)):Rest Z (a+W.length) L:=by
 obtain ⟨h1,h2,h3⟩:=h;have e:=congrArg List.length h3;rw [Lp,ah,J6] at e;refine ⟨by omega,h2,?_⟩;rw [<- List.drop_drop,h3,List.drop_left]
theorem Rest.len {Z:Str} {a:Nat} {L:List Nat} (h:Rest Z a L):a+L.length=Z.length:=by
 have e:=congrArg List.length h.2.2;rw [Lp,ah] at e;have:=h.1;omega
theorem u9 {Z P:Str} {a:Nat} {L:List Nat} (h:Rest Z a L):Txt.startswith3 Z P a=P.cps.toList.isPrefixOf L:=by
 have hl:=h.len;unfold Txt.startswith3;have e:fromIndex Z.length a=a:=by unfold fromIndex;rw [Kr (by omega)];omega
 rw [e];by_cases c:P.cps.toList.isPrefixOf L=true
 ·rw [c];obtain ⟨r,hr⟩:=List.isPrefixOf_iff_prefix.mp c;have l2:=congrArg List.length hr;rw [J6,ah] at l2;rw [Kj (by omega),Lh];unfold Builtin.Str.subAt;rw [LF];apply Array.ext';rw [LR];show (Z.cps.toList.drop a).take (a+P.length - a)=_;rw [h.2.2,<-hr,show a+P.length - a=P.cps.toList.length by rw [ah];omega,List.take_left]
 ·rw [Bool.not_eq_true] at c;rw [c,Bool.and_eq_false_iff];by_cases hp:a+P.length<=Z.length
  ·right;cases q:Builtin.Str.subAt Z P a with
   | false=>rfl
   | true =>
    exfalso;unfold Builtin.Str.subAt at q;rw [LF] at q;have q2:=congrArg Array.toList q;rw [LR] at q2;have q2:(Z.cps.toList.drop a).take (a+P.length - a)=P.cps.toList:=q2;rw [h.2.2] at q2;have:P.cps.toList.isPrefixOf L=true:=List.isPrefixOf_iff_prefix.mpr (by rw [<- q2];exact List.take_prefix _ _);rw [c] at this;cases this
  ·left;exact Kl hp
theorem iP (P L:List Nat):P.isPrefixOf (P++L)=true:=List.isPrefixOf_iff_prefix.mpr ⟨L,rfl⟩
theorem Bn {Z P:Str} {ln:Int} {a:Nat} {L:List Nat} {Q:PR->List PyData->Prop} (h:Rest Z a L) (q:Q (.dat (.bool (P.cps.toList.isPrefixOf L))) [rdr Z ln a]):WF bO [rdr Z ln a,.str P] Q:=by
 refine cG rfl ?_;unfold oZ;walk_at "pm";rw [u9 h];exact q
section
variable {Z P:Str} {ln:Int} {a i:Nat} {b:Bool} {avs:List AV} {e:En} {L:List Nat} {Q:RV->En->Prop}
theorem sY (h1:aT e i=some (rdr Z ln a)) (h2:cq e avs=some [(b,.str P)]) (h:Rest Z a L) (q:Q (.dat (.bool (P.cps.toList.isPrefixOf L))) (gT e i (rdr Z ln a))):WMr (bD "sees" bO) i avs e Q :=
 zp rfl h1 h2 (by cases b <;> rfl) rfl (Bn h ⟨_,_,rfl,rfl,q⟩)
end
theorem AF {Z P:Str} {ln:Int} {a:Nat} {L:List Nat} {Q:PR->List PyData->Prop} (h:Rest Z a (P.cps.toList++L)) (q:Q (.dat .none) [rdr Z ln (a+P.length)]):WF bu [rdr Z ln a,.str P] Q:=by
 have hl:=h.len;have hz:=h.2.1;rw [J6,ah] at hl;refine cG rfl ?_;unfold pO;walk_at "pm";refine sY rfl rfl h ?_;rw [iP];walk_at "pm";refine qT rfl rfl ⟨by decide +kernel,by decide +kernel,K7 rfl⟩ rfl ?_;walk_at "pm";exact q
theorem Aj {Z:Str} {ln:Int} {a:Nat} {Q:PR->List PyData->Prop} (h:Rest Z a []) (q:Q (.dat (.bool true)) [rdr Z ln a]):WF cX [rdr Z ln a] Q:=by
 refine cG rfl ?_;unfold ja;walk_at "pm";have e:(a:Int)=(Z.length:Int):=by have:=h.len;rw [Ky] at this;omega
 simpa [PyData.eqv,e] using q
theorem BC {Z:Str} {ln:Int} {Q:PR->List PyData->Prop} (q:Q (.dat .none) [rdr Z ln 0]):WF kf [.dict [],.str Z,.int ln] Q:=by
 refine cG rfl ?_;unfold o9;walk_at "pm";refine qT rfl rfl ⟨by decide +kernel,by decide +kernel,K7 rfl⟩ rfl ?_;walk_at "pm";refine qT rfl rfl ⟨by decide +kernel,by decide +kernel,K7 rfl⟩ rfl ?_;walk_at "pm";refine qT rfl rfl ⟨by decide +kernel,by decide +kernel,K7 rfl⟩ rfl ?_;walk_at "pm";exact q
noncomputable def wsB (c:Nat):Bool:=chB c||qc c||decide (c=39)||decide (c=45)
def Stp (L:List Nat):Prop:=∀ c r,L=c :: r->wsB c=false
theorem zW (c:Nat):decide (c∈(Str.ofString "abcdefghijklmnopqrstuvwxyz0123456789'-").cps.toList)=wsB c:=by
 by_cases h:c < 123
 ·have:∀ c < 123,decide (c∈(Str.ofString "abcdefghijklmnopqrstuvwxyz0123456789'-").cps.toList)=wsB c:=by decide +kernel
  exact this c h
 ·have h2:∀ d∈(Str.ofString "abcdefghijklmnopqrstuvwxyz0123456789'-").cps.toList,d < 123:=by decide +kernel
  rw [Kl fun z=>h (h2 c z)];unfold wsB chB qc;rw [Kl (p:=c<=122) (by omega),Kl (p:=c<=57) (by omega),Kl (p:=c=39) (by omega),Kl (p:=c=45) (by omega)];simp
theorem CB {e:En} {x y:AV} {c:Nat} {z:Str} {Q:RV->En->Prop} (h1:aU e [x,y]=some [.str ⟨#[c]⟩,.str z]) (q:Q (.dat (.bool (decide (c∈z.cps.toList)))) e):WPr inP [x,y] e Q :=
 ⟨_,.dat (.bool (decide (c∈z.cps.toList))),h1,by rw [<- PySem.StrLaws.found_one z c];rfl,q⟩
theorem Aq {Z:Str} {ln:Int} {a:Nat} {W L:List Nat} {Q:PR->List PyData->Prop} (h:Rest Z a (W++L)) (hW:∀ c∈W,wsB c=true) (hL:Stp L) (q:Q (.dat (.str ⟨W.toArray⟩)) [rdr Z ln (a+W.length)]):WF dO [rdr Z ln a] Q:=by
 have hl:=h.len;have hz:=h.2.1;rw [J6] at hl;refine cG rfl ?_;unfold o6;with_reducible refine pV ?_
 walk_at "pmz";with_reducible refine fc fun N eN=>?_
 have rest:N ([.ino (rdr Z ln (a+W.length)),.dat (.int (a:Int))]:En):=by
  rw [eN];walk_at "pm";have e1:jU Z (some (a:Int)) (some ((a+W.length:Nat):Int))=⟨W.toArray⟩:=by
   refine fj ?_;rw [Cw (by omega) (by omega)];show (Z.cps.toList.take (a+W.length)).drop a=W;rw [List.drop_take,h.2.2,show a+W.length - a=W.length by omega,List.take_left]
  refine ⟨_,.dat (.str ⟨W.toArray⟩),rfl,?_,?_⟩
  ·rw [<- e1];rfl
  ·exact ⟨_,_,rfl,rfl,q⟩
 have at_:∀ j c,(W++L)[j]?=some c->atI Z.cps.toList ((a+j:Nat):Int)=some c:=fun j c hc=>by
  refine nU ?_;rw [<- List.getElem?_drop,h.2.2];exact hc
 refine E1 (fun k e=>∃ j,j+k=W.length/\e=([.ino (rdr Z ln (a+j)),.dat (.int (a:Int))]:En)) W.length (by omega) ⟨0,by omega,rfl⟩ ?_;rintro k e hk ⟨j,hj,rfl⟩;walk_at "pm";by_cases k0:k=0
 ·obtain rfl:j=W.length:=by omega
  cases L with
  | nil =>
   rw [Ky] at hl;refine lH (Kl (by omega)) ?_;exact rest
  | cons c r =>
   rw [J8] at hl;refine wQ (Kj (by omega)) ?_;walk_at "pm";refine wU rfl (at_ W.length c (by simp)) ?_;walk_at "pm";refine CB rfl ?_;rw [zW,hL c r rfl];walk_at "pm";exact rest
 ·have hjl:j < W.length:=by omega
  have hc:(W++L)[j]?=some W[j]:=by rw [KO hjl,J9 hjl]
  refine wQ (Kj (by omega)) ?_;walk_at "pm";refine wU rfl (at_ j _ hc) ?_;walk_at "pm";refine CB rfl ?_;rw [zW,hW _ (List.getElem_mem hjl)];walk_at "pm";refine qT rfl rfl ⟨by decide +kernel,by decide +kernel,K7 rfl⟩ rfl ?_;exact ⟨k - 1,by omega,j+1,by omega,rfl⟩
section
variable {Z P:Str} {ln:Int} {a i:Nat} {b:Bool} {avs:List AV} {e:En} {W L:List Nat} {Q:RV->En->Prop}
theorem jv (h1:aT e i=some (rdr Z ln a)) (h2:cq e avs=some [(b,.str P)]) (h:Rest Z a (P.cps.toList++L)) (q:Q (.dat .none) (gT e i (rdr Z ln (a+P.length)))):WMr (bD "skip" bu) i avs e Q :=
 zp rfl h1 h2 (by cases b <;> rfl) rfl (AF h ⟨_,_,rfl,rfl,q⟩)
theorem sQ (h1:aT e i=some (rdr Z ln a)) (h2:cq e avs=some []) (h:Rest Z a (W++L)) (hW:∀ c∈W,wsB c=true) (hL:Stp L) (q:Q (.dat (.str ⟨W.toArray⟩)) (gT e i (rdr Z ln (a+W.length)))):WMr (bD "word" dO) i avs e Q :=
 zp rfl h1 h2 rfl rfl (Aq h hW hL ⟨_,_,rfl,rfl,q⟩)
theorem D7 (h1:aT e i=some (rdr Z ln a)) (h2:cq e avs=some []) (h:Rest Z a []) (q:Q (.dat (.bool true)) (gT e i (rdr Z ln a))):WMr (bD "is_done" cX) i avs e Q :=
 zp rfl h1 h2 rfl rfl (Aj h ⟨_,_,rfl,rfl,q⟩)
end
theorem qy (i:Int):(ag i).cps.toList=(if i < 0 then [45] else [])++codes i.natAbs:=by
 by_cases h:i < 0
 ·rw [Km h];have:=iX (m:=i.natAbs) (by omega);rw [show (-(i.natAbs:Int))=i by omega] at this;exact this
 ·rw [Kr h];have:=fQ i.natAbs;rw [show ((i.natAbs:Nat):Int)=i by omega] at this;exact this
theorem mC (m:Nat):∃ c r,codes m=c :: r/\48<=c/\c<=57:=by
 cases e:codes m with
 | nil=>exact absurd e (yR m)
 | cons c r =>
  have:=kR m c (by rw [e];exact Ki);exact ⟨c,r,rfl,this⟩
theorem r0 {i:Int}:∀ c∈(ag i).cps.toList,wsB c=true:=fun c hc=>by
 rw [qy] at hc;rcases Ls.mp hc with h | h
 ·split at h
  ·obtain rfl:c=45:=by simpa using h
   rfl
  ·cases h
 ·have:=kR _ c h;unfold wsB qc;rw [Kj this.1,Kj this.2];simp
theorem sC {x:Str} (h:Ltr x):∀ c∈x.cps.toList,wsB c=true:=fun c hc=>by
 have:=h c hc;unfold wsB chB;rw [Kj this.1,Kj this.2];rfl
theorem pb {i:Int} (h:i.natAbs < 10 ^ 30):lp (ag i)=.int i:=by
 obtain ⟨c,r,ec,c0,c1⟩:=mC i.natAbs;have ei:=qy i;have hd:(ag i).cps.toList.head?≠some 39/\∃ k s,(ag i).cps.toList=k :: s/\chB k=false:=by
  rw [ei,ec];split
  ·exact ⟨fun z=>(by have z:some 45=some 39:=z;cases z),45,c :: r,rfl,by decide⟩
  ·refine ⟨fun z=>?_,c,r,rfl,?_⟩
   ·have z:some c=some 39:=z;injection z with z;omega
   ·unfold chB;rw [Kl (p:=97<=c) (by omega)];rfl
 obtain ⟨h0,k,s,es,hk⟩:=hd;have hl:xF (.str (ag i)) 1=false:=by
  show (decide _&&(decide _&&(ag i).cps.toList.all chB))=false;rw [es,List.all_cons,hk];simp
 rw [pS h0 hl];have hf:iD (ag i)=codes i.natAbs/\isNeg (ag i)=decide (i < 0):=by
  by_cases hi:i < 0
  ·rw [Km hi] at ei;exact ⟨m5 ei,(pL ei).trans (Kj hi).symm⟩
  ·rw [Kr hi,KD] at ei;rw [Kl hi];rcases dH (ag i) with ⟨r2,e2,_,_⟩ | ⟨f,g⟩
   ·rw [ei,ec] at e2;injection e2 with e2 _;omega
   ·exact ⟨f.trans ei,g⟩
 have fk:e8 (ag i)=true:=by
  unfold e8;rw [hf.1];have l1:=oW 29 i.natAbs h;have l2:1<=(codes i.natAbs).length:=by rw [ec];simp
  rw [Kj l2,Kj (p:=(codes i.natAbs).length<=30) (by omega),Lh,Lh,Lg];intro d hd;have:=kR _ d hd;unfold qc;rw [Kj this.1,Kj this.2];rfl
 have nv:vg (ag i)=i:=by
  unfold vg;rw [hf.1,hf.2,uS];by_cases hi:i < 0
  ·rw [Kj hi,Km rfl];omega
  ·rw [Kl hi,Kr (by decide)];omega
 have cnd:=(n5 fk).mp (by rw [nv]);unfold tL;rw [Km ⟨fk,cnd⟩,nv]
theorem kJ {d:PyData} {T:Str} (h:jG d T):lp T=d/\(∀ c∈T.cps.toList,wsB c=true)/\T.cps.toList≠[]:=by
 rcases h with ⟨x,rfl,h,rfl⟩ | ⟨i,rfl,h,rfl⟩ | ⟨x,rfl,h,rfl⟩
 ·exact ⟨pw (AN h).1,sC h.1,fun z=>by have e:=ah T;rw [z,Ky] at e;have:=h.2.1;omega⟩
 ·refine ⟨pb h,r0,fun z=>?_⟩;obtain ⟨c,r,ec,_⟩:=mC i.natAbs;rw [qy,ec] at z;split at z <;> cases z
 ·have e:(("'" : Str)++x).cps.toList=39 :: x.cps.toList:=by rw [aI];rfl
  refine ⟨?_,fun c hc=>?_,fun z=>by rw [e] at z;cases z⟩
  ·rw [lZ e,Km];refine ⟨by rw [ah];exact h.2,Lg.mpr fun c hc=>?_⟩;have:=h.1 c hc;unfold chB;rw [Kj this.1,Kj this.2];rfl
  ·rw [e] at hc;rcases Kd.mp hc with rfl | hc
   ·rfl
   ·exact sC h.1 c hc
theorem toStr (T:Str):(⟨T.cps.toList.toArray⟩:Str)=T:=fj rfl
theorem kg {i:Int} {Q:PR->List PyData->Prop} (h:Cnt i) (q:Q (.dat (.int i)) []):WF eH [.str (ag i)] Q:=by
 refine cG rfl ?_;unfold kY;walk_at "pm";refine ab (is:=[]) rfl rfl (iY (Ks (aO h.2) (by decide)) ⟨rfl,?_⟩);rw [pb h.2];walk_at "n";walk_at "pm";refine ab (is:=[]) rfl rfl (rB rfl ⟨rfl,?_⟩);walk_at "pm";refine wQ (Kj h.1) ?_;walk_at "pm";exact q
theorem jR {Z:Str} {ln:Int} {a:Nat} {L:List Nat} {i:Int} {Q:PR->List PyData->Prop} (h:Rest Z a ((ag i).cps.toList++L)) (hi:Cnt i) (hL:Stp L) (q:Q (.dat (.int i)) [rdr Z ln (a+(ag i).length)]):WF bz [rdr Z ln a] Q:=by
 refine cG rfl ?_;unfold iq;walk_at "pm";refine sQ rfl rfl h r0 hL ?_;rw [toStr,ah];walk_at "n";walk_at "pm";refine ab (is:=[]) rfl rfl (kg hi ⟨rfl,?_⟩);walk_at "n";walk_at "pm";exact q
theorem kZ {Z:Str} {ln:Int} {a:Nat} {L:List Nat} {d:PyData} {T:Str} {Q:PR->List PyData->Prop} (h:Rest Z a (T.cps.toList++L)) (hd:jG d T) (hL:Stp L) (q:Q (.dat d) [rdr Z ln (a+T.length)]):WF bJ [rdr Z ln a] Q:=by
 have nr:=kJ hd;refine cG rfl ?_;unfold eR;walk_at "pm";refine sQ rfl rfl h nr.2.1 hL ?_;rw [toStr,ah];walk_at "n";walk_at "pm";refine ab (is:=[]) rfl rfl (iY (Ks (bU hd) (by decide)) ⟨rfl,?_⟩);rw [nr.1];walk_at "n";walk_at "pm";rcases hd with ⟨x,rfl,_⟩ | ⟨i,rfl,_⟩ | ⟨x,rfl,_⟩
 all_goals (walk_at "pm"; exact q)
noncomputable def bc (sp:List Nat) (f:Bool):List Str->List Nat
 | []=>[]
 | S :: Ss=>(if f then [] else sp)++(S.cps.toList++bc sp false Ss)
theorem rJ (s:Str):∀ (ps:List Str) (acc:Array Nat),(ps.foldl (fun acc p=>acc++s.cps++p.cps) acc).toList=acc.toList++bc s.cps.toList false ps
 | [],acc=>by simp [bc]
 | p :: ps,acc=>by
  rw [List.foldl_cons,rJ s ps];simp [bc]
theorem g8 (s:Str) (Ss:List Str):(Txt.join s Ss).cps.toList=bc s.cps.toList true Ss:=by
 cases Ss with
 | nil=>rfl
 | cons x r =>
  show (r.foldl (fun acc p=>acc++s.cps++p.cps) x.cps).toList=_;rw [rJ];rfl
theorem oX:(", " : Str).cps.toList=[44,32]:=by decide +kernel
theorem wo:(": " : Str).cps.toList=[58,32]:=by decide +kernel
theorem se:(" / " : Str).cps.toList=[32,47,32]:=by decide +kernel
theorem vX:("(" : Str).cps.toList=[40]:=by decide +kernel
theorem lq:(")" : Str).cps.toList=[41]:=by decide +kernel
theorem tS {c:Nat} {r:List Nat} (h:wsB c=false):Stp (c :: r):=fun _ _ e=>by cases e;exact h
theorem pM {p c:Nat} {q r:List Nat} (h:p≠c):(p :: q).isPrefixOf (c :: r)=false:=by
 simp [List.isPrefixOf,h]
theorem yX (n:Nat):(aj n).ms=[.ino,.dat]:=by cases n <;> rfl
theorem A6:∀ {n:Nat} {d:PyData} {T:Str} {k:Nat},Rv n d T k->∃ c r,T.cps.toList=c :: r/\wsB c=true
 | 0,_,_,_,h=>h.elim
 | n+1,d,T,k,h=>by
  rcases h with ⟨_,_,rfl | rfl | rfl⟩ | ⟨w,J,h,rfl⟩
  ·exact ⟨_,_,rfl,rfl⟩
  ·exact ⟨_,_,rfl,rfl⟩
  ·exact ⟨_,_,rfl,rfl⟩
  ·have:∃ c r,w.cps.toList=c :: r/\wsB c=true:=by
    rcases h with ⟨rfl | rfl,_⟩ | ⟨rfl,_⟩ | ⟨rfl,_⟩ | ⟨rfl | rfl,_⟩ | ⟨rfl,_⟩ | ⟨rfl,_⟩ | ⟨rfl,_⟩ | ⟨rfl,_⟩ <;> exact ⟨_,_,rfl,rfl⟩
   obtain ⟨c,r,e,hc⟩:=this;rw [aI,aI,aI,e];exact ⟨c,_,rfl,hc⟩
def m6 (n:Nat):Prop:=∀ {d:PyData} {T:Str} {k:Nat} {Z:Str} {ln dep:Int} {a:Nat} {L:List Nat} {Q:PR->List PyData->Prop},Rv n d T k->Rest Z a (T.cps.toList++L)->Stp L->0<=dep->dep+n<=13->Q (.dat d) [rdr Z ln (a+T.length)]->WF (aj n) [rdr Z ln a,.int dep] Q
theorem mY {sp:List Nat} {Ss:List Str} {p:Nat} {L:List Nat} (hs:∃ c r,sp=c :: r/\wsB c=false) (hp:wsB p=false):Stp (bc sp false Ss++p :: L):=by
 cases Ss with
 | nil=>exact tS hp
 | cons S Ss =>
  obtain ⟨c,r,rfl,hc⟩:=hs;exact tS hc
abbrev cm:List Nat:=[44,32]
theorem sf:∃ c r,cm=c :: r/\wsB c=false:=⟨44,[32],rfl,rfl⟩
theorem DP {p c:Nat} (hp:wsB p=false) (hc:wsB c=true):p≠c:=fun z=>by rw [z,hc] at hp;cases hp
theorem fA {n:Nat} (ih:m6 n) {d:PyData} {T:Str} {k:Nat} {Z:Str} {ln dep:Int} {a:Nat} {L:List Nat} {Q:PR->List PyData->Prop} (h:Rv n d T k) (hr:Rest Z a (cm++(T.cps.toList++L))) (hL:Stp L) (d0:0<=dep) (d1:dep+n<=13) (q:Q (.dat d) [rdr Z ln (a+2+T.length)]):WF (aJ (aj n)) [rdr Z ln a,.int dep] Q:=by
 refine cG rfl ?_;unfold cw;walk_at "pm";refine jv rfl rfl (by rw [oX];exact hr) ?_;walk_at "n";walk_at "pm";refine aC (is:=[0]) (yX n) rfl rfl (ih h (hr.skip (W:=cm)) hL d0 d1 ⟨rfl,?_⟩);walk_at "n";walk_at "pm";exact q
theorem tT {n:Nat} (ih:m6 n) {d:PyData} {Ss:List Str} {k:Nat} {Z:Str} {ln dep:Int} {a:Nat} {L:List Nat} {Q:PR->List PyData->Prop} (h:m8 (Rv n) d Ss k) (hr:Rest Z a (bc cm true Ss++41 :: L)) (d0:0<=dep) (d1:dep+n<=13) (q:Q (.dat d) [rdr Z ln (a+(bc cm true Ss).length)]):WF (cB (aj n)) [rdr Z ln a,.int dep] Q:=by
 obtain ⟨us,rfl,hA,hu⟩:=h;refine cG rfl ?_;unfold fu;with_reducible refine pV ?_
 walk_at "pmz";with_reducible refine fc fun N eN=>?_
 have rest:N ([.ino (rdr Z ln (a+(bc cm true Ss).length)),.dat (.int dep),.own (.list us)]:En):=by
  rw [eN];walk_at "pm";exact q
 refine E1 (fun m e=>∃ (us1 us2:List PyData) (Ss2:List Str) (k2 b:Nat),us=us1++us2/\us2.length=m/\lE (Rv n) us2 Ss2 k2/\Rest Z b (bc cm us1.isEmpty Ss2++41 :: L)/\b+(bc cm us1.isEmpty Ss2).length=a+(bc cm true Ss).length/\e=([.ino (rdr Z ln b),.dat (.int dep),.own (.list us1)]:En)) us.length (by omega) ⟨[],us,Ss,k,a,rfl,rfl,hA,hr,rfl,rfl⟩ ?_;rintro m e hm ⟨us1,us2,Ss2,k2,b,rfl,rfl,hA2,hr2,hb,rfl⟩;walk_at "pm";refine sY rfl rfl hr2 ?_;rw [lq]
 match us2,Ss2,hA2 with
 | [],[],_ =>
  have e0:List.isPrefixOf [41] (bc cm us1.isEmpty []++41 :: L)=true:=iP [41] L;rw [e0];walk_at "pm";have hb:b=a+(bc cm true Ss).length:=hb;rw [K6,<-hb] at rest;exact rest
 | u :: us',S :: Ss',hA2 =>
  obtain ⟨j,m2,hu2,hA3,rfl⟩:=hA2;obtain ⟨c,r,ec,hc⟩:=A6 hu2;have e0:List.isPrefixOf [41] (bc cm us1.isEmpty (S :: Ss')++41 :: L)=false:=by
   cases us1 with
   | nil =>
    show List.isPrefixOf [41] (([]++(S.cps.toList++bc cm false Ss'))++41 :: L)=false;rw [ec];exact pM (DP rfl hc)
   | cons _ _=>exact pM (by decide)
  rw [e0];walk_at "pmz";with_reducible refine fc fun N2 eN2=>?_
  have go:∀ (b':Nat),Rest Z b' (S.cps.toList++(bc cm false Ss'++41 :: L))->b'+S.length+(bc cm false Ss').length=a+(bc cm true Ss).length->N2 ([.ino (rdr Z ln b'),.dat (.int dep),.own (.list us1)]:En):=by
   intro b' hr3 hb3;rw [eN2];walk_at "pm";refine aC (is:=[0]) (yX n) rfl rfl (ih hu2 hr3 (mY sf rfl) d0 d1 ⟨rfl,?_⟩);walk_at "n";walk_at "pm";refine jD rfl (by rw [J6] at hu;show _ < 2 ^ 24;omega) rfl ?_;walk_at "pm";refine ⟨us'.length,Ln _,us1++[u],us',Ss',m2,b'+S.length,by simp,rfl,hA3,?_,?_,rfl⟩
   ·rw [show (us1++[u]).isEmpty=false by cases us1 <;> rfl];have:=hr3.skip;rw [ah] at this;exact this
   ·rw [show (us1++[u]).isEmpty=false by cases us1 <;> rfl];exact hb3
  cases us1 with
  | nil =>
   walk_at "pm";refine ⟨rfl,?_⟩;walk_at "pm";refine go b ?_ ?_
   ·have:Rest Z b (([]++(S.cps.toList++bc cm false Ss'))++41 :: L):=hr2
    rwa [KD,Kq] at this
   ·have:b+([]++(S.cps.toList++bc cm false Ss')).length=_:=hb;rw [KD,J6,ah] at this;omega
  | cons v vs =>
   have hr2:Rest Z b ((cm++(S.cps.toList++bc cm false Ss'))++41 :: L):=hr2;rw [Kq,Kq] at hr2;have hb:b+(cm++(S.cps.toList++bc cm false Ss')).length=_:=hb;rw [J6,J6,ah] at hb;walk_at "pm";refine ⟨rfl,?_⟩;walk_at "pm";refine jv rfl rfl (by rw [oX];exact hr2) ?_;walk_at "pm";exact go (b+2) (hr2.skip (W:=cm)) (by have:cm.length=2:=rfl;omega)
theorem qi {n:Nat} (ih:m6 n) {Ss:List Str} {us:List PyData} {k:Nat} {Z P:Str} {ln dep:Int} {a p:Nat} {pr L:List Nat} {Q:PR->List PyData->Prop} (hP:P.cps.toList=p :: pr) (hp:wsB p=false) (hp2:p≠44) (hA:lE (Pair (Rv n)) us Ss k) (hu:us.length<=3) (hr:Rest Z a (bc cm true Ss++p :: L)) (hpl:(p :: pr).isPrefixOf (p :: L)=true) (d0:0<=dep) (d1:dep+n<=13) (q:Q (.dat (.tuple us)) [rdr Z ln (a+(bc cm true Ss).length)]):WF (cV (aj n)) [rdr Z ln a,.str P,.int dep] Q:=by
 refine cG rfl ?_;unfold jA;with_reducible refine pV ?_
 walk_at "pmz";with_reducible refine fc fun N eN=>?_
 have rest:∀ x:Sl,soft x->N ([.ino (rdr Z ln (a+(bc cm true Ss).length)),.dat (.str P),.dat (.int dep),.own (.list us),x]:En):=by
  intro x hx;rw [eN];walk_at "pm";exact q
 refine E1 (fun m e=>∃ (us1 us2:List PyData) (Ss2:List Str) (k2 b:Nat) (x:Sl),us=us1++us2/\us2.length=m/\lE (Pair (Rv n)) us2 Ss2 k2/\Rest Z b (bc cm us1.isEmpty Ss2++p :: L)/\b+(bc cm us1.isEmpty Ss2).length=a+(bc cm true Ss).length/\soft x/\e=([.ino (rdr Z ln b),.dat (.str P),.dat (.int dep),.own (.list us1),x]:En)) us.length (by omega) ⟨[],us,Ss,k,a,.un,rfl,rfl,hA,hr,rfl,qe,rfl⟩ ?_;rintro m e hm ⟨us1,us2,Ss2,k2,b,x,rfl,rfl,hA2,hr2,hb,hx,rfl⟩;walk_at "pm";refine sY rfl rfl hr2 ?_;rw [hP]
 match us2,Ss2,hA2 with
 | [],[],_ =>
  have e0:List.isPrefixOf (p :: pr) (bc cm us1.isEmpty []++p :: L)=true:=hpl;rw [e0];walk_at "pm";have hb:b=a+(bc cm true Ss).length:=hb;rw [K6,<-hb] at rest;exact rest x hx
 | u :: us',S :: Ss',hA2 =>
  obtain ⟨j,m2,⟨xd,ud,X,S1,rfl,hX,hu2,rfl⟩,hA3,rfl⟩:=hA2;have nr:=kJ hX;obtain ⟨c,r,ec,hc⟩:∃ c r,X.cps.toList=c :: r/\wsB c=true:=by
   cases e:X.cps.toList with
   | nil=>exact absurd e nr.2.2
   | cons c r=>exact ⟨c,r,rfl,nr.2.1 c (by rw [e];exact Ki)⟩
  have eS:(X++(": " : Str)++S1).cps.toList=X.cps.toList++([58,32]++S1.cps.toList):=by rw [aI,aI,wo,Kq]
  have lS:(X++(": " : Str)++S1).length=X.length+2+S1.length:=by rw [ae,ae,iH]
  have e0:List.isPrefixOf (p :: pr) (bc cm us1.isEmpty ((X++(": " : Str)++S1) :: Ss')++p :: L)=false:=by
   cases us1 with
   | nil =>
    show List.isPrefixOf (p :: pr) (([]++((X++(": " : Str)++S1).cps.toList++bc cm false Ss'))++p :: L)=false;rw [eS,ec];exact pM (DP hp hc)
   | cons _ _=>exact pM hp2
  rw [e0];walk_at "pmz";with_reducible refine fc fun N2 eN2=>?_
  have go:∀ (b':Nat),Rest Z b' (X.cps.toList++([58,32]++(S1.cps.toList++(bc cm false Ss'++p :: L))))->b'+(X.length+2+S1.length)+(bc cm false Ss').length=a+(bc cm true Ss).length->N2 ([.ino (rdr Z ln b'),.dat (.str P),.dat (.int dep),.own (.list us1),x]:En):=by
   intro b' hr3 hb3;have hr4:=hr3.skip;have hr5:=hr4.skip;rw [ah] at hr4 hr5;rw [eN2];walk_at "pm";refine ab (is:=[0]) rfl rfl (kZ hr3 hX (tS rfl) ⟨rfl,?_⟩);walk_at "n";walk_at "pm";refine jv rfl rfl (by rw [wo];exact hr4) ?_;walk_at "n";walk_at "pm";refine aC (is:=[0]) (yX n) rfl rfl (ih hu2 hr5 (mY sf hp) d0 d1 ⟨rfl,?_⟩);walk_at "n";walk_at "pm";refine jD rfl (by rw [J6] at hu;show _ < 2 ^ 24;omega) rfl ?_;walk_at "pm";refine ⟨us'.length,Ln _,us1++[.tuple [xd,ud]],us',Ss',m2,b'+X.length+2+S1.length,.dat xd,by simp,rfl,hA3,?_,?_,jH,rfl⟩
   ·rw [show (us1++[PyData.tuple [xd,ud]]).isEmpty=false by cases us1 <;> rfl];have:=hr5.skip;rw [ah] at this;exact this
   ·rw [show (us1++[PyData.tuple [xd,ud]]).isEmpty=false by cases us1 <;> rfl];omega
  cases us1 with
  | nil =>
   walk_at "pm";refine ⟨rfl,?_⟩;walk_at "pm";refine go b ?_ ?_
   ·have:Rest Z b (([]++((X++(": " : Str)++S1).cps.toList++bc cm false Ss'))++p :: L):=hr2
    rwa [KD,Kq,eS,Kq,Kq] at this
   ·have:b+([]++((X++(": " : Str)++S1).cps.toList++bc cm false Ss')).length=_:=hb;rw [KD,J6,ah,lS] at this;omega
  | cons v vs =>
   have hr2:Rest Z b ((cm++((X++(": " : Str)++S1).cps.toList++bc cm false Ss'))++p :: L):=hr2;rw [Kq,Kq,eS,Kq,Kq] at hr2;have hb:b+(cm++((X++(": " : Str)++S1).cps.toList++bc cm false Ss')).length=_:=hb;rw [J6,J6,ah,lS] at hb;walk_at "pm";refine ⟨rfl,?_⟩;walk_at "pm";refine jv rfl rfl (by rw [oX];exact hr2) ?_;walk_at "pm";exact go (b+2) (hr2.skip (W:=cm)) (by have:cm.length=2:=rfl;omega)
theorem yy {n:Nat} (ih:m6 n) {d:PyData} {i:Int} {Ss:List Str} {k:Nat} {Z:Str} {ln dep:Int} {a:Nat} {L:List Nat} {Q:PR->List PyData->Prop} (hi:Cnt i) (h:m8 (Rv n) d Ss k) (hr:Rest Z a ((ag i).cps.toList++(bc cm false Ss++41 :: L))) (d0:0<=dep) (d1:dep+n<=13) (q:Q (.dat (.tuple [.str "alone", .int i,d])) [rdr Z ln (a+(ag i).length+(bc cm false Ss).length)]):WF (d7 (aj n)) [rdr Z ln a,.int dep] Q:=by
 obtain ⟨us,rfl,hA,hu⟩:=h;refine cG rfl ?_;unfold iy;with_reducible refine pV ?_
 walk_at "pmz";refine ab (is:=[0]) rfl rfl (jR hr hi (mY sf rfl) ⟨rfl,?_⟩);walk_at "n";walk_at "pmz";with_reducible refine pV ?_
 walk_at "pmz";with_reducible refine fc fun N eN=>?_
 generalize e1:a+(ag i).length=a1 at q ⊢;have hr1:=hr.skip;rw [ah,e1] at hr1;have rest:N ([.ino (rdr Z ln (a1+(bc cm false Ss).length)),.dat (.int dep),.dat (.int i),.own (.list us)]:En):=by
  rw [eN];walk_at "pm";exact q
 refine E1 (fun m e=>∃ (us1 us2:List PyData) (Ss2:List Str) (k2 b:Nat),us=us1++us2/\us2.length=m/\lE (Rv n) us2 Ss2 k2/\Rest Z b (bc cm false Ss2++41 :: L)/\b+(bc cm false Ss2).length=a1+(bc cm false Ss).length/\e=([.ino (rdr Z ln b),.dat (.int dep),.dat (.int i),.own (.list us1)]:En)) us.length (by omega) ⟨[],us,Ss,k,a1,rfl,rfl,hA,hr1,rfl,rfl⟩ ?_;rintro m e hm ⟨us1,us2,Ss2,k2,b,rfl,rfl,hA2,hr2,hb,rfl⟩;walk_at "pm";refine sY rfl rfl hr2 ?_;rw [lq]
 match us2,Ss2,hA2 with
 | [],[],_ =>
  have e0:List.isPrefixOf [41] (bc cm false []++41 :: L)=true:=iP [41] L;rw [e0];walk_at "pm";have hb:b=a1+(bc cm false Ss).length:=hb;rw [K6,<-hb] at rest;exact rest
 | u :: us',S :: Ss',hA2 =>
  obtain ⟨j,m2,hu2,hA3,rfl⟩:=hA2;have e0:List.isPrefixOf [41] (bc cm false (S :: Ss')++41 :: L)=false:=pM (by decide);rw [e0];have hr2:Rest Z b ((cm++(S.cps.toList++bc cm false Ss'))++41 :: L):=hr2;rw [Kq,Kq] at hr2;have hb:b+(cm++(S.cps.toList++bc cm false Ss')).length=_:=hb;rw [J6,J6,ah] at hb;walk_at "pm";refine ab (is:=[0]) rfl rfl (fA ih hu2 hr2 (mY sf rfl) d0 d1 ⟨rfl,?_⟩);walk_at "n";walk_at "pm";refine jD rfl (by rw [J6] at hu;show _ < 2 ^ 24;omega) rfl ?_;walk_at "pm";have hr3:=(hr2.skip (W:=cm)).skip;rw [ah] at hr3;exact ⟨us'.length,Ln _,us1++[u],us',Ss',m2,b+2+S.length,by simp,rfl,hA3,hr3,by have:cm.length=2:=rfl;omega,rfl⟩
theorem El {n:Nat} (ih:m6 n) {u u':PyData} {i i':Int} {S S':Str} {k k':Nat} {Z:Str} {ln dep:Int} {a:Nat} {L:List Nat} {Q:PR->List PyData->Prop} (hi:Cnt i) (hi':Cnt i') (h:Rv n u S k) (h':Rv n u' S' k') (hr:Rest Z a ((ag i).cps.toList++(cm++((ag i').cps.toList++(cm++(S.cps.toList++(cm++(S'.cps.toList++L)))))))) (hL:Stp L) (d0:0<=dep) (d1:dep+n<=13) (q:Q (.dat (.tuple [.str "two", .int i,.int i',u,u'])) [rdr Z ln (a+(ag i).length+2+(ag i').length+2+S.length+2+S'.length)]):WF (gO (aj n)) [rdr Z ln a,.int dep] Q:=by
 have r1:=hr.skip;have r2:=r1.skip;have r3:=r2.skip;have r4:=(r3.skip (W:=cm)).skip;rw [ah] at r1 r2 r3 r4;rw [ah] at r3 r4;rw [ah] at r4;refine cG rfl ?_;unfold kN;walk_at "pm";refine ab (is:=[0]) rfl rfl (jR hr hi (tS rfl) ⟨rfl,?_⟩);walk_at "n";walk_at "pm";refine jv rfl rfl (by rw [oX];exact r1) ?_;walk_at "n";walk_at "pm";refine ab (is:=[0]) rfl rfl (jR r2 hi' (tS rfl) ⟨rfl,?_⟩);walk_at "n";walk_at "pm";refine ab (is:=[0]) rfl rfl (fA ih h r3 (tS rfl) d0 d1 ⟨rfl,?_⟩);walk_at "n";walk_at "pm";refine ab (is:=[0]) rfl rfl (fA ih h' r4 hL d0 d1 ⟨rfl,?_⟩);walk_at "n";walk_at "pm";exact q
theorem jc (Ss:List Str):(Txt.join ", " Ss).cps.toList=bc cm true Ss:=by rw [g8,oX]
theorem jl (Ss:List Str):(Txt.join ", " Ss).length=(bc cm true Ss).length:=by rw [<- ah,jc]
theorem yZ {n:Nat} (ih:m6 n) {u u':PyData} {S S':Str} {k k':Nat} {Z:Str} {ln dep:Int} {a:Nat} {L:List Nat} {Q:PR->List PyData->Prop} (h:lj (Rv n) u S k) (h':lj (Rv n) u' S' k') (hr:Rest Z a (S.cps.toList++([32,47,32]++(S'.cps.toList++41 :: L)))) (d0:0<=dep) (d1:dep+n<=13) (q:Q (.dat (.tuple [.str "count", u,u'])) [rdr Z ln (a+S.length+3+S'.length)]):WF (eJ (aj n)) [rdr Z ln a,.int dep] Q:=by
 obtain ⟨us,Ss,rfl,hA,hu,rfl⟩:=h;obtain ⟨us',Ss',rfl,hA',hu',rfl⟩:=h';have r1:=hr.skip;have r2:=r1.skip;rw [ah] at r1 r2;rw [jc] at hr r2;rw [jl,jl] at q;rw [jl] at r1 r2;refine cG rfl ?_;unfold il;walk_at "pm";refine ab (is:=[0]) rfl rfl (qi ih se rfl (by decide) hA hu hr (iP [32,47,32] _) d0 d1 ⟨rfl,?_⟩);walk_at "n";walk_at "pm";refine jv rfl rfl (by rw [se];exact r1) ?_;walk_at "n";walk_at "pm";refine ab (is:=[0]) rfl rfl (qi ih lq rfl (by decide) hA' hu' r2 (iP [41] L) d0 d1 ⟨rfl,?_⟩);walk_at "n";walk_at "pm";exact q
theorem u7 {n:Nat} (ih:m6 n) {d:PyData} {w J:Str} {k:Nat} {Z:Str} {ln dep:Int} {a:Nat} {L:List Nat} {Q:PR->List PyData->Prop} (h:RIn (Rv n) d w J k) (hr:Rest Z a (J.cps.toList++41 :: L)) (d0:0<=dep) (d1:dep+n<=13) (q:Q (.dat d) [rdr Z ln (a+J.length)]):WF (c6 (aj n)) [rdr Z ln a,.str w,.int dep] Q:=by
 have r2:∀ A B:Str,bc cm true [A,B]=A.cps.toList++(cm++B.cps.toList):=fun A B=>by simp [bc]
 refine cG rfl ?_;unfold f7;rcases h with ⟨hw,u,Ss,j,rfl,hs,rfl,rfl⟩ | ⟨rfl,i,u,Ss,j,rfl,hc,hs,rfl,rfl⟩ | ⟨rfl,u,u',S,S',j,j',rfl,h1,h2,rfl,rfl⟩ | ⟨hw,u,j,rfl,h1,rfl⟩ | ⟨rfl,i,i',u,u',S,S',j,j',rfl,c1,c2,h1,h2,rfl,rfl⟩ | ⟨rfl,i,u,S,j,rfl,c1,h1,rfl,rfl⟩ | ⟨rfl,x,u,X,S,j,rfl,hx,h1,rfl,rfl⟩ | ⟨rfl,u,j,rfl,h1,rfl⟩
 ·rw [jc] at hr;rw [jl] at q;rcases hw with rfl | rfl
  all_goals
   walk_at "pp";refine ab (is:=[0]) rfl rfl (tT ih hs hr d0 d1 ⟨rfl,?_⟩);walk_at "n";walk_at "pp";exact q
 ·rw [jc] at hr;rw [jl] at q;have e:bc cm true ([ag i]++Ss)=(ag i).cps.toList++bc cm false Ss:=rfl;rw [e,Kq] at hr;rw [e,J6,ah,<-Lm] at q;walk_at "pp";refine ab (is:=[0]) rfl rfl (yy ih hc hs hr d0 d1 ⟨rfl,?_⟩);walk_at "n";walk_at "pp";exact q
 ·rw [aI,aI,se,Kq,Kq] at hr;rw [ae,ae,gG,<-Lm,<-Lm] at q;walk_at "pp";refine ab (is:=[0]) rfl rfl (yZ ih h1 h2 hr d0 d1 ⟨rfl,?_⟩);walk_at "n";walk_at "pp";exact q
 ·obtain ⟨us,Ss,rfl,hA,hu,rfl⟩:=h1;rw [jc] at hr;rw [jl] at q;rcases hw with rfl | rfl
  all_goals
   walk_at "pp";refine ab (is:=[0]) rfl rfl (qi ih lq rfl (by decide) hA hu hr (iP [41] L) d0 d1 ⟨rfl,?_⟩);walk_at "n";walk_at "pp";exact q
 ·have e:bc cm true [ag i,ag i',S,S']=(ag i).cps.toList++(cm++((ag i').cps.toList++(cm++(S.cps.toList++(cm++S'.cps.toList))))):=by simp [bc]
  rw [jc,e] at hr;simp only [Kq] at hr;have el:(Txt.join ", " [ag i,ag i',S,S']).length=(ag i).length+2+(ag i').length+2+S.length+2+S'.length:=by
   rw [jl,e];simp only [J6,ah];have:cm.length=2:=rfl;omega
  rw [el] at q;walk_at "pp";refine ab (is:=[0]) rfl rfl (El ih c1 c2 h1 h2 hr (tS rfl) d0 d1 ⟨rfl,?_⟩);walk_at "n";walk_at "pp";simpa only [Lm] using q
 ·rw [jc,r2,Kq,Kq] at hr;have el:(Txt.join ", " [ag i,S]).length=(ag i).length+2+S.length:=by
   rw [jl,r2];simp only [J6,ah];have:cm.length=2:=rfl;omega
  rw [el] at q;have hr2:=hr.skip;rw [ah] at hr2;walk_at "pp";refine ab (is:=[0]) rfl rfl (jR hr c1 (tS rfl) ⟨rfl,?_⟩);walk_at "n";walk_at "pp";refine ab (is:=[0]) rfl rfl (fA ih h1 hr2 (tS rfl) d0 d1 ⟨rfl,?_⟩);walk_at "n";walk_at "pp";rw [<- Lm,<-Lm] at q;exact q
 ·rw [jc,r2,Kq,Kq] at hr;have el:(Txt.join ", " [X,S]).length=X.length+2+S.length:=by
   rw [jl,r2];simp only [J6,ah];have:cm.length=2:=rfl;omega
  rw [el] at q;have hr2:=hr.skip;rw [ah] at hr2;walk_at "pp";refine ab (is:=[0]) rfl rfl (kZ hr hx (tS rfl) ⟨rfl,?_⟩);walk_at "n";walk_at "pp";refine ab (is:=[0]) rfl rfl (fA ih h1 hr2 (tS rfl) d0 d1 ⟨rfl,?_⟩);walk_at "n";walk_at "pp";rw [<- Lm,<-Lm] at q;exact q
 ·walk_at "pp";refine aC (is:=[0]) (yX n) rfl rfl (ih h1 hr (tS rfl) d0 d1 ⟨rfl,?_⟩);walk_at "n";walk_at "pp";exact q
theorem zT {P:PyData->Str->Nat->Prop} {d:PyData} {w J:Str} {k:Nat} (h:RIn P d w J k):∀ c∈w.cps.toList,wsB c=true:=by
 rcases h with ⟨rfl | rfl,_⟩ | ⟨rfl,_⟩ | ⟨rfl,_⟩ | ⟨rfl | rfl,_⟩ | ⟨rfl,_⟩ | ⟨rfl,_⟩ | ⟨rfl,_⟩ | ⟨rfl,_⟩ <;> decide +kernel
theorem fZ:∀ n,m6 n
 | 0=>fun h=>False.elim h
 | n+1=>by
  rename_i d T k Z ln dep a L Q;intro h hr hL d0 d1 q;have ih:m6 n:=fZ n;refine cG rfl ?_;unfold gj;walk_at "pm";refine lH (Kl (by omega)) ?_;walk_at "pm";rcases h with ⟨rfl,rfl,hw⟩ | ⟨w,J,h,rfl⟩
  ·have hw2:(∀ c∈T.cps.toList,wsB c=true)/\((["plain", "claim", "bound"]:List Str).any fun s=>decide (s=T))=true:=by
    rcases hw with rfl | rfl | rfl <;> exact ⟨by decide +kernel,by decide +kernel⟩
   refine sQ rfl rfl hr hw2.1 hL ?_;rw [toStr,ah];walk_at "n";walk_at "pm";refine w_inS ["plain", "claim", "bound"] rfl ?_;rw [hw2.2];walk_at "pm";exact q
  ·obtain ⟨hne,sh⟩:=kC h;have hr:Rest Z a (w.cps.toList++([40]++(J.cps.toList++([41]++L)))):=by
    rw [aI,aI,aI,vX,lq,Kq,Kq,Kq] at hr;exact hr
   have r1:=hr.skip;have r2:=r1.skip;have r3:=r2.skip;rw [ah] at r1 r2 r3;rw [ah] at r3;have el:(w++("(" : Str)++J++(")" : Str)).length=w.length+1+J.length+1:=by rw [ae,ae,ae,br1,br2]
   rw [el] at q;refine sQ rfl rfl hr (zT h) (tS rfl) ?_;rw [toStr,ah];walk_at "n";walk_at "pm";refine w_inS ["plain", "claim", "bound"] rfl ?_;rw [hne];walk_at "pm";refine jv rfl rfl (by rw [vX];exact r1) ?_;walk_at "n";walk_at "pm";refine ab (is:=[0]) rfl rfl (u7 ih h r2 (by omega) (by omega) ⟨rfl,?_⟩);walk_at "n";walk_at "pm";refine jv rfl rfl (by rw [lq];exact r3) ?_;walk_at "n";walk_at "pm";rw [<- Lm,<-Lm,<-Lm] at q;exact q
noncomputable def xU (c:Nat):List Nat->Nat->Nat->List Nat
 | [],_,_=>[]
 | x :: r,i,lim=>if x=c/\0 < lim then i :: xU c r (i+1) (lim - 1) else xU c r (i+1) lim
theorem u2 (x:Str) (c i:Nat):Builtin.Str.subAt x ⟨#[c]⟩ i=decide (x.cps.toList[i]?=some c):=by
 unfold Builtin.Str.subAt;show (x.cps.extract i (i+1)==#[c])=_;by_cases h:x.cps.toList[i]?=some c
 ·rw [Kj h,LF];apply Array.ext';rw [LR];show (x.cps.toList.drop i).take (i+1 - i)=[c];obtain ⟨hi,e⟩:=Ka.mp h;rw [Lr hi,e,show i+1 - i=1 by omega];rfl
 ·rw [Kl h,Lw];intro z;have z:=congrArg Array.toList z;rw [LR] at z;have z:(x.cps.toList.drop i).take (i+1 - i)=[c]:=z;apply h;have:=congrArg (fun l=>l[0]?) z;rw [show i+1 - i=1 by omega] at this;simpa using this
theorem qJ (x:Str) (c lim:Nat):∀ (m i free:Nat) (fd:Array Nat),i+m=x.length+1->free<=i->fd.size<=lim->(forIn (List.range' i m) (fd,free) (StrLaws.occBody x ⟨#[c]⟩ x.length lim)).run.fst.toList=fd.toList++xU c (x.cps.toList.drop i) i (lim - fd.size)
 | 0,i,free,fd,hi,hf,hz=>by
  rw [L5 (by rw [ah];omega)];simp [xU]
 | m+1,i,free,fd,hi,hf,hz=>by
  rw [List.range'_succ,List.forIn_cons];have hs:(⟨#[c]⟩:Str).length=1:=rfl;by_cases hl:i < x.length
  ·have hl2:i < x.cps.toList.length:=by rw [ah];exact hl
   rw [Lr hl2];by_cases hc:x.cps.toList[i]=c/\0 < lim - fd.size
   ·have hb:StrLaws.occBody x ⟨#[c]⟩ x.length lim i (fd,free)=pure (ForInStep.yield (fd.push i,i+1)):=by
     unfold StrLaws.occBody;rw [Km]
     ·rfl
     ·refine ⟨⟨⟨by show fd.size < lim;omega,hf⟩,by rw [hs];omega⟩,?_⟩;rw [u2,Kj];rw [J9 hl2,hc.1]
    rw [hb];show (forIn (List.range' (i+1) m) (fd.push i,i+1) (StrLaws.occBody x ⟨#[c]⟩ x.length lim)).run.fst.toList=_;rw [qJ x c lim m (i+1) (i+1) (fd.push i) (by omega) (Ke _) (by rw [Array.size_push];omega)];show _=_++(if x.cps.toList[i]=c/\0 < lim - fd.size then _ else _);rw [Km hc,Array.size_push,show lim - (fd.size+1)=lim - fd.size - 1 by omega];simp
   ·have hb:StrLaws.occBody x ⟨#[c]⟩ x.length lim i (fd,free)=pure (ForInStep.yield (fd,free)):=by
     unfold StrLaws.occBody;rw [Kr];rintro ⟨⟨⟨z1,_⟩,_⟩,z2⟩;have z1:fd.size < lim:=z1;rw [u2] at z2;have z2:=K2 z2;rw [J9 hl2] at z2;exact hc ⟨KN z2,by omega⟩
    rw [hb];show (forIn (List.range' (i+1) m) (fd,free) (StrLaws.occBody x ⟨#[c]⟩ x.length lim)).run.fst.toList=_;rw [qJ x c lim m (i+1) free fd (by omega) (by omega) hz];show _=_++(if x.cps.toList[i]=c/\0 < lim - fd.size then _ else _);rw [Kr hc]
  ·have hb:StrLaws.occBody x ⟨#[c]⟩ x.length lim i (fd,free)=pure (ForInStep.yield (fd,free)):=by
    unfold StrLaws.occBody;rw [Kr];rintro ⟨⟨_,z⟩,_⟩;rw [hs] at z;omega
   rw [hb];show (forIn (List.range' (i+1) m) (fd,free) (StrLaws.occBody x ⟨#[c]⟩ x.length lim)).run.fst.toList=_;have e:m=0:=by omega
   subst e;rw [L5 (by rw [ah];omega)];simp [xU]
theorem k6 {c:Nat}:∀ {A R:List Nat} {i lim:Nat},c ∉ A->0 < lim->xU c (A++c :: R) i lim=(i+A.length) :: xU c R (i+A.length+1) (lim - 1)
 | [],R,i,lim,_,h=>by
  show (if c=c/\0 < lim then _ else _)=_;rw [Km ⟨rfl,h⟩];rfl
 | x :: A,R,i,lim,ha,h=>by
  show (if x=c/\0 < lim then _ else xU c (A++c :: R) (i+1) lim)=_;rw [Kr fun z=>ha (by rw [z.1];exact Ki),k6 (fun z=>ha (Kb _ z)) h,J8,show i+1+A.length=i+(A.length+1) by omega]
theorem pos_0 {c:Nat}:∀ {A:List Nat} {i:Nat},xU c A i 0=[]
 | [],_=>rfl
 | x :: A,i=>by
  show (if x=c/\0 < 0 then _ else _)=_;rw [Kr fun z=>absurd z.2 (by decide),pos_0]
theorem kL {x:Str} {a:Nat} {A R:List Nat} (h:x.cps.toList.drop a=A++R):Builtin.Str.strSub x a (a+A.length)=⟨A.toArray⟩:=by
 refine fj ?_;show (x.cps.extract a (a+A.length)).toList=A;rw [LR];show (x.cps.toList.drop a).take (a+A.length - a)=A;rw [h,show a+A.length - a=A.length by omega,List.take_left]
theorem dr {x:Str} {a:Nat} {A R:List Nat} {c:Nat} (h:x.cps.toList.drop a=A++c :: R):x.cps.toList.drop (a+A.length+1)=R:=by
 rw [show a+A.length+1=a+(A.length+1) by omega,<-List.drop_drop,h,show A++c :: R=(A++[c])++R by simp,show A.length+1=(A++[c]).length by simp,List.drop_left]
theorem Cm {T A B C D E:Str} (hT:T.cps.toList=A.cps.toList++32 :: (B.cps.toList++32 :: (C.cps.toList++32 :: (D.cps.toList++32 :: E.cps.toList)))) (hA:32 ∉ A.cps.toList) (hB:32 ∉ B.cps.toList) (hC:32 ∉ C.cps.toList) (hD:32 ∉ D.cps.toList):Txt.splitMax T " " 4=[A,B,C,D,E]:=by
 have es:(" " : Str)=⟨#[32]⟩:=by decide +kernel
 have hl:T.length=T.cps.toList.length:=(ah T).symm;have hocc:Builtin.Str.occurrences T " " 0 T.length (limitOf T 4)=[A.length,A.length+1+B.length,A.length+1+B.length+1+C.length,A.length+1+B.length+1+C.length+1+D.length]:=by
  rw [es,StrLaws.occ_eq,show limitOf T 4=4 from rfl,qJ T 32 4 (T.length+1 - 0) 0 0 #[] (by omega) (Ke _) (by decide)];rw [List.drop_zero,hT,show 4 - (#[]:Array Nat).size=4 from rfl,k6 hA (by decide),k6 hB (by decide),k6 hC (by decide),k6 hD (by decide),pos_0];simp only [ah,Nat.zero_add];rfl
 unfold Txt.splitMax;rw [Kr,hocc,Kr (by simp),StrLaws.partsBetween_eq]
 ·have d1:T.cps.toList.drop 0=A.cps.toList++32 :: _:=hT;have d2:=dr d1;have d3:=dr d2;have d4:=dr d3;have d5:=dr d4;have c1:=kL d1;have c2:=kL d2;have c3:=kL d3;have c4:=kL d4;have c5:=kL (d5.trans (K6 _).symm);have eL:T.length=0+A.cps.toList.length+1+B.cps.toList.length+1+C.cps.toList.length+1+D.cps.toList.length+1+E.cps.toList.length:=by
   rw [hl,hT];simp only [J6,J8];omega
  rw [toStr] at c1 c2 c3 c4 c5;rw [<- eL] at c5;simp only [ah,Nat.zero_add] at c1 c2 c3 c4 c5;rw [StrLaws.partsFrom.eq_2,StrLaws.partsFrom.eq_2,StrLaws.partsFrom.eq_2,StrLaws.partsFrom.eq_2,StrLaws.partsFrom.eq_1,show (" " : Str).length=1 by decide,c1,c2,c3,c4,c5]
 ·rw [LB,not_or,KH,KH];refine ⟨?_,?_⟩
  ·rw [show (" " : Str).length=1 by decide,hl,hT];simp only [J6,J8];omega
  ·rw [show Builtin.Str.strKind " " = 1 by decide +kernel];unfold Builtin.Str.strKind;split
   ·decide
   ·split <;> decide
theorem gH {c:Nat} (h:wsB c=true):c≠10/\c≠32:=⟨fun z=>(by rw [z] at h;cases h),fun z=>(by rw [z] at h;cases h)⟩
theorem dJ {a b:List Nat} {c:Nat} (ha:c ∉ a) (hb:c ∉ b):c ∉ a++b:=fun z=>(Ls.mp z).elim ha hb
theorem kd {sp:List Nat} {c:Nat} (hs:c ∉ sp):∀ {Ss:List Str} {f:Bool},(∀ S∈Ss,c ∉ S.cps.toList)->c ∉ bc sp f Ss
 | [],_,_=>fun z=>by cases z
 | S :: Ss,f,h=>by
  refine dJ ?_ (dJ (h S Ki) (kd hs fun T hT=>h T (Kb _ hT)));split
  ·exact fun z=>by cases z
  ·exact hs
theorem uR {P:PyData->Str->Nat->Prop} {c:Nat} (hP:∀ u S j,P u S j->c ∉ S.cps.toList):∀ {us:List PyData} {Ss:List Str} {k:Nat},lE P us Ss k->∀ S∈Ss,c ∉ S.cps.toList
 | [],[],_,_=>fun S h=>by cases h
 | u :: us,S :: Ss,k,⟨j,m,hu,hA,_⟩=>fun T hT=>by
  rcases Kd.mp hT with rfl | hT
  ·exact hP _ _ _ hu
  ·exact uR hP hA T hT
theorem mX {d:PyData} {T:Str} (h:jG d T):10 ∉ T.cps.toList/\32 ∉ T.cps.toList:=⟨fun z=>(gH ((kJ h).2.1 _ z)).1 rfl,fun z=>(gH ((kJ h).2.1 _ z)).2 rfl⟩
theorem mw {i:Int}:10 ∉ (ag i).cps.toList/\32 ∉ (ag i).cps.toList:=⟨fun z=>(gH (r0 _ z)).1 rfl,fun z=>(gH (r0 _ z)).2 rfl⟩
theorem qo {P:PyData->Str->Nat->Prop} (hP:∀ u S j,P u S j->10 ∉ S.cps.toList) {u:PyData} {S:Str} {j:Nat} (h:lj P u S j):10 ∉ S.cps.toList:=by
 obtain ⟨us,Ss,_,hA,_,rfl⟩:=h;rw [jc];refine kd (by decide) (uR (fun u S j h=>?_) hA);obtain ⟨x,v,X,S1,_,hX,hv,rfl⟩:=h;rw [aI,aI,wo];exact dJ (dJ (mX hX).1 (by decide)) (hP _ _ _ hv)
theorem vW {P:PyData->Str->Nat->Prop} (hP:∀ u S j,P u S j->10 ∉ S.cps.toList) {u:PyData} {Ss:List Str} {j:Nat} (h:m8 P u Ss j):∀ S∈Ss,10 ∉ S.cps.toList:=by
 obtain ⟨us,_,hA,_⟩:=h;exact uR hP hA
theorem l2 {P:Str->Prop} {A B:Str} (a:P A) (b:P B):∀ S∈[A,B],P S:=fun S h=>by
 simp only [Kd,K3,Lb] at h;rcases h with rfl | rfl
 ·exact a
 ·exact b
theorem Dc {P:PyData->Str->Nat->Prop} (hP:∀ u S j,P u S j->10 ∉ S.cps.toList) {d:PyData} {w J:Str} {k:Nat} (h:RIn P d w J k):10 ∉ J.cps.toList:=by
 rcases h with ⟨hw,u,Ss,j,rfl,hs,rfl,rfl⟩ | ⟨rfl,i,u,Ss,j,rfl,hc,hs,rfl,rfl⟩ | ⟨rfl,u,u',S,S',j,j',rfl,h1,h2,rfl,rfl⟩ | ⟨hw,u,j,rfl,h1,rfl⟩ | ⟨rfl,i,i',u,u',S,S',j,j',rfl,c1,c2,h1,h2,rfl,rfl⟩ | ⟨rfl,i,u,S,j,rfl,c1,h1,rfl,rfl⟩ | ⟨rfl,x,u,X,S,j,rfl,hx,h1,rfl,rfl⟩ | ⟨rfl,u,j,rfl,h1,rfl⟩
 ·rw [jc];exact kd (by decide) (vW hP hs)
 ·rw [jc];exact kd (by decide) fun S h=>(Ls.mp h).elim (fun h=>by rw [Kc.mp h];exact mw.1) (vW hP hs S)
 ·rw [aI,aI,se];exact dJ (dJ (qo hP h1) (by decide)) (qo hP h2)
 ·exact qo hP h1
 ·rw [jc];refine kd (by decide) fun A hA=>?_;simp only [Kd,K3,Lb] at hA;rcases hA with rfl | rfl | rfl | rfl
  ·exact mw.1
  ·exact mw.1
  ·exact hP _ _ _ h1
  ·exact hP _ _ _ h2
 ·rw [jc];exact kd (by decide) (l2 mw.1 (hP _ _ _ h1))
 ·rw [jc];exact kd (by decide) (l2 (mX hx).1 (hP _ _ _ h1))
 ·exact hP _ _ _ h1
theorem Di:∀ (n:Nat) (d:PyData) (T:Str) (k:Nat),Rv n d T k->10 ∉ T.cps.toList
 | 0,_,_,_,h=>h.elim
 | n+1,d,T,k,h=>by
  rcases h with ⟨_,_,rfl | rfl | rfl⟩ | ⟨w,J,h,rfl⟩
  ·decide +kernel
  ·decide +kernel
  ·decide +kernel
  ·rw [aI,aI,aI,vX,lq];exact dJ (dJ (dJ (fun z=>(gH (zT h _ z)).1 rfl) (by decide)) (Dc (Di n) h)) (by decide)
theorem xi {X nm S:Str} {b:Bool} {i:Int}:(Txt.join " " [X,nm,yn b,ag i,S]).cps.toList=X.cps.toList++32 :: (nm.cps.toList++32 :: ((yn b).cps.toList++32 :: ((ag i).cps.toList++32 :: S.cps.toList))):=by
 rw [g8,show (" " : Str).cps.toList=[32] by decide +kernel];simp [bc]
theorem DL (b:Bool):10 ∉ (yn b).cps.toList/\32 ∉ (yn b).cps.toList:=by cases b <;> exact ⟨by decide +kernel,by decide +kernel⟩
theorem Dy {d:PyData} {T:Str} (h:yI d T):10 ∉ T.cps.toList/\T.cps.toList≠[]:=by
 obtain ⟨x,X,nm,b,i,u,S,k,rfl,hx,hn,hc,hr,hk,rfl⟩:=h;rw [xi];refine ⟨?_,by simp⟩;have cs:∀ {l:List Nat},10 ∉ l->10 ∉ 32 :: l:=fun h z=>(Kd.mp z).elim (by decide) h;exact dJ (mX hx).1 (cs (dJ (fun z=>(gH (sC hn.1 _ z)).1 rfl) (cs (dJ (DL b).1 (cs (dJ mw.1 (cs (Di 12 _ _ _ hr))))))))
theorem yq {r:RV} {avs:List AV} {e:En} {z:Str} {Q:RV->En->Prop} (h1:r.view e=some (.str z)) (h2:aU e avs=some [.str " ", .int 4]) (h4:z.length<=1000000) (q:Q (.frs (.list ((Txt.splitMax z " " 4).map .str))) e):Aa v8 r avs e Q :=
 ⟨_,_,.frs (.list ((Txt.splitMax z " " 4).map .str)),h1,h2,Km ⟨by decide,h4,by decide,by decide⟩,q⟩
theorem Ft {f:Fn} {ms:List PM} {avs:List AV} {ds:List PyData} {e:En} {Q:RV->En->Prop} (hm:f.ms=.ino :: ms) (h1:aU e avs=some ds) (h3:Al ms ds=true) (h:WF f (.dict [] :: ds) fun pr outs=>∃ d',pr=.dat .none/\outs=[d']/\Q (.frs d') e):WPr (Fm f) avs e Q:=by
 obtain ⟨pr,outs,hF,d',rfl,rfl,q⟩:=h;refine ⟨ds,.frs d',h1,?_,q⟩;show (match f.ms with | .ino :: ms=>if Al ms ds=true then (match f.F (.dict [] :: ds) with | some (.dat .none,[d])=>some (PR.frs d) | _=>none) else none | _=>none)=_;rw [hm];show (if Al ms ds=true then (match f.F (.dict [] :: ds) with | some (.dat .none,[d])=>some (PR.frs d) | _=>none) else none)=_;rw [Km h3,hF]
theorem Eb {e:En} {x y:AV} {z:Str} (ss:List Str) {Q:RV->En->Prop} (h1:aU e [x,y]=some [.str z,.tuple (ss.map .str)]) (q:Q (.dat (.bool (!(ss.any fun s=>decide (s=z))))) e):WPr pE [x,y] e Q:=by
 refine ⟨_,.dat (.bool (!(ss.any fun s=>decide (s=z)))),h1,?_,q⟩;show (if vV (.str z)=true/\iF (ss.map .str)=true then some (PR.dat (.bool (ngB true (tF (ss.map .str) (.str z))))) else none)=_;rw [Km ⟨by simp [vV,noD,PyData.depth],mW ss⟩,jZ];rfl
theorem qY {d:PyData} {T:Str} {ln:Int} {Q:PR->List PyData->Prop} (h:yI d T) (q:Q (.dat d) []):WF gF [.str T,.int ln] Q:=by
 have hT:=xr h;obtain ⟨x,X,nm,b,i,u,S,k,rfl,hx,hn,hc,hr,hk,rfl⟩:=h;have hS:=eV 12 _ _ _ hr;have nr:=kJ hx;have e5:Txt.splitMax (Txt.join " " [X,nm,yn b,ag i,S]) " " 4=[X,nm,yn b,ag i,S]:=Cm xi (mX hx).2 (fun z=>(gH (sC hn.1 _ z)).2 rfl) (DL b).2 mw.2;have hR:Rest S 0 (S.cps.toList++[]):=⟨Lu _,by omega,by simp⟩;have eb:PyData.eqv (.str (yn b)) (.str "yes")=b:=by
  cases b
  ·exact Ab (by decide +kernel)
  ·exact nh
 refine cG rfl ?_;unfold kK;walk_at "pm";refine yq rfl rfl (by omega) ?_;rw [e5];walk_at "pm";refine ab (is:=[]) rfl rfl (mB ⟨rfl,?_⟩);rw [(AN hn).1];walk_at "pm";refine Eb ["yes", "no"] rfl ?_;rw [show ((["yes", "no"]:List Str).any fun s=>decide (s=yn b))=true by cases b <;> decide +kernel];walk_at "pm";refine ab (is:=[]) rfl rfl (iY (Ks (bU hx) (by decide)) ⟨rfl,?_⟩);rw [nr.1];walk_at "n";walk_at "pm";refine ab (is:=[]) rfl rfl (kg hc ⟨rfl,?_⟩);walk_at "n";walk_at "pm";rcases hx with ⟨s1,rfl,_⟩ | ⟨s1,rfl,_⟩ | ⟨s1,rfl,_⟩
 all_goals
  walk_at "pm";refine Ft rfl rfl rfl (BC ⟨_,rfl,rfl,?_⟩);walk_at "pm";refine ab (is:=[5]) rfl rfl (fZ 12 hr hR (fun _ _ z=>by cases z) (by decide) (by decide) ⟨rfl,?_⟩);walk_at "n";walk_at "pm";refine D7 rfl rfl (by have:=hR.skip;rw [ah] at this;exact this) ?_;walk_at "pm";show Q (.dat (.tuple [_,_,.bool (PyData.eqv (.str (yn b)) (.str "yes")),_,_])) [];rw [eb];exact q
theorem vi {c:Nat}:∀ {p q r s:List Nat},c ∉ p->c ∉ q->p++c :: r=q++c :: s->p=q/\r=s
 | [],[],r,s,_,_,h=>by
  injection h with _ h;exact ⟨rfl,h⟩
 | [],b :: q,r,s,_,hq,h=>by
  injection h with h _;exact absurd (by rw [h];exact Ki) hq
 | a :: p,[],r,s,hp,_,h=>by
  injection h with h _;exact absurd (by rw [h];exact Ki) hp
 | a :: p,b :: q,r,s,hp,hq,h=>by
  injection h with h1 h2;obtain ⟨e1,e2⟩:=vi (fun z=>hp (Kb _ z)) (fun z=>hq (Kb _ z)) h2;rw [h1,e1];exact ⟨rfl,e2⟩
theorem vG {c:Nat}:∀ {as bs:List Str} {A B:List Nat},c ∉ A->c ∉ B->(∀ S∈as,c ∉ S.cps.toList)->(∀ S∈bs,c ∉ S.cps.toList)->A++bc [c] false as=B++bc [c] false bs->A=B/\as=bs
 | [],[],A,B,_,_,_,_,h=>by simpa [bc] using h
 | [],b :: bs,A,B,ha,_,_,_,h=>by
  have h:A++[]=B++c :: (b.cps.toList++bc [c] false bs):=h;rw [K6] at h;exact absurd (by rw [h];simp) ha
 | a :: as,[],A,B,_,hb,_,_,h=>by
  have h:A++c :: (a.cps.toList++bc [c] false as)=B++[]:=h;rw [K6] at h;exact absurd (by rw [<- h];simp) hb
 | a :: as,b :: bs,A,B,ha,hb,h1,h2,h=>by
  have h:A++c :: (a.cps.toList++bc [c] false as)=B++c :: (b.cps.toList++bc [c] false bs):=h;obtain ⟨e1,e2⟩:=vi ha hb h;obtain ⟨e3,e4⟩:=vG (h1 a Ki) (h2 b Ki) (fun S h=>h1 S (Kb _ h)) (fun S h=>h2 S (Kb _ h)) e2;rw [e1,fj e3,e4];exact ⟨rfl,rfl⟩
theorem zC (s:Str):∀ (ps:List Str),(Str.join s ps).cps.toList=bc s.cps.toList true ps
 | []=>rfl
 | [a]=>by simp [bc,Str.join]
 | a :: b :: l=>by
  show (a++s++Str.join s (b :: l)).cps.toList=_;rw [aI,aI,zC s (b :: l)];simp [bc]
theorem xX (x y:Str):Txt.split x y≠[]:=by
 unfold Txt.split;split
 ·simp
 ·split
  ·simp
  ·intro z;have:=congrArg List.length z;rw [LU] at this;simp at this
theorem yr {Ss:List Str} (h0:Ss≠[]) (h:∀ S∈Ss,10 ∉ S.cps.toList):Txt.split (Txt.join "\n" Ss) "\n" = Ss:=by
 have es:("\n" : Str)=⟨#[10]⟩:=by decide +kernel
 have j:=congrArg (fun x:Str=>x.cps.toList) (PySem.StrLaws.join_split (Txt.join "\n" Ss) "\n");have j:(Str.join "\n" (Txt.split (Txt.join "\n" Ss) "\n")).cps.toList=(Txt.join "\n" Ss).cps.toList:=j;rw [zC,g8,show ("\n" : Str).cps.toList=[10] by decide +kernel] at j;have f:=PySem.StrLaws.split_free (Txt.join "\n" Ss) 10;rw [<- es] at f;have hne:=xX (Txt.join "\n" Ss) "\n";generalize Txt.split (Txt.join "\n" Ss) "\n" = ps at j f hne
 match ps,Ss,hne,h0,j,f,h with
 | a :: as,b :: bs,_,_,j,f,h =>
  have j:a.cps.toList++bc [10] false as=b.cps.toList++bc [10] false bs:=j;obtain ⟨e1,e2⟩:=vG (f a Ki) (h b Ki) (fun S z=>f S (Kb _ z)) (fun S z=>h S (Kb _ z)) j;rw [fj e1,e2]
theorem zm {r:RV} {avs:List AV} {e:En} {z:Str} {Q:RV->En->Prop} (h1:r.view e=some (.str z)) (h2:aU e avs=some [.str "\n"]) (h4:z.length<=1000000) (q:Q (.frs (.list ((Txt.split z "\n").map .str))) e):Aa splitM r avs e Q :=
 ⟨_,_,.frs (.list ((Txt.split z "\n").map .str)),h1,h2,Km ⟨by decide,h4⟩,q⟩
theorem Jk {gd:List PyData} {a:XE} {env:En} {QI:List PyData->Option Nat->En->Prop} (h:WE gd a env fun r e=>∃ ds,r.av=.dat (.list ds)/\QI (ds.zipIdx.map fun p=>.tuple [.int p.2,p.1]) none e):WI gd (.itm a) env QI:=by
 obtain ⟨r,e',h1,ds,h2,h3⟩:=h;exact ⟨_,_,_,by simp only [dI,h1,h2],h3⟩
theorem xc {sp:List Nat}:∀ (Ss:List Str) (f:Bool),(bc sp f Ss).length<=(Ss.map (·.length)).sum+sp.length*Ss.length
 | [],f=>Lu _
 | S :: Ss,f=>by
  have:=xc (sp:=sp) Ss false;show ((if f then [] else sp)++(S.cps.toList++bc sp false Ss)).length<=_;rw [J6,J6,ah,List.map_cons,Kw,J8,Nat.mul_succ];have:(if f then [] else sp).length<=sp.length:=by split <;> simp
  omega
theorem jO.nl:∀ {us:List PyData} {Ss:List Str},jO us Ss->∀ S∈Ss,10 ∉ S.cps.toList/\S.cps.toList≠[]
 | [],[],_=>fun S h=>by cases h
 | u :: us,S :: Ss,h=>fun T hT=>by
  rcases Kd.mp hT with rfl | hT
  ·exact Dy h.1
  ·exact jO.nl h.2 T hT
theorem nA {us:List PyData} {Ss:List Str} {Q:PR->List PyData->Prop} (h:jO us Ss) (hl:us.length<=12) (q:Q (.frs (.list us)) []):WF cz [.str (Txt.join "\n" Ss)] Q:=by
 have z0:=h.len;have z1:=h.sum;refine cG rfl ?_;unfold g9
 match us,Ss,h with
 | [],[],_ =>
  walk_at "pm";exact q
 | u :: us',S :: Ss',h =>
  have hne:PyData.eqv (.str (Txt.join "\n" (S :: Ss'))) (.str "")=false:=by
   refine Ab (Kl fun z=>?_);have z:=congrArg (fun x:Str=>x.cps.toList) z;have z:(Txt.join "\n" (S :: Ss')).cps.toList=[]:=z;rw [g8] at z;have z:S.cps.toList++bc _ false Ss'=[]:=z;exact (h.nl S Ki).2 (List.append_eq_nil_iff.mp z).1
  have hlen:(Txt.join "\n" (S :: Ss')).length<=1000000:=by
   rw [<- ah,g8,show ("\n" : Str).cps.toList=[10] by decide +kernel];have:=xc (sp:=[10]) (S :: Ss') true;rw [show ([10]:List Nat).length=1 from rfl] at this;omega
  walk_at "pp";refine lH hne ?_;walk_at "pp";refine Jk ?_;walk_at "pp";refine zm rfl rfl hlen ?_;rw [yr (by simp) fun T hT=>(h.nl T hT).1];refine ⟨_,rfl,?_⟩;refine bT (fun i ys ec=>ys=(u :: us').take i/\ec=[]) ⟨rfl,rfl⟩ ?_ ?_
  ·rintro i d ys ec hd ⟨rfl,rfl⟩;rw [Kt,List.getElem?_zipIdx,Kt] at hd;obtain ⟨p,hp,rfl⟩:=Kz.mp hd;obtain ⟨w,hw,rfl⟩:=Kz.mp hp;obtain ⟨T,hT,rfl⟩:=Kz.mp hw;have hi:i < (u :: us').length:=by
    obtain ⟨z,_⟩:=Ka.mp hT;omega
   obtain ⟨T2,hr2,hT2⟩:=h.get i (J9 hi);obtain rfl:T=T2:=KN (hT.symm.trans hT2);refine rD rfl ?_;walk_at "pp";refine ab (is:=[]) rfl rfl (qY hr2 ⟨rfl,?_⟩);walk_at "pp";exact ⟨by rw [<- LC (J9 hi)];rfl,rfl⟩
  ·rintro ys ec ⟨rfl,rfl⟩;rw [J5,List.length_zipIdx,J5,z0,K8];walk_at "pp";exact q
theorem Ij {gd:List PyData} {as:XA} {env:En} {QI:List PyData->Option Nat->En->Prop} (h:WA gd as env fun avs e=>∃ xs ys,avs=[.dat (.tuple xs),.dat (.tuple ys)]/\xs.length=ys.length/\QI ((xs.zip ys).map fun p=>.tuple [p.1,p.2]) none e):WI gd (.zip as) env QI:=by
 obtain ⟨avs,e',h1,xs,ys,rfl,h3,h2⟩:=h;exact ⟨_,_,_,by simp only [dI,h1,h3,LO],h2⟩
def Alk:Nat->PyData->Prop
 | 0,_=>False
 | n+1,.tuple ds=>∀ x∈ds,Alk n x
 | _+1,.str _=>True
 | _+1,.int _=>True
 | _+1,.bool _=>True
 | _+1,_=>False
theorem Gi (n:Nat):(fS n).ms=[.dat,.dat]:=by cases n <;> rfl
theorem Aw (n:Nat):tF (List.replicate n (.bool true)) (.bool false)=false:=by
 unfold tF;rw [List.any_eq_false];intro x hx;rw [List.eq_of_mem_replicate hx];decide
theorem Bb (n:Nat):iF (List.replicate n (.bool true))=true:=sg.mpr fun d hd=>by rw [List.eq_of_mem_replicate hd];rfl
theorem Cs {e:En} {x y:AV} {n:Nat} {Q:RV->En->Prop} (h1:aU e [x,y]=some [.bool false,.list (List.replicate n (.bool true))]) (q:Q (.dat (.bool true)) e):WPr pE [x,y] e Q:=by
 refine ⟨_,.dat (.bool true),h1,?_,q⟩;show (if vV (.bool false)=true/\iF (List.replicate n (.bool true))=true then some (PR.dat (.bool (ngB true (tF (List.replicate n (.bool true)) (.bool false))))) else none)=_;rw [Km ⟨by simp [vV,noD,PyData.depth],Bb n⟩,Aw];rfl
theorem su:∀ (n:Nat) {d:PyData} {Q:PR->List PyData->Prop},Alk n d->Q (.dat (.bool true)) []->WF (fS n) [d,d] Q
 | 0,_,_,h,_=>False.elim h
 | n+1,d,Q,h,q=>by
  refine cG rfl ?_;unfold sL;cases d with
  | tuple ds =>
   have e0:(!PyData.eqv (.int (ds.length:Int)) (.int (ds.length:Int)))=false:=by simp [PyData.eqv]
   walk_at "pp";refine lH e0 ?_;walk_at "pp";refine Ij ?_;walk_at "pp";refine ⟨_,_,rfl,rfl,?_⟩;refine bT (fun i ys ec=>ys=List.replicate i (.bool true)/\ec=[]) ⟨rfl,rfl⟩ ?_ ?_
   ·rintro i d ys ec hd ⟨rfl,rfl⟩;rw [Kt] at hd;obtain ⟨⟨x,y⟩,hp,rfl⟩:=Kz.mp hd;obtain ⟨h1,h2⟩:=List.getElem?_zip_eq_some.mp hp;obtain rfl:x=y:=KN (h1.symm.trans h2);refine rD rfl ?_;walk_at "pp";refine aC (is:=[]) (Gi n) rfl rfl (su n (h x (KQ h1)) ⟨rfl,?_⟩);walk_at "pp";exact ⟨by rw [List.replicate_succ'];rfl,rfl⟩
   ·rintro ys ec ⟨rfl,rfl⟩;walk_at "pm";refine Cs rfl ?_;walk_at "pp";exact q
  | str x =>
   walk_at "pp";show Q (.dat (.bool (PyData.eqv (.str x) (.str x)))) [];rw [nh];exact q
  | int i =>
   walk_at "pp";show Q (.dat (.bool (PyData.eqv (.int i) (.int i)))) [];rw [show PyData.eqv (.int i) (.int i)=true by simp [PyData.eqv]];exact q
  | bool b =>
   walk_at "pp";show Q (.dat (.bool (PyData.eqv (.bool b) (.bool b)))) [];rw [show PyData.eqv (.bool b) (.bool b)=true by cases b <;> decide];exact q
  | _=>exact False.elim h
theorem bI:∀ {n m:Nat} {d:PyData},Alk n d->n<=m->Alk m d
 | 0,_,_,h,_=>h.elim
 | n+1,m,d,h,hm=>by
  obtain ⟨m,rfl⟩:∃ k,m=k+1:=⟨m - 1,by omega⟩;cases d with
  | tuple ds=>exact fun x hx=>bI (h x hx) (by omega)
  | str x=>trivial
  | int x=>trivial
  | bool x=>trivial
  | _=>exact h.elim
theorem nY {d:PyData} {T:Str} (h:jG d T):Alk 2 d:=by
 rcases h with ⟨x,rfl,_⟩ | ⟨i,rfl,_⟩ | ⟨x,rfl,_⟩
 ·trivial
 ·trivial
 ·intro y hy;rw [Kc.mp hy];trivial
theorem qj {P:PyData->Str->Nat->Prop} {m:Nat} (hP:∀ u S j,P u S j->Alk m u):∀ {us:List PyData} {Ss:List Str} {k:Nat},lE P us Ss k->∀ u∈us,Alk m u
 | [],[],_,_=>fun S h=>by cases h
 | u :: us,S :: Ss,k,⟨j,_,hu,hA,_⟩=>fun T hT=>by
  rcases Kd.mp hT with rfl | hT
  ·exact hP _ _ _ hu
  ·exact qj hP hA T hT
theorem Fc {m:Nat} {a b:PyData} (ha:Alk m a) (hb:Alk m b):Alk (m+1) (.tuple [a,b]):=fun x hx=>by
 simp only [Kd,K3,Lb] at hx;rcases hx with rfl | rfl
 ·exact ha
 ·exact hb
theorem Fp {m:Nat} {a b c:PyData} (ha:Alk m a) (hb:Alk m b) (hc:Alk m c):Alk (m+1) (.tuple [a,b,c]):=fun x hx=>by
 simp only [Kd,K3,Lb] at hx;rcases hx with rfl | rfl | rfl
 ·exact ha
 ·exact hb
 ·exact hc
theorem IJ {m:Nat} {a b c d e:PyData} (ha:Alk m a) (hb:Alk m b) (hc:Alk m c) (hd:Alk m d) (he:Alk m e):Alk (m+1) (.tuple [a,b,c,d,e]):=fun x hx=>by
 simp only [Kd,K3,Lb] at hx;rcases hx with rfl | rfl | rfl | rfl | rfl
 ·exact ha
 ·exact hb
 ·exact hc
 ·exact hd
 ·exact he
theorem nu {P:PyData->Str->Nat->Prop} {m:Nat} (hm:2<=m) (hP:∀ u S j,P u S j->Alk m u) {u:PyData} {S:Str} {j:Nat} (h:lj P u S j):Alk (m+2) u:=by
 obtain ⟨us,Ss,rfl,hA,_,_⟩:=h;refine qj (m:=m+1) (fun v T k hv=>?_) hA;obtain ⟨x,w,X,S1,rfl,hX,hw,_⟩:=hv;exact Fc (bI (nY hX) hm) (hP _ _ _ hw)
theorem sO {P:PyData->Str->Nat->Prop} {m:Nat} (hP:∀ u S j,P u S j->Alk m u) {u:PyData} {Ss:List Str} {j:Nat} (h:m8 P u Ss j):Alk (m+1) u:=by
 obtain ⟨us,rfl,hA,_⟩:=h;exact qj hP hA
theorem zE:∀ (n:Nat) (d:PyData) (T:Str) (k:Nat),Rv n d T k->Alk (3*n+2) d
 | 0,_,_,_,h=>h.elim
 | n+1,d,T,k,h=>by
  have ih:=zE n;show Alk ((3*n+4)+1) d;rcases h with ⟨_,rfl,_⟩ | ⟨w,J,h,rfl⟩
  ·intro y hy;rw [Kc.mp hy];trivial
  ·rcases h with ⟨hw,u,Ss,j,rfl,hs,rfl,rfl⟩ | ⟨rfl,i,u,Ss,j,rfl,hc,hs,rfl,rfl⟩ | ⟨rfl,u,u',S,S',j,j',rfl,h1,h2,rfl,rfl⟩ | ⟨hw,u,j,rfl,h1,rfl⟩ | ⟨rfl,i,i',u,u',S,S',j,j',rfl,c1,c2,h1,h2,rfl,rfl⟩ | ⟨rfl,i,u,S,j,rfl,c1,h1,rfl,rfl⟩ | ⟨rfl,x,u,X,S,j,rfl,hx,h1,rfl,rfl⟩ | ⟨rfl,u,j,rfl,h1,rfl⟩
   ·exact Fc trivial (bI (sO ih hs) (by omega))
   ·exact Fp trivial trivial (bI (sO ih hs) (by omega))
   ·exact Fp trivial (nu (by omega) ih h1) (nu (by omega) ih h2)
   ·exact Fc trivial (nu (by omega) ih h1)
   ·exact IJ trivial trivial trivial (bI (ih _ _ _ h1) (by omega)) (bI (ih _ _ _ h2) (by omega))
   ·exact Fp trivial trivial (bI (ih _ _ _ h1) (by omega))
   ·exact Fp trivial (bI (nY hx) (by omega)) (bI (ih _ _ _ h1) (by omega))
   ·exact Fc trivial (bI (ih _ _ _ h1) (by omega))
theorem jO.alk:∀ {us:List PyData} {Ss:List Str},jO us Ss->∀ u∈us,Alk 39 u
 | [],[],_=>fun S h=>by cases h
 | u :: us,S :: Ss,h=>fun T hT=>by
  rcases Kd.mp hT with rfl | hT
  ·obtain ⟨x,X,nm,b,i,v,S1,k,rfl,hx,hn,hc,hr,hk,rfl⟩:=h.1;exact IJ (m:=38) (bI (nY hx) (by decide)) trivial trivial trivial (zE 12 _ _ _ hr)
  ·exact jO.alk h.2 T hT
theorem xM {ns:List Int} (hl:ns.length<=63):WF Ac [.list (ns.map .int)] fun pr outs=>pr=.dat (.bool true)/\outs=[]:=by
 refine cG rfl ?_;unfold zU;walk_at "pp";refine ab rfl rfl (DQ ⟨rfl,?_⟩);walk_at "pp";refine ab (is:=[1]) rfl rfl (oz (p:=0) (l:=0) (by decide) (by decide) (by decide) (by decide) (by decide) fun xs p1 l1 xl hx hp1 hb1 hl1=>⟨rfl,?_⟩);show jE _ _ ([.dat (.list (ns.map .int)),.own (bN ns p1 l1),.un,.un,.un,.un,.un,.un]:En) _;walk_at "pp";refine ab (is:=[1]) rfl rfl (oz hp1 (by omega) hl1 (by decide) (by decide) fun ys p2 l2 yl hy hp2 hb2 hl2=>⟨rfl,?_⟩);show jE _ _ ([.dat (.list (ns.map .int)),.own (bN ns p2 l2),.dat (.list (xs.map .str)),.un,.un,.un,.un,.un]:En) _;walk_at "pp";refine ab (is:=[1]) rfl rfl (zj hp2 (by omega) hl2 (by omega) (by omega) hx (by omega) (by omega) hy fun us Ss p3 l3 ha hu hp3 hl3=>⟨rfl,?_⟩);show jE _ _ ([.dat (.list (ns.map .int)),.own (bN ns p3 l3),.dat (.list (xs.map .str)),.dat (.list (ys.map .str)),.un,.un,.un,.un]:En) _;have z0:=ha.len;have z1:=ha.sum;walk_at "pp";refine fU rfl (bT (fun i ys ec=>ys=(Ss.take i).map .str/\ec=[]) ⟨rfl,rfl⟩ ?_ ?_)
 ·rintro i d ys ec hd ⟨rfl,rfl⟩;obtain ⟨S,hs,hS⟩:=ha.get i hd;refine aF ?_;walk_at "pp";refine ab rfl rfl (qV hs ⟨rfl,?_⟩);walk_at "pp";exact ⟨by rw [<- LC hS,K0];rfl,rfl⟩
 ·rintro ys' ec ⟨rfl,rfl⟩;rw [<- ha.len,K8];walk_at "pp";refine gm (ss:=Ss) rfl rfl (by simp only [cJ,KH];rw [zv];omega) ?_;show jE _ _ ([.dat (.list (ns.map .int)),.own (bN ns p3 l3),.dat (.list (xs.map .str)),.dat (.list (ys.map .str)),.dat (.list us),.un,.un,.un]:En) _;walk_at "pp";refine ⟨⟨by decide,by decide⟩,?_⟩;have sh2:∀ {Q:PR->List PyData->Prop},Q (.dat (.str (Txt.join "\n" Ss))) []->WF cx [.list us] Q:=fun q=>mR ha hu q;have rp2:∀ {Q:PR->List PyData->Prop},Q (.frs (.list us)) []->WF cz [.str (Txt.join "\n" Ss)] Q:=fun q=>nA ha hu q;have al2:∀ {Q:PR->List PyData->Prop},Q (.dat (.bool true)) []->WF (fS 45) [.tuple us,.tuple us] Q:=fun q=>su 45 (bI (n:=40) (fun x hx=>ha.alk x hx) (by decide)) q;refine ku (fun i e=>∃ x6 x7:Sl,soft x6/\soft x7/\e=([.dat (.list (ns.map .int)),.own (bN ns p3 l3),.dat (.list (xs.map .str)),.dat (.list (ys.map .str)),.dat (.list us),.dat (.str (Txt.join "\n" Ss)),x6,x7]:En)) ⟨.un,.un,qe,qe,rfl⟩ ?_ ?_
  ·rintro i dd e hd' ⟨x6,x7,h6,h7,rfl⟩;obtain ⟨rfl,hi⟩:=gK hd';refine Bp (ur rfl h6) ?_;walk_at "pp";refine ab (is:=[]) rfl rfl (rp2 ⟨rfl,?_⟩);walk_at "pp";refine ab (is:=[]) rfl rfl (al2 ⟨rfl,?_⟩);walk_at "pp";refine ab (is:=[]) rfl rfl (sh2 ⟨rfl,?_⟩);walk_at "pp";refine lH (by rw [Km rfl];exact (congrArg not nh)) ?_;walk_at "pp";refine jD rfl (by show _ < 2 ^ 24;omega) rfl ?_;walk_at "pp";exact ⟨_,_,jH,CI,rfl⟩
  ·rintro e ⟨x6,x7,h6,h7,rfl⟩;walk_at "pp";exact ⟨rfl,rfl⟩
end K51
end
namespace PySem.W.Fast
noncomputable def tw8636509818034231564:=()
noncomputable def tw3075422850712817707:=()
noncomputable def tw14615567930126411498:=()
noncomputable def tw16051445635779440966:=()
noncomputable def tw5617196647782821765:=()
noncomputable def tw15312103365103633595:=()
noncomputable def tw12566891843418971316:=()
noncomputable def tw12952307359497541971:=()
noncomputable def tw10436252183355305340:=()
noncomputable def tw13297003454819880357:=()
noncomputable def tw8389755447520790327:=()
noncomputable def tw16815388823082277444:=()
noncomputable def tw367119878645703779:=()
noncomputable def tw1241606861001801758:=()
noncomputable def tw10234215752586358929:=()
noncomputable def tw16317764716219461225:=()
noncomputable def tw14041504854120322767:=()
noncomputable def tw6957876766456658721:=()
noncomputable def tw13475312549876316748:=()
noncomputable def tw71459889660277555:=()
noncomputable def tw6631795880997163736:=()
noncomputable def tw1150006844256651033:=()
noncomputable def tw9101808566488102146:=()
noncomputable def tw18075988247549050854:=()
noncomputable def tw5866478614649210900:=()
noncomputable def tw15338281091549985367:=()
noncomputable def tw6197361588839309490:=()
noncomputable def tw12599302530021767213:=()
noncomputable def tw6414218251065470768:=()
noncomputable def tw2887176881313071953:=()
noncomputable def tw13710125039792698374:=()
noncomputable def tw7189976928592013587:=()
noncomputable def tw3010959078663428169:=()
noncomputable def tw4380157666426831708:=()
noncomputable def tw2979535388448067100:=()
noncomputable def tw5412406360721984816:=()
noncomputable def tw13305671732641200498:=()
noncomputable def tw1668651781395794627:=()
noncomputable def tw6327340565994835116:=()
noncomputable def tw5188779653643619084:=()
noncomputable def tw4732438650821820216:=()
noncomputable def tw4192630106930076840:=()
noncomputable def tw1602599342936605906:=()
noncomputable def tw2744571055268753413:=()
noncomputable def tw3964478784120941976:=()
noncomputable def tw4721152408107726065:=()
noncomputable def tw6074754311985827410:=()
noncomputable def tw13177644616409189787:=()
noncomputable def tw5223566255108501417:=()
noncomputable def tw3287369439771980894:=()
noncomputable def tw10528302731059787907:=()
noncomputable def tw10763736325758262694:=()
noncomputable def tw4493240229986589779:=()
noncomputable def tw14572453665264035457:=()
noncomputable def tw18302915832038965395:=()
noncomputable def tw655506312399993241:=()
noncomputable def tw4700104102302833923:=()
noncomputable def tw1691941738413401162:=()
noncomputable def tw11304144882409807821:=()
noncomputable def tw16075295705505277810:=()
noncomputable def tw8645895672702721664:=()
noncomputable def tw941568356215769104:=()
noncomputable def tw2960561042665768955:=()
noncomputable def tw2409725329206782265:=()
noncomputable def tw15527496924136082790:=()
noncomputable def tw15225526305106218511:=()
noncomputable def tw564086014385664951:=()
noncomputable def tw6157222770507105063:=()
noncomputable def tw13812280427117210400:=()
noncomputable def tw14480313361625378729:=()
noncomputable def tw8066718232553477773:=()
noncomputable def tw12721806651550801861:=()
noncomputable def tw15772071103838629350:=()
noncomputable def tw4732071346217260391:=()
noncomputable def tw7739196802208773629:=()
noncomputable def tw3379875202947110478:=()
noncomputable def tw732370998367402811:=()
noncomputable def tw5106617202828487825:=()
noncomputable def tw8502316127818036383:=()
noncomputable def tw9020154006463503612:=()
noncomputable def tw2564151319127141981:=()
noncomputable def tw18062236198193920310:=()
noncomputable def tw18046402162069603314:=()
noncomputable def tw3889817188201362699:=()
noncomputable def tw14310307739962914038:=()
noncomputable def tw4157230715127628653:=()
noncomputable def tw11113113241209348734:=()
noncomputable def tw13300991742171717450:=()
noncomputable def tw8476966430200932597:=()
noncomputable def tw8964538623542691012:=()
noncomputable def tw1296110593191113702:=()
noncomputable def tw13900545039162250740:=()
noncomputable def tw16114030862132102659:=()
noncomputable def tw8435012865646626129:=()
noncomputable def tw6863426459039940220:=()
noncomputable def tw7441791600281141139:=()
noncomputable def tw14393147616348693776:=()
noncomputable def tw2827159471972664761:=()
noncomputable def tw8378849712084775691:=()
noncomputable def tw301447992120504664:=()
noncomputable def tw17084782590995683157:=()
noncomputable def tw12770071549861080379:=()
noncomputable def tw13997910922230678397:=()
noncomputable def tw8623469831727599445:=()
noncomputable def tw345725142995118768:=()
noncomputable def tw16165313764667684699:=()
noncomputable def tw10461342253027697876:=()
noncomputable def tw6663014132024563369:=()
noncomputable def tw11732609085573664991:=()
noncomputable def tw12412516919487696081:=()
noncomputable def tw9556388365504496420:=()
noncomputable def tw4298521141107405083:=()
noncomputable def tw16888507568508783982:=()
noncomputable def tw8456507900538668935:=()
noncomputable def tw14945248395531816575:=()
noncomputable def tw13611236053737986466:=()
noncomputable def tw3258216200938710679:=()
noncomputable def tw8392606034645990007:=()
noncomputable def tw6968694764564142860:=()
noncomputable def tw15341573678437445016:=()
noncomputable def tw12930543265738717360:=()
noncomputable def tw10391042593615665515:=()
noncomputable def tw2832233474662790498:=()
noncomputable def tw12259411379283732899:=()
noncomputable def tw9275011803668178538:=()
noncomputable def tw2114467826096281443:=()
noncomputable def tw1536668191238364855:=()
noncomputable def tw1520083654646715376:=()
noncomputable def tw12030557940974356046:=()
noncomputable def tw9107371515057361064:=()
noncomputable def tw7959762373712522026:=()
noncomputable def tw8658721592763013727:=()
noncomputable def tw13406362365190709859:=()
noncomputable def tw953314890629144882:=()
noncomputable def tw627673627767230734:=()
noncomputable def tw5933608200963877259:=()
noncomputable def tw5982318502432460355:=()
noncomputable def tw15157703748870543682:=()
noncomputable def tw14006473513118469676:=()
noncomputable def tw11912989192282327562:=()
noncomputable def tw1177061763154932189:=()
noncomputable def tw5970418836559590587:=()
noncomputable def tw16708620063100782162:=()
noncomputable def tw593450089008441738:=()
noncomputable def tw2764997822273614990:=()
noncomputable def tw5036420735469012580:=()
noncomputable def tw16344000490290398211:=()
noncomputable def tw8716743187397596428:=()
noncomputable def tw12227820943673787909:=()
noncomputable def tw7736938978124376915:=()
noncomputable def tw11470980630695641120:=()
noncomputable def tw11712598947900736364:=()
noncomputable def tw11410480452421106922:=()
noncomputable def tw9382086994001306291:=()
noncomputable def tw11644754684746401393:=()
noncomputable def tw18008823448798008400:=()
noncomputable def tw18055243202060234646:=()
noncomputable def tw14196466820526416608:=()
noncomputable def tw9034970774351644675:=()
noncomputable def tw17315127909759019248:=()
noncomputable def tw16948191354538282808:=()
noncomputable def tw1462609255918391698:=()
noncomputable def tw4718477349658597829:=()
noncomputable def tw15798212420732295977:=()
noncomputable def tw6278990292516378641:=()
noncomputable def tw17245581687529985053:=()
noncomputable def tw4285014424237178799:=()
noncomputable def tw9032731508975473436:=()
noncomputable def tw15708834034810605743:=()
noncomputable def tw10525172691255006906:=()
noncomputable def tw12733647669507483675:=()
noncomputable def tw16190851166759503127:=()
noncomputable def tw7568015505034550222:=()
noncomputable def tw15811697176432041631:=()
noncomputable def tw1199941917296411276:=()
noncomputable def tw10294552287173742205:=()
noncomputable def tw13361609114087207135:=()
noncomputable def tw3606168018071800059:=()
noncomputable def tw6385094635825938584:=()
noncomputable def tw6386982403609165699:=()
noncomputable def tw3619827633237512627:=()
noncomputable def tw1142523264677088400:=()
noncomputable def tw1626046325607760974:=()
noncomputable def tw5142636127902241116:=()
noncomputable def tw8502642644506256531:=()
noncomputable def tw10822701947391393523:=()
noncomputable def tw15573076761392740947:=()
noncomputable def tw8299534188909856873:=()
noncomputable def tw8111786632250468146:=()
noncomputable def tw12675008439461387825:=()
noncomputable def tw7475773721947244357:=()
noncomputable def tw13989555634630663054:=()
noncomputable def tw17987128917962573995:=()
noncomputable def tw10529183817297411680:=()
noncomputable def tw6006443593850442887:=()
noncomputable def tw13639900680115070803:=()
noncomputable def tw11706410578922676620:=()
noncomputable def tw17012795520630928788:=()
noncomputable def tw11517275202681466761:=()
noncomputable def tw220079116085128569:=()
noncomputable def tw7682155694293741440:=()
noncomputable def tw9043059924133972306:=()
noncomputable def tw10360938770248796518:=()
noncomputable def tw14825928095566924446:=()
noncomputable def tw1429656225121653914:=()
noncomputable def tw4734290412502050061:=()
noncomputable def tw6009973563971393602:=()
noncomputable def tw11792726446748251430:=()
noncomputable def tw208689963644902137:=()
noncomputable def tw8111495490224159303:=()
noncomputable def tw16331927482659913249:=()
noncomputable def tw16143594365893197315:=()
noncomputable def tw1417659707896238923:=()
noncomputable def tw11448896232756698670:=()
noncomputable def tw1527898813281283066:=()
noncomputable def tw17500488336284971375:=()
noncomputable def tw12729412357569437183:=()
noncomputable def tw14998513684885401682:=()
noncomputable def tw4396170463401072981:=()
noncomputable def tw15722528956448573722:=()
noncomputable def tw14491248703830623544:=()
noncomputable def tw14095040788915574902:=()
end PySem.W.Fast
open PySem PySem.W PyProof.Rows
set_option maxRecDepth 100000 in
set_option maxHeartbeats 0 in
theorem PySem.Challenge.cw_webshapes_k51_papers_read_holds : PySem.Challenge.rw_webshapes_k51_papers_read.Holds := by
  w_on; (refine holds_law L2.ws fun said => ?_); k_head; (case hw => w_witness2)
  k_fill
  refine L2.zi (l := PySem.Challenge.rw_webshapes_k51_papers_read) (n := 63) (k := 58) (x := "_law_script") (CX := L2.CX0) (sp := K51.vQ) rfl (by decide) rfl ⟨rfl, by decide, by decide, rfl⟩ (fun w h Y => PySem.W.kIn_of Y) ?F ?S ?C
  case F =>
    intro w mg fa h KX G hmg;have TT : ∃ t : K51.Adr, (∀ (s : Shared) (u : Value), BindsTo s (t.f 43).2 ⟨[u], []⟩ [("_law_script", u)]) ∧ K51.Txt (L2.KOf KX) mg t := by
      dsimp only [L2.KOf];refine' K51.Cz KX G ?D ?am0 ?lm0 ?cm0 ?km0 ?im0 ?am1 ?lm1 ?cm1 ?km1 ?im1 ?am2 ?lm2 ?cm2 ?km2 ?im2 ?am3 ?lm3 ?cm3 ?km3 ?im3 ?am4 ?lm4 ?cm4 ?km4 ?im4 ?C_g ?C_pg ?C_hd ?C_po ?C_sa ?C_mk ?C_kp ?na_at ?na_line ?na_text ?z_abs ?z_all ?z_bool ?z_enumerate ?z_int ?z_isinstance ?z_len ?z_list ?z_min ?z_range ?z_str ?z_tuple ?z_zip ?g_DEEPEST ?g_MOST_FIGURES ?g_MOST_LETTERS ?g_WORD_SIGNS ?g_BARE ?s_BARE
      (case D => (iterate 44 refine L2.Gu KX G (by k_is) (by k_is) (by k_is) (by k_is) (by first | exact fun _ _ _ _ _ _ => L2.us1 fun _ => rfl | exact fun _ _ _ _ _ _ => L2.us2 fun _ _ => rfl | exact fun _ _ _ _ _ _ => L2.us3 fun _ _ _ => rfl | exact fun _ _ _ _ _ _ => L2.us4 fun _ _ _ _ => rfl) ?_); exact True.intro)
      (case am0 => k_is)
      (case lm0 => k_is)
      (case cm0 => k_is)
      (case km0 => k_is)
      (case im0 => k_is)
      (case am1 => k_is)
      (case lm1 => k_is)
      (case cm1 => k_is)
      (case km1 => k_is)
      (case im1 => k_is)
      (case am2 => k_is)
      (case lm2 => k_is)
      (case cm2 => k_is)
      (case km2 => k_is)
      (case im2 => k_is)
      (case am3 => k_is)
      (case lm3 => k_is)
      (case cm3 => k_is)
      (case km3 => k_is)
      (case im3 => k_is)
      (case am4 => k_is)
      (case lm4 => k_is)
      (case cm4 => k_is)
      (case km4 => k_is)
      (case im4 => k_is)
      (case C_g => k_is)
      (case C_pg => k_is)
      (case C_hd => k_is)
      (case C_po => k_is)
      (case C_sa => k_is)
      (case C_mk => k_is)
      (case C_kp => k_is)
      (case na_at => k_is)
      (case na_line => k_is)
      (case na_text => k_is)
      (case z_abs => k_is)
      (case z_all => k_is)
      (case z_bool => k_is)
      (case z_enumerate => k_is)
      (case z_int => k_is)
      (case z_isinstance => k_is)
      (case z_len => k_is)
      (case z_list => k_is)
      (case z_min => k_is)
      (case z_range => k_is)
      (case z_str => k_is)
      (case z_tuple => k_is)
      (case z_zip => k_is)
      (case g_DEEPEST => k_is)
      (case g_MOST_FIGURES => k_is)
      (case g_MOST_LETTERS => k_is)
      (case g_WORD_SIGNS => k_is)
      (case g_BARE => k_is)
      (case s_BARE => k_is)
    obtain ⟨t, hb, T⟩ := TT;have e : some (Value.ref fa) = some (Value.ref (t.f 43).1) := hmg.symm.trans (T.d 43 rfl).m;have e' : fa = (t.f 43).1 := by injection e with e; injection e
    subst e';exact ⟨(t.f 43).2, hb, fun base _ _ => K51.EB T⟩
  case S => exact fun K H a ns hl _ hS => L2.D8 rfl hl hS (by obtain ⟨pr, outs, h, rfl, rfl⟩ := K51.xM hl; exact h)
  case C => exact fun _ _ _ _ z => z

