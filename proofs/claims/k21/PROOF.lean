import PyProof.Rows.All
import Wide.All
import OpenK.AllK
import Wide.FinOn
import Lean
import PyProof.EqAt
import PyProof.EqKinds
import PyProof.TupleCall
import PyProof.ConsumeWalk
import PyProof.EqLayable
import PyProof.ReprRoads
import PyProof.StrWalks
import PyProof.SliceStr2
import PyProof.StrLawsIn
import PyProof.StrLawsRepr
import PyProof.SliceList
import PyProof.Rows.FStr
import PyProof.CallStr
import PyProof.Rows.SeqMore
import PyProof.ListStr
import PyProof.Claim2Refuses
import PyProof.Rows.SetFrom
import PyProof.Rows.StrMeet
import PyProof.WalksMore
import PyProof.StrCalls
import PyProof.ListMulRoad
import PyProof.MaxThree
import PyProof.Rows.SumAny
import PyProof.AutoSeq1
import PyProof.StrBlock2
import KE.KIntText
import PyProof.StrCalls2
import PyProof.Rows.StrSplitMax
import OpenK.KOwn
import KE.KIsAll
import OpenK.KMake
import PySem.Challenge.RW_webshapes_k21_texts_at_the_bounds
abbrev Qq:=PySem.PyData
abbrev Qz:=PySem.Value
abbrev Qx:=PySem.Addr
abbrev Qv:=PySem.Shared
set_option compiler.extract_closed false
set_option bootstrap.genMatcherCode false
set_option Elab.async false
set_option linter.all false
set_option maxRecDepth 100000
set_option maxHeartbeats 4000000
noncomputable section
section
open PySem PySem.Spec PyProof.Rows PySem.W
theorem N5:type_of% @List.length_append:=@List.length_append
theorem N6:type_of% @List.length_map:=@List.length_map
theorem N7:type_of% @List.getElem?_set_ne:=@List.getElem?_set_ne
theorem N8:type_of% @List.mem_cons_of_mem:=@List.mem_cons_of_mem
theorem N9:type_of% @List.getElem?_eq_some_iff:=@List.getElem?_eq_some_iff
theorem Oa:type_of% @List.getElem?_append_right:=@List.getElem?_append_right
theorem Ob:type_of% @decide_eq_false:=@decide_eq_false
theorem Oc:type_of% @List.length_cons:=@List.length_cons
theorem Od:type_of% @List.mem_cons_self:=@List.mem_cons_self
theorem Oe:type_of% @decide_eq_true:=@decide_eq_true
theorem Of:type_of% @Heap.get?_push_of_some:=@Heap.get?_push_of_some
theorem Og:type_of% @if_pos:=@if_pos
theorem Oh:type_of% @wpAny_bind:=@wpAny_bind
theorem Oi:type_of% @List.getElem?_eq_getElem:=@List.getElem?_eq_getElem
theorem Oj:type_of% @List.getElem?_set_self:=@List.getElem?_set_self
theorem Ol:type_of% @Nat.le_refl:=@Nat.le_refl
theorem Om:type_of% @List.size_toArray:=@List.size_toArray
theorem Oo:type_of% @List.mem_cons:=@List.mem_cons
theorem Oq:type_of% @List.getElem?_append_left:=@List.getElem?_append_left
theorem Ot:type_of% @if_neg:=@if_neg
theorem Ou:type_of% @Heap.lt_size:=@Heap.lt_size
theorem Ov:type_of% @Nat.lt_of_lt_of_le:=@Nat.lt_of_lt_of_le
theorem Ow:type_of% @List.length_singleton:=@List.length_singleton
theorem Ox:type_of% @List.map_append:=@List.map_append
theorem Oy:type_of% @Nat.le_trans:=@Nat.le_trans
theorem Oz:type_of% @List.mem_singleton:=@List.mem_singleton
theorem OA:type_of% @List.getElem?_map:=@List.getElem?_map
theorem OB:type_of% @wpAny_pure:=@wpAny_pure
theorem OC:type_of% @List.append_nil:=@List.append_nil
theorem OD:type_of% @List.mem_append_right:=@List.mem_append_right
theorem OE:type_of% @List.append_assoc:=@List.append_assoc
theorem OF:type_of% @Bool.and_eq_true:=@Bool.and_eq_true
theorem OG:type_of% @Option.map_eq_some_iff:=@Option.map_eq_some_iff
theorem OH:type_of% @List.mem_of_getElem?:=@List.mem_of_getElem?
theorem OI:type_of% @PySem.F.plainAttrs_list:=@PySem.F.plainAttrs_list
theorem OJ:type_of% @List.length_set:=@List.length_set
theorem OK:type_of% @Heap.get?_push_size:=@Heap.get?_push_size
theorem OL:type_of% @PySem.F.type_list_append:=@PySem.F.type_list_append
theorem ON:type_of% @PySem.F.slot_list_append:=@PySem.F.slot_list_append
theorem OO:type_of% @of_decide_eq_true:=@of_decide_eq_true
theorem OP:type_of% @List.length_nil:=@List.length_nil
theorem OQ:type_of% @Nat.ne_of_lt:=@Nat.ne_of_lt
theorem OR:type_of% @PySem.W.mg_of:=@PySem.W.mg_of
theorem OS:type_of% @Option.some.inj:=@Option.some.inj
theorem OT:type_of% @wpAny_loadPart_at:=@wpAny_loadPart_at
theorem OU:type_of% @decide_eq_true_eq:=@decide_eq_true_eq
theorem OV:type_of% @Nat.lt_irrefl:=@Nat.lt_irrefl
theorem OW:type_of% @Nat.le_of_ble_eq_true:=@Nat.le_of_ble_eq_true
theorem OZ:type_of% @PySem.W.mg_none_of:=@PySem.W.mg_none_of
theorem O0:type_of% @List.nil_append:=@List.nil_append
theorem O1:type_of% @List.mem_map:=@List.mem_map
theorem O2:type_of% @List.length_take:=@List.length_take
theorem O3:type_of% @List.cons_ne_nil:=@List.cons_ne_nil
theorem O4:type_of% @Heap.get?_update_other:=@Heap.get?_update_other
theorem O5:type_of% @wpAny_truthy_bool:=@wpAny_truthy_bool
theorem O6:type_of% @List.flatten_cons:=@List.flatten_cons
theorem O7:type_of% @List.lookup_cons:=@List.lookup_cons
theorem O8:type_of% @List.all_eq_true:=@List.all_eq_true
theorem O9:type_of% @wpAny_mono:=@wpAny_mono
theorem Pa:type_of% @List.nodup_cons:=@List.nodup_cons
theorem Pb:type_of% @List.cons_lt_cons_iff:=@List.cons_lt_cons_iff
theorem Pc:type_of% @Bool.false_ne_true:=@Bool.false_ne_true
theorem Pd:type_of% @Nat.add_assoc:=@Nat.add_assoc
theorem Pe:type_of% @Bool.true_and:=@Bool.true_and
theorem Pf:type_of% @sizeLine_eq:=@sizeLine_eq
theorem Pg:type_of% @Nat.zero_le:=@Nat.zero_le
theorem Ph:type_of% @List.mem_append_left:=@List.mem_append_left
theorem Pj:type_of% @Nat.lt_succ_self:=@Nat.lt_succ_self
theorem Pk:type_of% @List.mem_nil_iff:=@List.mem_nil_iff
theorem Pm:type_of% @List.length_drop:=@List.length_drop
theorem Pn:type_of% @of_decide_eq_false:=@of_decide_eq_false
theorem Po:type_of% @List.mem_append:=@List.mem_append
theorem Pp:type_of% @PySem.W.looks_findIn:=@PySem.W.looks_findIn
theorem Pq:type_of% @List.mem_of_mem_take:=@List.mem_of_mem_take
theorem Pt:type_of% @List.length_range:=@List.length_range
theorem Pu:type_of% @List.filterMap_cons:=@List.filterMap_cons
theorem Pw:type_of% @Int.toNat_of_nonneg:=@Int.toNat_of_nonneg
theorem Px:type_of% @beq_iff_eq:=@beq_iff_eq
theorem Py:type_of% @List.length_replicate:=@List.length_replicate
theorem Pz:type_of% @wpAny_execs_cons:=@wpAny_execs_cons
theorem PB:type_of% @wpAny_isSubtype_exc:=@wpAny_isSubtype_exc
theorem PD:type_of% @beq_eq_false_iff_ne:=@beq_eq_false_iff_ne
theorem PF:type_of% @PySem.mem_of_lookup:=@PySem.mem_of_lookup
theorem PH:type_of% @wpAny_passesOwn:=@wpAny_passesOwn
theorem PJ:type_of% @wpAny_ite_false:=@wpAny_ite_false
theorem PK:type_of% @wpAny_execs_nil:=@wpAny_execs_nil
theorem PL:type_of% @PySem.W.kia_one:=@PySem.W.kia_one
theorem PN:type_of% @wpAny_Call_Name_kw:=@wpAny_Call_Name_kw
theorem PQ:type_of% @wpAny_newObj_type:=@wpAny_newObj_type
theorem PU:type_of% @PySem.F.plainAttrs_str:=@PySem.F.plainAttrs_str
theorem PV:type_of% @Nat.sub_self:=@Nat.sub_self
theorem PX:type_of% @Nat.add_comm:=@Nat.add_comm
theorem PY:type_of% @List.take_of_length_le:=@List.take_of_length_le
theorem PZ:type_of% @Heap.get?_update_self:=@Heap.get?_update_self
theorem P0:type_of% @call_meets:=@call_meets
theorem P1:type_of% @codeAny_call_builtin:=@codeAny_call_builtin
theorem P4:type_of% @List.foldl_cons:=@List.foldl_cons
theorem P5:type_of% @if_true:=@if_true
theorem P6:type_of% @List.set_set:=@List.set_set
theorem P7:type_of% @PySem.W.callWith_K:=@PySem.W.callWith_K
theorem P8:type_of% @List.pairwise_cons:=@List.pairwise_cons
theorem P9:type_of% @List.contains_cons:=@List.contains_cons
theorem Qa:type_of% @Array.getElem?_eq_some_iff:=@Array.getElem?_eq_some_iff
theorem Qb:type_of% @List.drop_eq_getElem_cons:=@List.drop_eq_getElem_cons
theorem Qc:type_of% @wpAny_field:=@wpAny_field
theorem Qd:type_of% @Nat.le_succ:=@Nat.le_succ
theorem Qe:type_of% @List.nodup_append:=@List.nodup_append
theorem Qf:type_of% @or_false:=@or_false
theorem Qg:type_of% @beq_self_eq_true:=@beq_self_eq_true
theorem Qh:type_of% @List.take_length:=@List.take_length
theorem Qi:type_of% @codeAny_mono:=@codeAny_mono
theorem Qj:type_of% @Nat.zero_add:=@Nat.zero_add
theorem Qk:type_of% @Bool.or_eq_true:=@Bool.or_eq_true
theorem Ql:type_of% @PySem.W.methodCall_KW:=@PySem.W.methodCall_KW
end
section
namespace L2
abbrev Fg:=PySem.W.Frag
set_option maxRecDepth 100000 in
set_option maxHeartbeats 0 in
theorem ws:PySem.W.OpenLaw.wellSaid PySem.Challenge.rw_webshapes_k21_texts_at_the_bounds=true:=by decide +kernel
open PySem PySem.Spec PyProof.Rows
abbrev Key:=Sum Int Str
noncomputable def Hn:Key->Qz->Bool
 | .inl k,v=>Value.isInt k v
 | .inr x,v=>Value.isStrOf x v
noncomputable def Nb (w:World):Key->Int
 | .inl k=>hashInt k
 | .inr x=>hashStr w x
theorem a9:∀ {k:Key} {v:Qz},Hn k v=true->(∃ i t,k=Sum.inl i/\v=Value.int i t)\/(∃ x t,k=Sum.inr x/\v=Value.str x t)
 | .inl i,v,h=>by
  obtain ⟨t,e⟩:=Value.isInt_shape (k:=i) (v:=v) h;exact .inl ⟨i,t,rfl,e⟩
 | .inr x,v,h=>by
  obtain ⟨t,e⟩:=Value.isStrOf_shape (x:=x) (v:=v) h;exact .inr ⟨x,t,rfl,e⟩
theorem EZ (a b:Int):decide ((Sum.inl a:Key)=Sum.inl b)=(a==b):=by
 by_cases e:a=b
 ·subst e;simp
 ·have h:¬(Sum.inl a:Key)=Sum.inl b:=fun q=>e (Sum.inl.inj q);rw [Ob h];exact (PD.mpr e).symm
theorem Hf (a b:Str):decide ((Sum.inr a:Key)=Sum.inr b)=decide (a=b):=by
 by_cases e:a=b
 ·subst e;simp
 ·have h:¬(Sum.inr a:Key)=Sum.inr b:=fun q=>e (Sum.inr.inj q);rw [Ob h,Ob e]
theorem H9 (a:Int) (b:Str):decide ((Sum.inl a:Key)=Sum.inr b)=false:=Ob (fun q=>nomatch q)
theorem FI (a:Str) (b:Int):decide ((Sum.inr a:Key)=Sum.inl b)=false:=Ob (fun q=>nomatch q)
def pL (prog:Program) (w:World):PySem.KeyKind prog w Key where
 is:=Hn
 hash:=Nb w
 inj:=fun v a b ha hb=>by
  rcases a9 ha with ⟨i,t,rfl,rfl⟩ | ⟨x,t,rfl,rfl⟩
  ·rcases a9 hb with ⟨j,u,rfl,e⟩ | ⟨y,u,rfl,e⟩
   ·injection e with e1 _;rw [e1]
   ·exact nomatch e
  ·rcases a9 hb with ⟨j,u,rfl,e⟩ | ⟨y,u,rfl,e⟩
   ·exact nomatch e
   ·injection e with e1 _;rw [e1]
 byValue:=fun k v h=>by
  rcases a9 h with ⟨i,t,rfl,rfl⟩ | ⟨x,t,rfl,rfl⟩ <;> rfl
 pyHash:=fun hv h=>by
  rcases a9 hv with ⟨i,t,rfl,rfl⟩ | ⟨x,t,rfl,rfl⟩
  ·exact wpAny_pyHash_int h
  ·exact wpAny_pyHash_str h
 eqBool:=fun hu hv h=>by
  rcases a9 hu with ⟨i,t,rfl,rfl⟩ | ⟨x,t,rfl,rfl⟩
  ·rcases a9 hv with ⟨j,u,rfl,rfl⟩ | ⟨y,u,rfl,rfl⟩
   ·rw [EZ] at h;exact wpAny_eqBool_int h
   ·rw [H9] at h;exact SeqAt.EqAt.int_str i t y u _ _ _ _ h
  ·rcases a9 hv with ⟨j,u,rfl,rfl⟩ | ⟨y,u,rfl,rfl⟩
   ·rw [FI] at h;exact SeqAt.EqAt.str_int x t j u _ _ _ _ h
   ·rw [Hf] at h;exact wpAny_eqBool_str h
 «strs»:=fun k x t v h=>by
  rcases a9 h with ⟨i,u,rfl,e⟩ | ⟨y,u,rfl,e⟩
  ·exact nomatch e
  ·injection e with e1 _;subst e1;cases v <;> rfl
end L2
namespace L2
open PySem PySem.Spec PyProof.Rows
inductive V where
 | non | bl (b:Bool) | int (i:Int) | str (x:Str) | byt (b:Array UInt8) | flt (b:UInt64) | ref (a:Qx) | ty (n:String)
 deriving DecidableEq
def RelV:V->Qz->Prop
 | .non,u=>u=Value.none
 | .bl b,u=>u=Value.bool b
 | .int i,u=>∃ t,u=Value.int i t
 | .str x,u=>∃ t,u=Value.str x t
 | .byt b,u=>∃ t,u=Value.bytes b t
 | .flt b,u=>∃ t,u=Value.float b t
 | .ref a,u=>u=Value.ref a
 | .ty n,u=>u=Value.type n
abbrev Vals:List V->List Qz->Prop:=Paired RelV
theorem Vals.length {xs:List V} {us:List Qz} (r:Vals xs us):xs.length=us.length:=Paired.length r
theorem Vals.get:∀ {xs:List V} {us:List Qz} {i:Nat} {x:V},Vals xs us->xs[i]?=some x->∃ u,us[i]?=some u/\RelV x u
 | _,_,_,_,.nil,e=>by simp at e
 | _,_,0,_,.cons r _,e=>by simp at e;subst e;exact ⟨_,rfl,r⟩
 | _,_,i+1,x,.cons _ t,e=>by
  obtain ⟨u,h1,h2⟩:=Vals.get (i:=i) (x:=x) t (by simpa using e);exact ⟨u,by simpa using h1,h2⟩
theorem Vals.set {x:V} {u:Qz} (r:RelV x u):∀ {xs:List V} {us:List Qz} (i:Nat),Vals xs us->Vals (xs.set i x) (us.set i u)
 | _,_,_,.nil=>.nil
 | _,_,0,.cons _ t=>.cons r t
 | _,_,i+1,.cons q t=>.cons q (Vals.set r i t)
theorem Vals.append:∀ {xs ys:List V} {us ws:List Qz},Vals xs us->Vals ys ws->Vals (xs++ys) (us++ws)
 | _,_,_,_,.nil,s=>s
 | _,_,_,_,.cons r t,s=>.cons r (Vals.append t s)
theorem Vals.take:∀ {xs:List V} {us:List Qz} (n:Nat),Vals xs us->Vals (xs.take n) (us.take n)
 | _,_,0,_=>.nil
 | _,_,_+1,.nil=>.nil
 | _,_,n+1,.cons r t=>.cons r (Vals.take n t)
theorem Vals.drop:∀ {xs:List V} {us:List Qz} (n:Nat),Vals xs us->Vals (xs.drop n) (us.drop n)
 | _,_,0,r=>r
 | _,_,_+1,.nil=>.nil
 | _,_,n+1,.cons _ t=>Vals.drop n t
def uI:Option V->Option Qz->Prop
 | some v,some u=>RelV v u
 | none,none=>True
 | _,_=>False
def KV {κ:Type}:List (κ×V)->List (κ×Qz)->Prop:=Paired fun (p:κ×V) (q:κ×Qz)=>p.1=q.1/\RelV p.2 q.2
noncomputable def kV:Key->V
 | .inl i=>.int i
 | .inr x=>.str x
mutual
noncomputable def F6 (w:World):Qq->Int
 | .int i=>hashInt i
 | .str x=>hashStr w x
 | .tuple ds=>reduceHash (Builtin.Tuple.tupleHashOf (By w ds))
 | _=>0
noncomputable def By (w:World):List Qq->List Int
 | []=>[]
 | d :: ds=>F6 w d :: By w ds
end
def NZ (w:World) (x:Qq×V×V) (e:DictEntry):Prop:=e.hash=F6 w x.1/\RelV x.2.1 e.key/\RelV x.2.2 e.val
inductive HO where
 /-- a list -/
 | lst (xs:List V)
 /-- a tuple (never changes) -/
 | tup (xs:List V)
 /-- a dict whose keys are ints and texts;one whose keys are tuples of ints and texts (the empty one is both) -/
 | dK (kvs:List (Key×V)) | dT (kvs:List (List Key×V))
 /-- a dict by any hashable data: its epoch;the keys as data and as values,what they hold -/
 | dD (ep:Nat) (xs:List (Qq×V×V))
 /-- a set of ints: its members,its size -/
 | set (S:Int->Bool) (n:Nat)
 /-- an instance of the class at C,its dict at dx,its attributes -/
 | ins (C dx:Qx) (fs:List (Str×V))
 /-- the dict of the instance at x -/
 | own (x:Qx)
 /-- the dict of an exception -/
 | xd (fs:List (Str×V))
 /-- a bound method,f of x -/
 | met (f x:Qx)
 /-- a range object lo,lo+1,.. below hi -/
 | rng (lo hi:Int)
 /-- a thing that is known to the object (the script;a dict while a loop walks it): read,never written while it is so -/
 | frz (o:Obj) (u:HO)
 /-- a code object's table -/
 | tbl (ps:Array Qz)
 /-- any other thing,by what is true of its one object (a def of one's own: M5 a S n:=HO.ext fun h=>..) -/
 | ext (φ:Heap->Prop)
abbrev Hp:=Qx->Option HO
noncomputable def upd (H:Hp) (a:Qx) (o:HO):Hp:=fun b=>if b=a then some o else H b
theorem aE {H:Hp} {a:Qx} {o:HO}:upd H a o a=some o:=by unfold upd;rw [Og rfl]
theorem aL {H:Hp} {a b:Qx} {o:HO} (h:b≠a):upd H a o b=H b:=by unfold upd;rw [Ot h]
theorem Ea {H:Hp} {a:Qx} {o u:HO}:upd (upd H a o) a u=upd H a u:=by
 funext b;unfold upd;split <;> rfl
theorem a6 {H:Hp} {a b:Qx} {o:HO} (h:H a=some o) (h':H b=none):a≠b:=by
 intro e;subst e;rw [h] at h';cases h'
section
variable (P:Program) (w:World)
def cN (H:Hp) (h:Heap) (a:Qx):HO->Prop
 | .lst xs=>xs.length<=sizeLine/\∃ (its:List Qz) (n:Nat),Vals xs its/\h.get? a=some { cls:=.type "list", data:=.seq its.toArray n }
 | .tup xs=>xs.length<=sizeLine/\∃ its:List Qz,Vals xs its/\IsTup h a its.toArray
 | .dK kvs=>kvs.length<=sizeLine/\(a==sysModules)=false/\∃ vs,KV kvs vs/\h.DictOf (pL P w) a vs
 | .dT kvs=>kvs.length<=sizeLine/\(a==sysModules)=false/\∃ xs:List (List Key×Qx×Qz),
   Paired (fun (p:List Key×V) (q:List Key×Qx×Qz)=>p.1=q.1/\H q.2.1=some (.tup (p.1.map kV))/\RelV p.2 q.2.2) kvs xs /\
   ∃ o es ep,h.get? a=some o/\o.ExactDict/\o.data=.dict es ep/\es.toList=xs.map (entryOfKey (tupleKind (pL P w)))/\(xs.map (·.1)).Nodup
 | .dD ep xs=>xs.length<=sizeLine/\(a==sysModules)=false/\(xs.map (·.1)).Nodup/\∃ o es,h.get? a=some o/\o.ExactDict/\o.data=.dict es ep/\Paired (NZ w) xs es.toList
 | .set S n=>h.SetOf (intKind P w) a S n
 | .ins C dx fs=>H dx=some (.own a)/\fs.length<=1000/\dx≠a/\h.get? a=some (PySem.W.instObj C dx) /\
   ∃ mA,h.Ns1 dx mA/\(∀ f,uI (fs.lookup f) (mA f))/\PySem.Within mA (fs.map (·.1))
 | .own _=>∃ o,h.get? a=some o
 | .xd fs=>∃ mA,h.Ns1 a mA/\∀ f,uI (fs.lookup f) (mA f)
 | .rng lo hi=>∃ t u v,h.get? a=some { cls:=.type "range", data:=.fields #[.int lo t,.int hi u,.int 1 v] }
 | .frz o u=>h.get? a=some o/\cN H h a u
 | .tbl ps=>h.get? a=some { cls:=.none,data:=.fields ps }
 | .met f x=>h.get? a=some (PySem.W.methodObj (.ref f) (.ref x))
 | .ext φ=>φ h/\(∃ o,h.get? a=some o)/\∀ h1 h2:Heap,φ h1->(∀ o,h1.get? a=some o->h2.get? a=some o)->φ h2
def HOk (H:Hp) (h:Heap):Prop:=∀ a o,H a=some o->cN P w H h a o
end
section
variable {P:Program} {w:World} {H H':Hp} {h h':Heap} {a:Qx} {o:HO}
theorem cN.lt (x:cN P w H h a o):a < h.objs.size:=by
 cases o with
 | lst xs=>obtain ⟨_,_,_,_,e⟩:=x;exact Ou e
 | tup xs=>obtain ⟨_,_,_,p⟩:=x;exact p.lt
 | dK kvs=>obtain ⟨_,_,_,_,o,_,_,e,_⟩:=x;exact Ou e
 | dT kvs=>obtain ⟨_,_,_,_,o,_,_,e,_⟩:=x;exact Ou e
 | dD ep xs=>obtain ⟨_,_,_,o,_,e,_⟩:=x;exact Ou e
 | set S n=>obtain ⟨o,_,_,_,e,_⟩:=x;exact Ou e
 | ins C dx fs=>obtain ⟨_,_,_,e,_⟩:=x;exact Ou e
 | own y=>obtain ⟨_,e⟩:=x;exact Ou e
 | xd fs=>obtain ⟨_,⟨_,_,_,e,_⟩,_⟩:=x;exact Ou e
 | rng lo hi=>obtain ⟨_,_,_,e⟩:=x;exact Ou e
 | frz ob u=>obtain ⟨e,_⟩:=x;exact Ou e
 | tbl ps=>exact Ou (show h.get? a=some _ from x)
 | met f y=>exact Ou (show h.get? a=some _ from x)
 | ext φ=>obtain ⟨_,⟨_,e⟩,_⟩:=x;exact Ou e
theorem Paired.MF {α β:Type} {F G:α->β->Prop}:∀ {l₁:List α} {l₂:List β},Paired F l₁ l₂->(∀ a b,F a b->G a b)->Paired G l₁ l₂
 | _,_,.nil,_=>.nil
 | _,_,.cons r t,f=>.cons (f _ _ r) (Paired.MF t f)
theorem cN.nK (x:cN P w H h a o) (k:∀ b u,(b=a\/H b=some (.own a))->h.get? b=some u->h'.get? b=some u)
  (ho:∀ b,H b=some (.own a)->H' b=some (.own a)) (ht:∀ b xs,H b=some (.tup xs)->H' b=some (.tup xs)):cN P w H' h' a o:=by
 induction o with
 | lst xs=>obtain ⟨z,its,n,r,e⟩:=x;exact ⟨z,its,n,r,k _ _ (.inl rfl) e⟩
 | tup xs=>obtain ⟨z,its,r,ob,e,c⟩:=x;exact ⟨z,its,r,ob,k _ _ (.inl rfl) e,c⟩
 | dK kvs=>obtain ⟨z,y,vs,r,ob,es,ep,e,c⟩:=x;exact ⟨z,y,vs,r,ob,es,ep,k _ _ (.inl rfl) e,c⟩
 | dT kvs =>
  obtain ⟨z,y,xs,r,ob,es,ep,e,c⟩:=x;exact ⟨z,y,xs,Paired.MF r fun p q z=>⟨z.1,ht _ _ z.2.1,z.2.2⟩,ob,es,ep,k _ _ (.inl rfl) e,c⟩
 | dD ep xs=>obtain ⟨z,y,nd,ob,es,e,c⟩:=x;exact ⟨z,y,nd,ob,es,k _ _ (.inl rfl) e,c⟩
 | set S n=>obtain ⟨ob,es,ep,t,e,c⟩:=x;exact ⟨ob,es,ep,t,k _ _ (.inl rfl) e,c⟩
 | ins C dx fs =>
  obtain ⟨d,z,ne,e,mA,⟨od,es,ep,e2,c⟩,r⟩:=x;exact ⟨ho _ d,z,ne,k _ _ (.inl rfl) e,mA,⟨od,es,ep,k _ _ (.inr d) e2,c⟩,r⟩
 | own y=>obtain ⟨ob,e⟩:=x;exact ⟨ob,k _ _ (.inl rfl) e⟩
 | xd fs=>obtain ⟨mA,⟨od,es,ep,e,c⟩,r⟩:=x;exact ⟨mA,⟨od,es,ep,k _ _ (.inl rfl) e,c⟩,r⟩
 | rng lo hi=>obtain ⟨t,u,v,e⟩:=x;exact ⟨t,u,v,k _ _ (.inl rfl) e⟩
 | frz ob u ih=>obtain ⟨e,q⟩:=x;exact ⟨k _ _ (.inl rfl) e,ih q⟩
 | tbl ps =>
  have e:h.get? a=some { cls:=.none,data:=.fields ps }:=x;show h'.get? a=some { cls:=.none,data:=.fields ps };exact k a _ (.inl rfl) e
 | met f y =>
  have e:h.get? a=some (PySem.W.methodObj (.ref f) (.ref y)):=x;show h'.get? a=some (PySem.W.methodObj (.ref f) (.ref y));exact k a _ (.inl rfl) e
 | ext φ=>obtain ⟨p,⟨o,e⟩,st⟩:=x;exact ⟨st _ _ p fun o q=>k _ _ (.inl rfl) q,⟨o,k _ _ (.inl rfl) e⟩,st⟩
theorem HOk.lt (x:HOk P w H h) (e:H a=some o):a < h.objs.size:=(x a o e).lt
theorem HOk.fresh (x:HOk P w H h) (e:h.objs.size<=a):H a=none:=by
 cases q:H a with
 | none=>rfl
 | some u=>exact absurd (Ov (x.lt q) e) (OV _)
theorem HOk.kept (x:HOk P w H h) (k:∀ b u,h.get? b=some u->h'.get? b=some u):HOk P w H h':=fun a o e =>
 (x a o e).nK (fun b u _ q=>k b u q) (fun _ q=>q) fun _ _ q=>q
theorem HOk.laid (x:HOk P w H h) (k:∀ b u,h.get? b=some u->h'.get? b=some u) (hp:h.objs.size<=a) (new:cN P w (upd H a o) h' a o):HOk P w (upd H a o) h':=fun b u e=>by
 have hn:=x.fresh hp;by_cases hb:b=a
 ·subst hb;rw [aE] at e;cases e;exact new
 ·rw [aL hb] at e;exact (x b u e).nK (fun c v _ q=>k c v q) (fun c q=>by rw [aL (a6 q hn)];exact q) fun c xs q=>by rw [aL (a6 q hn)];exact q
end
def Rd (H:Hp) (a:Qx) (u:HO):Prop:=H a=some u\/∃ o,H a=some (.frz o u)
theorem Rd.ok {P:Program} {w:World} {H:Hp} {h:Heap} {a:Qx} {u:HO} (r:Rd H a u) (x:HOk P w H h):cN P w H h a u:=by
 rcases r with r | ⟨o,r⟩
 ·exact x a u r
 ·obtain ⟨_,q⟩:=x a _ r;exact q
def Mut:Option HO->Prop
 | some (.lst _)=>True
 | some (.dK _)=>True
 | some (.dT _)=>True
 | some (.dD _ _)=>True
 | some (.set _ _)=>True
 | some (.ins _ _ _)=>True
 | some (.ext _)=>True
 | _=>False
section
variable {P:Program} {w:World} {H:Hp} {h h':Heap} {x e:Qx} {o':HO}
theorem HOk.write (ok:HOk P w H h) (mu:Mut (H x)) (he:e=x\/H e=some (.own x)) (k:∀ b u,b≠e->h.get? b=some u->h'.get? b=some u) (heo:∃ u,h'.get? e=some u)
  (new:cN P w (upd H x o') h' x o'):HOk P w (upd H x o') h':=fun b u q=>by
 have nown:∀ c y,H c=some (.own y)->c≠x:=fun c y r z=>by subst z;rw [r] at mu;exact mu
 have ntup:∀ c xs,H c=some (.tup xs)->c≠x:=fun c xs r z=>by subst z;rw [r] at mu;exact mu
 by_cases hb:b=x
 ·subst hb;rw [aE] at q;cases q;exact new
 ·rw [aL hb] at q;by_cases hbe:b=e
  ·have q':H b=some (.own x):=by
    rcases he with z | z
    ·exact absurd (hbe.trans z) hb
    ·rw [hbe];exact z
   rw [q] at q';cases q';obtain ⟨v,hv⟩:=heo;exact ⟨v,by rw [hbe];exact hv⟩
  ·refine (ok b u q).nK (fun c v hc r=>k c v ?_ r) (fun c r=>by rw [aL (nown c b r)];exact r) fun c xs r=>by rw [aL (ntup c xs r)];exact r
   rcases hc with rfl | hc
   ·exact hbe
   ·rintro rfl;rcases he with z | z
    ·exact nown c b hc z
    ·rw [hc] at z;cases z;exact hb rfl
end
structure Un (fs ex:List Qx) (H H':Hp) (h h':Heap):Prop where
 keep:∀ b o,h.get? b=some o->H b=none->b ∉ fs->b ∉ ex->h'.get? b=some o
 slot:∀ b o,h.get? b=some o->H b=none->b∈fs->b ∉ ex->∃ sl,h'.get? b=some { o with slots:=sl }
 free:∀ b o,h.get? b=some o->H b=none->b ∉ ex->H' b=none
 there:∀ b o,h.get? b=some o->b ∉ ex->∃ o',h'.get? b=some o'
 rQ:∀ b xs,H b=some (.tup xs)->H' b=some (.tup xs)
 pN:∀ b o u,H b=some (.frz o u)->H' b=some (.frz o u)
 tU:∀ b ps,H b=some (.tbl ps)->∃ more,H' b=some (.tbl (ps++more))
section
variable {fs fs' ex ex':List Qx} {H H1 H2:Hp} {h h1 h2 h':Heap} {a x e:Qx} {o:HO}
theorem Un.any (u:Un fs ex H H1 h h1) {b:Qx} {ob:Obj} (q:h.get? b=some ob) (n:H b=none) (hx:b ∉ ex):∃ sl,h1.get? b=some { ob with slots:=sl }:=by
 by_cases hb:b∈fs
 ·exact u.slot b ob q n hb hx
 ·exact ⟨ob.slots,u.keep b ob q n hb hx⟩
theorem Un.kept (k:∀ b u,h.get? b=some u->h'.get? b=some u):Un fs ex H H h h' :=
 ⟨fun b ob q _ _ _=>k b ob q,fun b ob q _ _ _=>⟨ob.slots,k b ob q⟩,fun _ _ _ n _=>n,fun b ob q _=>⟨ob,k b ob q⟩,fun _ _ q=>q,fun _ _ _ q=>q,fun _ ps q=>⟨#[],by rw [q];simp⟩⟩
theorem Un.refl:Un fs ex H H h h:=Un.kept fun _ _ q=>q
theorem Un.laid (k:∀ b u,h.get? b=some u->h'.get? b=some u) (hp:h.objs.size<=a) (hn:H a=none):Un fs ex H (upd H a o) h h' where
 keep:=fun b u q _ _ _=>k b u q
 slot:=fun b u q _ _ _=>⟨u.slots,k b u q⟩
 free:=fun b u q n _=>by rw [aL (OQ (Ov (Ou q) hp))];exact n
 there:=fun b u q _=>⟨u,k b u q⟩
 rQ:=fun b xs q=>by rw [aL (a6 q hn)];exact q
 pN:=fun b u xs q=>by rw [aL (a6 q hn)];exact q
 tU:=fun b ps q=>⟨#[],by rw [aL (a6 q hn),q];simp⟩
theorem Un.write (mu:Mut (H x)) (he:e=x\/H e=some (.own x)) (k:∀ b u,b≠e->h.get? b=some u->h'.get? b=some u) (heo:∃ u,h'.get? e=some u):Un fs ex H (upd H x o) h h':=by
 have hx:∀ b,H b=none->b≠x:=fun b n z=>by subst z;rw [n] at mu;exact mu
 have hb:∀ b,H b=none->b≠e:=fun b n z=>by
  subst z;rcases he with r | r
  ·exact hx b n r
  ·rw [n] at r;cases r
 have hm:∀ b u,H b=some u->¬Mut (some u)->b≠x:=fun b u q nm z=>by subst z;rw [q] at mu;exact nm mu
 refine ⟨fun b u q n _ _=>k b u (hb b n) q,fun b u q n _ _=>⟨u.slots,k b u (hb b n) q⟩,fun b u q n _=>by rw [aL (hx b n)];exact n,fun b u q _=>?_,
  fun b xs q=>by rw [aL (hm b _ q fun z=>z)];exact q,fun b u xs q=>by rw [aL (hm b _ q fun z=>z)];exact q,fun b ps q=>⟨#[],by rw [aL (hm b _ q fun z=>z),q];simp⟩⟩
 by_cases hbe:b=e
 ·subst hbe;exact heo
 ·exact ⟨u,k b u hbe q⟩
end
noncomputable def trk (h:Heap) (H:Hp):List Qx:=(List.range h.objs.size).filter fun a=>(H a).isSome
def Ab (h:Heap) (H:Hp):Heap:=PySem.W.hideAll h (trk h H)
theorem vZ (h:Heap) (H:Hp):(Ab h H).objs.size=h.objs.size:=PySem.W.hideAll_size _ _
theorem AU {h:Heap} {H:Hp} {b:Qx} {o:Obj} (e:h.get? b=some o) (n:H b=none):(Ab h H).get? b=some o :=
 PySem.W.hideAll_get _ e fun hm=>by
  have q:(H b).isSome=true:=(List.mem_filter.mp hm).2;rw [n] at q;simp at q
theorem DV {h:Heap} {H:Hp} {b:Qx} {o:Obj} (e:(Ab h H).get? b=some o):h.get? b=some o/\H b=none:=by
 have e':h.get? b=some o:=PySem.W.of_hideAll (trk h H) e;refine ⟨e',?_⟩;cases q:H b with
 | none=>rfl
 | some x =>
  have hm:b∈trk h H:=List.mem_filter.mpr ⟨List.mem_range.mpr (Ou e'),by simp [q]⟩;have z:(Ab h H).get? b=none:=PySem.W.hideAll_none (trk h H) hm;rw [z] at e;cases e
noncomputable def DI (g h:Heap) (L:Qx):List (Qx×Obj):=(List.range h.objs.size).filterMap fun a=>if a=L\/(g.get? a).isSome=true then none else (h.get? a).map fun o=>(a,o)
def rest (g h:Heap) (L d:Qx):List (Qx×Obj):=(DI g h L).filter fun p=>decide (p.1≠d)
structure Mod (K:Fg) (mg:Str->Option Qz) (base:Heap):Prop where
 kin:K.In base
 glob:base.Ns mainGlobals mg
 blt:∃ mb,base.Ns builtinsNs mb/\∀ x:Str,x ≠ "__name__" -> mb x=bootBuiltins x
 nolimit:base.NoLimit
structure Cx where
 prog:Program
 w:World
 K:Fg
 mg:Str->Option Qz
 base:Heap
 A:Around
 N:List Str
 s0:Qv
 ZY:Hp
 env:Env
 outer:List Env
 stack:List Env
 ex:List Qx
 fn:Str->Bool
 calm:Bool
 pn:List (Qx×Obj)
 xe:Qz->Qv->Prop
noncomputable def frs (l:List Env):List Qx:=l.filterMap (·.frame)
abbrev Cx.fs (X:Cx):List Qx:=frs X.outer
def Vis (sc:Scope) (x:Str):Prop:=sc.names.lookup x=some .local\/sc.names.lookup x=some .cell\/sc.names.lookup x=some .free
def Loc (sc:Scope) (x:Str):Prop:=sc.names.lookup x=some .local\/sc.names.lookup x=some .cell
def Look (env:Env) (h:Heap) (m:Str->Option Qz) (x:Str) (u:Qz):Prop :=
 (env.kindOf x=some .local/\m x=some u)\/((env.kindOf x=some .cell\/env.kindOf x=some .free)/\∃ c,env.cells.lookup x=some c/\h.IsCell c (some u))
structure Cx.Ok (X:Cx):Prop where
 mod:Mod X.K X.mg X.base
 kind:X.env.scope.kind=.function
 glob:X.env.globals=mainGlobals
 blt:X.env.builtins=builtinsNs
 above:X.s0.heap.objs.size<=X.env.locals
 inj:∀ x y c,X.env.cells.lookup x=some c->X.env.cells.lookup y=some c->x=y
 has:∀ x,(X.env.kindOf x=some .cell\/X.env.kindOf x=some .free)->∃ c,X.env.cells.lookup x=some c
 cab:∀ x c,X.fn x=true->X.env.cells.lookup x=some c->X.s0.heap.objs.size<=c
 hd:X.calm=true->X.A.handled=none
 frames:X.A.frames=some X.stack
 stk:X.stack=X.outer\/(X.stack=X.env :: X.outer/\X.env.frame=some X.env.locals)
 exf:∀ b∈X.ex,b≠X.env.locals/\∀ x c,X.env.cells.lookup x=some c->c≠b
 bs:∀ b o,X.base.get? b=some o->X.s0.heap.get? b=some o/\X.ZY b=none
 bsz:X.base.objs.size<=X.s0.heap.objs.size
 Dg:∀ b o,X.base.get? b=some o->b ∉ X.ex
 EG:∀ b∈X.ex,b ∉ X.fs
 qF:X.s0.heap.FunFrames X.base X.outer
 frf:∀ b∈X.fs,X.ZY b=none
structure Inv (X:Cx) (pins:List (Qx×Obj)) (Z:List (Option V)) (H:Hp) (s:Qv):Prop where
 ok:X.Ok
 os:s.os=X.s0.os
 bare:AllBare s.gens
 base:Un X.fs X.ex X.ZY H X.s0.heap s.heap
 loc:∃ m,s.heap.Ns X.env.locals m/\∀ (i:Nat) (x:Str) (v:V),X.N[i]?=some x->Z[i]?=some (some v)->Vis X.env.scope x->∃ u,RelV v u/\Look X.env s.heap m x u
 cell:∀ x c,X.env.cells.lookup x=some c->∃ v,s.heap.IsCell c v
 free:H X.env.locals=none
 fZ:∀ x c,X.env.cells.lookup x=some c->H c=none
 pin:∀ p∈X.pn++pins,s.heap.get? p.1=some p.2/\H p.1=none/\p.1≠X.env.locals/\p.1 ∉ X.fs/\∀ v,p.2.data≠.cell v
 hok:HOk X.prog X.w H s.heap
 len:Z.length=X.N.length
section
variable {X:Cx} {pins:List (Qx×Obj)} {Z:List (Option V)} {H H':Hp} {s:Qv} {h':Heap}
theorem Cx.Ok.Nj (ok:X.Ok) {b:Qx} {o:Obj} (e:X.base.get? b=some o):b ∉ X.fs:=fun hb=>by
 have:=(ok.qF.mem hb).1;rw [e] at this;cases this
theorem Inv.bs (I:Inv X pins Z H s):∀ b o,X.base.get? b=some o->s.heap.get? b=some o/\H b=none:=fun b o e =>
 ⟨I.base.keep b o (I.ok.bs b o e).1 (I.ok.bs b o e).2 (I.ok.Nj e) (I.ok.Dg b o e),I.base.free b o (I.ok.bs b o e).1 (I.ok.bs b o e).2 (I.ok.Dg b o e)⟩
theorem Inv.bk (I:Inv X pins Z H s):∀ b o,X.base.get? b=some o->s.heap.get? b=some o:=fun b o e=>(I.bs b o e).1
theorem Inv.mod (I:Inv X pins Z H s):Mod X.K X.mg X.base:=I.ok.mod
theorem Inv.kIn (I:Inv X pins Z H s):X.K.In s.heap:=I.ok.mod.kin.keeps I.bk
theorem Inv.lt (I:Inv X pins Z H s):X.env.locals < s.heap.objs.size:=let ⟨_,hn,_⟩:=I.loc;hn.lt
theorem Inv.sz (I:Inv X pins Z H s):X.s0.heap.objs.size<=s.heap.objs.size:=Oy I.ok.above (Nat.le_of_lt I.lt)
theorem Inv.Mi (I:Inv X pins Z H s) {a:Qx} (h:s.heap.objs.size<=a):a ∉ X.fs:=fun hb=>by
 obtain ⟨_,o,ho,_⟩:=I.ok.qF.mem hb;exact absurd (Ov (Ou ho) (Oy I.sz h)) (OV _)
theorem Inv.cne (I:Inv X pins Z H s):∀ x c,X.env.cells.lookup x=some c->c≠X.env.locals:=fun x c e z=>by
 obtain ⟨v,o,ho,hd⟩:=I.cell x c e;obtain ⟨m,⟨o',es,ep,ho',hd',_⟩,_⟩:=I.loc;rw [z,ho'] at ho;cases ho;rw [hd'] at hd;cases hd
theorem Inv.qF (I:Inv X pins Z H s):s.heap.FunFrames X.base X.outer:=by
 have all:∀ (l:List Env),(∀ b∈frs l,b∈X.fs)->X.s0.heap.FunFrames X.base l->s.heap.FunFrames X.base l:=by
  intro l;induction l with
  | nil=>intro _ _;trivial
  | cons env r ih =>
   intro hs hl;obtain ⟨hk,⟨L,o,hf,hn,ho,hd⟩,hr⟩:=hl;have hL:L∈X.fs:=hs L (by unfold frs;rw [Pu,hf];exact Od);obtain ⟨sl,e⟩:=I.base.slot L o ho (I.ok.frf L hL) hL fun z=>I.ok.EG L z hL;exact ⟨hk,⟨L,_,hf,hn,e,hd⟩,ih (fun b hb=>hs b (by unfold frs;rw [Pu,hf];exact N8 _ hb)) hr⟩
 exact all X.outer (fun _ hb=>hb) I.ok.qF
theorem Inv.stack (I:Inv X pins Z H s):s.heap.FunFrames X.base X.stack:=by
 rcases I.ok.stk with e | ⟨e,hf⟩
 ·rw [e];exact I.qF
 ·rw [e];obtain ⟨m,hn,_⟩:=I.loc;refine .cons (by rw [I.ok.kind];decide) hf hn ?_ I.qF;exact Heap.get?_none_of_le (Oy I.ok.bsz I.ok.above)
theorem Inv.nT (I:Inv X pins Z H s):∀ b∈frs X.stack,b∈X.env.locals :: X.fs:=fun b hb=>by
 rcases I.ok.stk with e | ⟨e,hf⟩
 ·rw [e] at hb;exact N8 _ hb
 ·rw [e] at hb;unfold frs at hb;rw [Pu,hf] at hb;exact hb
theorem Inv.kY (I:Inv X pins Z H s):∀ b∈frs X.stack,H b=none:=fun b hb=>by
 rcases Oo.mp (I.nT b hb) with e | hb
 ·rw [e];exact I.free
 ·obtain ⟨_,o,ho,_⟩:=I.ok.qF.mem hb;exact I.base.free b o ho (I.ok.frf b hb) fun z=>I.ok.EG b z hb
theorem Inv.step {g':Array GenState} {t':Nat} {d':Drawn} {ch:List Qx} (I:Inv X pins Z H s)
  (hch:∀ b∈ch,(b∈X.ex\/X.s0.heap.objs.size<=b)/\b≠X.env.locals/\(∀ x c,X.env.cells.lookup x=some c->c≠b)/\∀ p∈X.pn++pins,p.1≠b)
  (keep:∀ b o,b≠X.env.locals->b ∉ X.fs->b ∉ ch->s.heap.get? b=some o->H b=none->h'.get? b=some o)
  (slot:∀ b o,b≠X.env.locals->b∈X.fs->b ∉ ch->s.heap.get? b=some o->H b=none->∃ sl,h'.get? b=some { o with slots:=sl }) (free:∀ b o,b ∉ ch->s.heap.get? b=some o->H b=none->H' b=none)
  (there:∀ b o,b ∉ ch->s.heap.get? b=some o->∃ o',h'.get? b=some o')
  (rQ:∀ b xs,H b=some (.tup xs)->H' b=some (.tup xs)) (pN:∀ b o u,H b=some (.frz o u)->H' b=some (.frz o u)) (tU:∀ b ps,H b=some (.tbl ps)->∃ more,H' b=some (.tbl (ps++more)))
  (ns:∀ m,s.heap.Ns X.env.locals m->h'.Ns X.env.locals m) (hok:HOk X.prog X.w H' h') (hg:AllBare g') :
  Inv X pins Z H' { s with heap:=h',gens:=g',drawn:=d',toks:=t' }:=by
 have neL:∀ b o,X.s0.heap.get? b=some o->b≠X.env.locals:=fun b o e=>OQ (Ov (Ou e) I.ok.above);have neC:∀ b o,X.s0.heap.get? b=some o->b ∉ X.ex->b ∉ ch:=fun b o e hx hb=>by
  rcases (hch b hb).1 with z | z
  ·exact hx z
  ·exact absurd (Ov (Ou e) z) (OV _)
 have cellK:∀ x c,X.env.cells.lookup x=some c->∀ v,s.heap.IsCell c v->h'.IsCell c v:=fun x c e v ⟨o,ho,hd⟩=>by
  have nch:c ∉ ch:=fun z=>(hch c z).2.2.1 x c e rfl;by_cases hc:c∈X.fs
  ·obtain ⟨sl,q⟩:=slot c o (I.cne x c e) hc nch ho (I.fZ x c e);exact ⟨_,q,hd⟩
  ·exact ⟨o,keep c o (I.cne x c e) hc nch ho (I.fZ x c e),hd⟩
 refine ⟨I.ok,I.os,hg,⟨fun b o e n hb hx=>?_,fun b o e n hb hx=>?_,fun b o e n hx=>?_,fun b o e hx=>?_,fun b xs e=>rQ b xs (I.base.rQ b xs e),fun b o xs e=>pN b o xs (I.base.pN b o xs e),fun b ps e=>?_⟩,?_,fun x c e=>?_,?_,fun x c e=>?_,fun p hp=>?_,hok,I.len⟩
 ·exact keep b o (neL b o e) hb (neC b o e hx) (I.base.keep b o e n hb hx) (I.base.free b o e n hx)
 ·obtain ⟨sl,e1⟩:=I.base.slot b o e n hb hx;obtain ⟨sl',e2⟩:=slot b _ (neL b o e) hb (neC b o e hx) e1 (I.base.free b o e n hx);exact ⟨sl',e2⟩
 ·obtain ⟨o',e1⟩:=I.base.there b o e hx;exact free b o' (neC b o e hx) e1 (I.base.free b o e n hx)
 ·obtain ⟨o',e1⟩:=I.base.there b o e hx;exact there b o' (neC b o e hx) e1
 ·obtain ⟨m1,e1⟩:=I.base.tU b ps e;obtain ⟨m2,e2⟩:=tU b _ e1;exact ⟨m1++m2,by rw [e2,Array.append_assoc]⟩
 ·obtain ⟨m,hn,hl⟩:=I.loc;refine ⟨m,ns m hn,fun i x v e1 e2 e3=>?_⟩;obtain ⟨u,r,l⟩:=hl i x v e1 e2 e3;refine ⟨u,r,?_⟩;rcases l with l | ⟨k,c,e,z⟩
  ·exact .inl l
  ·exact .inr ⟨k,c,e,cellK x c e _ z⟩
 ·obtain ⟨v,z⟩:=I.cell x c e;exact ⟨v,cellK x c e v z⟩
 ·obtain ⟨m,⟨o,_,_,ho,_⟩,_⟩:=I.loc;exact free _ o (fun z=>(hch _ z).2.1 rfl) ho I.free
 ·obtain ⟨v,o,ho,hd⟩:=I.cell x c e;exact free c o (fun z=>(hch c z).2.2.1 x c e rfl) ho (I.fZ x c e)
 ·obtain ⟨e,n,ne,nf,d⟩:=I.pin p hp;have nch:p.1 ∉ ch:=fun z=>(hch p.1 z).2.2.2 p hp rfl;exact ⟨keep p.1 p.2 ne nf nch e n,free p.1 p.2 nch e n,ne,nf,d⟩
theorem Inv.un {t':Nat} (I:Inv X pins Z H s) (u:Un X.fs [] H H' s.heap h') (hok:HOk X.prog X.w H' h'):Inv X pins Z H' { s with heap:=h',toks:=t' }:=by
 obtain ⟨m,⟨o,es,ep,ho,r⟩,_⟩:=id I.loc;obtain ⟨sl,hL⟩:=u.any ho I.free (by simp)
 exact I.step (g':=s.gens) (d':=s.drawn) (ch:=[]) (fun _ z=>nomatch z) (fun b o _ hb _ e n=>u.keep b o e n hb (by simp)) (fun b o _ hb _ e n=>u.slot b o e n hb (by simp)) (fun b o _ e n=>u.free b o e n (by simp)) (fun b o _ e=>u.there b o e (by simp)) u.rQ u.pN u.tU (fun m' hm=>by
  obtain ⟨o',es',ep',ho',r'⟩:=hm;rw [ho] at ho';cases ho'
  exact ⟨_,es',ep',hL,r'⟩) hok I.bare
theorem Inv.call {g':Array GenState} {t':Nat} {d':Drawn} {ch:List Qx} (I:Inv X pins Z H s) (u:Un (frs X.stack) ch H H' s.heap h') (hok:HOk X.prog X.w H' h') (hg:AllBare g')
  (hch:∀ b∈ch,(b∈X.ex\/X.s0.heap.objs.size<=b)/\b≠X.env.locals/\(∀ x c,X.env.cells.lookup x=some c->c≠b)/\∀ p∈X.pn++pins,p.1≠b) :
  Inv X pins Z H' { s with heap:=h',gens:=g',drawn:=d',toks:=t' }:=by
 obtain ⟨m,⟨o,es,ep,ho,r⟩,_⟩:=id I.loc;obtain ⟨sl,hL⟩:=u.any ho I.free fun z=>(hch _ z).2.1 rfl
 exact I.step (ch:=ch) hch (fun b o hL hb hc e n=>u.keep b o e n (fun z=>(Oo.mp (I.nT b z)).elim hL hb) hc) (fun b o _ _ hc e n=>u.any e n hc) (fun b o hc e n=>u.free b o e n hc) (fun b o hc e=>u.there b o e hc) u.rQ u.pN u.tU (fun m' hm=>by
  obtain ⟨o',es',ep',ho',r'⟩:=hm;rw [ho] at ho';cases ho'
  exact ⟨_,es',ep',hL,r'⟩) hok hg
theorem Inv.turned {t':Nat} {it:Qx} (I:Inv X pins Z H s) (k:∀ b o,b≠it->s.heap.get? b=some o->h'.get? b=some o) (hn:H it=none) (hL:it≠X.env.locals)
  (h1:it∈X.ex\/X.s0.heap.objs.size<=it) (h2:∀ x c,X.env.cells.lookup x=some c->c≠it) (h3:∀ p∈X.pn++pins,p.1≠it):Inv X pins Z H { s with heap:=h',toks:=t' }:=by
 have nit:∀ b u,H b=some u->b≠it:=fun b u e z=>by rw [z,hn] at e;cases e
 refine I.step (g':=s.gens) (d':=s.drawn) (ch:=[it]) (fun b hb=>?_) (fun b o _ _ hc e _=>k b o (fun z=>hc (by simp [z])) e) (fun b o _ _ hc e _=>⟨o.slots,k b o (fun z=>hc (by simp [z])) e⟩) (fun _ _ _ _ n=>n)
  (fun b o hc e=>⟨o,k b o (fun z=>hc (by simp [z])) e⟩) (fun _ _ e=>e) (fun _ _ _ e=>e) (fun b ps e=>⟨#[],by rw [e];simp⟩) (fun m hm=>?_) (fun b u e=>?_) I.bare
 ·have e:b=it:=by simpa using hb
  subst e;exact ⟨h1,hL,h2,h3⟩
 ·obtain ⟨o,es,ep,ho,r⟩:=hm;exact ⟨o,es,ep,k _ o (Ne.symm hL) ho,r⟩
 ·refine (I.hok b u e).nK (fun c v hc q=>k c v ?_ q) (fun _ q=>q) fun _ _ q=>q;rcases hc with z | z
  ·rw [z];exact nit b u e
  ·exact nit c _ z
theorem Inv.tok (I:Inv X pins Z H s) (t:Nat):Inv X pins Z H { s with toks:=t }:=I.un (h':=s.heap) (t':=t) Un.refl I.hok
theorem Inv.kept {t':Nat} (I:Inv X pins Z H s) (k:∀ b u,s.heap.get? b=some u->h'.get? b=some u):Inv X pins Z H { s with heap:=h',toks:=t' }:=I.un (Un.kept k) (I.hok.kept k)
theorem Inv.laid {a:Qx} {o:HO} {t':Nat} (I:Inv X pins Z H s) (k:∀ b u,s.heap.get? b=some u->h'.get? b=some u) (hp:s.heap.objs.size<=a) (new:cN X.prog X.w (upd H a o) h' a o) :
  Inv X pins Z (upd H a o) { s with heap:=h',toks:=t' }:=I.un (Un.laid k hp (I.hok.fresh hp)) (I.hok.laid k hp new)
theorem Inv.write {x e:Qx} {o:HO} {t':Nat} (I:Inv X pins Z H s) (mu:Mut (H x)) (he:e=x\/H e=some (.own x)) (k:∀ b u,b≠e->s.heap.get? b=some u->h'.get? b=some u) (heo:∃ u,h'.get? e=some u)
  (new:cN X.prog X.w (upd H x o) h' x o):Inv X pins Z (upd H x o) { s with heap:=h',toks:=t' }:=I.un (Un.write mu he k heo) (I.hok.write mu he k heo new)
theorem Inv.gE {pins':List (Qx×Obj)} (I:Inv X pins Z H s) (h:∀ p∈pins',s.heap.get? p.1=some p.2/\H p.1=none/\p.1≠X.env.locals/\p.1 ∉ X.fs/\∀ v,p.2.data≠.cell v):Inv X pins' Z H s :=
 ⟨I.ok,I.os,I.bare,I.base,I.loc,I.cell,I.free,I.fZ,fun p hp=>(Po.mp hp).elim (fun z=>I.pin p (Ph _ z)) (h p),I.hok,I.len⟩
theorem rq {N:List Str} (hN:N.Nodup) {i j:Nat} {x:Str} (a:N[i]?=some x) (b:N[j]?=some x):i=j:=by
 obtain ⟨h1,e1⟩:=N9.mp a;obtain ⟨h2,e2⟩:=N9.mp b;exact (List.getElem_inj hN).mp (e1.trans e2.symm)
theorem wU {M:Model} {A:Around} {E:Qz->Qv->Prop} {i:Nat} {x:Str} {v:V} {u:Qz} {Q:Unit->Qv->Prop} (I:Inv X pins Z H s) (hN:X.N.Nodup) (hi:X.N[i]?=some x) (hx:Loc X.env.scope x) (r:RelV v u)
  (h:∀ s',Inv X pins (Z.set i (some v)) H s'->(∃ a,Heap.SameBut a s.heap s'.heap/\(a=X.env.locals\/X.env.cells.lookup x=some a))->Q () s') (hf:X.fn x=true\/X.env.scope.names.lookup x=some .local:=by first | exact .inl rfl | exact .inr rfl | assumption):wpAny M A (storeName X.env x u) Q E s:=by
 obtain ⟨m,hn,hl⟩:=id I.loc;have hcls:(X.env.scope.kind==.class||(X.env.scope.kind==.module&&X.env.locals != X.env.globals))=false:=by rw [I.ok.kind];rfl
 have hiZ:i < Z.length:=by rw [I.len];exact (N9.mp hi).1
 have cne:=I.cne;have tracked:∀ {a:Qx} {h':Heap},(∃ o,s.heap.get? a=some o/\H a=none)->Heap.SameBut a s.heap h'->HOk X.prog X.w H h':=fun {a h'} ha hs b ob e=>by
  obtain ⟨_,_,hfree⟩:=ha;refine (I.hok b ob e).nK (fun c w' hc q=>(hs.2 c ?_).trans q) (fun _ q=>q) fun _ _ q=>q;rintro rfl;rcases hc with rfl | hc
  ·rw [hfree] at e;cases e
  ·rw [hfree] at hc;cases hc
 rcases hx with hk | hk
 ·refine wpAny_storeName_local hk hn (fun h' hn' hs=>?_) hcls;obtain ⟨oL,_,_,hoL,_⟩:=id hn;refine h _ ⟨I.ok,I.os,I.bare,⟨fun b o e n hb hx=>?_,fun b o e n hb hx=>?_,I.base.free,fun b o e hx=>?_,I.base.rQ,I.base.pN,I.base.tU⟩,⟨_,hn',fun j y v' e1 e2 e3=>?_⟩,fun y c e=>?_,I.free,I.fZ,fun p hp=>?_,tracked ⟨oL,hoL,I.free⟩ hs,by simpa using I.len⟩ ⟨_,hs,.inl rfl⟩
  ·exact (hs.2 b (OQ (Ov (Ou e) I.ok.above))).trans (I.base.keep b o e n hb hx)
  ·obtain ⟨sl,e1⟩:=I.base.slot b o e n hb hx;exact ⟨sl,(hs.2 b (OQ (Ov (Ou e) I.ok.above))).trans e1⟩
  ·obtain ⟨o',e1⟩:=I.base.there b o e hx;exact ⟨o',(hs.2 b (OQ (Ov (Ou e) I.ok.above))).trans e1⟩
  ·by_cases hj:j=i
   ·subst hj;rw [hi] at e1;cases e1;rw [Oj hiZ] at e2;cases e2;exact ⟨u,r,.inl ⟨hk,by simp⟩⟩
   ·rw [N7 (Ne.symm hj)] at e2;obtain ⟨u',r',q⟩:=hl j y v' e1 e2 e3;refine ⟨u',r',?_⟩;rcases q with ⟨k,e⟩ | ⟨k,c,e,z⟩
    ·refine .inl ⟨k,?_⟩;have:y≠x:=fun e=>hj (rq hN e1 (e▸hi));simp [this,e]
    ·exact .inr ⟨k,c,e,z.sameBut hs (cne y c e)⟩
  ·obtain ⟨w',z⟩:=I.cell y c e;exact ⟨w',z.sameBut hs (cne y c e)⟩
  ·obtain ⟨e,n,ne,nf,d⟩:=I.pin p hp;exact ⟨(hs.2 p.1 ne).trans e,n,ne,nf,d⟩
 ·have hfn:X.fn x=true:=by
   rcases hf with z | z
   ·exact z
   ·rw [z] at hk;cases hk
  obtain ⟨c,hc⟩:=I.ok.has x (.inl hk);obtain ⟨w',z⟩:=I.cell x c hc;refine wpAny_storeName_cell I.ok.kind hk hc z (fun h' hc' hs=>?_);obtain ⟨oc,hoc,hocd⟩:=id z;refine h { s with heap:=h' } ⟨I.ok,I.os,I.bare,⟨fun b o e n hb hx=>?_,fun b o e n hb hx=>?_,I.base.free,fun b o e hx=>?_,I.base.rQ,I.base.pN,I.base.tU⟩,⟨m,hn.sameBut hs (Ne.symm (cne x c hc)),fun j y v' e1 e2 e3=>?_⟩,fun y c' e=>?_,I.free,I.fZ,fun p hp=>?_,tracked ⟨oc,hoc,I.fZ x c hc⟩ hs,by simpa using I.len⟩ ⟨c,hs,.inr hc⟩
  ·exact (hs.2 b (OQ (Ov (Ou e) (I.ok.cab x c hfn hc)))).trans (I.base.keep b o e n hb hx)
  ·obtain ⟨sl,e1⟩:=I.base.slot b o e n hb hx;exact ⟨sl,(hs.2 b (OQ (Ov (Ou e) (I.ok.cab x c hfn hc)))).trans e1⟩
  ·obtain ⟨o',e1⟩:=I.base.there b o e hx;exact ⟨o',(hs.2 b (OQ (Ov (Ou e) (I.ok.cab x c hfn hc)))).trans e1⟩
  ·by_cases hj:j=i
   ·subst hj;rw [hi] at e1;cases e1;rw [Oj hiZ] at e2;cases e2;exact ⟨u,r,.inr ⟨.inl hk,c,hc,hc'⟩⟩
   ·rw [N7 (Ne.symm hj)] at e2;obtain ⟨u',r',q⟩:=hl j y v' e1 e2 e3;refine ⟨u',r',?_⟩;rcases q with q | ⟨k,c',e,z'⟩
    ·exact .inl q
    ·refine .inr ⟨k,c',e,z'.sameBut hs ?_⟩;rintro rfl;exact hj (rq hN e1 (I.ok.inj _ _ _ e hc▸hi))
  ·by_cases hcc:c'=c
   ·subst hcc;exact ⟨_,hc'⟩
   ·obtain ⟨w2,z2⟩:=I.cell y c' e;exact ⟨w2,z2.sameBut hs hcc⟩
  ·obtain ⟨e,n,ne,nf,d⟩:=I.pin p hp;refine ⟨(hs.2 p.1 ?_).trans e,n,ne,nf,d⟩;intro q;rw [q,hoc] at e;have q':oc=p.2:=OS e;exact d w' (by rw [<- q'];exact hocd)
theorem mf {M:Model} {A:Around} {E:Qz->Qv->Prop} {i:Nat} {x:Str} {v:V} {u:Qz} {Q:Unit->Qv->Prop} (I:Inv X pins Z H s) (hN:X.N.Nodup) (hi:X.N[i]?=some x) (hx:Loc X.env.scope x) (r:RelV v u)
  (h:∀ s',Inv X pins (Z.set i (some v)) H s'->Q () s') (hf:X.fn x=true\/X.env.scope.names.lookup x=some .local:=by first | exact .inl rfl | exact .inr rfl | assumption):wpAny M A (storeName X.env x u) Q E s :=
 wU I hN hi hx r (fun s' I' _=>h s' I') hf
theorem Inv.JJ {s':Qv} {ch:List Qx} (I:Inv X pins Z H s) (ho:s'.os=s.os) (u:Un (frs X.stack) ch H H' s.heap s'.heap) (hok:HOk X.prog X.w H' s'.heap) (hg:AllBare s'.gens)
  (hch:∀ b∈ch,(b∈X.ex\/X.s0.heap.objs.size<=b)/\b≠X.env.locals/\(∀ x c,X.env.cells.lookup x=some c->c≠b)/\∀ p∈X.pn++pins,p.1≠b):Inv X pins Z H' s':=by
 obtain ⟨h',g',d',t',o'⟩:=s';have e:o'=s.os:=ho;subst e;exact I.call (g':=g') (t':=t') (d':=d') u hok hg hch
end
abbrev XK:=Qz->Option Qx->Hp->Prop
abbrev St:=List (Option V)
abbrev VK:=V->Hp->Prop
abbrev TE:=St->Hp->VK->Prop
abbrev TT:=St->Hp->(Bool->Hp->Prop)->Prop
abbrev TA:=St->Hp->(List V->Hp->Prop)->Prop
structure Ends where
 nx:St->Hp->Prop
 rt:VK
 bk:St->Hp->Prop:=fun _ _=>False
 ct:St->Hp->Prop:=fun _ _=>False
abbrev TS:=Ends->St->Hp->Prop
def EP (X:Cx) (pins:List (Qx×Obj)) (Z:St) (Q:VK) (u:Qz) (s':Qv):Prop:=∃ v H',Inv X pins Z H' s'/\RelV v u/\Q v H'
def TP (X:Cx) (pins:List (Qx×Obj)) (Z:St) (Q:Bool->Hp->Prop) (b:Bool) (s':Qv):Prop:=∃ H',Inv X pins Z H' s'/\Q b H'
def AP (X:Cx) (pins:List (Qx×Obj)) (Z:St) (Q:List V->Hp->Prop) (us:List Qz) (s':Qv):Prop:=∃ vs H',Inv X pins Z H' s'/\Vals vs us/\Q vs H'
def SP (X:Cx) (pins:List (Qx×Obj)) (D:Ends) (f:Flow) (s':Qv):Prop :=
 match f with
 | .next=>∃ Z' H',Inv X pins Z' H' s'/\D.nx Z' H'
 | .brk=>∃ Z' H',Inv X pins Z' H' s'/\D.bk Z' H'
 | .cont=>∃ Z' H',Inv X pins Z' H' s'/\D.ct Z' H'
 | .ret u=>∃ v Z' H',Inv X pins Z' H' s'/\RelV v u/\D.rt v H'
def PE (X:Cx) (e:Expr) (t:TE):Prop :=
 ∀ (pins:List (Qx×Obj)) (s:Qv) (Z:St) (H:Hp) (Q:VK),Inv X pins Z H s->t Z H Q->wpAny (model X.prog X.w) X.A (eval e X.env) (EP X pins Z Q) X.xe s
def PT (X:Cx) (e:Expr) (t:TT):Prop :=
 ∀ (pins:List (Qx×Obj)) (s:Qv) (Z:St) (H:Hp) (Q:Bool->Hp->Prop),Inv X pins Z H s->t Z H Q->wpAny (model X.prog X.w) X.A (isTrue e X.env (eval e X.env)) (TP X pins Z Q) X.xe s
def PW (X:Cx) (e:Expr) (t:TT):Prop :=
 ∀ (whole:Sem Qz) (pins:List (Qx×Obj)) (s:Qv) (Z:St) (H:Hp) (Q:Bool->Hp->Prop),Inv X pins Z H s->t Z H Q->wpAny (model X.prog X.w) X.A (isTrue e X.env whole) (TP X pins Z Q) X.xe s
theorem PW.pt {X:Cx} {e:Expr} {t:TT} (h:PW X e t):PT X e t:=h _
def PA (X:Cx) (es:List Expr) (t:TA):Prop :=
 ∀ (pos:Pos) (pins:List (Qx×Obj)) (s:Qv) (Z:St) (H:Hp) (Q:List V->Hp->Prop),Inv X pins Z H s->t Z H Q->wpAny (model X.prog X.w) X.A (spliced (backTo pos (starEach es X.env))) (AP X pins Z Q) X.xe s
def PS (X:Cx) (st:Stmt) (t:TS):Prop :=
 ∀ (pins:List (Qx×Obj)) (s:Qv) (Z:St) (H:Hp) (D:Ends),Inv X pins Z H s->t D Z H->wpAny (model X.prog X.w) X.A (exec st X.env) (SP X pins D) X.xe s
def PSs (X:Cx) (st:List Stmt) (t:TS):Prop :=
 ∀ (pins:List (Qx×Obj)) (s:Qv) (Z:St) (H:Hp) (D:Ends),Inv X pins Z H s->t D Z H->wpAny (model X.prog X.w) X.A (execs st X.env) (SP X pins D) X.xe s
theorem thn {α:Type} {t:Sem α} {Q Q':α->Qv->Prop} {M:Model} {A:Around} {E:Qz->Qv->Prop} {s:Qv} (h:wpAny M A t Q E s) (hQ:∀ a s,Q a s->Q' a s):wpAny M A t Q' E s:=O9 h hQ fun _ _ x=>x
section
variable {X:Cx}
theorem bin {a b:Expr} {ta tb:TE} (ha:PE X a ta) (hb:PE X b tb) {pins:List (Qx×Obj)} {s:Qv} {Z:St} {H:Hp} {R:V->V->Hp->Prop} (I:Inv X pins Z H s) (h:ta Z H fun x H1=>tb Z H1 fun y H2=>R x y H2)
  {α:Type} {Q:α->Qv->Prop} {f:Qz->Qz->Sem α}
  (hf:∀ v u s2 x y H2,Inv X pins Z H2 s2->RelV x v->RelV y u->R x y H2->wpAny (model X.prog X.w) X.A (f v u) Q X.xe s2) :
  wpAny (model X.prog X.w) X.A (eval a X.env) (fun v ZM=>wpAny (model X.prog X.w) X.A (eval b X.env) (fun u ZU=>wpAny (model X.prog X.w) X.A (f v u) Q X.xe ZU) X.xe ZM) X.xe s:=by
 refine thn (ha pins s Z H _ I h) fun v s1 ⟨x,H1,I1,r1,q1⟩=>?_;refine thn (hb pins s1 Z H1 _ I1 q1) fun u s2 ⟨y,H2,I2,r2,q2⟩=>?_;exact hf v u s2 x y H2 I2 r1 r2 q2
def gu (i:Nat):TE:=fun Z H Q=>∃ v,Z[i]?=some (some v)/\Q v H
def tC (v:V):TE:=fun _ H Q=>Q v H
theorem jJ {i:Nat} {x:Str} {pos:Pos} (hN:X.N[i]?=some x) (hv:Vis X.env.scope x) (hd:(x==("__debug__" : Str))=false:=by decide) (hcd:(x==("__classdict__" : Str))=false:=by decide):PE X (.Name x pos) (gu i):=by
 intro pins s Z H Q I h;obtain ⟨v,e,h⟩:=h;obtain ⟨m,hn,hl⟩:=I.loc;obtain ⟨u,r,l⟩:=hl i x v hN e hv;have fin:EP X pins Z Q u s:=⟨v,H,I,r,h⟩;rcases l with ⟨hk,hm⟩ | ⟨hk,c,hc,hcell⟩
 ·exact wpAny_Name (wpAny_loadName_local I.ok.kind hk hn hm fin) hd
 ·rcases hk with hk | hk
  ·exact wpAny_Name (wpAny_loadName_cell I.ok.kind hk hc hcell fin) hd
  ·exact wpAny_Name (wpAny_loadName_free I.ok.kind hk hc hcell fin hcd) hd
theorem Fp {i j pos}:PE X (.Constant (.int i) j pos) (tC (.int i)):=fun _ _ _ H _ I h=>wpAny_Constant_int ⟨.int i,H,I.tok _,⟨_,rfl⟩,h⟩
theorem Jn {b j pos}:PE X (.Constant (.bool b) j pos) (tC (.bl b)):=fun _ _ _ H _ I h=>Constant_bool ⟨.bl b,H,I,rfl,h⟩
theorem HD {j pos}:PE X (.Constant .none j pos) (tC .non):=fun _ _ _ H _ I h=>Constant_none ⟨.non,H,I,rfl,h⟩
theorem Hk {x j pos}:PE X (.Constant (.str x) j pos) (tC (.str x)):=fun _ _ _ H _ I h=>Calls.Constant_str ⟨.str x,H,I.tok _,⟨_,rfl⟩,h⟩
def Gl (X:Cx) (x:Str):Prop:=X.env.kindOf x=some .globalImplicit
theorem gS {E:Qz->Qv->Prop} {pins:List (Qx×Obj)} {s:Qv} {Z:St} {H:Hp} {x:Str} {u:Qz} {pos:Pos} {Q:Qz->Qv->Prop} (I:Inv X pins Z H s) (hg:Gl X x) (hm:X.mg x=some u) (h:Q u s)
  (hd:(x==("__debug__" : Str))=false:=by decide):wpAny (model X.prog X.w) X.A (eval (.Name x pos) X.env) Q E s :=
 Calls.Name_function_global I.ok.kind hg (Calls.loadGlobal_global (by rw [I.ok.glob];exact I.mod.glob.keeps I.bk) hm h) hd
theorem rC {E:Qz->Qv->Prop} {pins:List (Qx×Obj)} {s:Qv} {Z:St} {H:Hp} {x:Str} {u:Qz} {pos:Pos} {Q:Qz->Qv->Prop} (I:Inv X pins Z H s) (hg:Gl X x) (hm:X.mg x=none) (hv:bootBuiltins x=some u) (h:Q u s)
  (hn:x ≠ "__name__" := by decide) (hd:(x==("__debug__" : Str))=false:=by decide):wpAny (model X.prog X.w) X.A (eval (.Name x pos) X.env) Q E s:=by
 obtain ⟨mb,h1,h2⟩:=I.mod.blt;exact Calls.Name_function_global I.ok.kind hg (Calls.loadGlobal_builtin (by rw [I.ok.glob];exact I.mod.glob.keeps I.bk) hm (by rw [I.ok.blt];exact h1.keeps I.bk) ((h2 x hn).trans hv) h) hd
theorem Dv {x:Str} {v:V} {u:Qz} {pos:Pos} (hg:Gl X x) (hm:X.mg x=some u) (r:RelV v u) (hd:(x==("__debug__" : Str))=false:=by decide):PE X (.Name x pos) (tC v) :=
 fun _ _ _ H _ I h=>gS I hg hm ⟨v,H,I,r,h⟩ hd
theorem Dj {x:Str} {v:V} {u:Qz} {pos:Pos} (hg:Gl X x) (hm:X.mg x=none) (hv:bootBuiltins x=some u) (r:RelV v u) (hn:x ≠ "__name__" := by decide) (hd:(x==("__debug__" : Str))=false:=by decide):PE X (.Name x pos) (tC v) :=
 fun _ _ _ H _ I h=>rC I hg hm hv ⟨v,H,I,r,h⟩ hn hd
variable {a b:Expr} {ta tb:TE} {pos:Pos}
def PC (X:Cx) (op:CmpOp) (a b:Expr) (t:TE):Prop :=
 ∀ (pins:List (Qx×Obj)) (s:Qv) (Z:St) (H:Hp) (Q:VK),Inv X pins Z H s->t Z H Q ->
  wpAny (model X.prog X.w) X.A (eval a X.env) (fun v ZM=>wpAny (model X.prog X.w) X.A (eval b X.env) (fun u ZU=>wpAny (model X.prog X.w) X.A (compareOp op v u) (EP X pins Z Q) X.xe ZU) X.xe ZM) X.xe s
theorem AL (b:Expr) {op:CmpOp} (h:op≠.In) (h2:op≠.NotIn):behindInMarks op b=false:=by
 have e1:(op==CmpOp.In)=false:=by cases op <;> first | rfl | exact absurd rfl h
 have e2:(op==CmpOp.NotIn)=false:=by cases op <;> first | rfl | exact absurd rfl h2
 cases b <;> simp [behindInMarks,e1,e2]
def tB (t:TE):TT:=fun Z H Q=>t Z H fun x H1=>∃ c,x=.bl c/\Q c H1
theorem Mp {op:CmpOp} {t:TE} (h:PC X op a b t) (h1:behindInMarks op b=false:=by first | exact AL _ (by decide) (by decide) | rfl):PT X (.Compare a [op] [b] pos) (tB t):=by
 intro pins s Z H Q I hw;refine wpAny_isTrue_Compare1 (thn (h pins s Z H _ I hw) fun v s1 h1=>thn h1 fun u s2 h2=>thn h2 fun c s3 ⟨x,H1,I1,r1,q1⟩=>?_) h1;obtain ⟨d,rfl,q⟩:=q1;cases r1;exact O5 ⟨H1,I1,q⟩
theorem HJ {e:Expr} {t:TE} (h:PE X e t) (he:∀ whole,isTrue e X.env whole=(do let v<-whole;standAt e.pos;holding [v] (truthy v)):=by intro _;rfl):PT X e (tB t):=by
 intro pins s Z H Q I hw;refine isTrue_plain (thn (h pins s Z H _ I hw) fun v s1 ⟨x,H1,I1,r1,q1⟩=>?_) (he _);obtain ⟨d,rfl,q⟩:=q1;cases r1;exact O5 ⟨H1,I1,q⟩
variable {tA tB':TT} {rest:List Expr}
def Kj (t u:TT):TT:=fun Z H Q=>t Z H fun c H1=>if c=true then u Z H1 Q else Q false H1
def tOr (t u:TT):TT:=fun Z H Q=>t Z H fun c H1=>if c=true then Q true H1 else u Z H1 Q
def JU (t:TT):TT:=fun Z H Q=>t Z H fun c H1=>Q (!c) H1
theorem pw_and1 (ha:PT X a tA):PW X (.BoolOp .And [a] pos) tA:=by
 intro wh pins s Z H Q I h;refine isTrue_and (thn (ha pins s Z H Q I h) fun c s1 e=>?_);cases c with
 | true=>exact isTrue_and_nil e
 | false=>exact e
theorem pw_or1 (ha:PT X a tA):PW X (.BoolOp .Or [a] pos) tA:=by
 intro wh pins s Z H Q I h;refine isTrue_or (thn (ha pins s Z H Q I h) fun c s1 e=>?_);cases c with
 | false=>exact isTrue_or_nil e
 | true=>exact e
theorem pw_and (ha:PT X a tA) (hb:PW X (.BoolOp .And (b :: rest) pos) tB'):PW X (.BoolOp .And (a :: b :: rest) pos) (Kj tA tB'):=by
 intro wh pins s Z H Q I h;refine isTrue_and (thn (ha pins s Z H _ I h) fun c s1 ⟨H1,I1,q1⟩=>?_);cases c with
 | true=>exact hb wh pins s1 Z H1 Q I1 q1
 | false=>exact ⟨H1,I1,q1⟩
theorem pw_or (ha:PT X a tA) (hb:PW X (.BoolOp .Or (b :: rest) pos) tB'):PW X (.BoolOp .Or (a :: b :: rest) pos) (tOr tA tB'):=by
 intro wh pins s Z H Q I h;refine isTrue_or (thn (ha pins s Z H _ I h) fun c s1 ⟨H1,I1,q1⟩=>?_);cases c with
 | true=>exact ⟨H1,I1,q1⟩
 | false=>exact hb wh pins s1 Z H1 Q I1 q1
theorem FH (ha:PT X a tA):PT X (.UnaryOp .Not a pos) (JU tA):=by
 intro pins s Z H Q I h;exact isTrue_not (ha pins s Z H (fun c H1=>Q (!c) H1) I h)
def Cd (ta tb:TE):TE:=fun Z H Q=>ta Z H fun x H1=>∃ c,x=.bl c/\if c=true then tb Z H1 Q else Q (.bl false) H1
def JX (ta tb:TE):TE:=fun Z H Q=>ta Z H fun x H1=>∃ c,x=.bl c/\if c=true then Q (.bl true) H1 else tb Z H1 Q
def D5 (ta:TE):TE:=fun Z H Q=>ta Z H fun x H1=>∃ c,x=.bl c/\Q (.bl (!c)) H1
theorem EW {op} {t:TE} (h:PE X a t):PE X (.BoolOp op [a] pos) t:=fun pins s Z H Q I hw=>BoolOp_one (h pins s Z H Q I hw)
theorem FR (ha:PE X a ta) (hb:PE X (.BoolOp .And (b :: rest) pos) tb):PE X (.BoolOp .And (a :: b :: rest) pos) (Cd ta tb):=by
 intro pins s Z H Q I h;refine BoolOp_and (thn (ha pins s Z H _ I h) fun v s1 ⟨x,H1,I1,r1,q1⟩=>?_);obtain ⟨c,rfl,q1⟩:=q1;cases r1;refine O5 ?_;cases c with
 | true=>exact hb pins s1 Z H1 Q I1 q1
 | false=>exact ⟨.bl false,H1,I1,rfl,q1⟩
theorem Lq (ha:PE X a ta) (hb:PE X (.BoolOp .Or (b :: rest) pos) tb):PE X (.BoolOp .Or (a :: b :: rest) pos) (JX ta tb):=by
 intro pins s Z H Q I h;refine BoolOp_or (thn (ha pins s Z H _ I h) fun v s1 ⟨x,H1,I1,r1,q1⟩=>?_);obtain ⟨c,rfl,q1⟩:=q1;cases r1;refine O5 ?_;cases c with
 | false=>exact hb pins s1 Z H1 Q I1 q1
 | true=>exact ⟨.bl true,H1,I1,rfl,q1⟩
theorem FU (ha:PE X a ta):PE X (.UnaryOp .Not a pos) (D5 ta):=by
 intro pins s Z H Q I h;refine UnaryOp_ (thn (ha pins s Z H _ I h) fun v s1 ⟨x,H1,I1,r1,q1⟩=>?_);obtain ⟨c,rfl,q1⟩:=q1;cases r1;exact not_of (O5 ⟨.bl (!c),H1,I1,rfl,q1⟩)
def tIf (t:TT) (ta tb:TE):TE:=fun Z H Q=>t Z H fun c H1=>if c=true then ta Z H1 Q else tb Z H1 Q
theorem zS {c:Expr} (hc:PT X c tA) (ha:PE X a ta) (hb:PE X b tb):PE X (.IfExp c a b pos) (tIf tA ta tb):=by
 intro pins s Z H Q I h;refine wpAny_IfExp (thn (hc pins s Z H _ I h) fun d s1 ⟨H1,I1,q1⟩=>?_);cases d with
 | true=>exact ha pins s1 Z H1 Q I1 q1
 | false=>exact hb pins s1 Z H1 Q I1 q1
end
def SqL (K:Fg) (H:Hp) (a:Qx) (xs:List V):Prop :=
 Rd H a (.lst xs) \/
  ∃ (o:Obj) (its:Array Qz) (n:Nat),K.lookup a=some o/\o.cls=.type "list" /\ o.dict=none/\o.data=.seq its n/\its.size<=sizeLine/\Vals xs its.toList
def SqT (K:Fg) (H:Hp) (a:Qx) (xs:List V):Prop :=
 Rd H a (.tup xs) \/
  ∃ (o:Obj) (its:Array Qz) (n:Nat),K.lookup a=some o/\o.cls=.type "tuple" /\ o.data=.seq its n/\its.size<=sizeLine/\Vals xs its.toList
noncomputable def Nz:Qz->Option V
 | .none=>some .non
 | .bool b=>some (.bl b)
 | .int i _=>some (.int i)
 | .str x _=>some (.str x)
 | .bytes b _=>some (.byt b)
 | .float b _=>some (.flt b)
 | .ref a=>some (.ref a)
 | .type n=>some (.ty n)
 | _=>none
theorem RelV.abs {x:V} {u:Qz} (r:RelV x u):Nz u=some x:=by
 cases x with
 | non=>cases r;rfl
 | bl _=>cases r;rfl
 | int _=>obtain ⟨t,rfl⟩:=r;rfl
 | str _=>obtain ⟨t,rfl⟩:=r;rfl
 | byt _=>obtain ⟨t,rfl⟩:=r;rfl
 | flt _=>obtain ⟨t,rfl⟩:=r;rfl
 | ref _=>cases r;rfl
 | ty _=>cases r;rfl
theorem RelV.inj {x y:V} {u:Qz} (r:RelV x u) (q:RelV y u):x=y:=OS (r.abs.symm.trans q.abs)
theorem Vals.inj:∀ {xs ys:List V} {us:List Qz},Vals xs us->Vals ys us->xs=ys
 | _,_,_,.nil,.nil=>rfl
 | _,_,_,.cons r t,.cons r' t'=>by rw [r.inj r',Vals.inj t t']
section
variable {X:Cx} {pins:List (Qx×Obj)} {Z:St} {H:Hp} {s:Qv} {a:Qx} {xs ys:List V}
theorem SqT.of {K:Fg} (h:H a=some (.tup xs)):SqT K H a xs:=.inl (.inl h)
theorem Inv.list (I:Inv X pins Z H s) (h:SqL X.K H a xs):∃ its:List Qz,Vals xs its/\PlainL s.heap a its.toArray/\xs.length<=sizeLine:=by
 rcases h with h | ⟨o,its,n,hk,hc,hd,hs,hz,r⟩
 ·obtain ⟨z,its,n,r,e⟩:=h.ok I.hok;exact ⟨its,r,⟨_,n,e,rfl,rfl,rfl⟩,z⟩
 ·refine ⟨its.toList,r,⟨o,n,I.kIn a o hk,hc,hd,by simpa using hs⟩,?_⟩;have e:=r.length;simp only [Array.length_toList] at e;omega
theorem Inv.tuple (I:Inv X pins Z H s) (h:SqT X.K H a xs):∃ its:List Qz,Vals xs its/\IsTup s.heap a its.toArray/\xs.length<=sizeLine:=by
 rcases h with h | ⟨o,its,n,hk,hc,hs,hz,r⟩
 ·obtain ⟨z,its,r,p⟩:=h.ok I.hok;exact ⟨its,r,p,z⟩
 ·refine ⟨its.toList,r,⟨o,I.kIn a o hk,hc,n,by simpa using hs⟩,?_⟩;have e:=r.length;simp only [Array.length_toList] at e;omega
theorem Inv.A7 (I:Inv X pins Z H s) (h:SqL X.K H a xs) (h':SqL X.K H a ys):xs=ys:=by
 obtain ⟨its,r,⟨o,n,e,_,_,d⟩,_⟩:=I.list h;obtain ⟨its',r',⟨o',n',e',_,_,d'⟩,_⟩:=I.list h';rw [e] at e';cases e';rw [d] at d';injection d' with d1 _;have:its=its':=by simpa using congrArg Array.toList d1
 subst this;exact r.inj r'
theorem Inv.xX (I:Inv X pins Z H s) (h:SqT X.K H a xs) (h':SqT X.K H a ys):xs=ys:=by
 obtain ⟨its,r,⟨o,e,_,n,d⟩,_⟩:=I.tuple h;obtain ⟨its',r',⟨o',e',_,n',d'⟩,_⟩:=I.tuple h';rw [e] at e';cases e';rw [d] at d';injection d' with d1 _;have:its=its':=by simpa using congrArg Array.toList d1
 subst this;exact r.inj r'
end
abbrev Cx.yV (X:Cx) (E:Qz->Qv->Prop):Cx:={ X with xe:=E }
abbrev Cx.nox (X:Cx):Cx:=X.yV fun _ _=>False
theorem Cx.Ok.yV {X:Cx} (ok:X.Ok) (E:Qz->Qv->Prop):(X.yV E).Ok :=
 ⟨ok.mod,ok.kind,ok.glob,ok.blt,ok.above,ok.inj,ok.has,ok.cab,ok.hd,ok.frames,ok.stk,ok.exf,ok.bs,ok.bsz,ok.Dg,ok.EG,ok.qF,ok.frf⟩
theorem Cx.Ok.iK {X:Cx} {E:Qz->Qv->Prop} (ok:(X.yV E).Ok):X.Ok :=
 ⟨ok.mod,ok.kind,ok.glob,ok.blt,ok.above,ok.inj,ok.has,ok.cab,ok.hd,ok.frames,ok.stk,ok.exf,ok.bs,ok.bsz,ok.Dg,ok.EG,ok.qF,ok.frf⟩
section
variable {X:Cx} {pins:List (Qx×Obj)} {Z:St} {H:Hp} {s:Qv} {E:Qz->Qv->Prop}
theorem Inv.yV (I:Inv X pins Z H s) (E:Qz->Qv->Prop):Inv (X.yV E) pins Z H s:=⟨I.ok.yV E,I.os,I.bare,I.base,I.loc,I.cell,I.free,I.fZ,I.pin,I.hok,I.len⟩
theorem Inv.iK (I:Inv (X.yV E) pins Z H s):Inv X pins Z H s:=⟨I.ok.iK,I.os,I.bare,I.base,I.loc,I.cell,I.free,I.fZ,I.pin,I.hok,I.len⟩
theorem SP.iK {D:Ends} {f:Flow} {s':Qv} (h:SP (X.yV E) pins D f s'):SP X pins D f s':=by
 cases f with
 | next=>obtain ⟨Z',H',I,q⟩:=h;exact ⟨Z',H',I.iK,q⟩
 | brk=>obtain ⟨Z',H',I,q⟩:=h;exact ⟨Z',H',I.iK,q⟩
 | cont=>obtain ⟨Z',H',I,q⟩:=h;exact ⟨Z',H',I.iK,q⟩
 | ret u=>obtain ⟨v,Z',H',I,r,q⟩:=h;exact ⟨v,Z',H',I.iK,r,q⟩
theorem PSs.nox {st:List Stmt} {t:TS} (h:PSs X.nox st t):PSs X st t:=fun pins s Z H D I hw =>
 O9 (h pins s Z H D (I.yV _) hw) (fun _ _ q=>q.iK) fun _ _ z=>False.elim z
end
section
variable {X:Cx} {st:Stmt} {rest:List Stmt} {t u:TS} {e:Expr} {te:TE} {pos:Pos}
def zY:TS:=fun D Z H=>D.nx Z H
def IG (t u:TS):TS:=fun D Z H=>t { D with nx:=u D } Z H
theorem CP:PSs X [] zY:=fun _ _ Z H _ I h=>PK ⟨Z,H,I,h⟩
theorem zT (h1:PS X st t) (h2:PSs X rest u):PSs X (st :: rest) (IG t u):=by
 intro pins s Z H D I h;refine Pz (thn (h1 pins s Z H { D with nx:=u D } I h) fun f s1 q=>?_);cases f with
 | next =>
  obtain ⟨Z',H',I',q⟩:=q;exact h2 pins s1 Z' H' D I' q
 | ret v=>exact q
 | brk=>exact q
 | cont=>exact q
theorem wm (h1:PS X st t):PSs X [st] t:=by
 intro pins s Z H D I h;refine Pz (thn (h1 pins s Z H D I h) fun f s1 q=>?_);cases f with
 | next=>exact PK q
 | ret v=>exact q
 | brk=>exact q
 | cont=>exact q
theorem Inv.quiet {pins:List (Qx×Obj)} {Z:St} {H:Hp} {s:Qv} (I:Inv X pins Z H s):interactive X.env=false:=by simp [interactive,I.ok.kind]
def EB (te:TE):TS:=fun D Z H=>te Z H fun _ H1=>D.nx Z H1
theorem Dz (he:PE X e te) (hs:swapsWith e none pos.line X.env=pure false:=by rfl):PS X (.Expr e pos) (EB te):=by
 intro pins s Z H D I h;exact wpAny_Expr_any (thn (he pins s Z H _ I h) fun v s1 ⟨x,H1,I1,r1,q1⟩=>⟨Z,H1,I1,q1⟩) I.quiet hs
def GL (te:TE):TS:=fun D Z H=>te Z H D.rt
theorem HQ (he:PE X e te):PS X (.Return (some e) pos) (GL te):=by
 intro pins s Z H D I h;exact wpAny_Return_some (thn (he pins s Z H _ I h) fun v s1 ⟨x,H1,I1,r1,q1⟩=>⟨x,Z,H1,I1,r1,q1⟩)
def LZ:TS:=fun D _ H=>D.rt .non H
def IK (c:TT) (t u:TS):TS:=fun D Z H=>c Z H fun b H1=>if b=true then t D Z H1 else u D Z H1
theorem Kl {c:Expr} {a b:List Stmt} {tc:TT} (hc:PT X c tc) (ha:PSs X a t) (hb:PSs X b u):PS X (.If c a b pos) (IK tc t u):=by
 intro pins s Z H D I h;refine wpAny_If (thn (hc pins s Z H _ I h) fun d s1 ⟨H1,I1,q1⟩=>?_);cases d with
 | true=>exact ha pins s1 Z H1 D I1 q1
 | false=>exact hb pins s1 Z H1 D I1 q1
def uS:TS:=fun _ _ _=>False
end
abbrev TG:=V->St->Hp->(St->Hp->Prop)->Prop
abbrev TGs:=List V->St->Hp->(St->Hp->Prop)->Prop
def PG (X:Cx) (target:Expr) (t:TG):Prop :=
 ∀ (pins:List (Qx×Obj)) (s:Qv) (Z:St) (H:Hp) (v:V) (u:Qz) (Q:St->Hp->Prop),Inv X pins Z H s->RelV v u->t v Z H Q ->
  wpAny (model X.prog X.w) X.A (assign target X.env u) (fun _ s'=>∃ Z' H',Inv X pins Z' H' s'/\Q Z' H') X.xe s
def PGs (X:Cx) (ts:List Expr) (t:TGs):Prop :=
 ∀ (pins:List (Qx×Obj)) (s:Qv) (Z:St) (H:Hp) (vs:List V) (us:List Qz) (Q:St->Hp->Prop),Inv X pins Z H s->Vals vs us->t vs Z H Q ->
  wpAny (model X.prog X.w) X.A (assignInOrder ((assignEach ts X.env).map (·.2)) us) (fun _ s'=>∃ Z' H',Inv X pins Z' H' s'/\Q Z' H') X.xe s
abbrev Jc:=V->V->V->Hp->(Hp->Prop)->Prop
def LN (X:Cx) (t:Jc):Prop :=
 ∀ (pins:List (Qx×Obj)) (s:Qv) (Z:St) (H:Hp) (o i v:V) (ov iv u:Qz) (Q:Hp->Prop),Inv X pins Z H s->RelV o ov->RelV i iv->RelV v u->t o i v H Q ->
  wpAny (model X.prog X.w) X.A (setItem ov iv u) (fun _ s'=>∃ H',Inv X pins Z H' s'/\Q H') X.xe s
section
variable {X:Cx} {pos:Pos}
def fX (i:Nat):TG:=fun v Z H Q=>Q (Z.set i (some v)) H
theorem p0 {i:Nat} {x:Str} (hN:X.N.Nodup) (hi:X.N[i]?=some x) (hx:Loc X.env.scope x) (hf:X.fn x=true\/X.env.scope.names.lookup x=some .local:=by first | exact .inl rfl | exact .inr rfl | assumption):PG X (.Name x pos) (fX i):=by
 intro pins s Z H v u Q I r h;exact wpAny_assign_Name (mf I hN hi hx r (fun s' I'=>⟨_,H,I',h⟩) hf)
def Ln:TGs:=fun vs Z H Q=>vs=[]/\Q Z H
def DQ (t:TG) (u:TGs):TGs:=fun vs Z H Q=>∃ v r,vs=v :: r/\t v Z H fun Z' H'=>u r Z' H' Q
theorem C9:PGs X [] Ln:=by
 intro pins s Z H vs us Q I r h;obtain ⟨e,h⟩:=h;subst e;cases r;exact assignInOrder_nil ⟨Z,H,I,h⟩
theorem zF {e:Expr} {es:List Expr} {t:TG} {u:TGs} (h1:PG X e t) (h2:PGs X es u)
  (hs:(assignEach (e :: es) X.env).map (·.2)=assign e X.env :: (assignEach es X.env).map (·.2):=by rfl):PGs X (e :: es) (DQ t u):=by
 intro pins s Z H vs us Q I r h;obtain ⟨v,vr,e1,h⟩:=h;subst e1;cases r with
 | cons r rr =>
  rw [hs];refine assignInOrder_cons (thn (h1 pins s Z H _ _ _ I r h) fun _ s1 ⟨Z1,H1,I1,q1⟩=>?_);exact h2 pins s1 Z1 H1 _ _ Q I1 rr q1
def LK (K:Fg) (n:Nat) (t:TGs):TG:=fun v Z H Q=>∃ a xs,v=.ref a/\SqT K H a xs/\xs.length=n/\t xs Z H Q
theorem Fd {es:List Expr} {k:Nat} {t:TGs} {n:Nat} (hc:X.calm=true) (h:PGs X es t)
  (hn:(assignEach es X.env).length=n:=by rfl) (hst:(assignEach es X.env).findIdx? (·.1)=none:=by rfl):PG X (.Tuple es k pos) (LK X.K n t):=by
 intro pins s Z H v u Q I r hw;obtain ⟨a,xs,e1,hq,hl,hw⟩:=hw;subst e1;cases r;obtain ⟨its,rv,ht,hz⟩:=I.tuple hq;refine assign_Tuple_tuple (I.ok.hd hc) ht (by simp [hn,<-hl,rv.length]) hst fun h' hx=>?_;have I1:Inv X pins Z H { s with heap:=h' }:=I.kept (t':=s.toks) fun b o e=>hx b o (OQ (Ou e)) e;exact h pins _ Z H xs _ Q I1 (by simpa using rv) hw
def Mm (to ti:TE) (t:Jc):TG:=fun v Z H Q=>to Z H fun o H1=>ti Z H1 fun i H2=>t o i v H2 fun H3=>Q Z H3
theorem Ha {o i:Expr} {to ti:TE} {t:Jc} (ho:PE X o to) (hi:PE X i ti) (hs:LN X t)
  (ha:∀ v,assign (.Subscript o i pos) X.env v=(do
   let ov<-holding [v] (eval o X.env)
   let iv<-holding [v,ov] (eval i X.env)
   standAt pos
   holding [v,ov,iv] (setItem ov iv v)
   release [v,ov,iv] []):=by intro _;rfl):PG X (.Subscript o i pos) (Mm to ti t):=by
 intro pins s Z H v u Q I r h;rw [ha];refine Oh (wpAny_holding (thn (ho pins s Z H _ I h) fun ov s1 ⟨x,H1,I1,r1,q1⟩=>?_));refine Oh (wpAny_holding (thn (hi pins s1 Z H1 _ I1 q1) fun iv s2 ⟨y,H2,I2,r2,q2⟩=>?_));refine Oh (wpAny_standAt (Oh (wpAny_holding (thn (hs pins s2 Z H2 x y v ov iv u _ I2 r1 r2 r q2) fun _ s3 ⟨H3,I3,q3⟩=>?_))));exact wpAny_release ⟨Z,H3,I3,q3⟩
def yX (te:TE) (g:TG):TS:=fun D Z H=>te Z H fun x H1=>g x Z H1 D.nx
theorem Ih {tg e:Expr} {te:TE} {g:TG} (he:PE X e te) (hg:PG X tg g) (hs:swapsWithSole [tg] e pos.line X.env=pure false:=by rfl) (hw:swappedStores [tg] e X.env=pure none:=by rfl)
  (h1:(assignEach [tg] X.env).map (·.2)=[assign tg X.env]:=by rfl):PS X (.Assign [tg] e pos) (yX te g):=by
 intro pins s Z H D I h;refine wpAny_Assign_stores (thn (he pins s Z H _ I h) fun v s1 ⟨x,H1,I1,r1,q1⟩=>?_) hs hw;rw [h1];exact thn (hg pins s1 Z H1 x v _ I1 r1 q1) fun _ s2 q=>q
theorem BX {i:Nat} {x:Str} {e:Expr} {te:TE} {pos':Pos} (hN:X.N.Nodup) (hi:X.N[i]?=some x) (hx:Loc X.env.scope x) (he:PE X e te) (hs:swapsWith e (some (.Name x pos')) pos.line X.env=pure false:=by rfl) (hf:X.fn x=true\/X.env.scope.names.lookup x=some .local:=by first | exact .inl rfl | exact .inr rfl | assumption) :
  PS X (.Assign [.Name x pos'] e pos) (yX te (fX i)):=by
 intro pins s Z H D I h;refine wpAny_Assign_Name (thn (he pins s Z H _ I h) fun v s1 ⟨y,H1,I1,r1,q1⟩=>?_) hs;exact mf I1 hN hi hx r1 (fun s2 I2=>⟨_,H1,I2,q1⟩) hf
end
section
variable {X:Cx} {pos:Pos}
def wo (c:TT) (tb:TS):TS:=fun D Z H=>∃ W:Nat->St->Hp->Prop,(∃ m,W m Z H)/\∀ m Z H,W m Z H ->
 c Z H fun b H1=>if b=true then ∃ N:St->Hp->Prop,(∀ Z' H',N Z' H'->∃ m',m' < m/\W m' Z' H')/\tb { D with nx:=N,ct:=N,bk:=D.nx } Z H1 else D.nx Z H1
theorem Am {c:Expr} {body:List Stmt} {tc:TT} {tb:TS} (hp:PassesOwn (model X.prog X.w) X.A X.env X.xe) (hc:PT X c tc) (hb:PSs X body tb):PS X (.While c body [] pos) (wo tc tb):=by
 intro pins s Z H D I h;obtain ⟨W,⟨m0,w0⟩,turn⟩:=h;refine wpAny_While (codeAny_whileLoop (fun n s'=>∃ Z' H',Inv X pins Z' H' s'/\W n Z' H') ?_ m0 ⟨Z,H,I,w0⟩);rintro n s1 ⟨Z1,H1,I1,w1⟩;refine PH hp (thn (hc pins s1 Z1 H1 _ I1 (turn n Z1 H1 w1)) fun b s2 ⟨H2,I2,q2⟩=>?_);cases b with
 | true =>
  obtain ⟨N,hN,q2⟩:=q2;rw [Og rfl];refine PH hp (thn (hb pins s2 Z1 H2 _ I2 q2) fun f s3 q3=>?_);cases f with
  | next =>
   obtain ⟨Z3,H3,I3,n3⟩:=q3;obtain ⟨m',hm,w3⟩:=hN Z3 H3 n3;exact ⟨m',hm,Z3,H3,I3,w3⟩
  | cont =>
   obtain ⟨Z3,H3,I3,n3⟩:=q3;obtain ⟨m',hm,w3⟩:=hN Z3 H3 n3;exact ⟨m',hm,Z3,H3,I3,w3⟩
  | brk=>exact q3
  | ret v=>exact q3
 | false =>
  rw [Ot Pc];exact PK ⟨Z1,H2,I2,q2⟩
end
structure It where
 go:Nat->Hp->Prop
 yld:Nat->Hp->V->Hp->Prop
 stop:Nat->Hp->Prop
def Bn (X:Cx) (pins:List (Qx×Obj)) (H:Hp) (b:Qx):Prop :=
 H b=none/\b≠X.env.locals/\b ∉ X.fs/\(b∈X.ex\/X.s0.heap.objs.size<=b)/\(∀ x c,X.env.cells.lookup x=some c->c≠b)/\∀ p∈X.pn++pins,p.1≠b
theorem Inv.Iv {X:Cx} {pins:List (Qx×Obj)} {Z:St} {H H':Hp} {s:Qv} {b:Qx} (I:Inv X pins Z H s) (hb:s.heap.objs.size<=b) (hn:H' b=none):Bn X pins H' b:=by
 refine ⟨hn,Nat.ne_of_gt (Ov I.lt hb),I.Mi hb,.inr (Oy I.sz hb),fun x c e z=>?_,fun p hp z=>?_⟩
 ·obtain ⟨v,q⟩:=I.cell x c e;exact absurd (Ov q.lt (by rw [z];exact hb)) (OV _)
 ·exact absurd (Ov (Ou (I.pin p hp).1) (by rw [z];exact hb)) (OV _)
structure Turn (P:Program) (w:World) (K:Fg) (tg:Expr) (J:It) (fp:List Qx) (it:Qx) (tn:Nat->Heap->Prop):Prop where
 mem:it∈fp
 obj:∀ i h,tn i h->∀ b∈fp,∃ o,h.get? b=some o/\∀ v,o.data≠.cell v
 keep:∀ i h h',tn i h->(∀ b∈fp,∀ o,h.get? b=some o->h'.get? b=some o)->tn i h'
 item:∀ (X:Cx),X.prog=P->X.w=w->X.K=K->X.calm=true->∀ (i:Nat) (pins:List (Qx×Obj)) (s:Qv) (Z:St) (H:Hp) (E:Qz->Qv->Prop),Inv X pins Z H s->(∀ b∈fp,Bn X pins H b)->tn i s.heap->J.go i H ->
  wpAny (model P w) X.A (pyNext (.ref it)) (fun r s1=>∃ u,r=some u /\
   wpAny (model P w) X.A (letOwnedTupleGo tg (.ref it) u) (fun _ s2=>∃ x H',Inv X pins Z H' s2/\RelV x u/\J.yld i H x H'/\tn (i+1) s2.heap/\∀ b∈fp,H' b=none) E s1) E s
 done:∀ (X:Cx),X.prog=P->X.w=w->X.K=K->X.calm=true->∀ (i:Nat) (pins:List (Qx×Obj)) (s:Qv) (Z:St) (H:Hp) (E:Qz->Qv->Prop),Inv X pins Z H s->(∀ b∈fp,Bn X pins H b)->tn i s.heap->J.stop i H ->
  wpAny (model P w) X.A (pyNext (.ref it)) (fun r s1=>r=none/\Inv X pins Z H s1) E s
 self:∀ (A:Around) (i:Nat) (s:Qv) (Q:Qz->Qv->Prop) (E:Qz->Qv->Prop),tn i s.heap->Q (.ref it) s->wpAny (model P w) A (pyIter (.ref it)) Q E s
abbrev TI:=St->Hp->(It->Hp->Prop)->Prop
def PIE (X:Cx) (pins:List (Qx×Obj)) (Z:St) (tg:Expr) (R:It->Hp->Prop) (itv:Qz) (s2:Qv):Prop :=
 ∃ (it:Qx) (fp:List Qx) (tn:Nat->Heap->Prop) (J:It) (H':Hp),itv=.ref it/\Inv X pins Z H' s2/\Turn X.prog X.w X.K tg J fp it tn/\tn 0 s2.heap/\(∀ b∈fp,Bn X pins H' b)/\R J H'
def PI (X:Cx) (tg iter:Expr) (wi:TI):Prop :=
 ∀ (pins:List (Qx×Obj)) (s:Qv) (Z:St) (H:Hp) (R:It->Hp->Prop),Inv X pins Z H s->wi Z H R ->
  wpAny (model X.prog X.w) X.A (eval iter X.env) (fun v s1=>wpAny (model X.prog X.w) X.A (pyIter v) (PIE X pins Z tg R) X.xe s1) X.xe s
theorem Du {M:Model} {A:Around} {E:Qz->Qv->Prop} {s:Qv} {tg:Expr} {it:Qx} {u:Qz} {o:Obj} {n:String} {vs:Array Qz} {Q:Unit->Qv->Prop} (ho:s.heap.get? it=some o) (hc:o.cls=.type n) (hd:o.data=.fields vs)
    (hn:["enumerate", "zip", "dict_itemiterator", "dict_reverseitemiterator", "odict_iterator", "itertools.zip_longest", "itertools.pairwise"].contains n=false) (hQ:Q () s):wpAny M A (letOwnedTupleGo tg (.ref it) u) Q E s:=by
  unfold letOwnedTupleGo;cases tg <;> first
    | exact OB hQ
    | (cases u <;> first
        | exact OB hQ
        | (refine Oh (wpAny_load ho ?_)
           rw [hc,hd];show wpAny M A (if (["enumerate", "zip", "dict_itemiterator", "dict_reverseitemiterator", "odict_iterator", "itertools.zip_longest", "itertools.pairwise"].contains n&&vs[0]?==some (rawInt _))=true then _ else _) Q E s;rw [Ot (by intro h;rw [hn,Bool.false_and] at h;cases h)]
           exact OB hQ))
def Itl (K:Fg) (a:Qx):It :=
 ⟨fun i H=>∃ xs x,SqL K H a xs/\xs[i]?=some x,fun i H x H'=>H'=H/\∀ xs,SqL K H a xs->xs[i]?=some x,fun i H=>∃ xs,SqL K H a xs/\xs.length<=i⟩
def Itt (K:Fg) (a:Qx):It :=
 ⟨fun i H=>∃ xs x,SqT K H a xs/\xs[i]?=some x,fun i H x H'=>H'=H/\∀ xs,SqT K H a xs->xs[i]?=some x,fun i H=>∃ xs,SqT K H a xs/\xs.length<=i⟩
def Itr (lo:Int) (n:Nat):It:=⟨fun i _=>i < n,fun i H x H'=>H'=H/\x=.int (lo+i),fun i _=>n<=i⟩
theorem wa {P:Program} {w:World} {K:Fg} {tg:Expr} (a it:Qx):Turn P w K tg (Itl K a) [it] it (fun i h=>h.IsListIter it a i) where
 mem:=by simp
 obj:=fun i h st b hb=>by
  have e:b=it:=by simpa using hb
  subst e;obtain ⟨o,e,c,d⟩:=st;exact ⟨o,e,fun v z=>by rw [d] at z;cases z⟩
 keep:=fun i h h' st k=>st.at fun o e=>k it (by simp) o e
 item:=by
  intro X hP hw hK hc i pins s Z H E I hf st hg;subst hP hw hK;obtain ⟨xs,x,hq,hx⟩:=hg;obtain ⟨its,rv,p,hz⟩:=I.list hq;obtain ⟨u,hu,ru⟩:=rv.get hx;obtain ⟨f0,f1,f2,f3,f4,f5⟩:=hf it (by simp);refine wpAny_pyNext_list_item st p.isList (x:=u) (by simpa using hu) fun h' st' sb=>?_;have I1:Inv X pins Z H { s with heap:=h' }:=I.turned (t':=s.toks) (fun b o hb e=>(sb.2 b hb).trans e) f0 f1 f3 f4 f5;obtain ⟨o,e,c,d⟩:=id st';exact ⟨u,rfl,Du (s:={ s with heap:=h' }) e c d (by decide) ⟨x,H,I1,ru,⟨rfl,fun ys hy=>by rw [I.A7 hy hq];exact hx⟩,st',fun b hb=>(hf b hb).1⟩⟩
 done:=by
  intro X hP hw hK hc i pins s Z H E I hf st hg;subst hP hw hK;obtain ⟨xs,hq,hx⟩:=hg;obtain ⟨its,rv,p,hz⟩:=I.list hq;obtain ⟨f0,f1,f2,f3,f4,f5⟩:=hf it (by simp);have hl:=rv.length;exact wpAny_pyNext_list_end (I.ok.hd hc) st p.isList (by simp;omega) fun h' eb=>⟨rfl,I.turned (t':=s.toks) (fun b o hb e=>eb b o hb e) f0 f1 f3 f4 f5⟩
 self:=fun _ _ _ _ _ st h=>wpAny_pyIter_listiter st h
theorem tf {P:Program} {w:World} {K:Fg} {tg:Expr} (a it:Qx):Turn P w K tg (Itt K a) [it] it (fun i h=>h.IsTupleIter it a i) where
 mem:=by simp
 obj:=fun i h st b hb=>by
  have e:b=it:=by simpa using hb
  subst e;obtain ⟨o,e,c,d⟩:=st;exact ⟨o,e,fun v z=>by rw [d] at z;cases z⟩
 keep:=fun i h h' st k=>st.at fun o e=>k it (by simp) o e
 item:=by
  intro X hP hw hK hc i pins s Z H E I hf st hg;subst hP hw hK;obtain ⟨xs,x,hq,hx⟩:=hg;obtain ⟨its,rv,p,hz⟩:=I.tuple hq;obtain ⟨u,hu,ru⟩:=rv.get hx;obtain ⟨f0,f1,f2,f3,f4,f5⟩:=hf it (by simp);refine wpAny_pyNext_tuple_item st (show s.heap.IsTuple a its.toArray from p) (x:=u) (by simpa using hu) fun h' st' sb=>?_;have I1:Inv X pins Z H { s with heap:=h' }:=I.turned (t':=s.toks) (fun b o hb e=>(sb.2 b hb).trans e) f0 f1 f3 f4 f5;obtain ⟨o,e,c,d⟩:=id st';exact ⟨u,rfl,Du (s:={ s with heap:=h' }) e c d (by decide) ⟨x,H,I1,ru,⟨rfl,fun ys hy=>by rw [I.xX hy hq];exact hx⟩,st',fun b hb=>(hf b hb).1⟩⟩
 done:=by
  intro X hP hw hK hc i pins s Z H E I hf st hg;subst hP hw hK;obtain ⟨xs,hq,hx⟩:=hg;obtain ⟨its,rv,p,hz⟩:=I.tuple hq;obtain ⟨f0,f1,f2,f3,f4,f5⟩:=hf it (by simp);have hl:=rv.length;exact wpAny_pyNext_tuple_end (I.ok.hd hc) st (show s.heap.IsTuple a its.toArray from p) (by simp;omega) fun h' eb=>⟨rfl,I.turned (t':=s.toks) (fun b o hb e=>eb b o hb e) f0 f1 f3 f4 f5⟩
 self:=fun _ _ _ _ _ st h=>wpAny_pyIter_tupleiter st h
theorem tP {P:Program} {w:World} {K:Fg} {tg:Expr} (it:Qx) (lo:Int) (n:Nat):Turn P w K tg (Itr lo n) [it] it (fun i h=>IsRangeIter h it (lo+(i:Nat)*1) ((n:Int) - (i:Nat)) 1) where
 mem:=by simp
 obj:=fun i h st b hb=>by
  have e:b=it:=by simpa using hb
  subst e
  exact ⟨_,st,fun v z=>by
   have z':Data.fields _=Data.cell v:=z
   cases z'⟩
 keep:=fun i h h' st k=>k it (by simp) _ st
 item:=by
  intro X hP hw hK hc i pins s Z H E I hf st hg;subst hP hw hK;obtain ⟨f0,f1,f2,f3,f4,f5⟩:=hf it (by simp);have W:=Walks.range (prog:=X.prog) (w:=X.w) (I.ok.hd hc) it lo 1 n;refine W.item i s _ _ hg st fun v h' tk hv st' kk=>?_;obtain ⟨t,rfl⟩:=hv;have I1:Inv X pins Z H { s with heap:=h',toks:=tk }:=I.turned (fun b o hb e=>kk b o (by simpa using hb) e) f0 f1 f3 f4 f5;refine ⟨_,rfl,Du (s:={ s with heap:=h',toks:=tk }) (n := "range_iterator") st' rfl rfl (by decide) ⟨.int (lo+i),H,I1,⟨t,?_⟩,⟨rfl,rfl⟩,st',fun b hb=>(hf b hb).1⟩⟩;rw [Int.mul_one]
 done:=by
  intro X hP hw hK hc i pins s Z H E I hf st hg;subst hP hw hK;obtain ⟨f0,f1,f2,f3,f4,f5⟩:=hf it (by simp);exact wpAny_pyNext_range_end (I.ok.hd hc) st (by have:n<=i:=hg;omega) fun h' eb=>⟨rfl,I.turned (t':=s.toks) (fun b o hb e=>eb b o hb e) f0 f1 f3 f4 f5⟩
 self:=fun _ _ _ _ _ st h=>wpAny_pyIter_rangeiter st h
section
variable {X:Cx} {tg:Expr}
def Dh (K:Fg) (tl:TE):TI:=fun Z H R=>tl Z H fun x H1=>∃ a,x=.ref a/\(∃ xs,SqL K H1 a xs)/\R (Itl K a) H1
def Jz (K:Fg) (tl:TE):TI:=fun Z H R=>tl Z H fun x H1=>∃ a,x=.ref a/\(∃ xs,SqT K H1 a xs)/\R (Itt K a) H1
theorem DH {l:Expr} {tl:TE} (hl:PE X l tl):PI X tg l (Dh X.K tl):=by
 intro pins s Z H R I h;refine thn (hl pins s Z H _ I h) fun v s1 ⟨x,H1,I1,r1,q1⟩=>?_;obtain ⟨a,e,⟨xs,hq⟩,q⟩:=q1;subst e;cases r1;obtain ⟨its,rv,p,hz⟩:=I1.list hq;refine wpAny_pyIter_list p.isList ?_;refine ⟨s1.heap.objs.size,[s1.heap.objs.size],_,_,H1,rfl,I1.kept (t':=s1.toks) fun b o e=>Of _ e,wa a _,⟨_,OK _ rfl,rfl,rfl⟩,fun b hb=>?_,q⟩;have e:b=s1.heap.objs.size:=by simpa using hb
 subst e;exact I1.Iv (Ol _) (I1.hok.fresh (Ol _))
theorem HA {l:Expr} {tl:TE} (hl:PE X l tl):PI X tg l (Jz X.K tl):=by
 intro pins s Z H R I h;refine thn (hl pins s Z H _ I h) fun v s1 ⟨x,H1,I1,r1,q1⟩=>?_;obtain ⟨a,e,⟨xs,hq⟩,q⟩:=q1;subst e;cases r1;obtain ⟨its,rv,p,hz⟩:=I1.tuple hq;refine wpAny_pyIter_tuple (show s1.heap.IsTuple a its.toArray from p) ?_;refine ⟨s1.heap.objs.size,[s1.heap.objs.size],_,_,H1,rfl,I1.kept (t':=s1.toks) fun b o e=>Of _ e,tf a _,⟨_,OK _ rfl,rfl,rfl⟩,fun b hb=>?_,q⟩;have e:b=s1.heap.objs.size:=by simpa using hb
 subst e;exact I1.Iv (Ol _) (I1.hok.fresh (Ol _))
theorem Bc {pins:List (Qx×Obj)} {Z:St} {H:Hp} {s:Qv} {R:It->Hp->Prop} {E:Qz->Qv->Prop} {lo hi:Int} {t u v:Tok} {tk:Nat} (I:Inv X pins Z H s) (h1:-(2 ^ 62)<=lo) (h2:lo < 2 ^ 62) (h3:-(2 ^ 62)<=hi) (h4:hi < 2 ^ 62)
  (q:R (Itr lo (hi - lo).toNat) H):wpAny (model X.prog X.w) X.A (pyIter (.ref s.heap.objs.size)) (PIE X pins Z tg R) E { s with heap:=s.heap.push { cls:=.type "range", data:=.fields #[.int lo t,.int hi u,.int 1 v] },toks:=tk }:=by
 refine wpAny_pyIter_range (IsRange.new ..) (small_one h1 h2 h3 h4) ?_;have I1:Inv X pins Z H { s with heap:=s.heap.push { cls:=.type "range", data:=.fields #[.int lo t,.int hi u,.int 1 v] },toks:=tk }:=I.kept fun b o e=>Of _ e
 refine ⟨(s.heap.push { cls:=.type "range", data:=.fields #[.int lo t,.int hi u,.int 1 v] }).objs.size,[(s.heap.push { cls:=.type "range", data:=.fields #[.int lo t,.int hi u,.int 1 v] }).objs.size],_,_,H,rfl,
  I1.kept (t':=tk) fun b o e=>Of _ e,tP _ lo (hi - lo).toNat,?_,fun b hb=>?_,q⟩
 ·have e1:lo+((0:Nat):Int)*1=lo:=by simp
  have e2:(((hi - lo).toNat:Nat):Int) - ((0:Nat):Int)=Builtin.Range.rangeSize lo hi 1:=by rw [rangeSize_one];split <;> omega
  show IsRangeIter _ _ (lo+((0:Nat):Int)*1) ((((hi - lo).toNat:Nat):Int) - ((0:Nat):Int)) 1;rw [e1,e2];exact OK _ rfl
 ·have e:b=(s.heap.push { cls:=.type "range", data:=.fields #[.int lo t,.int hi u,.int 1 v] }).objs.size:=by simpa using hb
  subst e;exact I1.Iv (Ol _) (I1.hok.fresh (Ol _))
def DE (ta:TA):TI:=fun Z H R=>ta Z H fun vs H1=>∃ j:Int,vs=[.int j]/\-(2 ^ 62)<=j/\j < 2 ^ 62/\R (Itr 0 j.toNat) H1
theorem uQ {a:Expr} {ta:TA} {p pos:Pos} (hg:Gl X "range") (hm:X.mg "range" = none) (ha:PA X [a] ta) (hs:starEach [a] X.env=[(false,eval a X.env)]:=by rfl):PI X tg (.Call (.Name "range" p) [a] [] pos) (DE ta):=by
 intro pins s Z H R I h;refine Call_ (rC I hg hm boot_range (PyProof.Rows.callWith_type1 (thn (ha pos pins s Z H _ I h) fun us s1 ⟨vs,H1,I1,r1,q1⟩=>?_) hs rfl));obtain ⟨j,e,q1,q2,q⟩:=q1;subst e;cases r1 with
 | cons r rr =>
  cases rr;obtain ⟨t,rfl⟩:=r;exact call_range_1 (Bc I1 (by omega) (by omega) q1 q2 (by simpa using q))
def Iq (wi:TI) (g:TG) (tb:TS):TS:=fun D Z H=>wi Z H fun J H1=>∃ W:Nat->Nat->St->Hp->Prop,(∃ m,W 0 m Z H1)/\∀ i m Z H,W i m Z H ->
 (J.stop i H/\D.nx Z H)\/(J.go i H/\∃ N:St->Hp->Prop,(∀ Z' H',N Z' H'->∃ m',m' < m/\W (i+1) m' Z' H')/\∀ x H',J.yld i H x H'->g x Z H' fun Z2 H2=>tb { D with nx:=N,ct:=N,bk:=D.nx } Z2 H2)
noncomputable def n6 (fp:List Qx) (h:Heap):List (Qx×Obj):=fp.filterMap fun b=>(h.get? b).map fun o=>(b,o)
theorem fj {fp:List Qx} {h:Heap} {b:Qx} {o:Obj} (hb:b∈fp) (e:h.get? b=some o):(b,o)∈n6 fp h:=List.mem_filterMap.mpr ⟨b,hb,by rw [e];rfl⟩
theorem xI {fp:List Qx} {h:Heap} {p:Qx×Obj} (hp:p∈n6 fp h):p.1∈fp/\h.get? p.1=some p.2:=by
 obtain ⟨b,hb,e⟩:=List.mem_filterMap.mp hp;cases q:h.get? b with
 | none=>rw [q] at e;cases e
 | some o =>
  rw [q] at e;have e':(b,o)=p:=OS e;subst e';exact ⟨hb,q⟩
theorem Inv.pinned {pins:List (Qx×Obj)} {Z:St} {H:Hp} {s:Qv} {fp:List Qx} (I:Inv X pins Z H s) (hf:∀ b∈fp,Bn X pins H b) (ho:∀ b∈fp,∃ o,s.heap.get? b=some o/\∀ v,o.data≠.cell v):Inv X (pins++n6 fp s.heap) Z H s :=
 I.gE fun p hp=>(Po.mp hp).elim (fun z=>I.pin p (OD _ z)) fun z=>by
  obtain ⟨hb,e⟩:=xI z;obtain ⟨f0,f1,f2,_⟩:=hf p.1 hb;obtain ⟨o,e',d⟩:=ho p.1 hb;rw [e] at e';cases e';exact ⟨e,f0,f1,f2,d⟩
theorem Inv.lM {pins pl:List (Qx×Obj)} {Z:St} {H:Hp} {s:Qv} (I:Inv X (pins++pl) Z H s):Inv X pins Z H s:=I.gE fun p hp=>I.pin p (OD _ (Ph _ hp))
theorem HM {iter:Expr} {body:List Stmt} {wi:TI} {g:TG} {tb:TS} {pos:Pos} (hp:PassesOwn (model X.prog X.w) X.A X.env X.xe) (hc:X.calm=true) (hi:PI X tg iter wi) (hg:PG X tg g) (hb:PSs X body tb)
  (hs:∀ x,foldedSetIterable iter X.env x=pure x:=by intro _;rfl):PS X (.For tg iter body [] pos) (Iq wi g tb):=by
 intro pins s Z H D I h;refine wpAny_For (thn (hi pins s Z H _ I h) fun v s1 h1=>thn h1 fun itv s2 h2=>?_) hs;obtain ⟨it,fp,tn,J,H2,e,I2,T,st2,f2,W,⟨m0,w0⟩,turn⟩:=h2;subst e;have stat:∀ {H':Hp},(∀ b∈fp,H' b=none)->∀ b∈fp,Bn X pins H' b:=fun hn b hb=>⟨hn b hb,(f2 b hb).2⟩;refine codeAny_forLoop_any (fun n s'=>∃ i Z' H',Inv X pins Z' H' s'/\tn i s'.heap/\(∀ b∈fp,H' b=none)/\W i n Z' H') ?_ m0 ⟨0,Z,H2,I2,st2,fun b hb=>(f2 b hb).1,w0⟩;rintro n s3 ⟨i,Z3,H3,I3,st3,fr3,w3⟩;rcases turn i n Z3 H3 w3 with ⟨stop,qn⟩ | ⟨go,N,hN,step⟩
 ·refine PH hp (thn (T.done X rfl rfl rfl hc i pins s3 Z3 H3 X.xe I3 (stat fr3) st3 stop) fun r s4 ⟨hr,I4⟩=>?_);subst hr;exact PK ⟨Z3,H3,I4,qn⟩
 ·refine PH hp (thn (T.item X rfl rfl rfl hc i pins s3 Z3 H3 X.xe I3 (stat fr3) st3 go) fun r s4 ⟨u,hr,h4⟩=>?_);subst hr;refine PH hp (thn h4 fun _ s5 ⟨x,H5,I5,r5,y5,st5,fr5⟩=>?_);have I5':=I5.pinned (stat fr5) (T.obj _ _ st5);refine PH hp (thn (hg _ s5 Z3 H5 x u _ I5' r5 (step x H5 y5)) fun _ s6 ⟨Z6,H6,I6,q6⟩=>?_);refine PH hp (thn (hb _ s6 Z6 H6 _ I6 q6) fun f s7 q7=>?_);have again:∀ {Z7:St} {H7:Hp},Inv X (pins++n6 fp s5.heap) Z7 H7 s7->N Z7 H7->∃ m,m < n/\∃ i Z' H',Inv X pins Z' H' s7/\tn i s7.heap/\(∀ b∈fp,H' b=none)/\W i m Z' H':=fun {Z7 H7} I7 n7=>by
   obtain ⟨m',hm,w7⟩:=hN Z7 H7 n7;refine ⟨m',hm,i+1,Z7,H7,I7.lM,T.keep _ _ _ st5 fun b hb o e=>(I7.pin (b,o) (OD _ (OD _ (fj hb e)))).1,fun b hb=>?_,w7⟩;obtain ⟨o,e,d⟩:=T.obj _ _ st5 b hb;exact (I7.pin (b,o) (OD _ (OD _ (fj hb e)))).2.1
  cases f with
  | next=>obtain ⟨Z7,H7,I7,n7⟩:=q7;exact again I7 n7
  | cont=>obtain ⟨Z7,H7,I7,n7⟩:=q7;exact again I7 n7
  | brk=>obtain ⟨Z7,H7,I7,q7⟩:=q7;exact ⟨Z7,H7,I7.lM,q7⟩
  | ret v=>obtain ⟨x7,Z7,H7,I7,r7,q7⟩:=q7;exact ⟨x7,Z7,H7,I7.lM,r7,q7⟩
end
abbrev R2:=V->V->Hp->VK->Prop
def OpR (X:Cx) (f:Qz->Qz->Sem Qz) (r:R2):Prop :=
 ∀ (pins:List (Qx×Obj)) (s:Qv) (Z:St) (H:Hp) (x y:V) (v u:Qz) (Q:VK),Inv X pins Z H s->RelV x v->RelV y u->r x y H Q ->
  wpAny (model X.prog X.w) X.A (f v u) (EP X pins Z Q) X.xe s
def UnR (X:Cx) (f:Qz->Sem Qz) (r:V->Hp->VK->Prop):Prop :=
 ∀ (pins:List (Qx×Obj)) (s:Qv) (Z:St) (H:Hp) (x:V) (v:Qz) (Q:VK),Inv X pins Z H s->RelV x v->r x H Q ->
  wpAny (model X.prog X.w) X.A (f v) (EP X pins Z Q) X.xe s
def bN (X:Cx) (f:Qz) (r:List V->Hp->VK->Prop):Prop :=
 ∀ (pins:List (Qx×Obj)) (s:Qv) (Z:St) (H:Hp) (xs:List V) (us:List Qz) (Q:VK),Inv X pins Z H s->Vals xs us->r xs H Q ->
  wpAny (model X.prog X.w) X.A (call f us) (EP X pins Z Q) X.xe s
def M0 (X:Cx) (r:V->Hp->(Bool->Hp->Prop)->Prop):Prop :=
 ∀ (pins:List (Qx×Obj)) (s:Qv) (Z:St) (H:Hp) (x:V) (v:Qz) (Q:Bool->Hp->Prop),Inv X pins Z H s->RelV x v->r x H Q ->
  wpAny (model X.prog X.w) X.A (truthy v) (TP X pins Z Q) X.xe s
def tOp (r:R2) (ta tb:TE):TE:=fun Z H Q=>ta Z H fun x H1=>tb Z H1 fun y H2=>r x y H2 Q
def tUn (r:V->Hp->VK->Prop) (ta:TE):TE:=fun Z H Q=>ta Z H fun x H1=>r x H1 Q
def rI (C:Int->Int->Prop) (g:Int->Int->V):R2:=fun x y H Q=>∃ i j,x=.int i/\y=.int j/\C i j/\Q (g i j) H
def rI0 (g:Int->Int->V):R2:=fun x y H Q=>∃ i j,x=.int i/\y=.int j/\Q (g i j) H
def rU (g:Int->V):V->Hp->VK->Prop:=fun x H Q=>∃ i,x=.int i/\Q (g i) H
section
variable {X:Cx} {a b c:Expr} {ta tb tc:TE} {pos:Pos}
theorem Mf (ha:PE X a ta) (hb:PE X b tb) {pins:List (Qx×Obj)} {s:Qv} {Z:St} {H:Hp} {R:V->V->Hp->Prop} (I:Inv X pins Z H s)
  (h:ta Z H fun x H1=>tb Z H1 fun y H2=>R x y H2) {Q:Qz->Qv->Prop} {f:Qz->Qz->Sem Qz}
  (hf:∀ v u s2 x y H2,Inv X pins Z H2 s2->RelV x v->RelV y u->R x y H2->wpAny (model X.prog X.w) X.A (f v u) Q X.xe s2) :
  wpAny (model X.prog X.w) X.A (eval a X.env) (fun v ZM=>wpAny (model X.prog X.w) X.A (eval b X.env) (fun u ZU=>wpAny (model X.prog X.w) X.A (f v u) Q X.xe ZU) X.xe ZM) X.xe s:=by
 refine thn (ha pins s Z H _ I h) fun v s1 ⟨x,H1,I1,r1,q1⟩=>?_;refine thn (hb pins s1 Z H1 _ I1 q1) fun u s2 ⟨y,H2,I2,r2,q2⟩=>?_;exact hf v u s2 x y H2 I2 r1 r2 q2
theorem Ka {op:Operator} {r:R2} (ho:OpR X (binaryOp op) r) (ha:PE X a ta) (hb:PE X b tb):PE X (.BinOp a op b pos) (tOp r ta tb):=by
 intro pins s Z H Q I h;exact wpAny_BinOp (Mf ha hb I h fun v u s2 x y H2 I2 rx ry q=>ho pins s2 Z H2 x y v u Q I2 rx ry q)
theorem Kd {op:UnaryOp} {r:V->Hp->VK->Prop} (ho:UnR X (unaryOp op) r) (ha:PE X a ta):PE X (.UnaryOp op a pos) (tUn r ta):=by
 intro pins s Z H Q I h;exact UnaryOp_ (thn (ha pins s Z H _ I h) fun v s1 ⟨x,H1,I1,r1,q1⟩=>ho pins s1 Z H1 x v Q I1 r1 q1)
theorem opI {f:Qz->Qz->Sem Qz} {C:Int->Int->Prop} {g:Int->Int->Int}
  (rule:∀ (i j:Int) (t u:Tok) (s:Qv) (Q:Qz->Qv->Prop) (E:Qz->Qv->Prop),C i j->Q (.int (g i j) s.toks) { s with toks:=s.toks+1 }->wpAny (model X.prog X.w) X.A (f (.int i t) (.int j u)) Q E s) :
  OpR X f (rI C fun i j=>.int (g i j)):=by
 intro pins s Z H x y v u Q I rx ry h;obtain ⟨i,j,rfl,rfl,hc,q⟩:=h;obtain ⟨t,rfl⟩:=rx;obtain ⟨t',rfl⟩:=ry;exact rule i j t t' s _ _ hc ⟨.int (g i j),H,I.tok _,⟨_,rfl⟩,q⟩
theorem MC {f:Qz->Qz->Sem Qz} {g:Int->Int->Int}
  (rule:∀ (i j:Int) (t u:Tok) (s:Qv) (Q:Qz->Qv->Prop) (E:Qz->Qv->Prop),Q (.int (g i j) s.toks) { s with toks:=s.toks+1 }->wpAny (model X.prog X.w) X.A (f (.int i t) (.int j u)) Q E s) :
  OpR X f (rI0 fun i j=>.int (g i j)):=by
 intro pins s Z H x y v u Q I rx ry h;obtain ⟨i,j,rfl,rfl,q⟩:=h;obtain ⟨t,rfl⟩:=rx;obtain ⟨t',rfl⟩:=ry;exact rule i j t t' s _ _ ⟨.int (g i j),H,I.tok _,⟨_,rfl⟩,q⟩
theorem IJ {f:Qz->Qz->Sem Qz} {g:Int->Int->Bool}
  (rule:∀ (i j:Int) (t u:Tok) (s:Qv) (Q:Qz->Qv->Prop) (E:Qz->Qv->Prop),Q (.bool (g i j)) s->wpAny (model X.prog X.w) X.A (f (.int i t) (.int j u)) Q E s) :
  OpR X f (rI0 fun i j=>.bl (g i j)):=by
 intro pins s Z H x y v u Q I rx ry h;obtain ⟨i,j,rfl,rfl,q⟩:=h;obtain ⟨t,rfl⟩:=rx;obtain ⟨t',rfl⟩:=ry;exact rule i j t t' s _ _ ⟨.bl (g i j),H,I,rfl,q⟩
def MU (i j:Int):Prop:=0<=j/\j<=1000000/\i.natAbs < 2 ^ 64
def FJ (i j:Int):Prop:=(-(2 ^ 64) < i/\i < 2 ^ 64)\/(-(2 ^ 64) < j/\j < 2 ^ 64)
theorem FJ.ok {i j:Int} (h:FJ i j):IntMulOk i j:=by
 rcases h with ⟨h1,h2⟩ | ⟨h1,h2⟩
 ·exact .of_left (intBits_le_64 h1 h2)
 ·exact .of_right (intBits_le_64 h1 h2)
theorem GP:OpR X (binaryOp .Add) (rI0 fun i j=>.int (i+j)):=MC fun _ _ _ _ _ _ _ q=>add_int q
theorem E1:OpR X (binaryOp .Sub) (rI0 fun i j=>.int (i - j)):=MC fun _ _ _ _ _ _ _ q=>sub_int q
theorem Fq:OpR X (binaryOp .Mult) (rI FJ fun i j=>.int (i*j)):=opI fun _ _ _ _ _ _ _ hc q=>mul_int q hc.ok
theorem GN:OpR X (binaryOp .Mod) (rI (fun _ j=>0 < j) fun i j=>.int (i % j)):=opI fun i j _ _ _ _ _ hc q=>by
 have h1:(0:Int) < j:=hc;exact mod_int' (by omega) (by rw [Int.fmod_eq_emod_of_nonneg i (by omega)];exact q)
theorem GV:OpR X (binaryOp .Pow) (rI MU fun i j=>.int (i ^ j.toNat)):=opI fun _ _ _ _ _ _ _ hc q=>pow_int_small hc.1 hc.2.1 hc.2.2 q
theorem unI {f:Qz->Sem Qz} {g:Int->Int}
  (rule:∀ (i:Int) (t:Tok) (s:Qv) (Q:Qz->Qv->Prop) (E:Qz->Qv->Prop),Q (.int (g i) s.toks) { s with toks:=s.toks+1 }->wpAny (model X.prog X.w) X.A (f (.int i t)) Q E s) :
  UnR X f (rU fun i=>.int (g i)):=by
 intro pins s Z H x v Q I rx h;obtain ⟨i,rfl,q⟩:=h;obtain ⟨t,rfl⟩:=rx;exact rule i t s _ _ ⟨.int (g i),H,I.tok _,⟨_,rfl⟩,q⟩
theorem Hh:UnR X (unaryOp .USub) (rU fun i=>.int (-i)):=unI fun _ _ _ _ _ q=>neg_int q
end
section
variable {X:Cx} {a b c:Expr} {ta tb tc:TE} {pos:Pos}
theorem r8 {pins:List (Qx×Obj)} {Z:St} {H:Hp} {s:Qv} {Q:VK} {k k':Bool} (I:Inv X pins Z H s) (q:Q (.bl k) H) (e:k=k'):EP X pins Z Q (.bool k') s:=by
 subst e;exact ⟨.bl k,H,I,rfl,q⟩
theorem LD:OpR X (compareOp .Lt) (rI0 fun i j=>.bl (decide (i < j))):=IJ fun _ _ _ _ _ _ _ q=>lt_int q
theorem JK:OpR X (compareOp .LtE) (rI0 fun i j=>.bl (decide (i<=j))):=IJ fun _ _ _ _ _ _ _ q=>le_int q
theorem Kh:OpR X (compareOp .Gt) (rI0 fun i j=>.bl (decide (j < i))):=IJ fun _ _ _ _ _ _ _ q=>gt_int q
theorem Ls:OpR X (compareOp .GtE) (rI0 fun i j=>.bl (decide (j<=i))):=IJ fun _ _ _ _ _ _ _ q=>ge_int q
theorem xY:OpR X (compareOp .Lt) (fun x y H Q=>∃ i j,x=.str i/\y=.str j/\Q (.bl (decide (i.cps.toList < j.cps.toList))) H):=by
 intro pins s Z H x y v u Q I rx ry h;obtain ⟨i,j,rfl,rfl,q⟩:=h;obtain ⟨t,rfl⟩:=rx;obtain ⟨t',rfl⟩:=ry;exact lt_str (r8 I q rfl)
theorem xU:OpR X (compareOp .In) (fun x y H Q=>∃ i j,x=.str i/\y=.str j/\Q (.bl (!(Builtin.Str.occurrences j i 0 j.length 1).isEmpty)) H):=by
 intro pins s Z H x y v u Q I rx ry h;obtain ⟨i,j,rfl,rfl,q⟩:=h;obtain ⟨t,rfl⟩:=rx;obtain ⟨t',rfl⟩:=ry;exact in_str (r8 I q rfl)
theorem E3:OpR X (compareOp .Is) (fun x y H Q=>y=.non/\Q (.bl (decide (x=.non))) H):=by
 intro pins s Z H x y v u Q I rx ry h;obtain ⟨rfl,q⟩:=h;cases ry;refine is_none_gen (r8 I q ?_);cases x <;> first
  | (cases rx;rfl)
  | (obtain ⟨t,rfl⟩:=rx;rfl)
theorem Cn:OpR X (compareOp .IsNot) (fun x y H Q=>y=.non/\Q (.bl (!decide (x=.non))) H):=by
 intro pins s Z H x y v u Q I rx ry h;obtain ⟨rfl,q⟩:=h;cases ry;refine isnot_none_gen (r8 I q ?_);cases x <;> first
  | (cases rx;rfl)
  | (obtain ⟨t,rfl⟩:=rx;rfl)
theorem cR (b:Expr) {op:CmpOp} (h:op≠.In:=by decide) (h2:op≠.NotIn:=by decide):behindInMarks op b=false:=by
 have e1:(op==CmpOp.In)=false:=by cases op <;> first | rfl | exact absurd rfl h
 have e2:(op==CmpOp.NotIn)=false:=by cases op <;> first | rfl | exact absurd rfl h2
 cases b <;> simp [behindInMarks,e1,e2]
theorem DU {op:CmpOp} {r:R2} (ho:OpR X (compareOp op) r) (ha:PE X a ta) (hb:PE X b tb) (hm:behindInMarks op b=false):PE X (.Compare a [op] [b] pos) (tOp r ta tb):=by
 intro pins s Z H Q I h;exact wpAny_Compare1 (Mf ha hb I h fun v u s2 x y H2 I2 rx ry q=>ho pins s2 Z H2 x y v u Q I2 rx ry q) hm
def uE (t:TE):TT:=fun Z H Q=>t Z H fun x H'=>∃ k,x=.bl k/\Q k H'
theorem CZ {op:CmpOp} {r:R2} (ho:OpR X (compareOp op) r) (ha:PE X a ta) (hb:PE X b tb) (hm:behindInMarks op b=false):PT X (.Compare a [op] [b] pos) (uE (tOp r ta tb)):=by
 intro pins s Z H Q I h
 refine wpAny_isTrue_Compare1 (thn (ha pins s Z H _ I h) fun v s1 ⟨x,H1,I1,r1,q1⟩=>thn (hb pins s1 Z H1 _ I1 q1) fun u s2 ⟨y,H2,I2,r2,q2⟩ =>
  thn (ho pins s2 Z H2 x y v u _ I2 r1 r2 q2) fun c s3 ⟨z,H3,I3,r3,k,e,q3⟩=>?_) hm
 subst e;cases r3;exact O5 ⟨H3,I3,q3⟩
def nM (r r':R2) (ta tb tc:TE):TE:=fun Z H Q=>ta Z H fun x H1=>tb Z H1 fun y H2=>r x y H2 fun z H3=>∃ k,z=.bl k /\
 (if k=true then tc Z H3 fun w' H4=>r' y w' H4 Q else Q (.bl false) H3)
theorem Ax {op op':CmpOp} {r r':R2} (ho:OpR X (compareOp op) r) (ho':OpR X (compareOp op') r') (ha:PE X a ta) (hb:PE X b tb) (hc:PE X c tc)
  (hm:lastMarks [op,op'] [b,c]=false:=by with_unfolding_all rfl):PE X (.Compare a [op,op'] [b,c] pos) (nM r r' ta tb tc):=by
 intro pins s Z H Q I h
 refine Compare_chain (thn (ha pins s Z H _ I h) fun v s1 ⟨x,H1,I1,r1,q1⟩=>chain_link (thn (hb pins s1 Z H1 _ I1 q1) fun u s2 ⟨y,H2,I2,r2,q2⟩ =>
  thn (ho pins s2 Z H2 x y v u _ I2 r1 r2 q2) fun d s3 ⟨z,H3,I3,r3,k,e,q3⟩=>?_)) hm
 subst e;cases r3;refine O5 ?_;cases k with
 | false=>exact ite_ff ⟨.bl false,H3,I3,rfl,q3⟩
 | true=>exact ite_tt (chain_last (thn (hc pins s3 Z H3 _ I3 q3) fun w' s4 ⟨z',H4,I4,r4,q4⟩=>ho' pins s4 Z H4 y z' u w' Q I4 r2 r4 q4))
theorem zK {op op':CmpOp} {r r':R2} (ho:OpR X (compareOp op) r) (ho':OpR X (compareOp op') r') (ha:PE X a ta) (hb:PE X b tb) (hc:PE X c tc)
  (hm:lastMarks [op,op'] [b,c]=false:=by with_unfolding_all rfl):PT X (.Compare a [op,op'] [b,c] pos) (uE (nM r r' ta tb tc)):=by
 intro pins s Z H Q I h
 refine isTrue_chain (thn (ha pins s Z H _ I h) fun v s1 ⟨x,H1,I1,r1,q1⟩=>test_link (thn (hb pins s1 Z H1 _ I1 q1) fun u s2 ⟨y,H2,I2,r2,q2⟩ =>
  thn (ho pins s2 Z H2 x y v u _ I2 r1 r2 q2) fun d s3 ⟨z,H3,I3,r3,k,e,q3⟩=>?_)) hm
 subst e;cases r3;refine O5 ?_;cases k with
 | false =>
  obtain ⟨k',e',q'⟩:=q3;cases e';exact ite_ff ⟨H3,I3,q'⟩
 | true =>
  refine ite_tt (test_last (thn (hc pins s3 Z H3 _ I3 q3) fun w' s4 ⟨z',H4,I4,r4,q4⟩=>thn (ho' pins s4 Z H4 y z' u w' _ I4 r2 r4 q4) fun d' s5 ⟨z2,H5,I5,r5,k2,e2,q5⟩=>?_));subst e2;cases r5;exact O5 ⟨H5,I5,q5⟩
def IV (K:Fg) (x:V) (H:Hp) (k:Bool):Prop :=
 match x with
 | .non=>k=false
 | .bl b=>k=b
 | .int i=>k=(i != 0)
 | .str y=>y.length<=sizeLine/\k=((y.length:Int) != 0)
 | .byt y=>y.size<=sizeLine/\k=((y.size:Int) != 0)
 | .ref p=>(∃ xs,SqL K H p xs/\k=!xs.isEmpty)\/(∃ xs,SqT K H p xs/\k=!xs.isEmpty)\/∃ kvs,H p=some (.dK kvs)/\k=!kvs.isEmpty
 | _=>False
theorem tQ {κ:Type} {kvs:List (κ×V)} {vs:List (κ×Qz)} (r:KV kvs vs):(!vs.isEmpty)=!kvs.isEmpty:=by
 cases r <;> rfl
theorem ku {xs:List V} {its:List Qz} (r:Vals xs its):(!its.toArray.isEmpty)=!xs.isEmpty:=by
 cases r <;> simp
theorem ki:(sizeLine:Nat) < 2 ^ 63:=by rw [Pf];decide
theorem Fj:M0 X (fun x H Q=>∃ k,IV X.K x H k/\Q k H):=by
 intro pins s Z H x v Q I rx h;obtain ⟨k,e,q⟩:=h;have hl:=ki;have hs:sizeLine=16777216:=Pf;cases x with
 | non =>
  cases rx;have e':k=false:=e;subst e';exact truthy_none ⟨H,I,q⟩
 | bl b =>
  cases rx;have e':k=b:=e;subst e';exact O5 ⟨H,I,q⟩
 | int i =>
  obtain ⟨t,rfl⟩:=rx;have e':k=(i != 0):=e;subst e';exact PySem.P.truthy_int ⟨H,I,q⟩
 | str y =>
  obtain ⟨t,rfl⟩:=rx;obtain ⟨hy,e'⟩:y.length<=sizeLine/\k=((y.length:Int) != 0):=e;subst e';exact PySem.P.truthy_str (by omega) ⟨H,I.tok _,q⟩
 | byt y =>
  obtain ⟨t,rfl⟩:=rx;obtain ⟨hy,e'⟩:y.size<=sizeLine/\k=((y.size:Int) != 0):=e;subst e';exact PySem.W.truthy_bytes (by omega) ⟨H,I.tok _,q⟩
 | ref p =>
  cases rx;have e':(∃ xs,SqL X.K H p xs/\k=!xs.isEmpty)\/(∃ xs,SqT X.K H p xs/\k=!xs.isEmpty)\/∃ kvs,H p=some (.dK kvs)/\k=!kvs.isEmpty:=e;rcases e' with ⟨xs,hx,e'⟩ | ⟨xs,hx,e'⟩ | ⟨kvs,hx,e'⟩
  ·subst e';obtain ⟨its,r,pl,hz⟩:=I.list hx;have hlen:=r.length;exact wpAny_truthy_list pl.isList (by simp only [Om];omega) ⟨H,I.tok _,by rw [ku r];exact q⟩
  ·subst e';obtain ⟨its,r,pl,hz⟩:=I.tuple hx;have hlen:=r.length;exact truthy_tuple pl (by simp only [Om];omega) ⟨H,I.tok _,by rw [ku r];exact q⟩
  ·subst e';obtain ⟨hz,hS,vs,r,m⟩:kvs.length<=sizeLine/\(p==sysModules)=false/\∃ vs,KV kvs vs/\s.heap.DictOf (pL X.prog X.w) p vs:=I.hok p _ hx;have hlen:kvs.length=vs.length:=Paired.length r;exact wpAny_truthy_dict hS m (by omega) ⟨H,I.tok _,by rw [tQ r];exact q⟩
 | _=>exact (show False from e).elim
theorem Av (ha:PE X a ta) (he:∀ whole,isTrue a X.env whole=(do let v<-whole;standAt a.pos;holding [v] (truthy v))) :
  PT X a (fun Z H Q=>ta Z H fun x H'=>∃ k,IV X.K x H' k/\Q k H'):=by
 intro pins s Z H Q I h;exact isTrue_plain (thn (ha pins s Z H _ I h) fun v s1 ⟨x,H1,I1,r1,q1⟩=>Fj pins s1 Z H1 x v Q I1 r1 q1) (he _)
theorem tm:OpR X (binaryOp .Add) (fun x y H Q=>∃ i j,x=.str i/\y=.str j/\i.length+j.length<=sizeLine/\Q (.str (i++j)) H):=by
 intro pins s Z H x y v u Q I rx ry h;obtain ⟨i,j,rfl,rfl,hz,q⟩:=h;obtain ⟨t,rfl⟩:=rx;obtain ⟨t',rfl⟩:=ry;exact add_str (fun t' tk=>⟨.str (i++j),H,I.tok _,⟨_,rfl⟩,q⟩) hz
theorem vals1 {x:V} {us:List Qz} (r:Vals [x] us):∃ u,us=[u]/\RelV x u:=by
 cases r with
 | cons r1 r2=>cases r2;exact ⟨_,rfl,r1⟩
theorem vals2 {x y:V} {us:List Qz} (r:Vals [x,y] us):∃ u w',us=[u,w']/\RelV x u/\RelV y w':=by
 cases r with
 | cons r1 r2 =>
  cases r2 with
  | cons r3 r4=>cases r4;exact ⟨_,_,rfl,r1,r3⟩
theorem zZ:bN X (.builtin "abs") (fun xs H Q=>∃ i,xs=[.int i]/\Q (.int (if i < 0 then -i else i)) H):=by
 intro pins s Z H xs us Q I r h;obtain ⟨i,rfl,q⟩:=h;obtain ⟨u,rfl,t,rfl⟩:=vals1 r;exact call_abs_int fun u tk=>⟨.int (if i < 0 then -i else i),H,I.tok _,⟨_,rfl⟩,q⟩
theorem vD:bN X (.type "int") (fun xs H Q=>(∃ i,xs=[.int i]/\Q (.int i) H)\/∃ k,xs=[.bl k]/\Q (.int (if k then 1 else 0)) H):=by
 intro pins s Z H xs us Q I r h;rcases h with ⟨i,rfl,q⟩ | ⟨k,rfl,q⟩
 ·obtain ⟨u,rfl,t,rfl⟩:=vals1 r;exact call_int_int ⟨.int i,H,I,⟨_,rfl⟩,q⟩
 ·obtain ⟨u,rfl,r1⟩:=vals1 r;cases r1;exact call_int_bool ⟨.int (if k then 1 else 0),H,I.tok _,⟨_,rfl⟩,q⟩
def MY (K:Fg) (x:V) (H:Hp) (n:Nat):Prop :=
 match x with
 | .str y=>y.length<=sizeLine/\n=y.length
 | .byt y=>y.size<=sizeLine/\n=y.size
 | .ref p=>(∃ xs,SqL K H p xs/\n=xs.length)\/∃ xs,SqT K H p xs/\n=xs.length
 | _=>False
theorem AF:bN X (.builtin "len") (fun xs H Q=>∃ x n,xs=[x]/\MY X.K x H n/\Q (.int n) H):=by
 intro pins s Z H xs us Q I r h;obtain ⟨x,n,rfl,e,q⟩:=h;obtain ⟨u,rfl,rx⟩:=vals1 r;have hl:=ki;have hs:sizeLine=16777216:=Pf;cases x with
 | str y =>
  obtain ⟨t,rfl⟩:=rx;obtain ⟨hy,e'⟩:y.length<=sizeLine/\n=y.length:=e;subst e';exact len_str (by omega) ⟨.int _,H,I.tok _,⟨_,rfl⟩,q⟩
 | byt y =>
  obtain ⟨t,rfl⟩:=rx;obtain ⟨hy,e'⟩:y.size<=sizeLine/\n=y.size:=e;subst e';exact PySem.W.len_bytes (by omega) ⟨.int _,H,I.tok _,⟨_,rfl⟩,q⟩
 | ref p =>
  cases rx;have e':(∃ xs,SqL X.K H p xs/\n=xs.length)\/∃ xs,SqT X.K H p xs/\n=xs.length:=e;rcases e' with ⟨xs,hx,e'⟩ | ⟨xs,hx,e'⟩
  ·subst e';obtain ⟨its,r',pl,hz⟩:=I.list hx;have hlen:=r'.length;exact Calls.call_len_list pl.isList (by simp only [Om];omega) ⟨.int xs.length,H,I.tok _,⟨_,by simp only [Om];rw [hlen]⟩,q⟩
  ·subst e';obtain ⟨its,r',pl,hz⟩:=I.tuple hx;have hlen:=r'.length;exact len_tuple pl (by simp only [Om];omega) ⟨.int xs.length,H,I.tok _,⟨_,by simp only [Om];rw [hlen]⟩,q⟩
 | _=>exact (show False from e).elim
end
structure C0 (h:Heap) (x dx C:Qx) (mA:Str->Option Qz):Prop where
 obj:h.get? x=some (PySem.W.instObj C dx)
 ns:h.Ns1 dx mA
 ne:dx≠x
theorem wD {h:Heap} {dx:Qx} {mA:Str->Option Qz} (n:h.Ns1 dx mA):∃ od,h.get? dx=some od/\∀ name,PySem.W.lookIn name od=some (mA name):=by
 obtain ⟨o,es,ep,ho,hd,hk,_,hm⟩:=n;refine ⟨o,ho,fun name=>?_⟩;have e:=hm name;unfold nsFind findBy at e;rw [<- Array.find?_toList] at e;unfold PySem.W.lookIn;rw [hd];dsimp only;split
 ·rename_i y q;rw [q] at e;exact congrArg some e
 ·rename_i q;rw [q] at e;have a:es.toList.any (·.refKey)=false:=by
   rw [List.any_eq_false];intro y hy;obtain ⟨z,t,hkey⟩:=hk y (Array.mem_toList_iff.mp hy);simp [DictEntry.refKey,hkey]
  have a':¬es.toList.any (·.refKey)=true:=by rw [a];exact Pc
  rw [Ot a'];exact congrArg some e
theorem C0.look {h:Heap} {x dx C:Qx} {mA:Str->Option Qz} (I:C0 h x dx C mA):∃ od,PySem.W.InstAt h x (PySem.W.instObj C dx) C (some od)/\∀ name,PySem.W.lookIn name od=some (mA name) :=
 let ⟨od,ho,hl⟩:=wD I.ns
 ⟨od,⟨I.obj,rfl,rfl,ho⟩,hl⟩
section
variable {prog:Program} {w:World} {A:Around} {E:Qz->Qv->Prop} {s:Qv} {K:Fg} {x dx C f:Qx} {mA:Str->Option Qz} {name:Str} {v:Qz}
theorem get_map {expr:Bool} {Q:Qz->Qv->Prop} (X:K.In s.heap) (I:C0 s.heap x dx C mA) (hg:PySem.W.plainGet K C name=true) (hh:PySem.W.hasDictIn K C=true)
  (ha:PySem.W.findIn K (.ref C) name=some none) (hv:mA name=some v) (hv':PySem.W.handedIn v=true) (h:Q v { s with toks:=s.toks+1 }) :
  wpAny (model prog w) A (getAttr (.ref x) name expr) Q E s:=by
 obtain ⟨od,J,hl⟩:=I.look;exact PySem.W.get_value X J (PySem.W.plainGet_of hg).1 (PySem.W.findObj_own hh ha rfl (by rw [hl,hv])) hv' h
theorem AM {pl:Sem Bool} {Q:Qz×List Qz->Qv->Prop} (X:K.In s.heap) (I:C0 s.heap x dx C mA) (hg:PySem.W.plainGet K C name=true)
  (hf:PySem.W.findIn K (.ref C) name=some (some (.ref f))) (ht:PySem.W.isFn K (.ref f)=true) (hv:mA name=none) (h:Q (.ref f,[.ref x]) s) :
  wpAny (model prog w) A (getMethod (.ref x) name pl) Q E s:=by
 obtain ⟨od,J,hl⟩:=I.look;exact PySem.W.method_fn X J (PySem.W.plainGet_of hg).1 (PySem.W.plainGet_of hg).2 hf (Px.mp ht) (by show (PySem.W.lookIn name od).map (·.isSome)=some false;rw [hl,hv];rfl) h
theorem DX {ns:List Str} {Q:Unit->Qv->Prop} (X:K.In s.heap) (I:C0 s.heap x dx C mA)
  (hs:PySem.W.findIn K (.ref C) "__setattr__" = some (some (.builtin "object.__setattr__"))) (hp:PySem.W.plainOver K C=true) (ht:PySem.W.takerIn K C name=some none) (hh:PySem.W.hasDictIn K C=true)
  (hw:PySem.Within mA ns) (hsz:ns.length<=sizeLine)
  (h:∀ h',C0 h' x dx C (fun y=>if y=name then some v else mA y)->Heap.SameBut dx s.heap h'->Q () { s with heap:=h',toks:=s.toks+2 }) :
  wpAny (model prog w) A (setAttr (.ref x) name v) Q E s:=by
 obtain ⟨od,J,hl⟩:=I.look;refine PySem.W.set_plain X J hs (PySem.W.osa_open (s:={ s with toks:=s.toks+1 }) (r:=none) X J hp ht fun b=>?_);obtain ⟨cd,hc,hd'⟩:=PySem.W.any_some hh;have hx:s.heap.get? x=some ⟨.ref C,some dx,.plain,#[]⟩:=I.obj;refine Oh (OB (Oh (Oh (wpAny_loadPart hx (Oh (PySem.W.Looks.here (s:={ s with toks:=s.toks+1 }) (PySem.W.looks_clsIn X hc) ?_))))));rw [hd'];refine OB (a:=some dx) (Oh (OB (Oh ?_)));refine wpAny_nsSet1 (s:={ s with toks:=s.toks+1 }) I.ns fun h' hn2 hs2=>?_;obtain ⟨oD,esD,epD,hoD,hdD,hcD⟩:=hn2.count (PySem.Within.cons name v hw);refine Oh (wpAny_lookBehind hoD (by rw [hdD];exact pastItsLine_dict (Oy hcD (by rw [Oc];omega))) ?_);exact OB (h _ ⟨(hs2.2 _ (Ne.symm I.ne)).trans I.obj,hn2,I.ne⟩ hs2)
theorem AK {R:Result->Qv->Prop} {vs:List Qz} {kw:List (Str×Qz)} (X:K.In s.heap) (hm:PySem.W.makesIn K C=true)
    (hi:PySem.W.findIn K (.ref C) "__init__" = some (some (.ref f))) (hf:PySem.W.typeIn K (.ref f)=some (.type "function"))
    (h:codeAny (model prog w) (A.under (.builtin "type.__call__" ⟨.ref C :: vs,kw⟩)) (.call (.ref f) ⟨.ref (s.heap.objs.size+1) :: vs,kw⟩) (PySem.W.InitBack (s.heap.objs.size+1) R)
      { s with heap:=(s.heap.push PySem.W.emptyDict).push (PySem.W.instObj C s.heap.objs.size) }) :
    codeAny (model prog w) A (.call (.ref C) ⟨vs,kw⟩) R s:=by
  obtain ⟨hh,g,d,t,os⟩:=s;exact PySem.W.make_core (PySem.W.makes_of X hm) (Pp X hi) (fun self=>PySem.W.bind_fn X self hf) (.inl rfl) h
end
noncomputable def mU (f:Str) (v:V):List (Str×V)->List (Str×V)
 | []=>[(f,v)]
 | (g,x) :: r=>if g=f then (g,v) :: r else (g,x) :: mU f v r
theorem je (f g:Str) (v:V):∀ fs:List (Str×V),(mU f v fs).lookup g=if g=f then some v else fs.lookup g
 | []=>by
  show List.lookup g [(f,v)]=_;by_cases h:g=f
  ·have hb:(g==f)=true:=Px.mpr h;simp only [List.lookup,hb,Og h]
  ·have hb:(g==f)=false:=PD.mpr h;simp only [List.lookup,hb,Ot h]
 | (k,x) :: r=>by
  have ih:=je f g v r;rw [show mU f v ((k,x) :: r)=(if k=f then (k,v) :: r else (k,x) :: mU f v r) from rfl];by_cases hk:k=f
  ·rw [Og hk];by_cases h:g=k
   ·have hb:(g==k)=true:=Px.mpr h;simp only [List.lookup,hb,Og (h.trans hk)]
   ·have hb:(g==k)=false:=PD.mpr h;simp only [List.lookup,hb,Ot (fun e:g=f=>h (e.trans hk.symm))]
  ·rw [Ot hk];by_cases h:g=k
   ·have hb:(g==k)=true:=Px.mpr h;simp only [List.lookup,hb,Ot (fun e:g=f=>hk (h.symm.trans e))]
   ·have hb:(g==k)=false:=PD.mpr h;simp only [List.lookup,hb];exact ih
theorem jP (f:Str) (v:V):∀ fs:List (Str×V),f∈(mU f v fs).map (·.1)/\∀ g,g∈fs.map (·.1)->g∈(mU f v fs).map (·.1)
 | []=>⟨by simp [mU],fun g h=>by simp at h⟩
 | (k,x) :: r=>by
  obtain ⟨i1,i2⟩:=jP f v r;rw [show mU f v ((k,x) :: r)=(if k=f then (k,v) :: r else (k,x) :: mU f v r) from rfl];by_cases hk:k=f
  ·rw [Og hk];subst hk;exact ⟨by simp,fun g h=>by simpa using h⟩
  ·rw [Ot hk];refine ⟨?_,fun g h=>?_⟩
   ·rw [List.map_cons];exact N8 _ i1
   ·rw [List.map_cons] at h ⊢;rcases Oo.mp h with e | e
    ·exact Oo.mpr (.inl e)
    ·exact N8 _ (i2 g e)
theorem jK (f:Str) (v:V):∀ fs:List (Str×V),(mU f v fs).length<=fs.length+1
 | []=>by simp [mU]
 | (k,x) :: r=>by
  have ih:=jK f v r;rw [show mU f v ((k,x) :: r)=(if k=f then (k,v) :: r else (k,x) :: mU f v r) from rfl];by_cases hk:k=f
  ·rw [Og hk,Oc,Oc];omega
  ·rw [Ot hk,Oc,Oc];omega
theorem uI.some_of {v:V} {o:Option Qz} (r:uI (some v) o):∃ u,o=some u/\RelV v u:=by
 cases o with
 | none=>exact (show False from r).elim
 | some u=>exact ⟨u,rfl,r⟩
theorem uI.none_of {o:Option Qz} (r:uI none o):o=none:=by
 cases o with
 | none=>rfl
 | some u=>exact (show False from r).elim
theorem xj {v:V} {u:Qz} (r:RelV v u):PySem.W.handedIn u=true:=by
 cases v with
 | non=>cases (show u=Value.none from r);rfl
 | bl b=>cases (show u=Value.bool b from r);rfl
 | int i=>obtain ⟨t,e⟩:=(show ∃ t,u=Value.int i t from r);cases e;rfl
 | str x=>obtain ⟨t,e⟩:=(show ∃ t,u=Value.str x t from r);cases e;rfl
 | byt b=>obtain ⟨t,e⟩:=(show ∃ t,u=Value.bytes b t from r);cases e;rfl
 | flt b=>obtain ⟨t,e⟩:=(show ∃ t,u=Value.float b t from r);cases e;rfl
 | ref a=>cases (show u=Value.ref a from r);rfl
 | ty n=>cases (show u=Value.type n from r);rfl
section
variable {P:Program} {w:World} {H H':Hp} {h h':Heap} {a C dx:Qx} {fs fs':List (Str×V)}
theorem pG (hok:HOk P w H h) (e:H a=some (.ins C dx fs)):∃ mA,C0 h a dx C mA/\(∀ f,uI (fs.lookup f) (mA f))/\PySem.Within mA (fs.map (·.1))/\fs.length<=1000/\H dx=some (.own a):=by
 obtain ⟨d,z,ne,ob,mA,n,r,q⟩:=(show cN P w H h a (.ins C dx fs) from hok a _ e);exact ⟨mA,⟨ob,n,ne⟩,r,q,z,d⟩
end
structure Cls (K:Fg) (C:Qx):Prop where
 pg:PySem.W.plainGet K C Str.empty=true
 hd:PySem.W.hasDictIn K C=true
 po:PySem.W.plainOver K C=true
 sa:PySem.W.findIn K (.ref C) "__setattr__" = some (some (.builtin "object.__setattr__"))
theorem Cls.get {K:Fg} {C:Qx} (c:Cls K C) (f:Str):PySem.W.plainGet K C f=true:=c.pg
def eE (K:Fg) (C:Qx) (f:Str):Prop:=PySem.W.findIn K (.ref C) f=some none
theorem eE.Jo {K:Fg} {C:Qx} {f:Str} (n:eE K C f):PySem.W.takerIn K C f=some none:=by
 unfold PySem.W.takerIn;rw [show PySem.W.findIn K (.ref C) f=some none from n];rfl
structure Meth (K:Fg) (C:Qx) (m:Str) (f:Qx):Prop where
 at_:PySem.W.findIn K (.ref C) m=some (some (.ref f))
 fn:PySem.W.isFn K (.ref f)=true
 kp:PySem.W.keepIn K (.ref f)=true
section
variable {X:Cx} {pins:List (Qx×Obj)} {Z:St} {H:Hp} {s:Qv} {a C dx:Qx} {fs:List (Str×V)} {f:Str} {v:V} {A:Around} {E:Qz->Qv->Prop}
theorem t5 {b:Bool} {Q:Qz->Qv->Prop} (I:Inv X pins Z H s) (e:H a=some (.ins C dx fs)) (c:Cls X.K C) (n:eE X.K C f) (l:fs.lookup f=some v)
  (h:∀ u s',Inv X pins Z H s'->RelV v u->Q u s'):wpAny (model X.prog X.w) A (getAttr (.ref a) f b) Q E s:=by
 obtain ⟨mA,O,r,_,_,_⟩:=pG I.hok e;obtain ⟨u,hu,ru⟩:=uI.some_of (v:=v) (o:=mA f) (by rw [<- l];exact r f);exact get_map I.kIn O (c.get f) c.hd n hu (xj ru) (h u _ (I.tok _) ru)
theorem gI {m:Str} {g:Qx} {pl:Sem Bool} {Q:Qz×List Qz->Qv->Prop} (I:Inv X pins Z H s) (e:H a=some (.ins C dx fs)) (c:Cls X.K C) (k:Meth X.K C m g) (l:fs.lookup m=none)
  (h:Q (.ref g,[.ref a]) s):wpAny (model X.prog X.w) A (getMethod (.ref a) m pl) Q E s:=by
 obtain ⟨mA,O,r,_,_,_⟩:=pG I.hok e;have hn:mA m=none:=uI.none_of (by rw [<- l];exact r m);exact AM I.kIn O (c.get m) k.at_ k.fn hn h
theorem tu {y:V} {u:Qz} {Q:Unit->Qv->Prop} (I:Inv X pins Z H s) (e:H a=some (.ins C dx fs)) (c:Cls X.K C) (n:eE X.K C f) (hl:fs.length < 1000) (ry:RelV y u)
  (h:∀ s',Inv X pins Z (upd H a (.ins C dx (mU f y fs))) s'->Q () s'):wpAny (model X.prog X.w) A (setAttr (.ref a) f u) Q E s:=by
 obtain ⟨mA,O,r,wi,_,ho⟩:=pG I.hok e;have hz:(fs.map (·.1)).length<=sizeLine:=by rw [N6,Pf];omega
 refine DX I.kIn O c.sa c.po n.Jo c.hd wi hz fun h' O' sb=>h _ ?_;have hd:∃ o,h'.get? dx=some o:=let ⟨o,_,_,e',_⟩:=O'.ns;⟨o,e'⟩
 refine I.write (x:=a) (e:=dx) (by rw [e];exact True.intro) (.inr ho) (fun b q hb z=>(sb.2 b hb).trans z) hd ?_;refine ⟨by rw [aL O.ne];exact ho,?_,O.ne,O'.obj,_,O'.ns,fun g=>?_,fun g hg=>?_⟩
 ·have:=jK f y fs;omega
 ·show uI ((mU f y fs).lookup g) (if g=f then some u else mA g);rw [je];by_cases q:g=f
  ·rw [Og q,Og q];exact ry
  ·rw [Ot q,Ot q];exact r g
 ·by_cases q:g=f
  ·rw [q];exact (jP f y fs).1
  ·refine (jP f y fs).2 g (wi g fun z=>hg ?_);show (if g=f then some u else mA g)=none;rw [Ot q];exact z
theorem Inv.made (I:Inv X pins Z H s):Inv X pins Z (upd (upd H s.heap.objs.size (.own (s.heap.objs.size+1))) (s.heap.objs.size+1) (.ins C s.heap.objs.size []))
    { s with heap:=(s.heap.push PySem.W.emptyDict).push (PySem.W.instObj C s.heap.objs.size) }:=by
  have e1:(s.heap.push PySem.W.emptyDict).get? s.heap.objs.size=some PySem.W.emptyDict:=OK s.heap rfl;have e2:((s.heap.push PySem.W.emptyDict).push (PySem.W.instObj C s.heap.objs.size)).get? (s.heap.objs.size+1)=some (PySem.W.instObj C s.heap.objs.size):=by
    have:=OK (s.heap.push PySem.W.emptyDict) (o:=PySem.W.instObj C s.heap.objs.size) rfl
    rwa [Heap.size_push] at this
  have e3:(s.heap.push PySem.W.emptyDict).Ns s.heap.objs.size (fun _=>none):=⟨PySem.W.emptyDict,#[],_,e1,rfl,(fun e he=>absurd he (by simp)),fun _=>rfl⟩;have I1:=I.laid (a:=s.heap.objs.size) (o:=.own (s.heap.objs.size+1)) (h':=s.heap.push PySem.W.emptyDict) (t':=s.toks) (fun b u q=>Of _ q) (Ol _) ⟨_,e1⟩;refine I1.laid (a:=s.heap.objs.size+1) (o:=.ins C s.heap.objs.size []) (t':=s.toks) (fun b u q=>Of _ q) (Nat.le_of_eq (Heap.size_push _ _)) ?_;have ne:s.heap.objs.size≠s.heap.objs.size+1:=OQ (Pj _);refine ⟨by rw [aL ne,aE],Pg _,ne,e2,fun _=>none,(Heap.Ns1.of_empty e3).at fun o q=>Of _ q,fun _=>True.intro,fun y hy=>absurd rfl hy⟩
theorem vP {prog:Program} {w:World} {env:Env} {e:Expr} {f:Str} {pos:Pos} {s:Qv} {Q:Qz->Qv->Prop} (hb:attributeBase e f env (eval e env)=eval e env)
  (h:wpAny (model prog w) A (eval e env) (fun o ZM=>wpAny (model prog w) A (getAttr o f true) Q E ZM) E s):wpAny (model prog w) A (eval (.Attribute e f pos) env) Q E s :=
 Attribute_any_ h (by rw [arm_eval_Attribute,hb])
end
section
variable {X:Cx} {o e value:Expr} {f:Str} {pos pos' tpos:Pos} {ta tv:TE}
theorem C7 {pl:Sem Bool} {m:Str} {apos:Pos} {args:List Expr} {pins:List (Qx×Obj)} {s:Qv} {Z:St} {H:Hp} {Q:Qz->Qv->Prop} {te:TE} (he:PE X e te) (I:Inv X pins Z H s)
  (h:te Z H fun x H1=>∃ a C dx fs g,x=.ref a/\H1 a=some (.ins C dx fs)/\Cls X.K C/\Meth X.K C m g/\fs.lookup m=none /\
   ∀ s1,Inv X pins Z H1 s1->wpAny (model X.prog X.w) X.A (callWith pos (.ref g) [.ref a] (backTo pos (starEach args X.env)) (backToKw pos (keywordEach [] X.env))) Q X.xe s1)
  (ht:eval (.Call (.Attribute e m apos) args [] pos) X.env=(do
   let ov<-eval e X.env
   standAt apos.atName
   let (f,first)<-holding [ov] (getMethod ov m pl)
   callWith pos f first (backTo pos (starEach args X.env)) (backToKw pos (keywordEach [] X.env)))) :
  wpAny (model X.prog X.w) X.A (eval (.Call (.Attribute e m apos) args [] pos) X.env) Q X.xe s:=by
 refine Ql (pl:=pl) (thn (he pins s Z H _ I h) fun u s1 ⟨x,H1,I1,rx,a,C,dx,fs,g,ex,ea,c,k,l,q⟩=>?_) ht;subst ex;obtain rfl:u=Value.ref a:=rx;exact gI I1 ea c k l (q s1 I1)
end
structure dg (k:Nat) (A:Around):Prop where
 hd:A.handled=none
 dp:A.depth+3*k+5 < recursionLimit
 un:A.units+16*k+200 < cLine
 gd:A.guards=some []
theorem dg.mono {j k:Nat} {A:Around} (r:dg k A) (h:j<=k):dg j A:=⟨r.hd,by have:=r.dp;omega,by have:=r.un;omega,r.gd⟩
theorem dg.deeper {k:Nat} {A:Around} (r:dg (k+1) A) (env:Env):dg k (A.deeper env) :=
 ⟨r.hd,by have:=r.dp;show A.depth+1+3*k+5 < _;omega,by have:=r.un;show A.units+3+16*k+200 < _;omega,r.gd⟩
theorem sJ {A:Around} {C:Qx} {us:List Qz} {kw:List (Str×Qz)}:(A.under (.builtin "type.__call__" ⟨.ref C :: us,kw⟩)).depth=A.depth+1:=by
 first | rfl | simp [Around.under,Code.weight,Code.isCreation,Code.isGuard,Code.isCaller,Code.frames,Code.isFrame,guardIds]
theorem tV {A:Around} {C:Qx} {us:List Qz} {kw:List (Str×Qz)}:(A.under (.builtin "type.__call__" ⟨.ref C :: us,kw⟩)).units=A.units+1:=by
 first | rfl | simp [Around.under,Code.cUnits,Code.frames,Code.isFrame]
theorem qB {A:Around} {C:Qx} {us:List Qz} {kw:List (Str×Qz)} (h:A.guards=some []):(A.under (.builtin "type.__call__" ⟨.ref C :: us,kw⟩)).guards=some []:=by
 first | simp [Around.under,Code.guards,Code.isGuard,guardIds,pushGuards,h]
theorem dg.make {k:Nat} {A:Around} (r:dg (k+1) A) (C:Qx) (us:List Qz) (kw:List (Str×Qz)):dg k (A.under (.builtin "type.__call__" ⟨.ref C :: us,kw⟩)) :=
 ⟨r.hd,by have:=r.dp;rw [sJ];omega,by have:=r.un;rw [tV];omega,qB r.gd⟩
theorem dg.depth {k:Nat} {A:Around} (r:dg k A):A.depth < recursionLimit:=by have:=r.dp;omega
theorem dg.units {k:Nat} {A:Around} (r:dg k A):A.units+64 < cLine:=by have:=r.un;omega
def rY:TA:=fun _ H Q=>Q [] H
def iS (ta:TE) (tr:TA):TA:=fun Z H Q=>ta Z H fun x H1=>tr Z H1 fun xs H2=>Q (x :: xs) H2
section
variable {X:Cx} {e:Expr} {es:List Expr} {te:TE} {t:TA} {pos:Pos}
theorem vV:PA X [] rY:=fun _ _ _ _ H Q I h=>Calls.spliced_nil ⟨[],H,I,.nil,h⟩
theorem lx (ha:PE X e te) (hr:PA X es t) (hs:starEach (e :: es) X.env=(false,eval e X.env) :: starEach es X.env:=by rfl):PA X (e :: es) (iS te t):=by
 intro pos pins s Z H Q I h;rw [hs];show wpAny _ _ (spliced ((false,eval e X.env) :: backTo pos (starEach es X.env))) _ _ s;refine Calls.spliced_cons (thn (ha pins s Z H _ I h) fun u s1 ⟨x,H1,I1,r1,q1⟩=>?_);exact thn (hr pos pins s1 Z H1 _ I1 q1) fun us s2 ⟨xs,H2,I2,r2,q2⟩=>⟨x :: xs,H2,I2,.cons r1 r2,q2⟩
def Lb (t:TA):TE:=fun Z H Q=>t Z H fun xs H1=>xs.length<=sizeLine/\∀ p,H1 p=none->Q (.ref p) (upd H1 p (.tup xs))
def JB (t:TA):TE:=fun Z H Q=>t Z H fun xs H1=>xs.length<=sizeLine/\∀ p,H1 p=none->Q (.ref p) (upd H1 p (.lst xs))
theorem F3 {x1} (h:PA X es t):PE X (.Tuple es x1 pos) (Lb t):=by
 intro pins s Z H Q I hq;refine wpAny_Tuple_spliced (thn (h pos pins s Z H _ I hq) fun us s1 ⟨xs,H1,I1,r,z,q⟩=>⟨by rw [<- r.length];exact z,?_⟩);have hf:H1 s1.heap.objs.size=none:=I1.hok.fresh (Ol _);refine ⟨.ref s1.heap.objs.size,upd H1 s1.heap.objs.size (.tup xs),I1.laid (t':=s1.toks) (fun b u e=>Of _ e) (Ol _) ?_,rfl,q _ hf⟩;exact ⟨z,us,r,⟨_,OK _ rfl,rfl,_,rfl⟩⟩
theorem FO (h:PA X es t):PE X (.List es pos) (JB t):=by
 intro pins s Z H Q I hq;refine wpAny_List_spliced (thn (h pos pins s Z H _ I hq) fun us s1 ⟨xs,H1,I1,r,z,q⟩=>⟨by rw [<- r.length];exact z,?_⟩);have hf:H1 s1.heap.objs.size=none:=I1.hok.fresh (Ol _);refine ⟨.ref s1.heap.objs.size,upd H1 s1.heap.objs.size (.lst xs),I1.laid (t':=s1.toks) (fun b u e=>Of _ e) (Ol _) ?_,rfl,q _ hf⟩;exact ⟨z,us,0,r,OK _ rfl⟩
end
abbrev Sp:=List V->Hp->VK->XK->Prop
abbrev CXT:=List Env->Hp->Qv->XK->Qz->Qv->Prop
structure CK (P:Program) (w:World) (K:Fg) (mg:Str->Option Qz) (base:Heap) (A:Around) (outer:List Env) (s:Qv) (H:Hp):Prop where
 frames:A.frames=some outer
 mod:Mod K mg base
 bs:∀ b o,base.get? b=some o->s.heap.get? b=some o/\H b=none
 bsz:base.objs.size<=s.heap.objs.size
 qF:s.heap.FunFrames base outer
 frf:∀ b∈frs outer,H b=none
 hok:HOk P w H s.heap
 bare:AllBare s.gens
def CE (outer:List Env) (P:Program) (w:World) (H:Hp) (s:Qv) (Q:VK) (u:Qz) (s':Qv):Prop :=
 ∃ v H',s'.os=s.os/\AllBare s'.gens/\Un (frs outer) [] H H' s.heap s'.heap/\HOk P w H' s'.heap/\RelV v u/\Q v H'
def CR (CX:CXT) (outer:List Env) (P:Program) (w:World) (H:Hp) (s:Qv) (Q:VK) (E:XK) (r:Result) (s':Qv):Prop :=
 match r with
 | .ok (.ret u)=>CE outer P w H s Q u s'
 | .ok _=>False
 | .error e=>CX outer H s E e s'
structure c8 (P:Program) (w:World) (K:Fg) (mg:Str->Option Qz) (base:Heap) (CX:CXT) (k:Nat) (f:Qx) (fd:FuncData) (ps:List Str) (sp:Sp):Prop where
 len:∀ vs H Q E,sp vs H Q E->vs.length=ps.length
 run:∀ (A:Around) (outer:List Env) (s:Qv) (H:Hp) (args:Args) (us:List Qz) (vs:List V) (Q:VK) (E:XK),dg k A->CK P w K mg base A outer s H->BindsTo s fd args (ps.zip us)->Vals vs us->sp vs H Q E ->
  codeAny (model P w) A (.call (.ref f) args) (CR CX outer P w H s Q E) s
theorem c8.mono {P:Program} {w:World} {K:Fg} {mg:Str->Option Qz} {base:Heap} {CX:CXT} {j k:Nat} {f:Qx} {fd:FuncData} {ps:List Str} {sp:Sp} (F:c8 P w K mg base CX j f fd ps sp) (h:j<=k) :
  c8 P w K mg base CX k f fd ps sp:=⟨F.len,fun A outer s H args us vs Q E hr=>F.run A outer s H args us vs Q E (hr.mono h)⟩
theorem CK.make {P:Program} {w:World} {K:Fg} {mg:Str->Option Qz} {base:Heap} {A:Around} {outer:List Env} {s:Qv} {H:Hp} (e:CK P w K mg base A outer s H) (C:Qx) (us:List Qz) (kw:List (Str×Qz)) :
  CK P w K mg base (A.under (.builtin "type.__call__" ⟨.ref C :: us,kw⟩)) outer s H:=⟨by first | exact e.frames | (simpa [Around.under,Code.envs,Code.isFrame,pushEnvs] using e.frames),e.mod,e.bs,e.bsz,e.qF,e.frf,e.hok,e.bare⟩
section
variable {X:Cx} {pins:List (Qx×Obj)} {Z:St} {H:Hp} {s s':Qv}
theorem Inv.EF (I:Inv X pins Z H s):CK X.prog X.w X.K X.mg X.base X.A X.stack s H :=
 ⟨I.ok.frames,I.ok.mod,I.bs,Oy I.ok.bsz I.sz,I.stack,I.kY,I.hok,I.bare⟩
theorem Inv.after {Q:VK} {u:Qz} (I:Inv X pins Z H s) (h:CE X.stack X.prog X.w H s Q u s'):EP X pins Z Q u s':=by
 obtain ⟨v,H',os,bare,un,hok,r,q⟩:=h;obtain ⟨hh,g,d,t,os'⟩:=s';obtain rfl:os'=s.os:=os;exact ⟨v,H',I.call (h':=hh) (g':=g) (d':=d) (t':=t) (ch:=[]) un hok bare (fun b z=>absurd z (by simp)),r,q⟩
end
def uB (sp:Sp) (dvs:List V) (E:XK) (t:TA):TE:=fun Z H Q=>t Z H fun vs H1=>sp (vs++dvs) H1 Q E
def Hu (C:Qx) (m:Str) (sp:Sp) (dvs:List V) (E:XK) (ta:TE) (t:TA):TE:=fun Z H Q=>ta Z H fun x H1=>∃ a dx fs,x=.ref a/\H1 a=some (.ins C dx fs)/\fs.lookup m=none /\
 t Z H1 fun vs H2=>sp (x :: (vs++dvs)) H2 Q E
def La (C:Qx) (sp:Sp) (dvs:List V) (E:XK) (t:TA):TE:=fun Z H Q=>t Z H fun vs H1=>∀ x dx,H1 x=none->H1 dx=none->dx≠x ->
 sp (.ref x :: (vs++dvs)) (upd (upd H1 dx (.own x)) x (.ins C dx [])) (fun v H2=>v=.non/\Q (.ref x) H2) E
def Binds (K:Fg) (fd:FuncData) (ps:List Str) (ds:List Qz):Prop :=
 ∀ (s:Qv) (us:List Qz),K.In s.heap->(us++ds).length=ps.length->BindsTo s fd ⟨us,[]⟩ (ps.zip (us++ds))
theorem Binds.all {K:Fg} {fd:FuncData} {ps:List Str} (h:∀ us:List Qz,us.length=ps.length->bindArgs fd ⟨us,[]⟩=pure (ps.zip us)):Binds K fd ps []:=fun s us _ hl=>by
 rw [OC] at hl ⊢;exact .of_eq (h us hl)
def Passes (CX:CXT) (X:Cx) (E:XK):Prop:=∀ (pins:List (Qx×Obj)) (Z:St) (H:Hp) (s:Qv) (e:Qz) (s':Qv),Inv X pins Z H s->CX X.stack H s E e s'->X.xe e s'
section
variable {X:Cx} {CX:CXT} {k:Nat} {f C:Qx} {fd:FuncData} {ps:List Str} {sp:Sp} {dvs:List V} {ds:List Qz} {E:XK} {x m:Str} {p pos apos:Pos} {e o:Expr} {es:List Expr} {ta:TE} {t:TA}
theorem we {pins:List (Qx×Obj)} {Z:St} {H:Hp} {s:Qv} {Q:VK} {us:List Qz} {vs:List V} (F:c8 X.prog X.w X.K X.mg X.base CX k f fd ps sp) (hr:dg k X.A) (hb:Binds X.K fd ps ds) (hd:Vals dvs ds) (hx:Passes CX X E)
  (I:Inv X pins Z H s) (r:Vals vs us) (h:sp (vs++dvs) H Q E):wpAny (model X.prog X.w) X.A (call (.ref f) us) (EP X pins Z Q) X.xe s:=by
 have r2:Vals (vs++dvs) (us++ds):=r.append hd;have hl:(us++ds).length=ps.length:=by rw [<- r2.length];exact F.len _ _ _ _ h
 refine wpAny_call (Qi (F.run X.A X.stack s H ⟨us,[]⟩ (us++ds) (vs++dvs) Q E hr I.EF (hb s us I.kIn hl) r2 h) fun r s' hq=>?_);cases r with
 | error e=>exact hx pins Z H s e s' I hq
 | ok fl =>
  cases fl with
  | ret u=>exact I.after hq
  | next=>exact False.elim hq
  | brk=>exact False.elim hq
  | cont=>exact False.elim hq
theorem DP (F:c8 X.prog X.w X.K X.mg X.base CX k f fd ps sp) (hr:dg k X.A) (hg:Gl X x) (hm:X.mg x=some (.ref f)) (hk:PySem.W.keepIn X.K (.ref f)=true) (hb:Binds X.K fd ps ds) (hd:Vals dvs ds) (hx:Passes CX X E)
  (ha:PA X (e :: es) t) (hdb:(x==("__debug__" : Str))=false:=by decide) (he:starEach (e :: es) X.env=(false,eval e X.env) :: starEach es X.env:=by rfl) (hpl:(backTo pos (starEach es X.env)).any (·.1)=false:=by rfl) :
  PE X (.Call (.Name x p) (e :: es) [] pos) (uB sp dvs E t):=by
 intro pins s Z H Q I h;refine PN (gS I hg hm ?_ hdb);refine P7 (h₀:=X.base) I.ok.mod.kin hk (thn (ha pos pins s Z H _ I h) fun us s1 ⟨vs,H1,I1,r,q⟩=>⟨I1.kIn,?_⟩) he hpl;exact we F hr hb hd hx I1 r q
theorem xo {pl:Sem Bool} (he:PE X o ta) (c:Cls X.K C) (hm:Meth X.K C m f) (F:c8 X.prog X.w X.K X.mg X.base CX k f fd ps sp) (hr:dg k X.A) (hb:Binds X.K fd ps ds) (hd:Vals dvs ds) (hx:Passes CX X E) (ha:PA X (e :: es) t)
  (hst:starEach (e :: es) X.env=(false,eval e X.env) :: starEach es X.env:=by rfl) (hpl:(backTo pos (starEach es X.env)).any (·.1)=false:=by rfl)
  (ht:eval (.Call (.Attribute o m apos) (e :: es) [] pos) X.env=(do
   let ov<-eval o X.env
   standAt apos.atName
   let (f,first)<-holding [ov] (getMethod ov m pl)
   callWith pos f first (backTo pos (starEach (e :: es) X.env)) (backToKw pos (keywordEach [] X.env))):=by rfl) :
  PE X (.Call (.Attribute o m apos) (e :: es) [] pos) (Hu C m sp dvs E ta t):=by
 intro pins s Z H Q I h;refine Ql (pl:=pl) (thn (he pins s Z H _ I h) fun u s1 ⟨x,H1,I1,rx,a,dx,fs,ex,ea,l,q⟩=>?_) ht;subst ex;obtain rfl:u=Value.ref a:=rx;refine gI I1 ea c hm l ?_;refine P7 (first:=[.ref a]) (h₀:=X.base) I.ok.mod.kin hm.kp (thn (ha pos pins s1 Z H1 _ I1 q) fun us s2 ⟨vs,H2,I2,r,q2⟩=>⟨I2.kIn,?_⟩) hst hpl;exact we (us:=.ref a :: us) (vs:=.ref a :: vs) F hr hb hd hx I2 (.cons rfl r) q2
theorem A4 {pl:Sem Bool} (he:PE X o ta) (c:Cls X.K C) (hm:Meth X.K C m f) (F:c8 X.prog X.w X.K X.mg X.base CX k f fd ps sp) (hr:dg k X.A) (hb:Binds X.K fd ps ds) (hd:Vals dvs ds) (hx:Passes CX X E)
  (ht:eval (.Call (.Attribute o m apos) [] [] pos) X.env=(do
   let ov<-eval o X.env
   standAt apos.atName
   let (f,first)<-holding [ov] (getMethod ov m pl)
   callWith pos f first (backTo pos (starEach [] X.env)) (backToKw pos (keywordEach [] X.env))):=by rfl) :
  PE X (.Call (.Attribute o m apos) [] [] pos) (Hu C m sp dvs E ta rY):=by
 intro pins s Z H Q I h;refine Ql (pl:=pl) (thn (he pins s Z H _ I h) fun u s1 ⟨x,H1,I1,rx,a,dx,fs,ex,ea,l,q⟩=>?_) ht;subst ex;obtain rfl:u=Value.ref a:=rx;refine gI I1 ea c hm l ?_;exact PySem.W.callWith_K0 (first:=[.ref a]) I1.kIn hm.kp (we (us:=[.ref a]) (vs:=[.ref a]) F hr hb hd hx I1 (.cons rfl .nil) q)
structure Mk (K:Fg) (C f:Qx):Prop where
 makes:PySem.W.makesIn K C=true
 init:PySem.W.findIn K (.ref C) "__init__" = some (some (.ref f))
 fn:PySem.W.isFn K (.ref f)=true
 kp:PySem.W.keepIn K (.ref C)=true
theorem zV {pins:List (Qx×Obj)} {Z:St} {H:Hp} {s:Qv} {Q:VK} {us:List Qz} {vs:List V} (M:Mk X.K C f) (F:c8 X.prog X.w X.K X.mg X.base CX k f fd ps sp) (hr:dg (k+1) X.A) (hb:Binds X.K fd ps ds) (hd:Vals dvs ds)
  (hx:Passes CX X E) (I:Inv X pins Z H s) (r:Vals vs us)
  (h:∀ x dx,H x=none->H dx=none->dx≠x->sp (.ref x :: (vs++dvs)) (upd (upd H dx (.own x)) x (.ins C dx [])) (fun v H2=>v=.non/\Q (.ref x) H2) E) :
  wpAny (model X.prog X.w) X.A (call (.ref C) us) (EP X pins Z Q) X.xe s:=by
 have hq:=h (s.heap.objs.size+1) s.heap.objs.size (I.hok.fresh (Qd _)) (I.hok.fresh (Ol _)) (OQ (Pj _));have I2:=Inv.made (C:=C) I;have r2:Vals (V.ref (s.heap.objs.size+1) :: (vs++dvs)) (Value.ref (s.heap.objs.size+1) :: (us++ds)):=.cons rfl (r.append hd);have hl:(Value.ref (s.heap.objs.size+1) :: us++ds).length=ps.length:=by
  have e:=r2.length;rw [F.len _ _ _ _ hq] at e;exact e.symm
 refine wpAny_call (AK (f:=f) I.kIn M.makes M.init (Px.mp M.fn) (Qi (F.run _ X.stack _ _ ⟨Value.ref (s.heap.objs.size+1) :: us,[]⟩ (Value.ref (s.heap.objs.size+1) :: (us++ds)) _ _ E (hr.make C us [])
  (I2.EF.make C us []) (hb _ (Value.ref (s.heap.objs.size+1) :: us) I2.kIn hl) r2 hq) fun r s' hq'=>?_))
 cases r with
 | error e=>exact hx pins Z _ _ e s' I2 hq'
 | ok fl =>
  cases fl with
  | ret u =>
   obtain ⟨v,H',I3,rv,ev,q3⟩:=I2.after hq';subst ev;exact ⟨rv,⟨V.ref (s.heap.objs.size+1),H',I3,rfl,q3⟩⟩
  | next=>exact False.elim hq'
  | brk=>exact False.elim hq'
  | cont=>exact False.elim hq'
theorem CN (M:Mk X.K C f) (F:c8 X.prog X.w X.K X.mg X.base CX k f fd ps sp) (hr:dg (k+1) X.A) (hg:Gl X x) (hm:X.mg x=some (.ref C)) (hb:Binds X.K fd ps ds) (hd:Vals dvs ds) (hx:Passes CX X E)
  (ha:PA X (e :: es) t) (hdb:(x==("__debug__" : Str))=false:=by decide) (he:starEach (e :: es) X.env=(false,eval e X.env) :: starEach es X.env:=by rfl) (hpl:(backTo pos (starEach es X.env)).any (·.1)=false:=by rfl) :
  PE X (.Call (.Name x p) (e :: es) [] pos) (La C sp dvs E t):=by
 intro pins s Z H Q I h;refine PN (gS I hg hm ?_ hdb);refine P7 (h₀:=X.base) I.ok.mod.kin M.kp (thn (ha pos pins s Z H _ I h) fun us s1 ⟨vs,H1,I1,r,q⟩=>⟨I1.kIn,?_⟩) he hpl;exact zV M F hr hb hd hx I1 r q
end
structure b7 (N P:List Str) (sc:Scope):Prop where
 kind:sc.kind=.function
 co:sc.isCoroutine=false
 gen:sc.isGenerator=false
 nd:N.Nodup
 pre:N.take P.length=P
 par:∀ x∈P,sc.names.lookup x=some .local\/sc.names.lookup x=some .cell
 HR:∀ y∈sc.names,y.2≠.free
theorem nZ {kindOf:Str->Option NameKind} {x:Str}:∀ {binds:List (Str×Qz)} {m:Str->Option Qz},(∀ v,(x,v) ∉ binds)->bindL kindOf binds m x=m x
 | [],_,_=>rfl
 | (n,v) :: r,m,h=>by
  unfold bindL;rw [nZ fun w hw=>h w (N8 _ hw)];split
  ·have:x≠n:=by rintro rfl;exact h v Od
   simp [this]
  ·rfl
theorem nj {kindOf:Str->Option NameKind} {x:Str}:∀ {binds:List (Str×Qz)} {m:Str->Option Qz},(∀ v,(x,v) ∉ binds)->bindC kindOf binds m x=m x
 | [],_,_=>rfl
 | (n,v) :: r,m,h=>by
  unfold bindC;rw [nj fun w hw=>h w (N8 _ hw)];split
  ·rfl
  ·have:x≠n:=by rintro rfl;exact h v Od
   simp [this]
theorem oK {kindOf:Str->Option NameKind} {x:Str} {v:Qz}:∀ {P:List Str} {vs:List Qz} {i:Nat} {m:Str->Option Qz},P.Nodup->P[i]?=some x->vs[i]?=some v->kindOf x=some .local ->
  bindL kindOf (P.zip vs) m x=some v
 | [],_,_,_,_,h,_,_=>by simp at h
 | _ :: _,[],_,_,_,_,h,_=>by simp at h
 | p :: P,w :: vs,0,m,nd,h1,h2,hk=>by
  simp at h1 h2;subst h1;subst h2;show bindL kindOf ((p,w) :: P.zip vs) m p=_;unfold bindL;rw [nZ fun v hv=>(Pa.mp nd).1 (List.of_mem_zip hv).1,Og hk];simp
 | p :: P,w :: vs,i+1,m,nd,h1,h2,hk=>by
  show bindL kindOf ((p,w) :: P.zip vs) m x=_;unfold bindL;exact oK (i:=i) (Pa.mp nd).2 (by simpa using h1) (by simpa using h2) hk
theorem nX {kindOf:Str->Option NameKind} {x:Str} {v:Qz}:∀ {P:List Str} {vs:List Qz} {i:Nat} {m:Str->Option Qz},P.Nodup->P[i]?=some x->vs[i]?=some v->kindOf x≠some .local ->
  bindC kindOf (P.zip vs) m x=some v
 | [],_,_,_,_,h,_,_=>by simp at h
 | _ :: _,[],_,_,_,_,h,_=>by simp at h
 | p :: P,w :: vs,0,m,nd,h1,h2,hk=>by
  simp at h1 h2;subst h1;subst h2;show bindC kindOf ((p,w) :: P.zip vs) m p=_;unfold bindC;rw [nj fun v hv=>(Pa.mp nd).1 (List.of_mem_zip hv).1,Ot hk];simp
 | p :: P,w :: vs,i+1,m,nd,h1,h2,hk=>by
  show bindC kindOf ((p,w) :: P.zip vs) m x=_;unfold bindC;exact nX (i:=i) (Pa.mp nd).2 (by simpa using h1) (by simpa using h2) hk
noncomputable def start (N:List Str) (vs:List V):St:=vs.map some++List.replicate (N.length - vs.length) none
noncomputable def tS (CX:CXT) (P:Program) (w:World) (K:Fg) (mg:Str->Option Qz) (base:Heap) (N:List Str) (qual:Str) (scope:Scope) (f:Qx) (cd:Qz) (A:Around) (outer:List Env) (s:Qv) (H:Hp) (E:XK):Cx where
 prog:=P
 w:=w
 K:=K
 mg:=mg
 base:=base
 A:=A.deeper (envOfC qual scope s.heap.objs.size f cd)
 N:=N
 s0:=s
 ZY:=H
 env:=envOfC qual scope s.heap.objs.size f cd
 outer:=outer
 stack:=envOfC qual scope s.heap.objs.size f cd :: outer
 ex:=[]
 calm:=true
 fn:=fun _=>true
 pn:=[]
 xe:=fun e s'=>wpAny (model P w) (A.deeper (envOfC qual scope s.heap.objs.size f cd)) (leaving (envOfC qual scope s.heap.objs.size f cd) e) (fun _ s''=>CX outer H s E e s'') (fun e' s''=>CX outer H s E e' s'') s'
theorem qO {sc:Scope} {n:Nat} {x:Str} (h:sc.names.lookup x=some .cell):∃ c,(cellsFrom n sc.names []).lookup x=some c:=by
 have q:=PySem.W.cellsFrom_some sc.names n [] (.inl h);exact Option.isSome_iff_exists.mp q
theorem vR {CX:CXT} {P:Program} {w:World} {K:Fg} {mg:Str->Option Qz} {base:Heap} {N ps:List Str} {qual:Str} {scope:Scope} {f:Qx} {cd:Qz} {A:Around} {outer:List Env} {s s1:Qv} {H:Hp} {E:XK} {us:List Qz} {vs:List V}
  (S:b7 N ps scope) (hd:A.handled=none) (e0:CK P w K mg base A outer s H) (hl:vs.length=ps.length) (r:Vals vs us)
  (x:InCallC s s.heap.objs.size (bindL (envOfC qual scope s.heap.objs.size f cd).kindOf (ps.zip us) fun _=>none) (cellsFrom (s.heap.objs.size+1) scope.names []) (bindC (envOfC qual scope s.heap.objs.size f cd).kindOf (ps.zip us) fun _=>none) s1) :
  Inv (tS CX P w K mg base N qual scope f cd A outer s H E) [] (start N vs) H s1:=by
 have hpl:ps.length<=N.length:=by have:=congrArg List.length S.pre;rw [O2] at this;omega
 obtain ⟨h1,tk,rfl,hk⟩:=x.done;have noA:∀ b:Qx,b ∉ (tS CX P w K mg base N qual scope f cd A outer s H E).ex:=fun b z=>absurd (show b∈([]:List Qx) from z) (by simp)
 refine ⟨⟨e0.mod,S.kind,rfl,rfl,Ol _,fun y z c h1 h2=>?_,fun y hy=>?_,fun y c _ h=>?_,fun _=>hd,Around.frames_deeper e0.frames,.inr ⟨rfl,rfl⟩,fun b z=>absurd z (noA b),e0.bs,e0.bsz,fun b _ _=>noA b,fun b z=>absurd z (noA b),e0.qF,e0.frf⟩,
  rfl,e0.bare,Un.kept hk,⟨_,x.toInCall.ns,fun i y v h1 h2 h3=>?_⟩,fun y c h=>⟨_,x.cell y c h⟩,e0.hok.fresh (Ol _),fun y c h=>?_,fun p hp=>absurd (show p∈([]:List (Qx×Obj)) from hp) (by simp),e0.hok.kept hk,?_⟩
 ·exact name_of_addr x.apart (PF h1) (PF h2)
 ·have hy:scope.names.lookup y=some .cell\/scope.names.lookup y=some .free:=hy;rcases hy with hy | hy
  ·exact qO hy
  ·exact absurd rfl (S.HR _ (PF hy))
 ·exact Nat.le_of_lt (x.above y c (PF h))
 ·have hi:i < vs.length:=by
   unfold start at h2;by_cases hi:i < vs.length
   ·exact hi
   ·rw [Oa (by simpa using hi)] at h2;rw [List.getElem?_replicate] at h2;split at h2 <;> cases h2
  have ha:vs[i]?=some v:=by
   unfold start at h2;rw [Oq (by simpa using hi),OA] at h2;cases e:vs[i]? with
   | none=>rw [e] at h2;cases h2
   | some a=>rw [e] at h2;cases h2;rfl
  obtain ⟨u,hu,rv⟩:=r.get ha;have hp:ps[i]?=some y:=by
   rw [<- S.pre,List.getElem?_take_of_lt (by omega)];exact h1
  have ndP:ps.Nodup:=by rw [<- S.pre];exact S.nd.sublist (List.take_sublist _ _)
  refine ⟨u,rv,?_⟩;rcases S.par y (OH hp) with k | k
  ·exact .inl ⟨k,oK ndP hp hu k⟩
  ·obtain ⟨c,e⟩:=qO (n:=s.heap.objs.size+1) k;refine .inr ⟨.inl k,c,e,?_⟩;have q:=x.cell y c e;rw [nX ndP hp hu (by show scope.names.lookup y≠_;rw [k];decide)] at q;exact q
 ·exact e0.hok.fresh (Nat.le_of_lt (x.above y c (PF h)))
 ·unfold start;show _=N.length;rw [N5,N6,Py];omega
theorem Fe {CX:CXT} {P:Program} {w:World} {K:Fg} {mg:Str->Option Qz} {base:Heap} {k:Nat} {f:Qx} {name qual:Str} {params:Arguments} {body:List Stmt} {scope:Scope} {dV kV doc pm cdv ct oc:Qz} {an od:Option Qx}
  {osl:Array (Option Qz)} {N ps:List Str} {sp:Sp} (lk:K.lookup f=some ⟨oc,od,.func (PySem.W.fnOf name qual params body scope dV kV doc pm an cdv ct),osl⟩) (hcd:PySem.W.codeIn K cdv qual=true) (S:b7 N ps scope)
  (len:∀ vs H Q E,sp vs H Q E->vs.length=ps.length)
  (hbody:∀ (A:Around) (outer:List Env) (s:Qv) (H:Hp) (vs:List V) (Q:VK) (E:XK),dg k (A.deeper (envOfC qual scope s.heap.objs.size f cdv))->sp vs H Q E ->
   ∃ t,PSs (tS CX P w K mg base N qual scope f cdv A outer s H E) body t/\t { nx:=fun _ H'=>Q .non H',rt:=Q } (start N vs) H) :
  c8 P w K mg base CX (k+1) f (PySem.W.fnOf name qual params body scope dV kV doc pm an cdv ct) ps sp:=by
 refine ⟨len,fun A outer s H args us vs Q E hr e0 hb r hsp=>?_⟩;have hl:=len _ _ _ _ hsp;have KX:K.In s.heap:=e0.mod.kin.keeps fun b o e=>(e0.bs b o e).1;have lim:s.heap.NoLimit:=e0.mod.nolimit.keeps fun b o e=>(e0.bs b o e).1;have hkind:∀ y∈ps.zip us,scope.names.lookup y.1=some .local\/(scope.names.lookup y.1=some .cell/\((cellsFrom (s.heap.objs.size+1) scope.names []).lookup y.1).isSome=true):=fun ⟨n,v⟩ hy=>by
  rcases S.par n (List.of_mem_zip hy).1 with q | q
  ·exact .inl q
  ·exact .inr ⟨q,PySem.W.cellsFrom_some _ _ _ (.inl q)⟩
 refine codeAny_call_function hr.depth (KX _ _ lk) rfl S.co S.gen rfl (PySem.W.codeRec_of KX hcd) (hb _ _ _ _ ?_);refine wpAny_newFunctionEnv_cells S.kind hkind fun env he s1 x=>?_;subst he;refine ⟨lim.keeps x.toInCall.keep,codeAny_func ?_⟩;obtain ⟨t,ht,hq⟩:=hbody A outer s H vs Q E (hr.deeper _) hsp;have I:Inv (tS CX P w K mg base N qual scope f cdv A outer s H E) [] (start N vs) H s1:=vR S hr.hd e0 hl r x;refine O9 (ht [] s1 (start N vs) H _ I hq) (fun fl s' hs=>?_) fun e s' hs=>hs;have fin:∀ {Z':St} {H':Hp} {v:V} {u:Qz},Inv (tS CX P w K mg base N qual scope f cdv A outer s H E) [] Z' H' s'->RelV v u->Q v H'->CE outer P w H s Q u s' :=
  fun {Z' H' v u} J rv q=>⟨v,H',J.os,J.bare,J.base,J.hok,rv,q⟩
 cases fl with
 | ret u =>
  obtain ⟨v,Z',H',J,rv,q⟩:=hs;exact fin J rv q
 | next =>
  obtain ⟨Z',H',J,q⟩:=hs;exact fin (v:=V.non) (u:=Value.none) J rfl q
 | brk =>
  obtain ⟨_,_,_,q⟩:=hs;exact False.elim q
 | cont =>
  obtain ⟨_,_,_,q⟩:=hs;exact False.elim q
section
variable {X:Cx} {x:Str} {p pos:Pos} {e:Expr} {es:List Expr} {t:TA} {id T:String} {r:List V->Hp->VK->Prop}
def tCB (r:List V->Hp->VK->Prop) (t:TA):TE:=fun Z H Q=>t Z H fun vs H1=>r vs H1 Q
theorem AX (hc:bN X (.builtin id) r) (hg:Gl X x) (hm:X.mg x=none) (hv:bootBuiltins x=some (.builtin id)) (ha:PA X (e :: es) t) (hn:x ≠ "__name__" := by decide) (hdb:(x==("__debug__" : Str))=false:=by decide)
  (he:starEach (e :: es) X.env=(false,eval e X.env) :: starEach es X.env:=by rfl) (hpl:(backTo pos (starEach es X.env)).any (·.1)=false:=by rfl):PE X (.Call (.Name x p) (e :: es) [] pos) (tCB r t):=by
 intro pins s Z H Q I h;refine PN (rC I hg hm hv ?_ hn hdb);exact PyProof.Rows.callWith_builtin1 (thn (ha pos pins s Z H _ I h) fun us s1 ⟨vs,H1,I1,r1,q1⟩=>hc pins s1 Z H1 vs us Q I1 r1 q1) he hpl
theorem yD (hc:bN X (.type T) r) (hg:Gl X x) (hm:X.mg x=none) (hv:bootBuiltins x=some (.type T)) (ha:PA X (e :: es) t) (hn:x ≠ "__name__" := by decide) (hdb:(x==("__debug__" : Str))=false:=by decide)
  (he:starEach (e :: es) X.env=(false,eval e X.env) :: starEach es X.env:=by rfl) (hpl:(backTo pos (starEach es X.env)).any (·.1)=false:=by rfl):PE X (.Call (.Name x p) (e :: es) [] pos) (tCB r t):=by
 intro pins s Z H Q I h;refine PN (rC I hg hm hv ?_ hn hdb);exact PyProof.Rows.callWith_type1 (thn (ha pos pins s Z H _ I h) fun us s1 ⟨vs,H1,I1,r1,q1⟩=>hc pins s1 Z H1 vs us Q I1 r1 q1) he hpl
end
end L2
namespace HT
open PySem PyProof.Rows
section
variable {prog:Program} {w:World} {A:Around} {E:Qz->Qv->Prop} {s:Qv}
theorem D9 {t b:Qx} {vs ws:List Qz} {Q:Qz->Qv->Prop} (ht:IsTup s.heap t vs.toArray) (hb:IsTup s.heap b ws.toArray) (hv:vs≠[])
  (h1:ws=[]->Q (.ref t) s) (h2:ws≠[]->Q (.ref s.heap.objs.size) { s with heap:=s.heap.push { cls:=.type "tuple", data:=.seq (vs++ws).toArray } })
  (hsz:vs.length+ws.length<=sizeLine):wpAny (model prog w) A (binaryOp .Add (.ref t) (.ref b)) Q E s:=by
 obtain ⟨⟨cls,dd,data,sl⟩,ho,hc,n,hd⟩:=id ht;obtain ⟨⟨cls2,dd2,data2,sl2⟩,ho2,hc2,n2,hd2⟩:=id hb;simp only at hc hd hc2 hd2;subst hc hd hc2 hd2;have e:vs.toArray++ws.toArray=(vs++ws).toArray:=by simp
 by_cases hw:ws=[]
 ·exact concat_meets ⟨_,ho,rfl⟩ ⟨_,ho2,rfl⟩ noFill_tuple_add seq_tuple_add PySem.F.slot_tuple_add PySem.F.entry_tuple_add (PySem.F.args_tuple_add_2 _ _)
   (tuple_addW1 t b vs.toArray ws.toArray n n2 dd dd2 sl sl2 (by simpa using hv) (by simp [hw])) ⟨ho,ho2,h1 hw⟩
 ·refine concat_meets ⟨_,ho,rfl⟩ ⟨_,ho2,rfl⟩ noFill_tuple_add seq_tuple_add PySem.F.slot_tuple_add PySem.F.entry_tuple_add (PySem.F.args_tuple_add_2 _ _)
   (tuple_addW2 t b vs.toArray ws.toArray n n2 dd dd2 sl sl2 (by simpa using hv) (by simpa using hw) (by rw [Om,Om];exact hsz)) ⟨ho,ho2,?_⟩
  rw [e];exact h2 hw
noncomputable def sIx (n d:Nat):Option Int->Nat
 | none=>d
 | some v=>if v < 0 then (v+(n:Int)).toNat else min v.toNat n
theorem rm (n d:Nat) (hd:d<=n) (o:Option Int):sIx n d o<=n:=by
 cases o with
 | none=>exact hd
 | some v =>
  show (if v < 0 then (v+(n:Int)).toNat else min v.toNat n)<=n;by_cases hv:v < 0
  ·rw [Og hv];omega
  ·rw [Ot hv];exact Nat.min_le_right _ _
theorem vS (v:Int) (n d:Nat):(if v < 0 then max (v+(n:Int)) 0 else min v (n:Int))=((sIx n d (some v):Nat):Int):=by
 show (if v < 0 then max (v+(n:Int)) 0 else min v (n:Int))=(((if v < 0 then (v+(n:Int)).toNat else min v.toNat n):Nat):Int);by_cases hv:v < 0
 ·simp only [Og hv];omega
 ·simp only [Ot hv];omega
theorem uA (lo hi:Option Int) (n:Nat):Builtin.Slice.sliceAdjust lo hi 1 (n:Int)=(((sIx n 0 lo:Nat):Int),((sIx n n hi:Nat):Int)):=by
 have h1:¬((1:Int) < 0):=by omega
 unfold Builtin.Slice.sliceAdjust;simp only [h1,if_false];refine Prod.ext ?_ ?_
 ·cases lo with
  | none=>rfl
  | some v=>exact vS v n 0
 ·cases hi with
  | none=>rfl
  | some v=>exact vS v n n
theorem tK (i j:Nat):Builtin.Slice.slicePlaces (i:Int) (j:Int) 1=j - i:=by
 unfold Builtin.Slice.slicePlaces;have h1:(1:Int) > 0:=by omega
 simp only [h1,P5,Int.ediv_one];split <;> omega
theorem kL {v:Qz} {o:Option Int} {Q:Option Int->Qv->Prop} (p:IsPart v o) (h:Q o s):wpAny (model prog w) A (Builtin.Slice.slicePartIndex v) Q E s:=by
 cases p with
 | none=>exact slicePart_none h
 | int i t=>exact slicePart_int h
theorem iR {sl:Qx} {vl vu:Qz} {lo hi:Option Int} {n:Nat} {Q:Int×Int×Nat->Qv->Prop} (hs:s.heap.IsSliceOf sl vl vu .none) (pl:IsPart vl lo) (pu:IsPart vu hi)
  (h:Q (((sIx n 0 lo:Nat):Int),1,sIx n n hi - sIx n 0 lo) s):wpAny (model prog w) A (Builtin.Slice.sliceApplied (.ref sl) (pure (n:Int))) Q E s:=by
 obtain ⟨os,hos,hcs,hds⟩:=id hs;unfold Builtin.Slice.sliceApplied Builtin.Slice.sliceFields;refine Oh (Oh (Qc hos hds (x:=vl) rfl (Oh (Qc hos hds (x:=vu) rfl (Oh (Qc hos hds (x:=.none) rfl (OB ?_)))))));refine Oh (slicePart_none ?_);show wpAny _ _ (if ((1:Int)==0)=true then _ else _) _ _ s;rw [Ot (by decide)];refine Oh (kL pl (Oh (kL pu (Oh (OB ?_)))));show wpAny _ _ (match Builtin.Slice.sliceAdjust lo hi 1 (n:Int) with | (lo,hi)=>pure (lo,(1:Int),Builtin.Slice.slicePlaces lo hi 1)) _ _ s;rw [uA lo hi n];show wpAny _ _ (pure (((sIx n 0 lo:Nat):Int),(1:Int),Builtin.Slice.slicePlaces ((sIx n 0 lo:Nat):Int) ((sIx n n hi:Nat):Int) 1)) _ _ s;rw [tK];exact OB h
theorem zP (xs:Array Qz) (i k:Nat):((List.range k).filterMap fun (m:Nat)=>xs[((i:Int)+(m:Int)*1).toNat]?).toArray=((xs.toList.drop i).take k).toArray:=by
 have e:(fun (m:Nat)=>xs[((i:Int)+(m:Int)*1).toNat]?)=fun m=>xs[i+m]?:=by
  funext m;have:((i:Int)+(m:Int)*1).toNat=i+m:=by omega
  rw [this]
 rw [e];have:=pick_run xs i k;rw [List.filterMap_map] at this;have e2:((fun x=>xs[x]?)∘fun x=>i+x)=fun m=>xs[i+m]?:=rfl;rw [e2] at this;rw [this]
theorem gT {t sl:Qx} {items:Array Qz} {vl vu:Qz} {lo hi:Option Int} {Q:Qz->Qv->Prop} (ht:IsTup s.heap t items) (hs:s.heap.IsSliceOf sl vl vu .none) (pl:IsPart vl lo) (pu:IsPart vu hi)
  (hw:¬(sIx items.size 0 lo=0/\sIx items.size items.size hi=items.size))
  (h:Q (.ref s.heap.objs.size) { s with heap:=s.heap.push { cls:=.type "tuple", data:=.seq ((items.toList.drop (sIx items.size 0 lo)).take (sIx items.size items.size hi - sIx items.size 0 lo)).toArray } })
  (hsz:items.size<=sizeLine):wpAny (model prog w) A (getItem (.ref t) (.ref sl)) Q E s:=by
 have htake:sizeOk (.seq ((items.toList.drop (sIx items.size 0 lo)).take (sIx items.size items.size hi - sIx items.size 0 lo)).toArray):=by
  show ((items.toList.drop (sIx items.size 0 lo)).take (sIx items.size items.size hi - sIx items.size 0 lo)).toArray.size<=sizeLine;rw [Om,O2,Pm,Array.length_toList];omega
 have hj:sIx items.size items.size hi<=items.size:=rm _ _ (Ol _) hi;obtain ⟨os,hos,hcs,hds⟩:=id hs;have hTs:s.TypeIs (.ref sl) "slice" := ⟨os,hos,hcs⟩;unfold getItem;try with_reducible refine wpAny_holding ?_
 first | refine Oh (OB ?_) | skip
 refine Oh (wpAny_sequenceKey ht.typeIs (by decide) ?_)
 refine Oh (wpAny_callSpecial?_slot (name:=Str.ofString "__getitem__") ht.typeIs PyProof.Rows.slot_tuple_getitem
  (wpAny_call_entry PyProof.Rows.slot_tuple_getitem ht.typeIs entry_tuple_getitem ?_ (args_tuple_getitem _ _)))
 show wpAny _ _ (Builtin.Tuple.tupleItemsOf (.ref t)>>=_) _ _ s;refine Oh (tupleItemsOf_ ht ?_);refine Oh (wpAny_typeOf hTs ?_);rw [Og (by decide)];refine Oh (iR hs pl pu ?_);have hno:¬((((sIx items.size 0 lo:Nat):Int)==0&&(1:Int)==1&&(sIx items.size items.size hi - sIx items.size 0 lo)==items.size)=true):=by
  intro q;rw [OF,OF] at q;have q1:((sIx items.size 0 lo:Nat):Int)=0:=eq_of_beq q.1.1;have q2:sIx items.size items.size hi - sIx items.size 0 lo=items.size:=eq_of_beq q.2;exact hw ⟨by omega,by omega⟩
 show wpAny _ _ (if (((sIx items.size 0 lo:Nat):Int)==0&&(1:Int)==1&&(sIx items.size items.size hi - sIx items.size 0 lo)==items.size)=true then _ else _) _ _ s;rw [Ot hno,zP];first
  | exact Oh (m:=Builtin.Tuple.tupleExact _) (PQ (OB ⟨_,rfl,OB h⟩) htake)
  | exact Oh (m:=Builtin.Tuple.tupleExact _) (PQ (Oh (OB (OB ⟨_,rfl,OB h⟩))) htake)
  | exact Oh (Oh (m:=Builtin.Tuple.tupleExact _) (PQ (OB (OB ⟨_,rfl,OB h⟩)) htake))
  | exact Oh (Oh (m:=Builtin.Tuple.tupleExact _) (PQ (OB ⟨_,rfl,OB h⟩) htake))
end
end HT
namespace L2
open PySem PySem.Spec PyProof.Rows
abbrev TO:=St->Hp->(Option Int->Hp->Prop)->Prop
def PO (X:Cx) (e:Option Expr) (t:TO):Prop :=
 ∀ (pins:List (Qx×Obj)) (s:Qv) (Z:St) (H:Hp) (Q:Option Int->Hp->Prop),Inv X pins Z H s->t Z H Q ->
  wpAny (model X.prog X.w) X.A (evalPart e X.env) (fun u s'=>∃ o H',Inv X pins Z H' s'/\IsPart u o/\Q o H') X.xe s
def vX:TO:=fun _ H Q=>Q none H
def Hy (t:TE):TO:=fun Z H Q=>t Z H fun x H1=>∃ i,x=.int i/\Q (some i) H1
section
variable {X:Cx} {e:Expr} {te:TE} {lo hi:Option Expr} {tl th:TO} {pos p2:Pos}
theorem Cu:PO X none vX:=by
 intro pins s Z H Q I h;rw [evalPart_none];exact OB ⟨none,H,I,.none,h⟩
theorem CC (h:PE X e te):PO X (some e) (Hy te):=by
 intro pins s Z H Q I hw;rw [evalPart_some];refine thn (h pins s Z H _ I hw) fun u s1 ⟨x,H1,I1,r1,q1⟩=>?_;obtain ⟨i,rfl,q⟩:=q1;obtain ⟨t,rfl⟩:=r1;exact ⟨some i,H1,I1,.int i t,q⟩
def SlR (X:Cx) (r:V->Option Int->Option Int->Hp->VK->Prop):Prop :=
 ∀ (pins:List (Qx×Obj)) (s:Qv) (Z:St) (H:Hp) (x:V) (v vl vu:Qz) (lo hi:Option Int) (sl:Qx) (Q:VK),Inv X pins Z H s->RelV x v->s.heap.IsSliceOf sl vl vu .none->IsPart vl lo->IsPart vu hi->r x lo hi H Q ->
  ∃ T id,typeLookup (.type T) "__getitem__" = pure (some (.builtin id))/\s.TypeIs v T/\wpAny (model X.prog X.w) X.A (getItem v (.ref sl)) (EP X pins Z Q) X.xe s
theorem SlR.or {r r':V->Option Int->Option Int->Hp->VK->Prop} (h:SlR X r) (h':SlR X r'):SlR X (fun x lo hi H Q=>r x lo hi H Q\/r' x lo hi H Q):=by
 intro pins s Z H x v vl vu lo hi sl Q I rx hs pl pu q;rcases q with q | q
 ·exact h pins s Z H x v vl vu lo hi sl Q I rx hs pl pu q
 ·exact h' pins s Z H x v vl vu lo hi sl Q I rx hs pl pu q
def tSl (r:V->Option Int->Option Int->Hp->VK->Prop) (te:TE) (tl th:TO):TE:=fun Z H Q=>te Z H fun x H1=>tl Z H1 fun l H2=>th Z H2 fun u H3=>r x l u H3 Q
theorem Ap {r:V->Option Int->Option Int->Hp->VK->Prop} (hr:SlR X r) (he:PE X e te) (hl:PO X lo tl) (hu:PO X hi th):PE X (.Subscript e (.Slice lo hi none p2) pos) (tSl r te tl th):=by
 intro pins s Z H Q I h;refine Subscript_ (thn (he pins s Z H _ I h) fun v s1 ⟨x,H1,I1,r1,q1⟩=>?_);refine wpAny_Slice (thn (hl pins s1 Z H1 _ I1 q1) fun vl s2 ⟨l,H2,I2,pl,q2⟩=>thn (hu pins s2 Z H2 _ I2 q2) fun vu s3 ⟨u,H3,I3,pu,q3⟩=>?_);rw [evalPart_none];refine OB ?_;have I4:Inv X pins Z H3 { s3 with heap:=s3.heap.push { cls:=.type "slice", data:=.fields #[vl,vu,.none] } }:=I3.kept (t':=s3.toks) fun b ob q=>Of _ q;obtain ⟨T,id,hT,ht,hg⟩:=hr pins { s3 with heap:=s3.heap.push { cls:=.type "slice", data:=.fields #[vl,vu,.none] } } Z H3 x v vl vu l u s3.heap.objs.size Q I4 r1 (Heap.IsSliceOf.new ..) pl pu q3;show wpAny (model X.prog X.w) X.A (subscriptTail e (.Slice lo hi none p2) v (.ref s3.heap.objs.size)) (EP X pins Z Q) X.xe { s3 with heap:=s3.heap.push { cls:=.type "slice", data:=.fields #[vl,vu,.none] } };exact tail_any (ops:=[.ref s3.heap.objs.size,v]) ht hT hg (by with_unfolding_all rfl)
def yW (xs:List V) (lo hi:Option Int):List V:=(xs.drop (HT.sIx xs.length 0 lo)).take (HT.sIx xs.length xs.length hi - HT.sIx xs.length 0 lo)
theorem jF (xs:List V) (lo hi:Option Int):(yW xs lo hi).length<=xs.length:=by
 unfold yW;rw [O2,Pm];omega
def Mt (K:Fg):V->Option Int->Option Int->Hp->VK->Prop:=fun x lo hi H Q=>∃ a xs,x=.ref a/\SqT K H a xs /\
 ¬(HT.sIx xs.length 0 lo=0/\HT.sIx xs.length xs.length hi=xs.length)/\∀ p,H p=none->Q (.ref p) (upd H p (.tup (yW xs lo hi)))
theorem jb:SlR X (Mt X.K):=by
 intro pins s Z H x v vl vu lo hi sl Q I rx hs pl pu h;obtain ⟨a,xs,rfl,hx,hw,q⟩:=h;cases rx;obtain ⟨its,r,ht,hz⟩:=I.tuple hx;have hlen:its.toArray.size=xs.length:=by rw [Om];exact r.length.symm
 refine ⟨"tuple", _,PyProof.Rows.slot_tuple_getitem.lookup,ht.typeIs,?_⟩;refine HT.gT ht hs pl pu (by rw [hlen];exact hw) ?_ (by rw [hlen];exact hz);rw [hlen];refine ⟨.ref s.heap.objs.size,_,I.laid (t':=s.toks) (o:=.tup (yW xs lo hi)) (fun b ob q=>Of _ q) (Ol _) ?_,rfl,q _ (I.hok.fresh (Ol _))⟩;exact ⟨Oy (jF xs lo hi) hz,_,(r.drop (HT.sIx xs.length 0 lo)).take (HT.sIx xs.length xs.length hi - HT.sIx xs.length 0 lo),IsTup.new _ _⟩
def EM (K:Fg):R2:=fun x y H Q=>∃ a b xs ys,x=.ref a/\y=.ref b/\SqT K H a xs/\SqT K H b ys/\xs≠[]/\xs.length+ys.length<=sizeLine /\
 (ys=[]->Q (.ref a) H)/\(ys≠[]->∀ p,H p=none->Q (.ref p) (upd H p (.tup (xs++ys))))
theorem Vals.lA {xs:List V} {us:List Qz} (r:Vals xs us):us=[]↔xs=[]:=by
 cases r with
 | nil=>simp
 | cons _ _=>simp
theorem DZ:OpR X (binaryOp .Add) (EM X.K):=by
 intro pins s Z H x y v u Q I rx ry h;obtain ⟨a,b,xs,ys,rfl,rfl,ha,hb,hx,hz,q1,q2⟩:=h;cases rx;cases ry;obtain ⟨its,r1,p1,_⟩:=I.tuple ha;obtain ⟨its2,r2,p2,_⟩:=I.tuple hb;refine HT.D9 p1 p2 (fun z=>hx (r1.lA.mp z)) (fun z=>⟨.ref a,H,I,rfl,q1 (r2.lA.mp z)⟩) (fun z=>?_) (by rw [<- r1.length,<-r2.length];exact hz);refine ⟨.ref s.heap.objs.size,_,I.laid (t':=s.toks) (o:=.tup (xs++ys)) (fun b ob q=>Of _ q) (Ol _) ?_,rfl,q2 (fun w=>z (r2.lA.mpr w)) _ (I.hok.fresh (Ol _))⟩;exact ⟨by rw [N5];exact hz,_,r1.append r2,IsTup.new _ _⟩
end
noncomputable def ixN (n:Nat) (i:Int):Option Nat:=if 0<=i then (if i < n then some i.toNat else none) else if -(n:Int)<=i then some (i+n).toNat else none
def atI {α:Type} (xs:List α) (i:Int):Option α:=(ixN xs.length i).bind fun j=>xs[j]?
theorem xW {n:Nat} {i:Int} {j:Nat} (h:ixN n i=some j):seqIndex? i n=some j/\j < n/\-(n:Int)<=i/\i < n:=by
 unfold ixN at h;by_cases h0:0<=i
 ·rw [Og h0] at h;by_cases h1:i < n
  ·rw [Og h1] at h;have e:i.toNat=j:=OS h;exact ⟨by rw [seqIndex_of h0 h1,e],by omega,by omega,h1⟩
  ·rw [Ot h1] at h;cases h
 ·rw [Ot h0] at h;by_cases h1:-(n:Int)<=i
  ·rw [Og h1] at h;have e:(i+n).toNat=j:=OS h;exact ⟨by rw [seqIndex_neg (by omega) h1,e],by omega,h1,by omega⟩
  ·rw [Ot h1] at h;cases h
theorem pq {α:Type} {xs:List α} {i:Int} {v:α} (h:atI xs i=some v):∃ j,seqIndex? i xs.length=some j/\xs[j]?=some v/\j < xs.length/\-(xs.length:Int)<=i/\i < xs.length:=by
 unfold atI at h;cases e:ixN xs.length i with
 | none=>rw [e] at h;cases h
 | some j =>
  rw [e] at h;obtain ⟨h1,h2,h3,h4⟩:=xW e;exact ⟨j,h1,h,h2,h3,h4⟩
theorem bZ {α:Type} {xs:List α} {j:Nat} {v:α} (h:xs[j]?=some v):atI xs (j:Int)=some v:=by
 have hj:j < xs.length:=(N9.mp h).1;have e:ixN xs.length (j:Int)=some j:=by
  unfold ixN;rw [Og (by omega),Og (by omega)];simp
 unfold atI;rw [e];exact h
def qG (b:Expr):Prop:=∀ o i,subscripted b false o i=operate [o,i] (getItem o i)
def IxR (X:Cx) (r:R2):Prop :=
 ∀ (value slice:Expr) (pins:List (Qx×Obj)) (s:Qv) (Z:St) (H:Hp) (x y:V) (v u:Qz) (Q:VK),Inv X pins Z H s->RelV x v->RelV y u->r x y H Q ->
  subscripted slice false v u=operate [v,u] (getItem v u)->wpAny (model X.prog X.w) X.A (subscriptTail value slice v u) (EP X pins Z Q) X.xe s
def MtR (X:Cx) (id:String) (r:V->List V->Hp->VK->Prop):Prop :=
 ∀ (pins:List (Qx×Obj)) (s:Qv) (Z:St) (H:Hp) (x:V) (xs:List V) (v:Qz) (us:List Qz) (Q:VK),Inv X pins Z H s->RelV x v->Vals xs us->r x xs H Q ->
  wpAny (model X.prog X.w) X.A (call (.builtin id) (v :: us)) (EP X pins Z Q) X.xe s
section
variable {X:Cx} {a b:Expr} {ta tb:TE} {pos:Pos}
theorem IxR.or {r r':R2} (h:IxR X r) (h':IxR X r'):IxR X (fun x y H Q=>r x y H Q\/r' x y H Q):=by
 intro value slice pins s Z H x y v u Q I rx ry q hs;rcases q with q | q
 ·exact h value slice pins s Z H x y v u Q I rx ry q hs
 ·exact h' value slice pins s Z H x y v u Q I rx ry q hs
theorem LQ {r:R2} (hr:IxR X r) (ha:PE X a ta) (hb:PE X b tb) (hs:qG b):PE X (.Subscript a b pos) (tOp r ta tb):=by
 intro pins s Z H Q I h;exact Subscript_ (Mf ha hb I h fun v u s2 x y H2 I2 rx ry q=>hr a b pins s2 Z H2 x y v u Q I2 rx ry q (hs _ _))
def MM (K:Fg):R2:=fun x y H Q=>∃ p xs i v,x=.ref p/\y=.int i/\SqL K H p xs/\atI xs i=some v/\Q v H
def MQ (K:Fg):R2:=fun x y H Q=>∃ p xs i v,x=.ref p/\y=.int i/\SqT K H p xs/\atI xs i=some v/\Q v H
def MX:R2:=fun x y H Q=>∃ z i c,x=.str z/\y=.int i/\z.length<=sizeLine/\atI z.cps.toList i=some c/\Q (.str ⟨#[c]⟩) H
theorem Cp:IxR X (MM X.K):=by
 intro value slice pins s Z H x y v u Q I rx ry h hs;obtain ⟨p,xs,i,z,rfl,rfl,hq,he,q⟩:=h;cases rx;obtain ⟨t,rfl⟩:=ry;obtain ⟨its,r,pl,hz⟩:=I.list hq;obtain ⟨j,h1,h2,h3,h4,h5⟩:=pq he;obtain ⟨w,ew,rw'⟩:=r.get h2;have hl:=r.length;have hn:=ki;have fin:EP X pins Z Q w s:=⟨z,H,I,rw',q⟩;by_cases h0:0<=i
 ·have hj:i.toNat=j:=by
   rw [seqIndex_of h0 h5] at h1;exact OS h1
  exact item_listR pl.isList h0 (by omega) (by rw [hj];simpa using ew) fin hs
 ·have hj:(i+(its.toArray.size:Int)).toNat=j:=by
   rw [seqIndex_neg (by omega) h4] at h1;rw [Om,<-hl];exact OS h1
  exact subscriptTail_builtinR (x:=w) pl.isList.typeIs slot_list_getitem.lookup
   (wpAny_getItem_list_neg (Q:=fun r s'=>r=w/\EP X pins Z Q r s') pl.isList (by omega) (by rw [Om] <;> omega) (by omega) (by rw [hj];simpa using ew) ⟨rfl,fin⟩) hs
theorem HW:IxR X (MQ X.K):=by
 intro value slice pins s Z H x y v u Q I rx ry h hs;obtain ⟨p,xs,i,z,rfl,rfl,hq,he,q⟩:=h;cases rx;obtain ⟨t,rfl⟩:=ry;obtain ⟨its,r,pl,hz⟩:=I.tuple hq;obtain ⟨j,h1,h2,h3,h4,h5⟩:=pq he;obtain ⟨w,ew,rw'⟩:=r.get h2;have hl:=r.length;have hn:=ki;have fin:EP X pins Z Q w s:=⟨z,H,I,rw',q⟩;exact subscriptTail_builtinR (x:=w) pl.typeIs slot_tuple_getitem.lookup
  (getItem_tuple (j:=j) (Q:=fun r s'=>r=w/\EP X pins Z Q r s') pl (by omega) (by omega) (by rw [Om,<-hl];exact h1) (by simpa using ew) ⟨rfl,fin⟩) hs
theorem HY:IxR X MX:=by
 intro value slice pins s Z H x y v u Q I rx ry h hs;obtain ⟨z,i,c,rfl,rfl,hz,he,q⟩:=h;obtain ⟨t,rfl⟩:=rx;obtain ⟨t',rfl⟩:=ry;obtain ⟨j,h1,h2,h3,h4,h5⟩:=pq he;have hl:z.cps.toList.length=z.length:=by simp [Str.length]
 rw [hl] at h1 h4 h5;have hn:=ki
 exact tail_any (typeIs_str s z t) slot_str_getitem.lookup (getItem_str (c:=c) (by
  have e1:decide (i < -(2 ^ 63:Int))=false:=Ob (by omega);have e2:decide (i>=2 ^ 63)=false:=Ob (by omega)
  rw [e1,e2,Bool.or_false]) (by rw [h1];simpa using h2) ⟨.str ⟨#[c]⟩,H,I.tok _,⟨_,rfl⟩,q⟩) hs
def rIx (K:Fg):R2:=fun x y H Q=>MM K x y H Q\/MQ K x y H Q\/MX x y H Q
theorem Hc:IxR X (rIx X.K):=Cp.or (HW.or HY)
theorem tM (its:List Qz) (n j:Nat) (u:Qz):Obj.mapSeq (·.setIfInBounds j u) { cls:=.type "list", data:=.seq its.toArray n }={ cls:=.type "list", data:=.seq (its.set j u).toArray n }:=by
 simp [Obj.mapSeq]
theorem Inv.lst {pins:List (Qx×Obj)} {Z:St} {H:Hp} {s:Qv} {p:Qx} {xs:List V} (I:Inv X pins Z H s) (h:H p=some (.lst xs)) :
  ∃ (its:List Qz) (n:Nat),Vals xs its/\s.heap.get? p=some { cls:=.type "list", data:=.seq its.toArray n }/\xs.length<=sizeLine:=by
 obtain ⟨z,its,n,r,e⟩:=I.hok p _ h;exact ⟨its,n,r,e,z⟩
theorem Inv.E2 {pins:List (Qx×Obj)} {Z:St} {H:Hp} {s:Qv} {p:Qx} {xs ys:List V} {its its':List Qz} {n n':Nat} {f:Obj->Obj} (I:Inv X pins Z H s) (h:H p=some (.lst xs))
  (ho:s.heap.get? p=some { cls:=.type "list", data:=.seq its.toArray n }) (hf:f { cls:=.type "list", data:=.seq its.toArray n }={ cls:=.type "list", data:=.seq its'.toArray n' }) (r:Vals ys its') (hz:ys.length<=sizeLine) (t:Nat) :
  Inv X pins Z (upd H p (.lst ys)) { s with heap:=s.heap.update p f,toks:=t }:=by
 have e:(s.heap.update p f).get? p=some { cls:=.type "list", data:=.seq its'.toArray n' }:=by
  rw [PZ f ho (by rw [hf] <;> rfl),hf]
 refine I.write (x:=p) (e:=p) (by rw [h];trivial) (.inl rfl) (fun b u hb q=>(O4 _ _ (Ne.symm hb)).trans q) ⟨_,e⟩ ?_;exact ⟨hz,its',n',r,e⟩
def HZ:V->V->V->Hp->(Hp->Prop)->Prop:=fun o i v H Q=>∃ p xs k j,o=.ref p/\i=.int k/\H p=some (.lst xs)/\ixN xs.length k=some j/\Q (upd H p (.lst (xs.set j v)))
theorem set_list:LN X HZ:=by
 intro pins s Z H o i v ov iv u Q I ro ri rv h;obtain ⟨p,xs,k,j,rfl,rfl,hp,hj,q⟩:=h;cases ro;obtain ⟨t,rfl⟩:=ri;obtain ⟨its,n,r,ho,hz⟩:=I.lst hp;obtain ⟨h1,h2,h3,h4⟩:=xW hj;have hl:=r.length;have hn:=ki;have I':Inv X pins Z (upd H p (.lst (xs.set j v))) { s with heap:=s.heap.update p (Obj.mapSeq (·.setIfInBounds j u)) } :=
  I.E2 hp ho (tM its n j u) (r.set rv j) (by rw [OJ];exact hz) s.toks
 by_cases h0:0<=k
 ·have hk:k.toNat=j:=by
   rw [seqIndex_of h0 h4] at h1;exact OS h1
  exact PySem.W.ki_setAt ho h0 (by omega) (by rw [Om,<-hl];exact h4) (by rw [hk];exact ⟨_,I',q⟩)
 ·have hk:(k+(its.toArray.size:Int)).toNat=j:=by
   rw [seqIndex_neg (by omega) h3] at h1;rw [Om,<-hl];exact OS h1
  exact PySem.W.ki_setBack ho (by omega) (by rw [Om,<-hl];exact h3) (by omega) (by rw [hk];exact ⟨_,I',q⟩)
theorem oE (lo hi:Option Int) (n:Nat):(sliceBounds lo hi none n).1=((HT.sIx n 0 lo:Nat):Int)/\(sliceBounds lo hi none n).2.1=((HT.sIx n n hi:Nat):Int)/\(sliceBounds lo hi none n).2.2=1:=by
 refine ⟨?_,?_,rfl⟩
 ·cases lo with
  | none=>simp [sliceBounds,HT.sIx]
  | some i =>
   simp only [sliceBounds,HT.sIx,Option.getD_none,show (1:Int) > 0 by decide,P5];by_cases h:i < 0
   ·simp only [h,P5] <;> omega
   ·simp only [h,if_false] <;> omega
 ·cases hi with
  | none=>simp [sliceBounds,HT.sIx]
  | some i =>
   simp only [sliceBounds,HT.sIx,Option.getD_none,show (1:Int) > 0 by decide,P5];by_cases h:i < 0
   ·simp only [h,P5] <;> omega
   ·simp only [h,if_false] <;> omega
theorem lH (its:List Qz) (lo hi:Option Int):slicePick its.toArray lo hi none=((its.drop (HT.sIx its.length 0 lo)).take (HT.sIx its.length its.length hi - HT.sIx its.length 0 lo)).toArray:=by
 obtain ⟨h1,h2,h3⟩:=oE lo hi its.toArray.size;unfold slicePick;rw [h1,h2,h3];simp only [sliceRange_one,pick_run,Om] <;> rfl
def MV (K:Fg):V->Option Int->Option Int->Hp->VK->Prop:=fun x lo hi H Q=>∃ a xs,x=.ref a/\SqL K H a xs/\∀ p,H p=none->Q (.ref p) (upd H p (.lst (yW xs lo hi)))
theorem fF:SlR X (MV X.K):=by
 intro pins s Z H x v vl vu lo hi sl Q I rx hs pl pu h;obtain ⟨a,xs,rfl,hx,q⟩:=h;cases rx;obtain ⟨its,r,ht,hz⟩:=I.list hx;have hlen:=r.length;refine ⟨"list", _,slot_list_getitem.lookup,ht.isList.typeIs,?_⟩;refine wpAny_getItem_list_slice ht.isList hs pl pu .none (by simp) ?_ (by rw [Om] <;> omega);rw [lH,<-hlen];refine ⟨.ref s.heap.objs.size,_,I.laid (t':=s.toks) (o:=.lst (yW xs lo hi)) (fun b ob q=>Of _ q) (Ol _) ?_,rfl,q _ (I.hok.fresh (Ol _))⟩;exact ⟨Oy (jF xs lo hi) hz,_,0,(r.drop (HT.sIx xs.length 0 lo)).take (HT.sIx xs.length xs.length hi - HT.sIx xs.length 0 lo),OK _ rfl⟩
theorem ng:OpR X (compareOp .NotIn) (fun x y H Q=>∃ i j,x=.str i/\y=.str j/\Q (.bl (!(!(Builtin.Str.occurrences j i 0 j.length 1).isEmpty))) H):=by
 intro pins s Z H x y v u Q I rx ry h;obtain ⟨i,j,rfl,rfl,q⟩:=h;obtain ⟨t,rfl⟩:=rx;obtain ⟨t',rfl⟩:=ry;exact notIn_str ⟨.bl _,H,I,rfl,q⟩
theorem lV:bN X (.type "tuple") (fun xs H Q=>∃ p ys,xs=[.ref p]/\((SqL X.K H p ys/\∀ l,H l=none->Q (.ref l) (upd H l (.tup ys)))\/(SqT X.K H p ys/\Q (.ref p) H))):=by
 intro pins s Z H xs us Q I r h;obtain ⟨p,ys,rfl,h⟩:=h;obtain ⟨u,rfl,rx⟩:=vals1 r;cases rx;rcases h with ⟨hq,q⟩ | ⟨hq,q⟩
 ·obtain ⟨its,r',pl,hz⟩:=I.list hq;have hlen:=r'.length;refine call_tuple_list pl.isList (fun h' kp=>?_) (by simp only [Om] <;> omega);have I1:Inv X pins Z H { s with heap:=h' }:=I.kept (t':=s.toks) kp;have I2:Inv X pins Z (upd H h'.objs.size (.tup ys)) { s with heap:=h'.push { cls:=.type "tuple", data:=.seq its.toArray } } :=
   I1.laid (t':=s.toks) (fun b o e=>Of _ e) (Ol _) (show cN X.prog X.w _ _ _ (.tup ys) from ⟨hz,its,r',IsTup.new _ _⟩)
  exact ⟨.ref h'.objs.size,_,I2,rfl,q _ (I1.hok.fresh (Ol _))⟩
 ·obtain ⟨its,r',pl,hz⟩:=I.tuple hq;exact call_tuple_same pl ⟨.ref p,H,I,rfl,q⟩
def tyV (K:Fg) (T:String) (x:V) (H:Hp):Prop:=match x with
 | .str _=>T = "str"
 | .int _=>T = "int"
 | .ref p=>(T = "list" /\ ∃ xs,SqL K H p xs)\/(T = "tuple" /\ ∃ o,K.lookup p=some o/\o.cls=.type "tuple" /\ o.dict=none) \/
   (T = "dict" /\ ((∃ kvs,H p=some (.dK kvs))\/(∃ kvs,H p=some (.dT kvs))\/∃ ep xs,H p=some (.dD ep xs)))\/(T = "set" /\ ∃ S n,H p=some (.set S n))
 | _=>False
theorem Gu {pins:List (Qx×Obj)} {Z:St} {H:Hp} {s:Qv} {T:String} {x:V} {v:Qz} (I:Inv X pins Z H s) (r:RelV x v) (ty:tyV X.K T x H) :
  s.TypeIs v T/\∀ a,v=.ref a->∃ ob,s.heap.get? a=some ob/\ob.dict=none:=by
 cases x with
 | str z =>
  obtain ⟨t,rfl⟩:=r;cases (show T = "str" from ty);exact ⟨typeIs_str s z t,fun _ e=>nomatch e⟩
 | int i =>
  obtain ⟨t,rfl⟩:=r;cases (show T = "int" from ty);exact ⟨typeIs_int s i t,fun _ e=>nomatch e⟩
 | ref p =>
  cases r;rcases ty with ⟨rfl,xs,hq⟩ | ⟨rfl,o,hk,hc,hd⟩ | ⟨rfl,hk⟩ | ⟨rfl,S,n,hk⟩
  ·obtain ⟨its,_,pl,_⟩:=I.list hq;refine ⟨pl.isList.typeIs,fun a e=>?_⟩;cases e;obtain ⟨o,n,e,c,hd,_⟩:=pl;exact ⟨o,e,hd⟩
  ·refine ⟨⟨o,I.kIn p o hk,hc⟩,fun a e=>?_⟩;cases e;exact ⟨o,I.kIn _ o hk,hd⟩
  ·have z:∃ o,s.heap.get? p=some o/\o.ExactDict:=by
    rcases hk with ⟨kvs,hk⟩ | ⟨kvs,hk⟩ | ⟨ep,xs,hk⟩
    ·obtain ⟨_,_,_,_,o,_,_,e,ex,_⟩:=I.hok p _ hk;exact ⟨o,e,ex⟩
    ·obtain ⟨_,_,_,_,o,_,_,e,ex,_⟩:=I.hok p _ hk;exact ⟨o,e,ex⟩
    ·obtain ⟨_,_,_,o,_,e,ex,_⟩:=I.hok p _ hk;exact ⟨o,e,ex⟩
   obtain ⟨o,e,ex⟩:=z;refine ⟨⟨o,e,ex.1⟩,fun a e2=>?_⟩;cases e2;exact ⟨o,e,ex.2.1⟩
  ·obtain ⟨o,_,_,_,e,ex,_⟩:=I.hok p _ hk;refine ⟨⟨o,e,ex.1⟩,fun a e2=>?_⟩;cases e2;exact ⟨o,e,ex.2.1⟩
 | _=>exact False.elim ty
def tBM (K:Fg) (T:String) (r:V->List V->Hp->VK->Prop) (to:TE) (t:TA):TE:=fun Z H Q=>to Z H fun x H1=>tyV K T x H1/\t Z H1 fun xs H2=>r x xs H2 Q
variable {o e:Expr} {es:List Expr} {to:TE} {t:TA} {name:Str} {apos cpos:Pos} {T id:String} {r:V->List V->Hp->VK->Prop}
theorem Ki (pa:PlainAttrs T) (slot:Slot T name id) (hty:typeOf (.builtin id)=pure (.type "method_descriptor")) (hm:MtR X id r) (ho:PE X o to) (ha:PA X (e :: es) t)
  (hbase:attributeBase o name X.env (eval o X.env)=eval o X.env:=by rfl)
  (hfew:((backTo cpos (starEach (e :: es) X.env)).all (fun x=>!x.1)&&(backToKw cpos (keywordEach [] X.env)).all (fun x=>x.1.isSome)
   && decide ((e :: es).length+([]:List Keyword).length+(if ([]:List Keyword).isEmpty then 0 else 1) < 30))=true:=by rfl)
  (hline:(apos.endLine==cpos.line)=true:=by rfl) (hs:starEach (e :: es) X.env=(false,eval e X.env) :: starEach es X.env:=by rfl) (hplain:(backTo cpos (starEach es X.env)).any (·.1)=false:=by rfl) :
  PE X (.Call (.Attribute o name apos) (e :: es) [] cpos) (tBM X.K T r to t):=by
 intro pins s Z H Q I h;refine wpAny_Call_method_late hbase hfew hline rfl (thn (ho pins s Z H _ I h) fun v s1 ⟨x,H1,I1,r1,ty,q1⟩=>?_);obtain ⟨h1,h2⟩:=Gu I1 r1 ty;refine ⟨T,id,pa,slot,hty,h1,h2,?_⟩;have hA:=ha cpos pins s1 Z H1 _ I1 q1;rw [hs] at hA ⊢;refine Calls.callWith_builtin (by show (false||(backTo cpos (starEach es X.env)).any (·.1))=false;rw [hplain] <;> rfl) (Calls.evalArgs_plain ?_);exact thn hA fun us s2 ⟨vs,H2,I2,r2,q2⟩=>hm pins s2 Z H2 x vs v us Q I2 r1 r2 q2
end
def MtM (X:Cx) (id:String) (r:V->List V->Hp->VK->Prop):Prop :=
 ∀ (pins:List (Qx×Obj)) (s:Qv) (Z:St) (H:Hp) (x:V) (xs:List V) (v:Qz) (us:List Qz) (Q:VK),Inv X pins Z H s->RelV x v->Vals xs us->r x xs H Q ->
  wpAny (model X.prog X.w) X.A (call (.builtin id) (v :: us)) (EP X pins Z Q) X.xe s
theorem Vals.one:∀ {x:V} {us:List Qz},Vals [x] us->∃ u,us=[u]/\RelV x u
 | _,_,.cons r .nil=>⟨_,rfl,r⟩
section
variable {X:Cx} {pins:List (Qx×Obj)} {Z:St} {H:Hp} {s:Qv} {l b:Qx} {xs ys zs:List V}
theorem Inv.MN {its its':List Qz} {n:Nat} {f:Array Qz->Array Qz} {t':Nat} (I:Inv X pins Z H s) (hH:H l=some (.lst xs))
  (e:s.heap.get? l=some { cls:=.type "list", data:=.seq its.toArray n }) (hf:f its.toArray=its'.toArray) (hv:Vals ys its') (hz:ys.length<=sizeLine) :
  Inv X pins Z (upd H l (.lst ys)) { s with heap:=s.heap.update l (Obj.mapSeq f),toks:=t' }:=by
 have q:=PySem.IsL.update e f;rw [hf] at q;refine I.write (x:=l) (e:=l) (by rw [hH];exact trivial) (.inl rfl) (fun b' u hb hu=>(O4 s.heap (Obj.mapSeq f) (Ne.symm hb)).trans hu) ⟨_,q⟩ ?_;exact ⟨hz,its',_,hv,q⟩
theorem Inv.MA {its:List Qz} {t':Nat} (I:Inv X pins Z H s) (hv:Vals ys its) (hz:ys.length<=sizeLine) :
  Inv X pins Z (upd H s.heap.objs.size (.lst ys)) { s with heap:=s.heap.push { cls:=.type "list", data:=.seq its.toArray },toks:=t' } :=
 I.laid (fun _ _ q=>Of _ q) (Ol _) ⟨hz,its,0,hv,OK _ rfl⟩
theorem Inv.fresh (I:Inv X pins Z H s):H s.heap.objs.size=none:=I.hok.fresh (Ol _)
theorem Inv.Mq (I:Inv X pins Z H s) (hH:H l=some (.lst xs)):xs.length<=sizeLine/\∃ (its:List Qz) (n:Nat),Vals xs its/\xs.length=its.length/\s.heap.get? l=some { cls:=.type "list", data:=.seq its.toArray n }:=by
 obtain ⟨z,its,n,r,e⟩:=I.hok l _ hH;exact ⟨z,its,n,r,r.length,e⟩
theorem zA {n:Nat} (h:n<=sizeLine):Builtin.List.listTooLong n=false:=by
 unfold Builtin.List.listTooLong;exact Ob (by omega)
end
section
variable {X:Cx}
def yS:V->List V->Hp->VK->Prop:=fun x vs H Q=>∃ l xs y,x=.ref l/\vs=[y]/\H l=some (.lst xs)/\xs.length < sizeLine/\Q .non (upd H l (.lst (xs++[y])))
theorem bt:MtM X "list.append" yS:=by
 intro pins s Z H x vs v us Q I rx rv h;obtain ⟨l,xs,y,rfl,rfl,hH,hz,q⟩:=h;cases rx;obtain ⟨u,rfl,ru⟩:=rv.one;obtain ⟨z,its,n,r,hl,e⟩:=I.Mq hH;refine P0 F.slot_list_append ⟨_,e,rfl⟩ F.entry_list_append (F.args_list_append_2 _ _) (PySem.list_append l its.toArray n u (by rw [Om];omega)) ⟨e,?_⟩;refine ⟨.non,_,I.MN (its':=its++[u]) hH e (by simp) (r.append (.cons ru .nil)) ?_,rfl,q⟩;rw [N5,Ow];omega
end
structure M1 (X:Cx) (o:Expr) (m:Str) (apos:Pos) (e:Expr) (cpos:Pos):Prop where
 base:attributeBase o m X.env (eval o X.env)=eval o X.env
 few:((backTo cpos (starEach [e] X.env)).all (fun x=>!x.1)&&(backToKw cpos (keywordEach [] X.env)).all (fun x=>x.1.isSome)
  && decide (([e]:List Expr).length+([]:List Keyword).length+(if ([]:List Keyword).isEmpty then 0 else 1) < 30))=true
 line:(apos.endLine==cpos.line)=true
 trees:backTo cpos (starEach [e] X.env)=[(false,eval e X.env)]
end L2
namespace Att
open PySem PySem.W PySem.Calls PyProof.Rows
theorem jc {P:Params} {h:Heap}:∀ (ns:List Int) (vs:List Qz),WellAll P h vs (ns.map WData.int)->IntsAre vs ns:=by
 intro ns;induction ns with
 | nil =>
  intro vs w;rw [List.map_nil] at w;cases w;exact .nil
 | cons n ns ih =>
  intro vs w;rw [List.map_cons] at w;cases w with
  | cons a b =>
   cases a;exact .cons _ _ (ih _ b)
theorem xk {l:OpenLaw} {n:Nat} (hn:l.most=some n) {P:Params} {h:Heap} {args:List WData} {vals:List Qz}
  (hpre:l.row.toRowW.claim.pre args=true) (hwl:WellAll P h vals args) :
  ∃ a vs ns,vals=[Value.ref a]/\args=[WData.list (ns.map WData.int)]/\h.get? a=some { cls:=.type "list", data:=.seq vs.toArray }/\IntsAre vs ns/\ns.length<=n:=by
 have hsh:WShape.hasAll [] args [.list .int]=true:=(pre_splitW hpre).1;have hc:l.pre.holds [] { args:=args }=true:=(pre_splitW hpre).2;obtain ⟨d,r,rfl,h1,h2⟩:=hasAllW_cons hsh;obtain rfl:=hasAllW_nil h2;obtain ⟨xs,rfl,h3⟩:=hasW_list h1;obtain ⟨ns,rfl⟩:=items_int h3;have hlen:ns.length<=n:=by
  unfold OpenLaw.pre at hc;have h4:(WTm.not (.lt (.lit (.int (n:Int))) (.len (.arg 0)))).holds [] { args:=[.list (ns.map .int)] }=true:=by
   have h4:=(holds_andW hc).1;rw [hn] at h4;exact h4
  have h5:=condW_of h4 (w_not (w_lt w_lit (w_len_list (w_arg rfl))));rw [N6] at h5;refine Nat.le_of_not_lt fun q=>?_;have q':(n:Int) < ((ns.length:Nat):Int):=by omega
  first
   | (rw [Oe q'] at h5;exact absurd h5 (by decide))
   | (simp at h5;omega)
 cases hwl with
 | cons w1 w2 =>
  cases w2;cases w1 with
  | list ho hall=>exact ⟨_,_,ns,rfl,rfl,ho,jc ns _ hall,hlen⟩
theorem wu (l:OpenLaw) (args:List WData):l.row.toRowW.claim.post args (.bool true) args=true :=
 postW_of (r:=l.row.toRowW) (X:=(true==true))
  (show WShape.has [] (.bool true) .bool=true by first | rfl | decide | simp [WShape.has,WShape.arms,WShape.armsAll])
  (show (WTm.eq .res (.lit (.bool true))).value [] { args:=args,res:=some (.bool true),after:=args }=some (.bool (true==true)) from w_eq_bool (w_res rfl) w_lit) rfl
theorem pP {l:OpenLaw} {n:Nat} {q:Program} {loose:List Str} {XP:(Str->Option Qz)->Heap->Prop} {YP:World->Heap->Prop} {d:DefRec}
  (hn:l.most=some n) (hdf:d.params.defaults=[])
  (call:∀ (w:World) (s0 ZM:Qv) (mg mb:Str->Option Qz) (fa:Qx) (o:Obj) (pm cd doc:Qz) (a:Qx) (vs:List Qz) (ns:List Int),
   Ground q loose [] XP w s0 mg mb ZM.heap->YP w ZM.heap ->
   ZM.heap.get? fa=some o->o.data=.func (docDef d.name d.params d.body d.scope pm cd doc)->ZM.heap.CodeRec cd d.name->mg d.name=some (.ref fa) ->
   ZM.heap.get? a=some { cls:=.type "list", data:=.seq vs.toArray }->IntsAre vs ns->ns.length<=n->ZM.gens=#[] ->
   codeAny (model l.prog w) callerA (.call (.ref fa) ⟨[.ref a],[]⟩) (fun r s'=>r=.ok (.ret (.bool true))/\OldK ZM.heap s'.heap/\s'.os=ZM.os/\AllBare s'.gens) ZM) :
  WalkO q loose XP YP l.row.toRowW d [] (fun f vs=>PySem.call f vs):=by
 intro w s0 ZM mg mb G Y fa o pm cd doc dV kV ho hd hcd hD hmg hg args vals as hpre hlay hrd hwl hlo;obtain rfl:dV=.none:=Dflts.none hD hdf;obtain rfl:kV=.none:=Dflts.noKw hD;obtain ⟨a,vs,ns,rfl,rfl,hobj,hints,hlen⟩:=xk hn hpre hwl;refine enter_call (Qi (call w s0 ZM mg mb fa o pm cd doc a vs ns G Y ho (fd_plain hd) hcd hmg hobj hints hlen hg) fun r s' hq=>?_);obtain ⟨rfl,h2,h3,h4⟩:=hq;exact ⟨.inl ⟨.bool true,.bool true,[],rfl,fun _=>rfl,.bool true,wu l _,fun _=>⟨List.Pairwise.nil,fun _ hm=>(nomatch hm)⟩⟩,h2,h3,h4⟩
end Att
namespace L2
open PySem PySem.Spec PyProof.Rows
theorem nz:∀ {vs:List Qz} {ns:List Int},IntsAre vs ns->Vals (ns.map V.int) vs
 | _,_,.nil=>.nil
 | _,_,.cons n t h=>.cons ⟨t,rfl⟩ (nz h)
def IX (H:Hp):Prop:=∀ b,H b=none\/∃ o xs,H b=some (.frz o (.lst xs))
theorem Ar {P:Program} {w:World} {K:Fg} {mg mb:Str->Option Qz} {CX:CXT} {k:Nat} {fa a:Qx} {fd:FuncData} {x:Str} {sp:Sp} {ZM:Qv} {vs:List Qz} {ns:List Int}
  (KX:K.In ZM.heap) (hns:ZM.heap.Ns mainGlobals mg) (hb:ZM.heap.Ns builtinsNs mb) (hbb:∀ x:Str,x ≠ "__name__" -> mb x=bootBuiltins x) (hlim:ZM.heap.NoLimit) (hg:ZM.gens=#[])
  (ha:ZM.heap.get? a=some { cls:=.type "list", data:=.seq vs.toArray }) (hi:IntsAre vs ns) (hl:ns.length<=sizeLine) (hr:dg k callerA)
  (F:∀ base:Heap,K.In base->base.Ns mainGlobals mg->c8 P w K mg base CX k fa fd [x] sp) (hbind:∀ (s:Qv) (u:Qz),BindsTo s fd ⟨[u],[]⟩ [(x,u)])
  (hsp:∀ H:Hp,IX H->SqL K H a (ns.map V.int)->sp [.ref a] H (fun v _=>v=.bl true) fun _ _ _=>False)
  (hCX:∀ H e s',CX [] H ZM (fun _ _ _=>False) e s'->False) :
  codeAny (model P w) callerA (.call (.ref fa) ⟨[.ref a],[]⟩) (fun r s'=>r=.ok (.ret (.bool true))/\OldK ZM.heap s'.heap/\s'.os=ZM.os/\AllBare s'.gens) ZM:=by
 have rv:=nz hi;have lenV:=hi.length;have core:∀ H:Hp,IX H->SqL K H a (ns.map V.int)->HOk P w H ZM.heap->(∀ b,H b≠none->b=a)->(H a≠none->K.lookup a=none) ->
   codeAny (model P w) callerA (.call (.ref fa) ⟨[.ref a],[]⟩) (fun r s'=>r=.ok (.ret (.bool true))/\OldK ZM.heap s'.heap/\s'.os=ZM.os/\AllBare s'.gens) ZM:=by
  intro H hO hS hok hA hK;have base_of:∀ {b:Qx} {o:Obj},ZM.heap.get? b=some o->H b=none->(Ab ZM.heap H).get? b=some o:=fun e n=>AU e n;have noA:∀ {b:Qx} {o:Obj} {es:Array DictEntry} {ep:Nat},ZM.heap.get? b=some o->o.data=.dict es ep->H b=none:=fun {b o es ep} e d=>by
   cases q:H b with
   | none=>rfl
   | some u =>
    have e':b=a:=hA b (by rw [q];simp);subst e';rw [ha] at e;cases e;have d':Data.seq vs.toArray _=Data.dict es ep:=d;cases d'
  have nsK:∀ {b:Qx} {m:Str->Option Qz},ZM.heap.Ns b m->(Ab ZM.heap H).Ns b m:=fun {b m} ⟨o,es,ep,e,d,r⟩=>⟨o,es,ep,base_of e (noA e d),d,r⟩
  have hKb:K.In (Ab ZM.heap H):=fun b o e=>base_of (KX b o e) (by
   cases q:H b with
   | none=>rfl
   | some u =>
    have e':b=a:=hA b (by rw [q];simp);subst e'
    rw [hK (by rw [q];simp)] at e;cases e)
  have hM:Mod K mg (Ab ZM.heap H):=⟨hKb,nsK hns,⟨mb,nsK hb,hbb⟩,let ⟨mc,h1,h2⟩:=hlim;⟨mc,nsK h1,h2⟩⟩;have e0:CK P w K mg (Ab ZM.heap H) callerA [] ZM H:=⟨rfl,hM,fun b o e=>DV e,Nat.le_of_eq (vZ _ _),trivial,fun b hb=>absurd (show b∈([]:List Qx) from hb) (by simp),hok,.of_eq hg⟩;refine Qi ((F _ hKb (nsK hns)).run callerA [] ZM H ⟨[.ref a],[]⟩ [.ref a] [.ref a] _ _ hr e0 (hbind ZM (.ref a)) (.cons rfl .nil) (hsp H hO hS)) fun r s' h=>?_;cases r with
  | error e=>exact (hCX H e s' h).elim
  | ok fl =>
   cases fl with
   | next=>exact False.elim h
   | brk=>exact False.elim h
   | cont=>exact False.elim h
   | ret u =>
    obtain ⟨v,H',os,bare,un,hok',r',q⟩:=h;have q':v=.bl true:=q;subst q';obtain rfl:u=Value.bool true:=r';refine ⟨rfl,OldK.of_keep fun b o e=>?_,os,bare⟩;cases q:H b with
    | none=>exact un.keep b o e q (by intro z;exact absurd (show b∈([]:List Qx) from z) (by simp)) (by simp)
    | some u =>
     rcases hO b with z | ⟨ob,xs,z⟩
     ·rw [q] at z;cases z
     ·have z2:=un.pN b ob _ z;obtain ⟨e1,_⟩:=hok b _ z;obtain ⟨e2,_⟩:=hok' b _ z2;rw [e] at e1;cases e1;exact e2
 cases hk:K.lookup a with
 | some o =>
  have e:=KX a o hk;rw [ha] at e;cases e;refine core (fun _=>none) (fun _=>.inl rfl) (.inr ⟨_,vs.toArray,_,hk,rfl,rfl,rfl,by rw [Om,lenV];exact hl,by simpa using rv⟩) (fun b u z=>by have z':(none:Option HO)=some u:=z;cases z') (fun b z=>absurd rfl z) fun z=>absurd rfl z
 | none =>
  refine core (fun b=>if b=a then some (.frz { cls:=.type "list", data:=.seq vs.toArray } (.lst (ns.map V.int))) else none) (fun b=>?_) (.inl (.inr ⟨{ cls:=.type "list", data:=.seq vs.toArray },Og rfl⟩)) (fun b u z=>?_) (fun b z=>?_) fun _=>hk
  ·by_cases hb:b=a
   ·exact .inr ⟨_,_,Og hb⟩
   ·exact .inl (Ot hb)
  ·by_cases hb:b=a
   ·have z':=(Og hb).symm.trans z;cases z';subst hb;exact ⟨ha,by rw [N6];exact hl,vs,_,rv,ha⟩
   ·have z':=(Ot hb).symm.trans z;cases z'
  ·by_cases hb:b=a
   ·exact hb
   ·exact absurd (Ot hb) z
abbrev KOf {K:Fg} {h:Heap} (_:K.In h):Fg:=K
theorem CH {l:PySem.W.OpenLaw} {n k:Nat} {q:Program} {loose:List Str} {XP:(Str->Option Qz)->Heap->Prop} {YP:World->Heap->Prop} {d:DefRec} {K:Params->Fg} {CX:World->CXT} {sp:World->Sp} {x:Str}
  (hn:l.most=some n) (hn2:n<=sizeLine) (hdf:d.params.defaults=[]) (hr:dg k callerA)
  (hY:∀ (w:World) (h:Heap),YP w h->(K w.params).In h)
  (F:∀ (w:World) (mg:Str->Option Qz) (fa:Qx) (h:Heap),(K w.params).In h->h.Ns mainGlobals mg->mg d.name=some (.ref fa) ->
   ∃ fd:FuncData,(∀ (s:Qv) (u:Qz),BindsTo s fd ⟨[u],[]⟩ [(x,u)]) /\
    ∀ base:Heap,(K w.params).In base->base.Ns mainGlobals mg->c8 l.prog w (K w.params) mg base (CX w) k fa fd [x] (sp w))
  (hsp:∀ (w:World) (H:Hp) (a:Qx) (ns:List Int),ns.length<=n->IX H->SqL (K w.params) H a (ns.map V.int)->sp w [.ref a] H (fun v _=>v=.bl true) fun _ _ _=>False)
  (hCX:∀ (w:World) (H:Hp) (s:Qv) (e:Qz) (s':Qv),CX w [] H s (fun _ _ _=>False) e s'->False) :
  PySem.W.WalkO q loose XP YP l.row.toRowW d [] (fun f vs=>PySem.call f vs):=by
 refine Att.pP hn hdf fun w s0 ZM mg mb fa o pm cd doc a vs ns G Y ho hd hcd hmg hobj hints hlen hg=>?_;have KX:=hY w _ Y;obtain ⟨fd,hb,hF⟩:=F w mg fa _ KX G.T.g hmg;exact Ar KX G.T.g G.T.b G.T.builtins G.T.nolimit hg hobj hints (Oy hlen hn2) hr hF hb (fun H hO hS=>hsp w H a ns hlen hO hS) fun H e s'=>hCX w H ZM e s'
theorem Bd {l:PySem.W.OpenLaw} {n k:Nat} {q:Program} {loose:List Str} {XP:(Str->Option Qz)->Heap->Prop} {YP:World->Heap->Prop} {d:DefRec} {K:Params->Fg} {CX:CXT} {sp:Fg->Sp} {x:Str}
  (hn:l.most=some n) (hn2:n<=sizeLine) (hdf:d.params.defaults=[]) (hr:dg k callerA)
  (hY:∀ (w:World) (h:Heap),YP w h->(K w.params).In h)
  (F:∀ (w:World) (mg:Str->Option Qz) (fa:Qx) (h:Heap),(K w.params).In h->h.Ns mainGlobals mg->mg d.name=some (.ref fa) ->
   ∃ fd:FuncData,(∀ (s:Qv) (u:Qz),BindsTo s fd ⟨[u],[]⟩ [(x,u)]) /\
    ∀ base:Heap,(K w.params).In base->base.Ns mainGlobals mg->c8 l.prog w (K w.params) mg base CX k fa fd [x] (sp (K w.params)))
  (hsp:∀ (K:Fg) (H:Hp) (a:Qx) (ns:List Int),ns.length<=n->IX H->SqL K H a (ns.map V.int)->sp K [.ref a] H (fun v _=>v=.bl true) fun _ _ _=>False)
  (hCX:∀ (H:Hp) (s:Qv) (e:Qz) (s':Qv),CX [] H s (fun _ _ _=>False) e s'->False) :
  PySem.W.WalkO q loose XP YP l.row.toRowW d [] (fun f vs=>PySem.call f vs) :=
 CH (K:=K) (CX:=fun _=>CX) (sp:=fun w=>sp (K w.params)) hn hn2 hdf hr hY F (fun w H a ns h1 h2 h3=>hsp (K w.params) H a ns h1 h2 h3) fun _ H s e s'=>hCX H s e s'
noncomputable def bE (s:Stmt):Arguments:=match s with
 | .FunctionDef _ a _ _ _ _ _ _ _ _=>a
 | _=>{ posonlyargs:=[],args:=[],vararg:=none,kwonlyargs:=[],kw_defaults:=[],kwarg:=none,defaults:=[] }
noncomputable def aU (s:Stmt):List Stmt:=match s with
 | .FunctionDef _ _ b _ _ _ _ _ _ _=>b
 | _=>[]
noncomputable def ag (s:Stmt):Scope:=match s with
 | .FunctionDef _ _ _ _ _ _ sc _ _ _=>sc
 | _=>{ kind:=.function,names:=[],isGenerator:=false,isCoroutine:=false }
abbrev CX0:CXT:=fun _ _ _ _ _ _=>False
abbrev E0:XK:=fun _ _ _=>False
theorem zD {X:Cx}:Passes CX0 X E0:=fun _ _ _ _ _ _ _ h=>h.elim
structure Fun (K:Fg) (x qual:Str) (st:Stmt) (f:Qx) (fd:FuncData):Prop where
 ex:∃ (oc:Qz) (od:Option Qx) (kV doc pm:Qz) (an:Option Qx) (cdv ct:Qz) (osl:Array (Option Qz)),
  fd=PySem.W.fnOf x qual (bE st) (aU st) (ag st) .none kV doc pm an cdv ct/\K.lookup f=some ⟨oc,od,.func fd,osl⟩/\PySem.W.codeIn K cdv qual=true
 kp:PySem.W.keepIn K (.ref f)=true
section
variable {P:Program} {w:World} {K:Fg} {mg:Str->Option Qz} {base:Heap}
theorem Fun.ok {x qual:Str} {st:Stmt} {f:Qx} {fd:FuncData} {N ps:List Str} {k:Nat} {sp:Sp} (F:Fun K x qual st f fd) (S:b7 N ps (ag st)) (len:∀ vs H Q E,sp vs H Q E->vs.length=ps.length)
  (hbody:∀ (cdv:Qz) (A:Around) (outer:List Env) (s:Qv) (H:Hp) (vs:List V) (Q:VK) (E:XK),dg k (A.deeper (envOfC qual (ag st) s.heap.objs.size f cdv))->sp vs H Q E ->
   ∃ t,PSs (tS CX0 P w K mg base N qual (ag st) f cdv A outer s H E).nox (aU st) t/\t { nx:=fun _ H'=>Q .non H',rt:=Q } (start N vs) H):c8 P w K mg base CX0 (k+1) f fd ps sp:=by
 obtain ⟨oc,od,kV,doc,pm,an,cdv,ct,osl,rfl,lk,hcd⟩:=F.ex;refine Fe lk hcd S len fun A outer s H vs Q E hr hsp=>?_;obtain ⟨t,h,q⟩:=hbody cdv A outer s H vs Q E hr hsp;exact ⟨t,h.nox,q⟩
theorem Fun.binds {x qual:Str} {st:Stmt} {f:Qx} {fd:FuncData} {ps:List Str} (F:Fun K x qual st f fd)
  (h:∀ (kV doc pm:Qz) (an:Option Qx) (cdv ct:Qz) (us:List Qz),us.length=ps.length->bindArgs (PySem.W.fnOf x qual (bE st) (aU st) (ag st) .none kV doc pm an cdv ct) ⟨us,[]⟩=pure (ps.zip us)):Binds K fd ps []:=by
 obtain ⟨oc,od,kV,doc,pm,an,cdv,ct,osl,rfl,lk,hcd⟩:=F.ex;exact .all (h kV doc pm an cdv ct)
theorem eR {x qual:Str} {st:Stmt} {f:Qx} {oc:Qz} {od an:Option Qx} {osl:Array (Option Qz)} {kV doc pm cdv ct:Qz} (l:K.lookup f=some ⟨oc,od,.func (PySem.W.fnOf x qual (bE st) (aU st) (ag st) .none kV doc pm an cdv ct),osl⟩)
  (c:PySem.W.codeIn K cdv qual=true) (k:PySem.W.keepIn K (.ref f)=true):Fun K x qual st f (PySem.W.fnOf x qual (bE st) (aU st) (ag st) .none kV doc pm an cdv ct):=⟨⟨oc,od,kV,doc,pm,an,cdv,ct,osl,rfl,l,c⟩,k⟩
end
def aZ (H H':Hp):Prop:=∀ b o,H b=some o->H' b=some o
noncomputable def pb (env:Env):List (Str×NameKind)->List (Str×Qx)->List (Str×Qx)
 | [],cs=>cs
 | (n,k) :: r,cs=>pb env r (if k==.free then (n,(env.cells.lookup n).getD 0) :: cs else cs)
theorem eD {env:Env}:∀ (ns:List (Str×NameKind)) (cs:List (Str×Qx)),(∀ y∈ns,y.2=.free->∃ c,env.cells.lookup y.1=some c) ->
  (forIn ns cs (fun (x:Str×NameKind) (r:List (Str×Qx))=>if (x.2==NameKind.free)=true then (cellOf env x.1>>=fun a=>pure (ForInStep.yield ((x.1,a) :: r)):Sem _) else pure (ForInStep.yield r)):Sem (List (Str×Qx)))=pure (pb env ns cs)
 | [],_,_=>rfl
 | (n,k) :: r,cs,h=>by
  rw [List.forIn_cons];by_cases hk:k=.free
  ·subst hk;obtain ⟨c,e⟩:=h (n,.free) Od rfl;have e':env.cells.lookup n=some c:=e;have q:=eD (env:=env) r ((n,c) :: cs) fun y hy=>h y (N8 _ hy);have z:pb env ((n,NameKind.free) :: r) cs=pb env r ((n,c) :: cs):=by
    show pb env r (if (NameKind.free==NameKind.free)=true then (n,(env.cells.lookup n).getD 0) :: cs else cs)=_;rw [Og (by decide),e'];rfl
   have k:cellOf env n=pure c:=by
    unfold cellOf;rw [e']
   rw [z,<-q];dsimp only;rw [Og (by decide),k];rfl
  ·have hb:(k==NameKind.free)=false:=by simpa using hk
   have q:=eD (env:=env) r cs fun y hy=>h y (N8 _ hy);have z:pb env ((n,k) :: r) cs=pb env r cs:=by
    show pb env r (if (k==NameKind.free)=true then (n,(env.cells.lookup n).getD 0) :: cs else cs)=_;rw [hb,Ot Pc]
   rw [z,<-q];dsimp only;rw [hb,Ot Pc];rfl
theorem tX {scope:Scope} {env:Env} (h:∀ y∈scope.names,y.2=.free->∃ c,env.cells.lookup y.1=some c):closureFor scope env=pure (pb env scope.names []):=by
 have q:=eD (env:=env) scope.names [] h;unfold closureFor;show (forIn scope.names [] _>>=_:Sem _)=_;refine Eq.trans (congrArg (fun m:Sem (List (Str×Qx))=>m>>=fun r=>pure r) (Eq.trans ?_ q)) rfl;rfl
theorem rR {env:Env}:∀ (ns:List (Str×NameKind)) (cs:List (Str×Qx)),(∀ y∈ns,y.2=.free->∃ c,env.cells.lookup y.1=some c)->(∀ y c,cs.lookup y=some c->env.cells.lookup y=some c) ->
  ∀ y c,(pb env ns cs).lookup y=some c->env.cells.lookup y=some c
 | [],_,_,g,y,c,e=>g y c e
 | (n,k) :: r,cs,h,g,y,c,e=>by
  refine rR r _ (fun z hz=>h z (N8 _ hz)) (fun z d e'=>?_) y c e;by_cases hk:(k==NameKind.free)=true
  ·rw [Og hk] at e';rw [O7] at e';obtain ⟨c',ec⟩:=h (n,k) Od (by simpa using hk);have ec':env.cells.lookup n=some c':=ec;cases hz:z==n with
   | true =>
    rw [hz] at e';have hzn:z=n:=by simpa using hz
    subst hzn;rw [ec'] at e' ⊢;exact e'
   | false=>rw [hz] at e';exact g z d e'
  ·rw [Ot hk] at e';exact g z d e'
theorem mZ {env:Env} {y:Str}:∀ (ns:List (Str×NameKind)) (cs:List (Str×Qx)),(∃ c,cs.lookup y=some c)->∃ c,(pb env ns cs).lookup y=some c
 | [],_,h=>h
 | (n,k) :: r,cs,h=>by
  refine mZ r _ ?_;by_cases hk:(k==NameKind.free)=true
  ·rw [Og hk,O7];cases y==n
   ·exact h
   ·exact ⟨_,rfl⟩
  ·rw [Ot hk];exact h
theorem iT {env:Env} {y:Str}:∀ (ns:List (Str×NameKind)) (cs:List (Str×Qx)),(y,NameKind.free)∈ns->∃ c,(pb env ns cs).lookup y=some c
 | [],_,h=>by simp at h
 | (n,k) :: r,cs,h=>by
  rcases Oo.mp h with e | h
  ·cases e;show ∃ c,(pb env r (if (NameKind.free==NameKind.free)=true then (y,(env.cells.lookup y).getD 0) :: cs else cs)).lookup y=some c;refine mZ r _ ⟨(env.cells.lookup y).getD 0,?_⟩;rw [Og (by decide),O7,Qg]
  ·exact iT r _ h
theorem cV {env:Env} {y:Str} {k:NameKind}:∀ (ns:List (Str×NameKind)),
  (ns.map fun (n,k)=>if (k==NameKind.free&&env.scope.kind==.function&&env.kindOf n==some .cell) then (n,NameKind.cell) else (n,k)).lookup y=some k->(y,k)∈ns\/(k=.cell/\(y,NameKind.free)∈ns)
 | [],h=>by simp at h
 | (n,k') :: r,h=>by
  have ih:=fun q=>cV (env:=env) (y:=y) (k:=k) r q;rw [List.map_cons] at h;have h2:=h;have again:=fun q=>(ih q).elim (fun q=>Or.inl (N8 (n,k') q)) fun q=>(Or.inr ⟨q.1,N8 (n,k') q.2⟩:(y,k)∈(n,k') :: r\/(k=.cell/\(y,NameKind.free)∈(n,k') :: r));dsimp only at h2;clear h;by_cases hc:(k'==NameKind.free&&env.scope.kind==.function&&env.kindOf n==some .cell)=true
  ·rw [Og hc,O7] at h2;cases hy:y==n with
   | true =>
    rw [hy] at h2;have e1:y=n:=by simpa using hy
    have hk:k'=.free:=by
     have:=hc;simp at this;exact this.1.1
    have e2:k=.cell:=(OS h2).symm;exact .inr ⟨e2,by rw [e1,hk];exact Od⟩
   | false=>rw [hy] at h2;exact again h2
  ·rw [Ot hc,O7] at h2;cases hy:y==n with
   | true =>
    rw [hy] at h2;have e1:y=n:=by simpa using hy
    have e2:k'=k:=OS h2;exact .inl (by rw [e1,e2];exact Od)
   | false=>rw [hy] at h2;exact again h2
def cxB (X:Cx) (N':List Str) (scope:Scope) (C:Qx) (s3:Qv) (H3:Hp) (ex:List Qx):Cx :=
  { prog:=X.prog,w:=X.w,K:=X.K,mg:=X.mg,base:=X.base,A:=X.A,N:=N',s0:=s3,ZY:=H3,env:=compEnvC scope (pb X.env scope.names []) C X.env,outer:=X.stack,stack:=X.stack,ex:=ex,
    fn:=fun _=>false,calm:=true,pn:=[],xe:=fun _ _=>False }
def iQ (X:Cx) (scope:Scope):List Str->List Nat->Prop
 | [],[]=>True
 | y :: ys,j :: js=>X.N[j]?=some y/\(X.env.scope.names.lookup y=some .cell/\scope.names.lookup y=some .free)/\iQ X scope ys js
 | _,_=>False
theorem iQ.get {X:Cx} {scope:Scope}:∀ {ys:List Str} {js:List Nat} {k:Nat} {y:Str},iQ X scope ys js->ys[k]?=some y->∃ j,js[k]?=some j/\X.N[j]?=some y/\X.env.scope.names.lookup y=some .cell/\scope.names.lookup y=some .free
 | [],_,_,_,_,e=>by simp at e
 | _ :: _,[],_,_,h,_=>False.elim h
 | y :: ys,j :: js,0,z,h,e=>by simp at e;subst e;exact ⟨j,rfl,h.1,h.2.1⟩
 | y :: ys,j :: js,k+1,z,h,e=>by
  obtain ⟨j',e1,e2⟩:=iQ.get (k:=k) h.2.2 (by simpa using e);exact ⟨j',by simpa using e1,e2⟩
theorem iQ.len {X:Cx} {scope:Scope}:∀ {ys:List Str} {js:List Nat},iQ X scope ys js->ys.length=js.length
 | [],[],_=>rfl
 | _ :: _,_ :: _,h=>by simp [iQ.len h.2.2]
 | [],_ :: _,h=>False.elim h
 | _ :: _,[],h=>False.elim h
noncomputable def cS (js:List Nat) (Z:St):St:=js.map fun j=>(Z[j]?).getD none
structure ke (X:Cx) (scope:Scope) (x:Str):Prop where
 kind:scope.kind=.function
 cells:∀ y∈scope.names,y.2≠.cell
 locs:∀ y∈scope.names,y.2=.local->scope.names.lookup y.1=some .local
 var:scope.names.lookup x=some .local
 free:∀ y∈scope.names,y.2=.free->X.env.scope.names.lookup y.1=some .cell
def PTs (X:Cx) (ifs:List Expr) (t:TT):Prop :=
 ∀ (pins:List (Qx×Obj)) (s:Qv) (Z:St) (H:Hp) (Q:Bool->Hp->Prop),Inv X pins Z H s->t Z H Q ->
  wpAny (model X.prog X.w) X.A (forIn ifs true fun c r=>if r=true then do let ok<-isTrue c X.env (eval c X.env);pure (ForInStep.yield ok) else pure (ForInStep.yield r)) (TP X pins Z Q) X.xe s
def Lw:TT:=fun _ H Q=>Q true H
theorem DA {X:Cx}:PTs X [] Lw:=fun _ _ _ H _ I h=>wpAny_tests_nil ⟨H,I,h⟩
theorem wG {X:Cx} {pins:List (Qx×Obj)} {Z:St} {H:Hp} {s3:Qv} {h1:Heap} {tk:Nat} {scope:Scope} {x:Str} {ys:List Str} {js:List Nat} {ex:List Qx} (I:Inv X pins Z H s3) (hc:X.calm=true) (B:ke X scope x) (cap:iQ X scope ys js)
  (hns:h1.Ns s3.heap.objs.size (fun _=>none)) (hk:∀ b o,s3.heap.get? b=some o->h1.get? b=some o)
  (hex:∀ b∈ex,b ∉ frs X.stack/\b < s3.heap.objs.size/\(∀ y c,X.env.cells.lookup y=some c->c≠b)/\X.base.get? b=none) :
  Inv (cxB X (x :: ys) scope s3.heap.objs.size s3 H ex) [] (none :: cS js Z) H { s3 with heap:=h1,toks:=tk }:=by
 have hfree:∀ y∈scope.names,y.2=.free->∃ c,X.env.cells.lookup y.1=some c:=fun y hy hf=>I.ok.has y.1 (.inl (B.free y hy hf));have sub:=rR (env:=X.env) scope.names [] hfree (fun _ _ e=>by simp at e)
 refine ⟨⟨I.ok.mod,B.kind,I.ok.glob,I.ok.blt,Ol _,fun y z c h1 h2=>I.ok.inj y z c (sub _ _ h1) (sub _ _ h2),fun y hy=>?_,fun y c hf _=>?_,fun _=>I.ok.hd hc,I.ok.frames,.inl rfl,fun b hb=>?_,fun b o e=>I.bs b o e,Oy I.ok.bsz I.sz,fun b o e hb=>?_,fun b hb=>(hex b hb).1,I.stack,I.kY⟩,
  rfl,I.bare,Un.kept hk,⟨_,hns,fun i y v e1 e2 e3=>?_⟩,fun y c e=>?_,I.hok.fresh (Ol _),fun y c e=>I.fZ y c (sub _ _ e),fun p hp=>absurd (show p∈([]:List (Qx×Obj)) from hp) (by simp),I.hok.kept hk,?_⟩
 ·have hy:(relabel scope X.env).names.lookup y=some .cell\/(relabel scope X.env).names.lookup y=some .free:=hy;rcases hy with hy | hy
  ·rcases cV _ hy with q | ⟨_,q⟩
   ·exact absurd rfl (B.cells _ q)
   ·exact iT _ _ q
  ·rcases cV _ hy with q | ⟨q,_⟩
   ·exact iT _ _ q
   ·cases q
 ·exact absurd (show false=true from hf) (by simp)
 ·exact ⟨OQ (hex b hb).2.1,fun y c e=>(hex b hb).2.2.1 y c (sub _ _ e)⟩
 ·have e':X.base.get? b=some o:=e;have:=(hex b hb).2.2.2;rw [e'] at this;cases this
 ·cases i with
  | zero=>simp at e2
  | succ i =>
   have e1':ys[i]?=some y:=by simpa [cxB] using e1
   have e2':(cS js Z)[i]?=some (some v):=by simpa using e2
   obtain ⟨j,ej,en,ec,ef⟩:=cap.get e1';have e4:Z[j]?=some (some v):=by
    unfold cS at e2';rw [OA,ej] at e2';simp only [Option.map_some,Option.some.injEq] at e2';cases q:Z[j]? with
    | none=>rw [q] at e2';cases e2'
    | some w=>rw [q] at e2';simp at e2';rw [e2']
   obtain ⟨m,hn,hl⟩:=I.loc;obtain ⟨u,r,l⟩:=hl j y v en e4 (.inr (.inl ec));refine ⟨u,r,.inr ?_⟩;rcases l with ⟨kl,_⟩ | ⟨kc,c,ecl,cell⟩
   ·have kl:X.env.scope.names.lookup y=some .local:=kl;rw [ec] at kl;cases kl
   ·have e3:(relabel scope X.env).names.lookup y=some .local\/(relabel scope X.env).names.lookup y=some .cell\/(relabel scope X.env).names.lookup y=some .free:=e3;refine ⟨?_,?_⟩
    ·rcases e3 with q | q | q
     ·rcases cV _ q with q | ⟨q,_⟩
      ·have:=B.locs _ q rfl;rw [ef] at this;cases this
      ·cases q
     ·exact .inl q
     ·exact .inr q
    ·have mem:(y,NameKind.free)∈scope.names:=PF ef;obtain ⟨c',ec'⟩:=iT (env:=X.env) scope.names [] mem;have:=sub _ _ ec';rw [ecl] at this;cases this;obtain ⟨o,ho,hd⟩:=cell;exact ⟨c,ec',o,hk _ _ ho,hd⟩
 ·obtain ⟨v,o,ho,hd⟩:=I.cell y c (sub _ _ e);exact ⟨v,o,hk _ _ ho,hd⟩
 ·show (none :: cS js Z).length=(x :: ys).length;rw [Oc,Oc,cap.len];unfold cS;rw [N6]
def Ay (js:List Nat) (wi:TI) (tt:TT) (te:TE):TE:=fun Z H Q=>wi Z H fun J H1=>∃ W:Nat->Nat->List V->Hp->Prop,(∃ m,W 0 m [] H1)/\∀ i m acc H,W i m acc H ->
 (J.stop i H/\acc.length<=sizeLine/\∀ p,H p=none->Q (.ref p) (upd H p (.lst acc)))\/(J.go i H/\acc.length < sizeLine/\∀ x H',J.yld i H x H' ->
  tt (some x :: cS js Z) H' fun b H2=>if b=true then te (some x :: cS js Z) H2 fun y H3=>∃ m',m' < m/\W (i+1) m' (acc++[y]) H3 else ∃ m',m' < m/\W (i+1) m' acc H2)
theorem Ba {M:Model} {A:Around} {α β:Type} {E E':Qz->Qv->Prop} {a:α} {t:Sem α} {u:Sem β} {Q:α->Qv->Prop} {R:β->Qv->Prop} {s s':Qv} (e:t=pure a) (h:wpAny M A t Q E s) (k:Q a s->wpAny M A u R E' s'):wpAny M A u R E' s':=by
 subst e;exact fun Γ p ZZ=>k (h Γ p ZZ) Γ p ZZ
theorem AB {X:Cx} {pins:List (Qx×Obj)} {Z:St} {H:Hp} {s2:Qv} {elt iter:Expr} {x:Str} {px pos:Pos} {ifs:List Expr} {scope:Scope} {tt:TT} {te:TE} {ys:List Str} {js:List Nat} {it:Qx} {fp:List Qx} {tn:Nat->Heap->Prop} {J:It}
    {Q:VK} {E:Qz->Qv->Prop} {RR:Qz->Qx->Result->Qv->Prop} (hc:X.calm=true) (B:ke X scope x) (nd:(x :: ys).Nodup) (cap:iQ X scope ys js)
    (ht:∀ C s3 H3 ex,PTs (cxB X (x :: ys) scope C s3 H3 ex) ifs tt) (he:∀ C s3 H3 ex,PE (cxB X (x :: ys) scope C s3 H3 ex) elt te)
    (I:Inv X pins Z H s2) (T:Turn X.prog X.w X.K (.Name x px) J fp it tn) (h0:tn 0 s2.heap) (hf:∀ b∈fp,Bn X pins H b)
    (W:Nat->Nat->List V->Hp->Prop) (w0:∃ m,W 0 m [] H)
    (turn:∀ i m acc H,W i m acc H->(J.stop i H/\acc.length<=sizeLine/\∀ p,H p=none->Q (.ref p) (upd H p (.lst acc)))\/(J.go i H/\acc.length < sizeLine/\∀ x H',J.yld i H x H' ->
      tt (some x :: cS js Z) H' fun b H2=>if b=true then te (some x :: cS js Z) H2 fun y H3=>∃ m',m' < m/\W (i+1) m' (acc++[y]) H3 else ∃ m',m' < m/\W (i+1) m' acc H2))
    (hRR:∀ (D C:Qx) (H':Hp) (s':Qv) (m':Str->Option Qz),s'.heap.Ns C m'->s2.heap.objs.size<=C->C≠D->H' C=none->Inv X pins Z H' s'->Q (.ref D) H'->RR (.ref D) C (.ok .next) s') :
    wpAny (model X.prog X.w) X.A (newList []) (fun acc ZO=>wpAny (model X.prog X.w) X.A (newFunctionEnv scope X.env.globals (pb X.env scope.names []) [] X.env.qual none .none (some X.env)) (fun cenv s₄ =>
      codeAny (model X.prog X.w) X.A (.compStart (.ListComp elt [⟨.Name x px,iter,ifs,0⟩] scope pos) 0 (.ref it) acc { cenv with scope:=relabel scope X.env }) (RR acc cenv.locals) s₄) E ZO) E s2:=by
  refine PQ (wpAny_newFunctionEnv B.cells (by intro y hy;simp at hy) (fun h1 hns hsb=>?_) B.kind);dsimp only at hns hsb ⊢;have hD:H s2.heap.objs.size=none:=I.hok.fresh (Ol _);generalize hH2:s2.heap.push { cls:=.type "list", dict:=none,data:=.seq ([]:List Qz).toArray }=P2 at hns hsb ⊢;have hgetD:P2.get? s2.heap.objs.size=some { cls:=.type "list", dict:=none,data:=.seq ([]:List Qz).toArray }:=by rw [<- hH2];exact OK _ rfl
  have hold:∀ b o,s2.heap.get? b=some o->P2.get? b=some o:=fun b o e=>by rw [<- hH2];exact Of _ e
  have hsz:P2.objs.size=s2.heap.objs.size+1:=by rw [<- hH2,Heap.size_push]
  have I3:Inv X pins Z H { s2 with heap:=P2,toks:=s2.toks }:=I.kept hold;generalize hDe:s2.heap.objs.size=D at *;have keep1:∀ b o,P2.get? b=some o->h1.get? b=some o:=fun b o e=>hsb.extBut b o (OQ (Ou e)) (Of _ e);have hfp:∀ b∈fp,b < D:=fun b hb=>by
    obtain ⟨o,e,_⟩:=T.obj _ _ h0 b hb;rw [<- hDe];exact Ou e
  have hstk:∀ b,b≠X.env.locals->b ∉ X.fs->b ∉ frs X.stack:=fun b h1 h2 z=>(Oo.mp (I.nT b z)).elim h1 h2;have hDl:D≠X.env.locals:=fun z=>absurd I.lt (by rw [hDe,z];exact OV _);have hDfs:D ∉ X.fs:=I.Mi (by rw [hDe];exact Ol _);have hDc:∀ y c,X.env.cells.lookup y=some c->c≠D:=fun y c e z=>by
    obtain ⟨v,q⟩:=I.cell y c e;have:=q.lt;rw [z,hDe] at this;exact absurd this (OV _)
  have hex:∀ b∈D :: fp,b ∉ frs X.stack/\b < ({ s2 with heap:=P2,toks:=s2.toks }:Qv).heap.objs.size/\(∀ y c,X.env.cells.lookup y=some c->c≠b)/\X.base.get? b=none:=fun b hb=>by
    rcases Oo.mp hb with rfl | hb
    · refine ⟨hstk _ hDl hDfs,by show _ < P2.objs.size;rw [hsz];exact Pj _,hDc,?_⟩;cases q:X.base.get? b with
      | none=>rfl
      | some o =>
        have:=Ou (I.bk b o q);rw [hDe] at this;exact absurd this (OV _)
    · obtain ⟨f0,f1,f2,f3,f4,f5⟩:=hf b hb;refine ⟨hstk _ f1 f2,by show _ < P2.objs.size;rw [hsz];exact Nat.lt_succ_of_lt (hfp b hb),f4,?_⟩;cases q:X.base.get? b with
      | none=>rfl
      | some o =>
        rcases f3 with z | z
        · exact absurd z (I.ok.Dg b o q)
        · exact absurd (Ov (Ou q) (Oy I.ok.bsz z)) (OV _)
  have IB:=wG (tk:=s2.toks) (ex:=D :: fp) I3 hc B cap (h1:=h1) hns keep1 hex;have hCD:P2.objs.size≠D:=by rw [hsz];exact Nat.succ_ne_self _
  have start:codeAny (model X.prog X.w) X.A (.compLoop (.ListComp elt [⟨.Name x px,iter,ifs,0⟩] scope pos) 0 (.ref it) (.ref D) (compEnvC scope (pb X.env scope.names []) P2.objs.size X.env)) (RR (.ref D) P2.objs.size) { s2 with heap:=h1,toks:=s2.toks }:=by
    obtain ⟨m0,w0⟩:=w0;refine codeAny_compLoop_tests (fun n s=>∃ i v0 H' acc its k,Inv (cxB X (x :: ys) scope P2.objs.size { s2 with heap:=P2,toks:=s2.toks } H (D :: fp)) [] (v0 :: cS js Z) H' s/\tn i s.heap/\(∀ b∈D :: fp,H' b=none)/\s.heap.get? D=some { cls:=.type "list", data:=.seq its k }/\Vals acc its.toList/\acc.length<=sizeLine/\W i n acc H') ?_ m0 ?_
    · rintro n s ⟨i,v0,H3,acc,its,k,I4,t4,fr4,g4,va,hl4,w4⟩;have hDm:D∈D :: fp:=Od;have exf:=I4.ok.exf;have fsub:∀ b∈D :: fp,b ∉ (cxB X (x :: ys) scope P2.objs.size { s2 with heap:=P2,toks:=s2.toks } H (D :: fp)).fs:=fun b hb=>(hex b hb).1;have stat:∀ {H':Hp} {ob:Obj},(∀ b∈fp,H' b=none)->∀ b∈fp,Bn (cxB X (x :: ys) scope P2.objs.size { s2 with heap:=P2,toks:=s2.toks } H (D :: fp)) [(D,ob)] H' b:=fun {H' ob} hn b hb =>
        ⟨hn b hb,(exf b (N8 _ hb)).1,fsub b (N8 _ hb),.inl (N8 _ hb),(exf b (N8 _ hb)).2,fun p hp z=>by
          have hp':p∈[(D,ob)]:=hp;have e:=Oz.mp hp';rw [e] at z
          exact absurd (hfp b hb) (by rw [<- show D=b from z];exact OV _)⟩
      have frp:∀ b∈fp,H3 b=none:=fun b hb=>fr4 b (N8 _ hb);have I5:Inv (cxB X (x :: ys) scope P2.objs.size { s2 with heap:=P2,toks:=s2.toks } H (D :: fp)) [(D,{ cls:=.type "list", data:=.seq its k })] (v0 :: cS js Z) H3 s:=I4.gE fun p hp=>by
        rw [Oz.mp hp];exact ⟨g4,fr4 D hDm,(exf D hDm).1,fsub D hDm,fun v z=>nomatch z⟩
      rcases turn i n acc H3 w4 with ⟨stop,hacc,q⟩ | ⟨go,hacc,step⟩
      · refine O9 (T.done (cxB X (x :: ys) scope P2.objs.size { s2 with heap:=P2,toks:=s2.toks } H (D :: fp)) rfl rfl rfl rfl i _ s _ H3 (fun _ _=>False) I5 (stat frp) t4 stop) (fun r s1 ⟨hr,I6⟩=>?_) (fun _ _ z=>z.elim);subst hr;obtain ⟨m',hn',_⟩:=id I6.loc;have pD:=(I6.pin (D,{ cls:=.type "list", data:=.seq its k }) (OD _ (Oz.mpr rfl))).1;have nD:H3 D=none:=fr4 D hDm;have u:=I6.base;have uu:Un (frs X.stack) (D :: fp) H (upd H3 D (.lst acc)) P2 s1.heap :=
          ⟨u.keep,u.slot,fun b o q n hx=>by rw [aL fun z=>hx (by rw [z];exact hDm)];exact u.free b o q n hx,u.there,
           fun b xs q=>by rw [aL (a6 (u.rQ b xs q) nD)];exact u.rQ b xs q,fun b o v q=>by rw [aL (a6 (u.pN b o v q) nD)];exact u.pN b o v q,
           fun b ps q=>by
            obtain ⟨more,z⟩:=u.tU b ps q
            exact ⟨more,by rw [aL (a6 z nD)];exact z⟩⟩
        have hok:HOk X.prog X.w (upd H3 D (.lst acc)) s1.heap:=fun b o e=>by
          by_cases hb:b=D
          · subst hb;rw [aE] at e;cases e;exact ⟨hacc,its.toList,k,va,by rw [Array.toArray_toList];exact pD⟩
          · rw [aL hb] at e;exact (I6.hok b o e).nK (fun c v _ q=>q) (fun c q=>by rw [aL (a6 q nD)];exact q) fun c xs q=>by rw [aL (a6 q nD)];exact q
        have fin:=I3.call (g':=s1.gens) (t':=s1.toks) (d':=s1.drawn) uu hok I6.bare (fun b hb=>by
          rcases Oo.mp hb with z | hb
          · rw [z];refine ⟨.inr (by rw [<- hDe];exact I.sz),hDl,hDc,fun p hp z=>?_⟩;have:=Ou (I.pin p hp).1;rw [z,hDe] at this;exact OV _ this
          · exact ⟨(hf b hb).2.2.2.1,(hf b hb).2.1,(hf b hb).2.2.2.2.1,(hf b hb).2.2.2.2.2⟩)
        have es:({ heap:=s1.heap,gens:=s1.gens,drawn:=s1.drawn,toks:=s1.toks,os:=s2.os }:Qv)=s1:=by
          have:=I6.os;obtain ⟨a1,a2,a3,a4,a5⟩:=s1;have e5:a5=s2.os:=this;rw [e5]
        have fin':Inv X pins Z (upd H3 D (.lst acc)) s1:=es▸fin;exact hRR D P2.objs.size (upd H3 D (.lst acc)) s1 m' hn' (by rw [hsz];exact Qd _) hCD (by rw [aL hCD];exact I6.free) fin' (q D nD)
      · refine O9 (T.item (cxB X (x :: ys) scope P2.objs.size { s2 with heap:=P2,toks:=s2.toks } H (D :: fp)) rfl rfl rfl rfl i _ s _ H3 (fun _ _=>False) I5 (stat frp) t4 go) (fun r s1 ⟨u,hr,h4⟩=>?_) (fun _ _ z=>z.elim);subst hr;refine Ba (a:=()) rfl h4 fun ⟨x',H5,I6,r6,y6,t6,fr6⟩=>?_;have I7:=I6.pinned (stat fr6) (T.obj _ _ t6);have kx:(relabel scope X.env).names.lookup x=some .local:=lookup_relabel_local B.var;have pg:PG (cxB X (x :: ys) scope P2.objs.size { s2 with heap:=P2,toks:=s2.toks } H (D :: fp)) (.Name x px) (fX 0):=p0 nd rfl (.inl kx) (.inr kx);refine O9 (pg _ s1 _ H5 x' u (fun Z' H'=>Z'=some x' :: cS js Z/\H'=H5) I7 r6 ⟨rfl,rfl⟩) (fun _ s2' ⟨Z6,H6,I8,e1,e2⟩=>?_) (fun _ _ z=>z.elim);subst e1 e2;refine O9 (ht _ _ _ _ _ s2' _ _ _ I8 (step x' H6 y6)) (fun b s3' ⟨H7,I9,q9⟩=>?_) (fun _ _ z=>z.elim);have pinsKeep:∀ {Z':St} {H':Hp} {s':Qv},Inv (cxB X (x :: ys) scope P2.objs.size { s2 with heap:=P2,toks:=s2.toks } H (D :: fp)) ([(D,{ cls:=.type "list", data:=.seq its k })]++n6 fp s1.heap) Z' H' s' ->
            s'.heap.get? D=some { cls:=.type "list", data:=.seq its k }/\(∀ b∈D :: fp,H' b=none)/\∀ b∈fp,∀ o,s1.heap.get? b=some o->s'.heap.get? b=some o:=fun {Z' H' s'} J=>by
          have pd:=J.pin (D,{ cls:=.type "list", data:=.seq its k }) (OD _ (Ph _ (Oz.mpr rfl)));refine ⟨pd.1,fun b hb=>?_,fun b hb o e=>(J.pin (b,o) (OD _ (OD _ (fj hb e)))).1⟩;rcases Oo.mp hb with rfl | hb
          · exact pd.2.1
          · obtain ⟨o,e,_⟩:=T.obj _ _ t6 b hb;exact (J.pin (b,o) (OD _ (OD _ (fj hb e)))).2.1
        cases b with
        | false =>
          rw [Ot Pc] at q9;obtain ⟨m',hm,w9⟩:=q9;obtain ⟨p1,p2,p3⟩:=pinsKeep I9;rw [Ot Pc];exact ⟨m',hm,i+1,some x',H7,acc,its,k,I9.gE (fun p hp=>absurd hp (by simp)),T.keep _ _ _ t6 p3,p2,p1,va,hl4,w9⟩
        | true =>
          rw [Og rfl] at q9;rw [Og rfl];refine O9 (he _ _ _ _ _ s3' _ _ _ I9 q9) (fun y s4' ⟨yv,H8,I10,ry,m',hm,w10⟩=>?_) (fun _ _ z=>z.elim);obtain ⟨p1,p2,p3⟩:=pinsKeep I10;have hsize:its.size=acc.length:=by rw [va.length];simp
          have I11:=I10.gE (pins':=[]) (fun p hp=>absurd hp (by simp));refine wpAny_list_append_plain ⟨k,p1⟩ (fun h' hpl hsame=>?_) (by rw [hsize];exact Nat.le_of_lt hacc);obtain ⟨k',e'⟩:=hpl;have neD:∀ {b:Qx} {o:HO},H8 b=some o->b≠D:=fun e z=>by rw [z,p2 D hDm] at e;cases e
          refine ⟨m',hm,i+1,some x',H8,acc++[yv],its.push y,k',?_,?_,p2,e',?_,?_,w10⟩
          · refine I11.step (g':=s4'.gens) (t':=s4'.toks) (d':=s4'.drawn) (ch:=[D]) (fun b hb=>?_) (fun b o _ _ hc' e _=>?_) (fun b o _ _ hc' e _=>⟨o.slots,?_⟩) (fun b o hc' e n=>n) (fun b o hc' e=>⟨o,?_⟩) (fun _ _ z=>z) (fun _ _ _ z=>z) (fun b ps z=>⟨#[],by rw [z];simp⟩) (fun m hn=>hn.sameBut hsame (Ne.symm (exf D hDm).1)) (fun b o e=>?_) I11.bare
            · rw [Oz.mp hb];exact ⟨.inl hDm,(exf D hDm).1,(exf D hDm).2,fun p hp=>absurd (show p∈([]:List (Qx×Obj)) from hp) (by simp)⟩
            · exact (hsame.2 b fun z=>hc' (Oz.mpr z)).trans e
            · exact (hsame.2 b fun z=>hc' (Oz.mpr z)).trans e
            · exact (hsame.2 b fun z=>hc' (Oz.mpr z)).trans e
            · refine (I11.hok b o e).nK (fun c v hc' q=>(hsame.2 c ?_).trans q) (fun _ q=>q) fun _ _ q=>q;rcases hc' with z | z
              · rw [z];exact neD e
              · exact neD z
          · refine T.keep _ _ _ t6 fun b hb o e=>(hsame.2 b ?_).trans (p3 b hb o e);exact OQ (hfp b hb)
          · rw [Array.toList_push];exact va.append (.cons ry .nil)
          · rw [N5,Ow];exact hacc
    · refine ⟨0,none,H,[],#[],_,IB,T.keep _ _ _ h0 (fun b hb o e=>keep1 b o (hold b o e)),fun b hb=>?_,keep1 _ _ hgetD,.nil,Pg _,w0⟩;rcases Oo.mp hb with rfl | hb
      · exact hD
      · exact (hf b hb).1
  exact codeAny_compStart_list start (T.self _ 0 _ _ _ (T.keep _ _ _ h0 (fun b hb o e=>keep1 b o (hold b o e))) start)
theorem Dq {X:Cx} {elt iter:Expr} {x:Str} {px pos:Pos} {ifs:List Expr} {scope:Scope} {wi:TI} {tt:TT} {te:TE} {ys:List Str} {js:List Nat} (hc:X.calm=true) (hi:PI X (.Name x px) iter wi) (B:ke X scope x) (nd:(x :: ys).Nodup) (cap:iQ X scope ys js)
  (ht:∀ C s3 H3 ex,PTs (cxB X (x :: ys) scope C s3 H3 ex) ifs tt) (he:∀ C s3 H3 ex,PE (cxB X (x :: ys) scope C s3 H3 ex) elt te) (hs:∀ x,foldedSetIterable iter X.env x=pure x:=by intro _;rfl) :
  PE X (.ListComp elt [⟨.Name x px,iter,ifs,0⟩] scope pos) (Ay js wi tt te):=by
 intro pins s Z H Q I h;have hcl:=tX (scope:=scope) (env:=X.env) fun y hy hf=>I.ok.has y.1 (.inl (B.free y hy hf));rw [eval_ListComp];refine wpAny_comprehension_free (use:=none) rfl hs hcl B.kind B.locs (O9 (hi pins s Z H _ I h) (fun xv s1 h1=>O9 h1 (fun itv s2 h2=>?_) fun _ _ e=>e) fun _ _ e=>e);obtain ⟨it,fp,tn,J,H2,e,I2,T,st2,f2,W,w0,turn⟩:=h2;subst e;refine AB (RR:=fun acc C=>compPost (model X.prog X.w) X.A X.xe none (EP X pins Z Q) acc C) hc B nd cap ht he I2 T st2 f2 W w0 turn ?_;intro D C H' s' m' hn hC hCD hCn I' q;refine ⟨m',hn,fun h' hs'=>⟨.ref D,H',?_,rfl,q⟩⟩;have hL:X.env.locals≠C:=OQ (Ov I2.lt hC);have neC:∀ {b:Qx} {o:HO},H' b=some o->b≠C:=fun e z=>by rw [z,hCn] at e;cases e
 refine I'.step (g':=s'.gens) (t':=s'.toks) (d':=s'.drawn) (ch:=[C]) (fun b hb=>?_) (fun b o _ _ hc' e _=>?_) (fun b o _ _ hc' e _=>⟨o.slots,?_⟩) (fun b o hc' e n=>n) (fun b o hc' e=>⟨o,?_⟩) (fun _ _ z=>z) (fun _ _ _ z=>z) (fun b ps z=>⟨#[],by rw [z];simp⟩) (fun m hn=>hn.sameBut hs' hL) (fun b o e=>?_) I'.bare
 ·rw [Oz.mp hb];refine ⟨.inr (Oy I2.sz hC),Ne.symm hL,fun y c e z=>?_,fun p hp z=>?_⟩
  ·obtain ⟨v,q⟩:=I2.cell y c e;have:=q.lt;rw [z] at this;exact absurd (Ov this hC) (OV _)
  ·have:=Ou (I2.pin p hp).1;rw [z] at this;exact absurd (Ov this hC) (OV _)
 ·exact (hs'.2 b fun z=>hc' (Oz.mpr z)).trans e
 ·exact (hs'.2 b fun z=>hc' (Oz.mpr z)).trans e
 ·exact (hs'.2 b fun z=>hc' (Oz.mpr z)).trans e
 ·refine (I'.hok b o e).nK (fun c v hc' q=>(hs'.2 c ?_).trans q) (fun _ q=>q) fun _ _ q=>q;rcases hc' with z | z
  ·rw [z];exact neC e
  ·exact neC z
def Its (x:Str):It:=⟨fun i _=>i < x.length,fun i H v H'=>H'=H/\∃ c,x.cps[i]?=some c/\v=.str ⟨#[c]⟩,fun i _=>x.length<=i⟩
theorem A9 {P:Program} {w:World} {K:Fg} {y:Str} {py:Pos} {x:Str} {it:Qx} {St:Nat->Heap->Prop} (W:∀ A':Around,A'.handled=none->Walks P w A' it [it] [it] x.cps.size (SignAt x) St)
  (ob:∀ i h,St i h->∃ o,h.get? it=some o/\∀ v,o.data≠.cell v) (hs:∀ (A:Around) i (s:Qv) (Q:Qz->Qv->Prop) (E:Qz->Qv->Prop),St i s.heap->Q (.ref it) s->wpAny (model P w) A (pyIter (.ref it)) Q E s) :
  Turn P w K (.Name y py) (Its x) [it] it (fun i h=>i<=x.cps.size/\St i h) where
 mem:=by simp
 obj:=fun i h st b hb=>by
  have e:b=it:=by simpa using hb
  subst e;exact ob i h st.2
 keep:=fun i h h' st k=>⟨st.1,(W { depth:=0,frames:=none,guards:=none,units:=0,handled:=none } rfl).frame i h h' st.2 fun b hb o e=>k b hb o e⟩
 item:=by
  intro X hP hw hK hc i pins s Z H E I hf st hg;subst hP hw hK;obtain ⟨f0,f1,f2,f3,f4,f5⟩:=hf it (by simp);refine (W X.A (I.ok.hd hc)).item i s _ _ hg st.2 fun v h' tk hv st' kk=>?_;obtain ⟨c,t,hcps,rfl⟩:=hv;have I1:Inv X pins Z H { s with heap:=h',toks:=tk }:=I.turned (fun b o hb e=>kk b o (by simpa using hb) e) f0 f1 f3 f4 f5;exact ⟨_,rfl,OB (show _ from ⟨.str ⟨#[c]⟩,H,I1,⟨t,rfl⟩,⟨rfl,c,hcps,rfl⟩,⟨hg,st'⟩,fun b hb=>(hf b hb).1⟩)⟩
 done:=by
  intro X hP hw hK hc i pins s Z H E I hf st hg;subst hP hw hK;obtain ⟨f0,f1,f2,f3,f4,f5⟩:=hf it (by simp);have e:i=x.cps.size:=Nat.le_antisymm st.1 hg;subst e;exact (W X.A (I.ok.hd hc)).done s _ _ st.2 fun h' tk kk=>⟨rfl,I.turned (fun b o hb e=>kk b o (by simpa using hb) e) f0 f1 f3 f4 f5⟩
 self:=fun A i s Q E st h=>hs A i s Q E st.2 h
def J7 (tl:TE):TI:=fun Z H R=>tl Z H fun x H1=>∃ z,x=.str z/\R (Its z) H1
theorem Gq {X:Cx} {y:Str} {py:Pos} {l:Expr} {tl:TE} (hl:PE X l tl):PI X (.Name y py) l (J7 tl):=by
 intro pins s Z H R I h;refine thn (hl pins s Z H _ I h) fun v s1 ⟨x,H1,I1,r1,q1⟩=>?_;obtain ⟨z,e,q⟩:=q1;subst e;obtain ⟨t,rfl⟩:=r1;have hn:H1 s1.heap.objs.size=none:=I1.hok.fresh (Ol _);have key:∀ (T:String) (sz:T = "str_ascii_iterator" \/ T = "str_iterator"),PIE X pins Z (.Name y py) R (.ref s1.heap.objs.size) { s1 with heap:=s1.heap.push { cls:=.type T,data:=.fields #[.str z t,.int 0 0] } }:=fun T sz=>by
  have I2:Inv X pins Z H1 { s1 with heap:=s1.heap.push { cls:=.type T,data:=.fields #[.str z t,.int 0 0] },toks:=s1.toks }:=I1.kept fun b o e=>Of _ e;have st0:(s1.heap.push { cls:=.type T,data:=.fields #[.str z t,.int 0 0] }).IsStrIter s1.heap.objs.size T z t 0:=⟨_,OK _ rfl,rfl,rfl⟩;refine ⟨s1.heap.objs.size,[s1.heap.objs.size],fun i h=>i<=z.cps.size/\h.IsStrIter s1.heap.objs.size T z t i,Its z,H1,rfl,I2,?_,⟨Pg _,st0⟩,fun b hb=>?_,q⟩
  ·refine A9 (fun A' hA=>?_) (fun i h st=>?_) fun A i s Q E st hq=>?_
   ·rcases sz with rfl | rfl
    ·exact Walks.strAscii hA _ z t
    ·exact Walks.strWide hA _ z t
   ·obtain ⟨o,e,c,d⟩:=st;exact ⟨o,e,fun v z=>by rw [d] at z;cases z⟩
   ·rcases sz with rfl | rfl
    ·exact wpAny_pyIter_striter_ascii st hq
    ·exact wpAny_pyIter_striter_wide st hq
  ·rw [Oz.mp hb];exact I1.Iv (Ol _) hn
 cases ha:z.cps.all (· < 128)
 ·exact wpAny_pyIter_wide ha (key _ (.inr rfl))
 ·exact wpAny_pyIter_ascii ha (key _ (.inl rfl))
section
variable {X:Cx}
theorem wb:OpR X (compareOp .LtE) (fun x y H Q=>∃ i j,x=.str i/\y=.str j/\Q (.bl (!(decide (j.cps.toList < i.cps.toList)))) H):=by
 intro pins s Z H x y v u Q I rx ry h;obtain ⟨i,j,rfl,rfl,q⟩:=h;obtain ⟨t,rfl⟩:=rx;obtain ⟨t',rfl⟩:=ry;exact P.le_str ⟨.bl _,H,I,rfl,q⟩
theorem OpR.or' {f:Qz->Qz->Sem Qz} {r r':R2} (h:OpR X f r) (h':OpR X f r'):OpR X f (fun x y H Q=>r x y H Q\/r' x y H Q):=by
 intro pins s Z H x y v u Q I rx ry q;rcases q with q | q
 ·exact h pins s Z H x y v u Q I rx ry q
 ·exact h' pins s Z H x y v u Q I rx ry q
theorem AE:OpR X (binaryOp .FloorDiv) (rI (fun _ j=>0 < j/\j.natAbs.log2 < 9000) fun i j=>.int (i / j)):=opI fun i j _ _ _ _ _ hc q=>by
 have h1:(0:Int) < j:=hc.1;exact floordiv_int (by omega) (by rw [Int.fdiv_eq_ediv_of_nonneg i (by omega)];exact q) (.inl (PyProof.noPylong_of_log2 hc.2))
theorem wJ (hc:X.calm=true):bN X (.builtin "all") (fun xs H Q=>∃ (a:Qx) (bs:List Bool),xs=[.ref a]/\SqL X.K H a (bs.map V.bl)/\Q (.bl (bs.all id)) H):=by
 intro pins s Z H xs us Q I r h;obtain ⟨a,bs,rfl,hq,q⟩:=h;obtain ⟨u,rfl,r1⟩:=vals1 r;cases (show u=Value.ref a from r1);obtain ⟨its,rv,p,hz⟩:=I.list hq;have ha:a < s.heap.objs.size:=by
  obtain ⟨o,e,_⟩:=p.isList;exact Ou e
 refine call_all_walk (wpAny_pyIter_list p.isList ?_);refine ⟨s.heap.objs.size,_,_,_,_,_,fun i=>(bs[i]?).getD true,rfl,Walks.list (show X.A.in1.handled=none from I.ok.hd hc) s.heap.objs.size a (OQ ha) its.toArray,⟨⟨_,OK _ rfl,rfl,rfl⟩,p.isList.push _⟩,?_,?_⟩
 ·intro i v s' Q' E' hv hQ;have hv':its[i]?=some v:=by simpa using hv
  have hi:i < its.length:=(N9.mp hv').1;have hb:i < bs.length:=by have:=rv.length;rw [N6] at this;omega
  obtain ⟨u,hu,ru⟩:=rv.get (i:=i) (x:=.bl bs[i]) (by rw [OA,Oi hb];rfl);rw [hv'] at hu;cases hu;cases (show v=Value.bool bs[i] from ru);dsimp only at hQ;rw [Oi hb] at hQ;exact O5 hQ
 ·intro h' tk kk;have e:(List.range its.toArray.size).all (fun i=>(bs[i]?).getD true)=bs.all id:=by
   have hl:its.toArray.size=bs.length:=by rw [Om,<-rv.length,N6]
   rw [hl,Bool.eq_iff_iff,O8,O8];constructor
   ·intro h b hb;obtain ⟨i,hi,e⟩:=List.mem_iff_getElem.mp hb;have:=h i (List.mem_range.mpr hi);rw [Oi hi,e] at this;exact this
   ·intro h i hi;rw [Oi (List.mem_range.mp hi)];exact h _ (List.getElem_mem _)
  rw [e];have I1:Inv X pins Z H { s with heap:=s.heap.push { cls:=.type "list_iterator", data:=.fields #[.ref a,rawInt 0] },toks:=s.toks }:=I.kept fun b o e=>Of _ e;have hn:H s.heap.objs.size=none:=I.hok.fresh (Ol _)
  have I2:Inv X pins Z H { s with heap:=h',toks:=tk }:=I.kept fun b o e=>kk b o (by
   intro z;have:=Oz.mp z;rw [this] at e
   exact absurd (Ou e) (OV _)) (Of _ e)
  exact ⟨.bl _,H,I2,rfl,q⟩
def iW (x:Str) (lo hi:Option Int):Str:=⟨((x.cps.toList.drop (HT.sIx x.length 0 lo)).take (HT.sIx x.length x.length hi - HT.sIx x.length 0 lo)).toArray⟩
theorem Ku (lo hi:Option Int) (n:Nat):Builtin.Str.strSliceIndices lo hi 1 n=(List.range (HT.sIx n n hi - HT.sIx n 0 lo)).map (HT.sIx n 0 lo+·):=by
 rw [<- sliceRange_one];unfold Builtin.Str.strSliceIndices;dsimp only;have h1:(1:Int) > 0:=by decide
 have e0:(match lo with | none=>(if (1:Int) > 0 then 0 else (n:Int) - 1) | some i=>if (1:Int) > 0 then max 0 (min (if i < 0 then i+(n:Int) else i) (n:Int)) else max (-1) (min (if i < 0 then i+(n:Int) else i) ((n:Int) - 1)))=((HT.sIx n 0 lo:Nat):Int):=by
  cases lo with
  | none=>simp [HT.sIx]
  | some i =>
   simp only [HT.sIx,h1,P5];by_cases h:i < 0
   ·simp only [h,P5] <;> omega
   ·simp only [h,if_false] <;> omega
 have e1:(match hi with | none=>(if (1:Int) > 0 then (n:Int) else -1) | some i=>if (1:Int) > 0 then max 0 (min (if i < 0 then i+(n:Int) else i) (n:Int)) else max (-1) (min (if i < 0 then i+(n:Int) else i) ((n:Int) - 1)))=((HT.sIx n n hi:Nat):Int):=by
  cases hi with
  | none=>simp [HT.sIx]
  | some i =>
   simp only [HT.sIx,h1,P5];by_cases h:i < 0
   ·simp only [h,P5] <;> omega
   ·simp only [h,if_false] <;> omega
 rw [<- e0,<-e1];cases lo <;> cases hi <;> rfl
theorem rm (n:Nat) (v:Option Int):HT.sIx n n v<=n/\HT.sIx n 0 v<=n:=by
 cases v with
 | none=>simp [HT.sIx]
 | some i =>
  simp only [HT.sIx];split <;> omega
def MI:V->Option Int->Option Int->Hp->VK->Prop:=fun x lo hi H Q=>∃ z,x=.str z/\z.length<=sizeLine/\Q (.str (iW z lo hi)) H
theorem dQ (x:Str) (lo hi:Option Int):(iW x lo hi).length<=x.length:=by
 have e:x.cps.toList.length=x.length:=by simp [Str.length]
 show (((x.cps.toList.drop _).take _).toArray).size<=x.length;rw [Om,O2,Pm,e];omega
theorem jt:SlR X MI:=by
 intro pins s Z H x v vl vu lo hi sl Q I rx hs pl pu h;obtain ⟨z,rfl,hz,q⟩:=h;obtain ⟨t,rfl⟩:=rx;refine ⟨"str", _,F.slot_str_getitem.lookup,typeIs_str _ _ _,?_⟩;obtain ⟨l,el,el'⟩:∃ l:Option (Int×Tok),l.map (·.1)=lo/\vl=partValue l:=by
  cases pl with
  | none=>exact ⟨none,rfl,rfl⟩
  | int i t=>exact ⟨some (i,t),rfl,rfl⟩
 obtain ⟨u,eu,eu'⟩:∃ l:Option (Int×Tok),l.map (·.1)=hi/\vu=partValue l:=by
  cases pu with
  | none=>exact ⟨none,rfl,rfl⟩
  | int i t=>exact ⟨some (i,t),rfl,rfl⟩
 subst el' eu';obtain ⟨o,h1,h2,h3⟩:=hs;refine wpAny_getItem_str_slice (l:=l) (u:=u) (st:=none) ⟨o,h1,h2,h3⟩ rfl ?_;have pk:slicePicked z l u none=(List.range (HT.sIx z.length z.length hi - HT.sIx z.length 0 lo)).map (HT.sIx z.length 0 lo+·):=by
  rw [<- Ku,<-el,<-eu];rfl
 have ez:z.cps.toList.length=z.length:=by simp [Str.length]
 have cut:(⟨((slicePicked z l u none).filterMap (z.cps[·]?)).toArray⟩:Str)=iW z lo hi:=by
  rw [pk,pick_run];rfl
 unfold sliceMade;split
 ·rename_i hc;have hl:(slicePicked z l u none).length=z.length:=by
   have:=(Bool.and_eq_true_iff.mp hc).2;simpa using this
  rw [pk,N6,Pt] at hl;have b1:=rm z.length hi;have b2:=rm z.length lo;have h0:HT.sIx z.length 0 lo=0\/z.length=0:=by omega
  have e:iW z lo hi=z:=by
   unfold iW;rcases h0 with h0 | h0
   ·rw [h0,List.drop_zero,PY (by omega)]
   ·have hn:z.cps.toList=[]:=List.eq_nil_of_length_eq_zero (by omega);rw [hn];have:z.cps=#[]:=by
     have:=congrArg List.toArray hn;simpa using this
    obtain ⟨c⟩:=z;simp only at this;subst this;simp
  rw [e] at q;exact ⟨.str z,H,I,⟨t,rfl⟩,q⟩
 ·rw [cut];exact ⟨Oy (dQ _ _ _) hz,⟨.str _,H,I.tok _,⟨_,rfl⟩,q⟩⟩
end
mutual
def Dn (p:Qx) (H:Hp):Qq->V->Prop
 | .none,v=>v=.non
 | .bool b,v=>v=.bl b
 | .int i,v=>v=.int i
 | .str x,v=>v=.str x
 | .list ds,v=>∃ a xs,v=.ref a/\a≠p/\H a=some (.lst xs)/\DnL p H ds xs
 | .tuple ds,v=>∃ a xs,v=.ref a/\a≠p/\H a=some (.tup xs)/\DnL p H ds xs
 | .dict kvs,v=>kvs=[]/\∃ a,v=.ref a/\a≠p/\H a=some (.dK [])
def DnL (p:Qx) (H:Hp):List Qq->List V->Prop
 | [],vs=>vs=[]
 | d :: ds,vs=>∃ v r,vs=v :: r/\Dn p H d v/\DnL p H ds r
end
open PySem PySem.Spec PyProof.Rows
def rOr (r r':R2):R2:=fun x y H Q=>r x y H Q\/r' x y H Q
def KS (r r':V->Option Int->Option Int->Hp->VK->Prop):V->Option Int->Option Int->Hp->VK->Prop:=fun x l u H Q=>r x l u H Q\/r' x l u H Q
def F7:R2:=fun x y H Q=>∃ i j,x=.str i/\y=.str j/\i.length+j.length<=sizeLine/\Q (.str (i++j)) H
def MH:R2:=fun x y H Q=>∃ i j,x=.str i/\y=.str j/\Q (.bl (decide (i.cps.toList < j.cps.toList))) H
def Mz:R2:=fun x y H Q=>∃ i j,x=.str i/\y=.str j/\Q (.bl (!(decide (j.cps.toList < i.cps.toList)))) H
def M4:R2:=fun x y H Q=>∃ i j,x=.str i/\y=.str j/\Q (.bl (!(Builtin.Str.occurrences j i 0 j.length 1).isEmpty)) H
def D6:R2:=fun x y H Q=>∃ i j,x=.str i/\y=.str j/\Q (.bl (!(!(Builtin.Str.occurrences j i 0 j.length 1).isEmpty))) H
def Mx (K:Fg):List V->Hp->VK->Prop:=fun xs H Q=>∃ (a:Qx) (bs:List Bool),xs=[.ref a]/\SqL K H a (bs.map V.bl)/\Q (.bl (bs.all id)) H
def Ht (K:Fg):List V->Hp->VK->Prop:=fun xs H Q=>∃ x n,xs=[x]/\MY K x H n/\Q (.int n) H
def Ko:List V->Hp->VK->Prop:=fun xs H Q=>∃ i,xs=[.int i]/\Q (.int (if i < 0 then -i else i)) H
def Dw:List V->Hp->VK->Prop:=fun xs H Q=>(∃ i,xs=[.int i]/\Q (.int i) H)\/∃ k,xs=[.bl k]/\Q (.int (if k then 1 else 0)) H
section
variable {X:Cx}
theorem orR {f:Qz->Qz->Sem Qz} {r r':R2} (h:OpR X f r) (h':OpR X f r'):OpR X f (rOr r r'):=OpR.or' h h'
theorem orS {r r':V->Option Int->Option Int->Hp->VK->Prop} (h:SlR X r) (h':SlR X r'):SlR X (KS r r'):=SlR.or h h'
theorem Cz:OpR X (binaryOp .Add) F7:=tm
theorem Hw:OpR X (compareOp .Lt) MH:=xY
theorem Gd:OpR X (compareOp .LtE) Mz:=wb
theorem Ig:OpR X (compareOp .In) M4:=xU
theorem wW:OpR X (compareOp .NotIn) D6:=ng
theorem uJ (hc:X.calm=true):bN X (.builtin "all") (Mx X.K):=wJ hc
theorem vT:bN X (.builtin "len") (Ht X.K):=AF
theorem yI:bN X (.builtin "abs") Ko:=zZ
theorem uZ:bN X (.type "int") Dw:=vD
end
end L2
namespace L2
open PySem
noncomputable def qV (sc scope:Scope) (x:Str):Bool :=
 (scope.kind==.function)&&scope.names.all (fun y=>y.2 != .cell)&&scope.names.all (fun y=>y.2 != .local||scope.names.lookup y.1==some .local)&&(scope.names.lookup x==some .local)&&scope.names.all (fun y=>y.2 != .free||sc.names.lookup y.1==some .cell)
theorem bsc {X:Cx} {sc scope:Scope} {x:Str} (e:X.env.scope=sc) (h:qV sc scope x=true):ke X scope x:=by
 unfold qV at h;simp only [OF,O8,Qk,bne_iff_ne,Px,ne_eq] at h;obtain ⟨⟨⟨⟨h1,h2⟩,h3⟩,h4⟩,h5⟩:=h;exact ⟨h1,fun y hy=>h2 y hy,fun y hy e=>(h3 y hy).resolve_left fun z=>z e,h4,fun y hy e'=>by rw [e];exact (h5 y hy).resolve_left fun z=>z e'⟩
theorem aV {e:Expr} {es:List Expr} {env:Env} (h:PySem.W.isStarred e=false):starEach (e :: es) env=(false,eval e env) :: starEach es env:=by
 cases e <;> first | rfl | exact absurd h (by simp [PySem.W.isStarred])
theorem bG {pos:Pos} {env:Env}:∀ {es:List Expr},es.all (fun e=>!PySem.W.isStarred e)=true->(backTo pos (starEach es env)).any (·.1)=false
 | [],_=>rfl
 | e :: es,h=>by
  rw [List.all_cons,OF] at h;rw [aV (by simpa using h.1)];have ih:=bG (pos:=pos) (env:=env) h.2;unfold backTo at ih ⊢;rw [List.map_cons,List.any_cons,ih];rfl
structure JE (X:Cx) (e:Expr) (t:TE):Prop where
 h:PE X e t
structure JT (X:Cx) (e:Expr) (t:TT):Prop where
 h:PT X e t
structure JW (X:Cx) (e:Expr) (t:TT):Prop where
 h:PW X e t
structure JA (X:Cx) (es:List Expr) (t:TA):Prop where
 h:PA X es t
structure JS (X:Cx) (s:Stmt) (t:TS):Prop where
 h:PS X s t
structure JSs (X:Cx) (s:List Stmt) (t:TS):Prop where
 h:PSs X s t
structure JG (X:Cx) (e:Expr) (t:TG):Prop where
 h:PG X e t
structure JI (X:Cx) (tg e:Expr) (t:TI):Prop where
 h:PI X tg e t
structure JO (X:Cx) (e:Option Expr) (t:TO):Prop where
 h:PO X e t
structure JC (X:Cx) (N:List Str) (scope:Scope) (e:Expr) (t:TE):Prop where
 h:∀ C s3 H3 ex,PE (cxB X N scope C s3 H3 ex) e t
structure JTs (X:Cx) (N:List Str) (scope:Scope) (e:List Expr) (t:TT):Prop where
 h:∀ C s3 H3 ex,PTs (cxB X N scope C s3 H3 ex) e t
section
variable {X:Cx} {e a b c:Expr} {es rest:List Expr} {te ta tb tc:TE} {tA tB':TT} {t:TA} {x:Str} {p pos:Pos} {id T:String} {r:List V->Hp->VK->Prop} {CX:CXT} {k:Nat} {f:Qx} {fd:FuncData} {ps:List Str} {sp:Sp} {ds:List Qz} {dvs:List V} {E:XK}
theorem ER (i:Nat) (hN:X.N[i]?=some x) (hv:Vis X.env.scope x) (hd:(x==("__debug__" : Str))=false) (hcd:(x==("__classdict__" : Str))=false):JE X (.Name x pos) (gu i):=⟨jJ hN hv hd hcd⟩
theorem aC {i j}:JE X (.Constant (.int i) j pos) (tC (.int i)):=⟨Fp⟩
theorem eBl {b j}:JE X (.Constant (.bool b) j pos) (tC (.bl b)):=⟨Jn⟩
theorem ph {j}:JE X (.Constant .none j pos) (tC .non):=⟨HD⟩
theorem ah {x j}:JE X (.Constant (.str x) j pos) (tC (.str x)):=⟨Hk⟩
theorem aa:JA X [] rY:=⟨vV⟩
theorem eA (ha:JE X e te) (hr:JA X es t) (h:PySem.W.isStarred e=false):JA X (e :: es) (iS te t):=⟨lx ha.h hr.h (aV h)⟩
theorem Fx (F:c8 X.prog X.w X.K X.mg X.base CX k f fd ps sp) (hr:dg k X.A) (hg:Gl X x) (hm:X.mg x=some (.ref f)) (hk:PySem.W.keepIn X.K (.ref f)=true) (hb:Binds X.K fd ps ds) (hd:Vals dvs ds) (hx:Passes CX X E)
  (ha:JA X (e :: es) t) (h1:PySem.W.isStarred e=false) (h2:es.all (fun e=>!PySem.W.isStarred e)=true) (hdb:(x==("__debug__" : Str))=false):JE X (.Call (.Name x p) (e :: es) [] pos) (uB sp dvs E t) :=
 ⟨DP F hr hg hm hk hb hd hx ha.h hdb (aV h1) (bG h2)⟩
theorem eB (hc:bN X (.builtin id) r) (hg:Gl X x) (hm:X.mg x=none) (hv:bootBuiltins x=some (.builtin id)) (ha:JA X (e :: es) t) (h1:PySem.W.isStarred e=false) (h2:es.all (fun e=>!PySem.W.isStarred e)=true)
  (hn:x ≠ "__name__") (hdb:(x==("__debug__" : Str))=false):JE X (.Call (.Name x p) (e :: es) [] pos) (tCB r t):=⟨AX hc hg hm hv ha.h hn hdb (aV h1) (bG h2)⟩
theorem eTy (hc:bN X (.type T) r) (hg:Gl X x) (hm:X.mg x=none) (hv:bootBuiltins x=some (.type T)) (ha:JA X (e :: es) t) (h1:PySem.W.isStarred e=false) (h2:es.all (fun e=>!PySem.W.isStarred e)=true)
  (hn:x ≠ "__name__") (hdb:(x==("__debug__" : Str))=false):JE X (.Call (.Name x p) (e :: es) [] pos) (tCB r t):=⟨yD hc hg hm hv ha.h hn hdb (aV h1) (bG h2)⟩
theorem eR1 {tg a:Expr} {ta:TA} (hg:Gl X "range") (hm:X.mg "range" = none) (ha:JA X [a] ta) (h:PySem.W.isStarred a=false):JI X tg (.Call (.Name "range" p) [a] [] pos) (DE ta):=⟨uQ hg hm ha.h (aV h)⟩
theorem eIL {tg:Expr} (h:JE X e te):JI X tg e (Dh X.K te):=⟨DH h.h⟩
theorem eIT {tg:Expr} (h:JE X e te):JI X tg e (Jz X.K te):=⟨HA h.h⟩
theorem eIS {y:Str} {py:Pos} (h:JE X e te):JI X (.Name y py) e (J7 te):=⟨Gq h.h⟩
theorem bf {v:V} {u:Qz} (hg:Gl X x) (hm:X.mg x=some u) (r:RelV v u) (hd:(x==("__debug__" : Str))=false):JE X (.Name x pos) (tC v):=⟨Dv hg hm r hd⟩
theorem Im {v:V} {u:Qz} (hg:Gl X x) (hm:X.mg x=none) (hv:bootBuiltins x=some u) (r:RelV v u) (hn:x ≠ "__name__") (hd:(x==("__debug__" : Str))=false):JE X (.Name x pos) (tC v):=⟨Dj hg hm hv r hn hd⟩
theorem eOp {op:Operator} {r:R2} (ho:OpR X (binaryOp op) r) (ha:JE X a ta) (hb:JE X b tb):JE X (.BinOp a op b pos) (tOp r ta tb):=⟨Ka ho ha.h hb.h⟩
theorem eUn {op:UnaryOp} {r:V->Hp->VK->Prop} (ho:UnR X (unaryOp op) r) (ha:JE X a ta):JE X (.UnaryOp op a pos) (tUn r ta):=⟨Kd ho ha.h⟩
theorem NN (ha:JE X a ta):JE X (.UnaryOp .Not a pos) (D5 ta):=⟨FU ha.h⟩
theorem uH {op} (h:JE X a te):JE X (.BoolOp op [a] pos) te:=⟨EW h.h⟩
theorem uU (ha:JE X a ta) (hb:JE X (.BoolOp .And (b :: rest) pos) tb):JE X (.BoolOp .And (a :: b :: rest) pos) (Cd ta tb):=⟨FR ha.h hb.h⟩
theorem eOr (ha:JE X a ta) (hb:JE X (.BoolOp .Or (b :: rest) pos) tb):JE X (.BoolOp .Or (a :: b :: rest) pos) (JX ta tb):=⟨Lq ha.h hb.h⟩
theorem eIf (hc:JT X c tA) (ha:JE X a ta) (hb:JE X b tb):JE X (.IfExp c a b pos) (tIf tA ta tb):=⟨zS hc.h ha.h hb.h⟩
theorem mX {op:CmpOp} {r:R2} (ho:OpR X (compareOp op) r) (ha:JE X a ta) (hb:JE X b tb) (hm:behindInMarks op b=false):JE X (.Compare a [op] [b] pos) (tOp r ta tb):=⟨DU ho ha.h hb.h hm⟩
theorem fM {op:CmpOp} {r:R2} (ho:OpR X (compareOp op) r) (ha:JE X a ta) (hb:JE X b tb) (hm:behindInMarks op b=false):JT X (.Compare a [op] [b] pos) (uE (tOp r ta tb)):=⟨CZ ho ha.h hb.h hm⟩
theorem wL {op op':CmpOp} {r r':R2} (ho:OpR X (compareOp op) r) (ho':OpR X (compareOp op') r') (ha:JE X a ta) (hb:JE X b tb) (hc:JE X c tc) (hm:lastMarks [op,op'] [b,c]=false):JE X (.Compare a [op,op'] [b,c] pos) (nM r r' ta tb tc):=⟨Ax ho ho' ha.h hb.h hc.h hm⟩
theorem mJ {op op':CmpOp} {r r':R2} (ho:OpR X (compareOp op) r) (ho':OpR X (compareOp op') r') (ha:JE X a ta) (hb:JE X b tb) (hc:JE X c tc) (hm:lastMarks [op,op'] [b,c]=false):JT X (.Compare a [op,op'] [b,c] pos) (uE (nM r r' ta tb tc)):=⟨zK ho ho' ha.h hb.h hc.h hm⟩
theorem zG (h:JE X e te) (he:∀ whole,isTrue e X.env whole=(do let v<-whole;standAt e.pos;holding [v] (truthy v))):JT X e (tB te):=⟨HJ h.h he⟩
theorem gR (ha:JT X a tA):JT X (.UnaryOp .Not a pos) (JU tA):=⟨FH ha.h⟩
theorem kq (ha:JT X a tA):JW X (.BoolOp .And [a] pos) tA:=⟨pw_and1 ha.h⟩
theorem jU (ha:JT X a tA):JW X (.BoolOp .Or [a] pos) tA:=⟨pw_or1 ha.h⟩
theorem qv (ha:JT X a tA) (hb:JW X (.BoolOp .And (b :: rest) pos) tB'):JW X (.BoolOp .And (a :: b :: rest) pos) (Kj tA tB'):=⟨pw_and ha.h hb.h⟩
theorem wg (ha:JT X a tA) (hb:JW X (.BoolOp .Or (b :: rest) pos) tB'):JW X (.BoolOp .Or (a :: b :: rest) pos) (tOr tA tB'):=⟨pw_or ha.h hb.h⟩
theorem eW (h:JW X e tA):JT X e tA:=⟨PW.pt h.h⟩
theorem dR {x1} (h:JA X es t):JE X (.Tuple es x1 pos) (Lb t):=⟨F3 h.h⟩
theorem aM (h:JA X es t):JE X (.List es pos) (JB t):=⟨FO h.h⟩
theorem eIx {r:R2} (hr:IxR X r) (ha:JE X a ta) (hb:JE X b tb) (hs:qG b):JE X (.Subscript a b pos) (tOp r ta tb):=⟨LQ hr ha.h hb.h hs⟩
theorem Gz:JO X none vX:=⟨Cu⟩
theorem eP (h:JE X e te):JO X (some e) (Hy te):=⟨CC h.h⟩
theorem eSl {p2:Pos} {lo hi:Option Expr} {tl th:TO} {r:V->Option Int->Option Int->Hp->VK->Prop} (hr:SlR X r) (he:JE X e te) (hl:JO X lo tl) (hu:JO X hi th):JE X (.Subscript e (.Slice lo hi none p2) pos) (tSl r te tl th):=⟨Ap hr he.h hl.h hu.h⟩
theorem Kz {i:Nat} {pos':Pos} (he:JE X e te) (hN:X.N.Nodup) (hi:X.N[i]?=some x) (hx:Loc X.env.scope x) (hs:swapsWith e (some (.Name x pos')) pos.line X.env=pure false) (hf:X.fn x=true\/X.env.scope.names.lookup x=some .local) :
  JS X (.Assign [.Name x pos'] e pos) (yX te (fX i)):=⟨BX hN hi hx he.h hs hf⟩
theorem GR {tg:Expr} {g:TG} (he:JE X e te) (hg:JG X tg g) (hs:swapsWithSole [tg] e pos.line X.env=pure false) (hw:swappedStores [tg] e X.env=pure none) (h1:(assignEach [tg] X.env).map (·.2)=[assign tg X.env]):JS X (.Assign [tg] e pos) (yX te g):=⟨Ih he.h hg.h hs hw h1⟩
theorem NJ {iter tg:Expr} {body:List Stmt} {wi:TI} {g:TG} {tb:TS} (hi:JI X tg iter wi) (hg:JG X tg g) (hb:JSs X body tb) (hp:PassesOwn (model X.prog X.w) X.A X.env X.xe) (hc:X.calm=true) (hs:∀ x,foldedSetIterable iter X.env x=pure x):JS X (.For tg iter body [] pos) (Iq wi g tb):=⟨HM hp hc hi.h hg.h hb.h hs⟩
theorem rV {c:Expr} {body:List Stmt} {tc:TT} {tb:TS} (hc:JT X c tc) (hb:JSs X body tb) (hp:PassesOwn (model X.prog X.w) X.A X.env X.xe):JS X (.While c body [] pos) (wo tc tb):=⟨Am hp hc.h hb.h⟩
theorem bU {a b:List Stmt} {tc:TT} {t u:TS} (hc:JT X c tc) (ha:JSs X a t) (hb:JSs X b u):JS X (.If c a b pos) (IK tc t u):=⟨Kl hc.h ha.h hb.h⟩
theorem aT (he:JE X e te):JS X (.Return (some e) pos) (GL te):=⟨HQ he.h⟩
theorem eGN {i:Nat} (hN:X.N.Nodup) (hi:X.N[i]?=some x) (hx:Loc X.env.scope x) (hf:X.fn x=true\/X.env.scope.names.lookup x=some .local):JG X (.Name x pos) (fX i):=⟨p0 hN hi hx hf⟩
theorem bM (he:JE X e te) (hs:swapsWith e none pos.line X.env=pure false):JS X (.Expr e pos) (EB te):=⟨Dz he.h hs⟩
theorem Ke {o i:Expr} {to ti:TE} {t:Jc} (ho:JE X o to) (hi:JE X i ti) (hs:LN X t) (ha:∀ v,assign (.Subscript o i pos) X.env v=(do
   let ov<-holding [v] (eval o X.env)
   let iv<-holding [v,ov] (eval i X.env)
   standAt pos
   holding [v,ov,iv] (setItem ov iv v)
   release [v,ov,iv] [])):JG X (.Subscript o i pos) (Mm to ti t):=⟨Ha ho.h hi.h hs ha⟩
theorem cf:JSs X [] zY:=⟨CP⟩
theorem aI {s:Stmt} {t:TS} (h:JS X s t):JSs X [s] t:=⟨wm h.h⟩
theorem aq {s:Stmt} {rest:List Stmt} {t u:TS} (h:JS X s t) (hr:JSs X rest u):JSs X (s :: rest) (IG t u):=⟨zT h.h hr.h⟩
theorem Kk {elt iter:Expr} {px:Pos} {ifs:List Expr} {scope:Scope} {wi:TI} {tt:TT} {js:List Nat} (ys:List Str) (hi:JI X (.Name x px) iter wi) (ht:JTs X (x :: ys) scope ifs tt) (he:JC X (x :: ys) scope elt te)
  (hc:X.calm=true) (B:ke X scope x) (nd:(x :: ys).Nodup) (cap:iQ X scope ys js) (hs:∀ x,foldedSetIterable iter X.env x=pure x):JE X (.ListComp elt [⟨.Name x px,iter,ifs,0⟩] scope pos) (Ay js wi tt te):=⟨Dq hc hi.h B nd cap ht.h he.h hs⟩
theorem eC {N:List Str} {scope:Scope} (h:∀ C s3 H3 ex,JE (cxB X N scope C s3 H3 ex) e te):JC X N scope e te:=⟨fun C s3 H3 ex=>(h C s3 H3 ex).h⟩
theorem eT0 {N:List Str} {scope:Scope}:JTs X N scope [] Lw:=⟨fun _ _ _ _=>DA⟩
theorem eBM {apos cpos:Pos} {o:Expr} {name:Str} {to:TE} {r:V->List V->Hp->VK->Prop} (ho:JE X o to) (ha:JA X (e :: es) t) (hm:MtR X id r) (pa:PlainAttrs T) (slot:Slot T name id) (hty:typeOf (.builtin id)=pure (.type "method_descriptor"))
  (hbase:attributeBase o name X.env (eval o X.env)=eval o X.env)
  (hfew:((backTo cpos (starEach (e :: es) X.env)).all (fun x=>!x.1)&&(backToKw cpos (keywordEach [] X.env)).all (fun x=>x.1.isSome)
   && decide ((e :: es).length+([]:List Keyword).length+(if ([]:List Keyword).isEmpty then 0 else 1) < 30))=true)
  (hline:(apos.endLine==cpos.line)=true) (h1:PySem.W.isStarred e=false) (h2:es.all (fun e=>!PySem.W.isStarred e)=true):JE X (.Call (.Attribute o name apos) (e :: es) [] cpos) (tBM X.K T r to t):=⟨Ki pa slot hty hm ho.h ha.h hbase hfew hline (aV h1) (bG h2)⟩
end
open PySem.Spec PyProof.Rows
noncomputable def tyN:Qq->String
 | .none => "NoneType" | .bool _ => "bool" | .int _ => "int" | .str _ => "str" | .list _ => "list" | .tuple _ => "tuple" | .dict _ => "dict"
noncomputable def isS:Qq->Bool | .str _=>true | _=>false
noncomputable def isI:Qq->Bool | .int _=>true | .bool _=>true | _=>false
noncomputable def isB:Qq->Bool | .bool _=>true | _=>false
noncomputable def isT:Qq->Bool | .tuple _=>true | _=>false
noncomputable def isL:Qq->Bool | .list _=>true | _=>false
section
variable {K:Fg}
theorem Kq (d:Qq):PySem.W.kitOne K (.type (tyN d)) (.type "str")=some (isS d):=by cases d <;> with_unfolding_all rfl
theorem L0 (d:Qq):PySem.W.kitOne K (.type (tyN d)) (.type "int")=some (isI d):=by cases d <;> with_unfolding_all rfl
theorem Kp (d:Qq):PySem.W.kitOne K (.type (tyN d)) (.type "bool")=some (isB d):=by cases d <;> with_unfolding_all rfl
theorem Jm (d:Qq):PySem.W.kitOne K (.type (tyN d)) (.type "tuple")=some (isT d):=by cases d <;> with_unfolding_all rfl
theorem Lh (d:Qq):PySem.W.kitOne K (.type (tyN d)) (.type "list")=some (isL d):=by cases d <;> with_unfolding_all rfl
variable {p:Qx} {H:Hp} {d:Qq} {v:V} {Q:VK}
end
theorem d5 {b:Bool} {A B:Prop} (e:b=true) (h:A):if b=true then A else B:=by rw [Og e];exact h
theorem cO {b:Bool} {A B:Prop} (e:b=false) (h:B):if b=true then A else B:=by rw [Ot (by rw [e];exact Pc)];exact h
theorem iM {b:Bool} {A B:Prop} (h1:b=true->A) (h2:b=false->B):if b=true then A else B:=by
 cases b with
 | true=>rw [Og rfl];exact h1 rfl
 | false=>rw [Ot Pc];exact h2 rfl
section
variable {r r':R2} {x y:V} {H:Hp} {Q:VK}
theorem HK {K:Fg} {z:Str} (l:z.length<=sizeLine) (h:Q (.int z.length) H):Ht K [.str z] H Q:=⟨_,_,rfl,⟨l,rfl⟩,h⟩
theorem FE {K:Fg} {p:Qx} {xs:List V} (s:SqL K H p xs) (h:Q (.int xs.length) H):Ht K [.ref p] H Q:=⟨_,_,rfl,.inl ⟨xs,s,rfl⟩,h⟩
theorem Gg {K:Fg} {p:Qx} {xs:List V} (s:SqT K H p xs) (h:Q (.int xs.length) H):Ht K [.ref p] H Q:=⟨_,_,rfl,.inr ⟨xs,s,rfl⟩,h⟩
theorem Kc {i:Int} (h:Q (.int (if i < 0 then -i else i)) H):Ko [.int i] H Q:=⟨i,rfl,h⟩
end
theorem Fun.okJ {P:Program} {w:World} {K:Fg} {mg:Str->Option Qz} {base:Heap} {x qual:Str} {st:Stmt} {f:Qx} {fd:FuncData} {N ps:List Str} {k:Nat} {sp:Sp} (F:Fun K x qual st f fd) (S:b7 N ps (ag st)) (len:∀ vs H Q E,sp vs H Q E->vs.length=ps.length)
  (hbody:∀ (cdv:Qz) (A:Around) (outer:List Env) (s:Qv) (H:Hp) (vs:List V) (Q:VK) (E:XK),dg k (A.deeper (envOfC qual (ag st) s.heap.objs.size f cdv))->sp vs H Q E ->
   ∃ t,JSs (tS CX0 P w K mg base N qual (ag st) f cdv A outer s H E).nox (aU st) t/\t { nx:=fun _ H'=>Q .non H',rt:=Q } (start N vs) H):c8 P w K mg base CX0 (k+1) f fd ps sp :=
 F.ok S len fun cdv A outer s H vs Q E hr h=>let ⟨t,j,q⟩:=hbody cdv A outer s H vs Q E hr h;⟨t,j.h,q⟩
theorem fg:∀ {ss:List Str} {us:List Qz},Vals (ss.map V.str) us->StrsAre us ss
 | [],_,r=>by cases r;exact .nil
 | s :: ss,_,r=>by
  cases r with
  | cons r1 r2 =>
   obtain ⟨t,rfl⟩:=r1;exact .cons _ _ (fg r2)
theorem yR:∀ {ss:List Str} {us:List Qz},StrsAre us ss->Vals (ss.map V.str) us
 | [],_,r=>by cases r;exact .nil
 | s :: ss,_,r=>by
  cases r with
  | cons _ _ r2=>exact .cons ⟨_,rfl⟩ (yR r2)
section
variable {X:Cx}
def BU (K:Fg):List V->Hp->VK->Prop:=fun xs H Q=>∃ (a:Qx) (ss:List Str),xs=[.ref a]/\SqL K H a (ss.map V.str)/\ss.length < 64/\∀ p ss',H p=none->ss'.Perm ss->sortedS ss'=true->Q (.ref p) (upd H p (.lst (ss'.map V.str)))
theorem oM:bN X (.builtin "sorted") (BU X.K):=by
 intro pins s Z H xs us Q I r h;obtain ⟨a,ss,rfl,hq,h64,q⟩:=h;obtain ⟨u,rfl,r1⟩:=vals1 r;cases (show u=Value.ref a from r1);obtain ⟨its,rv,p,hz⟩:=I.list hq;have hS:=fg rv;have hl:its.length=ss.length:=by rw [<- rv.length,N6]
 refine sorted_strs p.isList hS (by omega) fun out ss' h1 h2 h3=>?_;obtain ⟨e,he⟩:=sortedAll_at s.heap its out;have hn:H (s.heap.objs.size+1)=none:=I.hok.fresh (Qd _);have hl':ss'.length<=sizeLine:=by rw [h2.length_eq];exact Oy (Nat.le_of_lt h64) (by decide)
 refine ⟨.ref (s.heap.objs.size+1),_,I.laid (t':=s.toks) (o:=.lst (ss'.map V.str)) (fun b o hb=>sortedAll_old hb) (Qd _) ?_,rfl,q _ ss' hn h2 h3⟩;exact ⟨by rw [N6];exact hl',out.toList,e,yR h1,by rw [Array.toArray_toList];exact he⟩
def uV:V->List V->Hp->VK->Prop:=fun x vs H Q=>∃ z y:Str,x=.str z/\vs=[.str y]/\Q (.bl (decide (y.length<=z.length)&&Builtin.Str.subAt z y 0)) H
theorem oF:MtM X "str.startswith" uV:=by
 intro pins s Z H x vs v us Q I rx rv h;obtain ⟨z,y,rfl,rfl,q⟩:=h;obtain ⟨t,rfl⟩:=rx;obtain ⟨u,rfl,ru⟩:=rv.one;obtain ⟨t',rfl⟩:=ru;refine P0 F.slot_str_startswith (typeIs_str _ _ _) F.entry_str_startswith (F.args_str_startswith_2 _ _) (gives_str_startswith z y t t').meets ?_;exact ⟨.bl _,H,I,by simp only [Qj];rfl,q⟩
def Bz (K:Fg):List V->Hp->VK->Prop:=fun xs H Q=>∃ p ys,xs=[.ref p]/\((SqL K H p ys/\∀ l,H l=none->Q (.ref l) (upd H l (.tup ys)))\/(SqT K H p ys/\Q (.ref p) H))
def LO:R2:=fun x y H Q=>y=.non/\Q (.bl (decide (x=.non))) H
def HH:R2:=fun x y H Q=>y=.non/\Q (.bl (!decide (x=.non))) H
theorem qo:bN X (.type "tuple") (Bz X.K):=lV
theorem qH:OpR X (compareOp .Is) LO:=E3
theorem A5:OpR X (compareOp .IsNot) HH:=Cn
end
def Mo (K:Fg) (te:TE):TT:=fun Z H Q=>te Z H fun x H'=>∃ k,IV K x H' k/\Q k H'
theorem MD {X:Cx} {e:Expr} {te:TE} (h:JE X e te) (he:∀ whole,isTrue e X.env whole=(do let v<-whole;standAt e.pos;holding [v] (truthy v))):JT X e (Mo X.K te):=⟨Av h.h he⟩
structure JGl (X:Cx) (es:List Expr) (t:TGs):Prop where
 h:PGs X es t
section
variable {X:Cx} {es:List Expr} {t:TGs} {pos:Pos} {x:Str} {i:Nat}
theorem ME:JGl X [] Ln:=⟨C9⟩
theorem F9 (hN:X.N.Nodup) (hi:X.N[i]?=some x) (hx:Loc X.env.scope x) (hf:X.fn x=true\/X.env.scope.names.lookup x=some .local) (h:JGl X es t):JGl X (.Name x pos :: es) (DQ (fX i) t):=⟨zF (p0 hN hi hx hf) h.h rfl⟩
theorem eGT {n:Nat} {k} (hc:X.calm=true) (h:JGl X es t) (hn:(assignEach es X.env).length=n) (hst:(assignEach es X.env).findIdx? (·.1)=none):JG X (.Tuple es k pos) (LK X.K n t):=⟨Fd hc h.h hn hst⟩
end
section
variable {X:Cx}
def GO:List V->Hp->VK->Prop:=fun xs H Q=>(∃ i:Int,xs=[.int i]/\i.natAbs.log2 < 1920/\Q (.str (toString i)) H)\/(xs=[.non]/\Q (.str "None") H)\/∃ x,xs=[.str x]/\Q (.str x) H
theorem vY:bN X (.type "str") GO:=by
 intro pins s Z H xs us Q I r h;rcases h with ⟨i,rfl,hz,q⟩ | ⟨rfl,q⟩ | ⟨x,rfl,q⟩
 ·obtain ⟨u,rfl,t,rfl⟩:=vals1 r;exact PySem.P.str_of_int hz ⟨.str _,H,I.tok _,⟨_,rfl⟩,q⟩
 ·obtain ⟨u,rfl,r1⟩:=vals1 r;cases r1;exact PySem.P.str_of_none ⟨.str _,H,I.tok _,⟨_,rfl⟩,q⟩
 ·obtain ⟨u,rfl,t,rfl⟩:=vals1 r;exact PySem.P.str_of_str ⟨.str _,H,I,⟨_,rfl⟩,q⟩
def tFv (te:TE):TE:=fun Z H Q=>te Z H fun x H1=>∃ y,x=.str y/\y.length<=sizeLine/\Q (.str y) H1
def tFs:List TE->Str->TE
 | [],out=>fun _ H Q=>out.length<=sizeLine/\Q (.str out) H
 | t :: ts,out=>fun Z H Q=>t Z H fun x H1=>∃ y,x=.str y/\(out++y).length<=sizeLine/\tFs ts (out++y) Z H1 Q
def PFs (X:Cx) (vs:List Expr) (ts:List TE):Prop :=
 ∀ (pins:List (Qx×Obj)) (s:Qv) (Z:St) (H:Hp) (Q:VK) (out:Str),Inv X pins Z H s->tFs ts out Z H Q->wpAny (model X.prog X.w) X.A (joinParts out (evalEach vs X.env)) (EP X pins Z Q) X.xe s
theorem CL:PFs X [] []:=by
 intro pins s Z H Q out I h;exact joinParts_nil ⟨.str out,H,I.tok _,⟨_,rfl⟩,h.2⟩ h.1
theorem Af {v:Expr} {vs:List Expr} {t:TE} {ts:List TE} (hv:PE X v t) (hr:PFs X vs ts):PFs X (v :: vs) (t :: ts):=by
 intro pins s Z H Q out I h;show wpAny _ _ (joinParts out (eval v X.env :: evalEach vs X.env)) _ _ s;refine joinParts_cons (thn (hv pins s Z H _ I h) fun u s1 ⟨x,H1,I1,r1,y,ex,hz,q⟩=>?_);subst ex;obtain ⟨t',rfl⟩:=r1;exact ⟨hz,hr pins s1 Z H1 Q _ I1 q⟩
theorem LP {e:Expr} {te:TE} {pos:Pos} (he:PE X e te):PE X (.FormattedValue e (-1) none pos) (tFv te):=by
 intro pins s Z H Q I h;refine FormattedValue_plain (thn (he pins s Z H _ I h) fun u s1 ⟨x,H1,I1,r1,y,ex,hz,q⟩=>?_);subst ex;obtain ⟨t',rfl⟩:=r1;exact formatField_str (fun t2 tk=>⟨.str y,H1,I1.tok _,⟨_,rfl⟩,q⟩) hz
theorem KY {v1 v2:Expr} {rest:List Expr} {pos:Pos} {ts:List TE} (h:PFs X (v1 :: v2 :: rest) ts):PE X (.JoinedStr (v1 :: v2 :: rest) pos) (tFs ts Str.empty):=by
 intro pins s Z H Q I hw;exact JoinedStr_many (h pins s Z H Q Str.empty I hw)
end
structure JF (X:Cx) (vs:List Expr) (ts:List TE):Prop where
 h:PFs X vs ts
section
variable {X:Cx}
theorem eF0:JF X [] []:=⟨CL⟩
theorem eFc {v:Expr} {vs:List Expr} {t:TE} {ts:List TE} (hv:JE X v t) (hr:JF X vs ts):JF X (v :: vs) (t :: ts):=⟨Af hv.h hr.h⟩
theorem eFv {e:Expr} {te:TE} {pos:Pos} (he:JE X e te):JE X (.FormattedValue e (-1) none pos) (tFv te):=⟨LP he.h⟩
theorem eFs {v1 v2:Expr} {rest:List Expr} {pos:Pos} {ts:List TE} (h:JF X (v1 :: v2 :: rest) ts):JE X (.JoinedStr (v1 :: v2 :: rest) pos) (tFs ts Str.empty):=⟨KY h.h⟩
end
def BH (K:Fg):V->List V->Hp->VK->Prop:=fun x vs H Q=>∃ (z:Str) (a:Qx) (ss:List Str),x=.str z/\vs=[.ref a]/\(SqL K H a (ss.map V.str)\/SqT K H a (ss.map V.str))/\(ss.map (·.length)).sum+ss.length*z.length<=16777216/\Q (.str (Txt.join z ss)) H
theorem mH {X:Cx}:MtM X "str.join" (BH X.K):=by
 intro pins s Z H x vs v us Q I rx rv h;obtain ⟨z,a,ss,rfl,rfl,hq,hok,q⟩:=h;obtain ⟨t,rfl⟩:=rx;obtain ⟨u,rfl,ru⟩:=rv.one;cases (show u=Value.ref a from ru);rcases hq with hq | hq
 ·obtain ⟨its,r,p,hz⟩:=I.list hq;exact join_list p.isList (by simpa using fg r) hok fun t' k=>⟨.str _,H,I.tok k,⟨t',rfl⟩,q⟩
 ·obtain ⟨its,r,p,hz⟩:=I.tuple hq;exact join_tuple p (by simpa using fg r) hok fun t' k=>⟨.str _,H,I.tok k,⟨t',rfl⟩,q⟩
section
variable {X:Cx}
def FQ (K:Fg):R2:=fun x y H Q=>∃ l b xs zs,x=.ref l/\y=.ref b/\SqL K H l xs/\SqL K H b zs/\xs.length+zs.length<=sizeLine/\∀ p,H p=none->Q (.ref p) (upd H p (.lst (xs++zs)))
theorem DM:OpR X (binaryOp .Add) (FQ X.K):=by
 intro pins s Z H x y v u Q I rx ry h;obtain ⟨l,b,xs,zs,rfl,rfl,hH,hB,hz,q⟩:=h;cases rx;cases ry;obtain ⟨its,r,p,_⟩:=I.list hH;obtain ⟨its2,r2,p2,_⟩:=I.list hB;obtain ⟨⟨cls,dd,data,sl⟩,n,ho,hc,hd0,hd⟩:=p;obtain ⟨⟨cls2,dd2,data2,sl2⟩,n2,ho2,hc2,hd02,hd2⟩:=p2;simp only at hc hd hc2 hd2;subst hc hd hc2 hd2;have e:its.toArray++its2.toArray=(its++its2).toArray:=by simp
 refine concat_meets ⟨_,ho,rfl⟩ ⟨_,ho2,rfl⟩ noFill_list_add seq_list_add PySem.F.slot_list_add PySem.F.entry_list_add (PySem.F.args_list_add_2 _ _) (list_addW l b its.toArray its2.toArray n n2 dd dd2 sl sl2 (by rw [Om,Om,<-r.length,<-r2.length];exact hz)) ⟨ho,ho2,?_⟩;rw [e];exact ⟨.ref _,_,I.MA (t':=s.toks) (r.append r2) (by rw [N5];omega),rfl,q _ I.fresh⟩
theorem oy (l:Qx) (items:Array Qz) (n:Nat) (b:Qx) (items2:Array Qz) (n2:Nat) (dd2:Option Qx) (sl2:Array (Option Qz)) (hc0:¬(!items.isEmpty&&Builtin.List.listTooLong (items.size+items2.size))=true) (hc1:items.size<=sizeLine) (hs2:items.size+items2.size<=sizeLine+1) :
  Meets (Builtin.«list.extend» ⟨[.ref l,.ref b],[]⟩) (fun _ R s=>s.heap.get? l=some { cls:=.type "list", dict:=none,data:=.seq items n,slots:=#[] }/\s.heap.get? b=some { cls:=.type "list", dict:=dd2,data:=.seq items2 n2,slots:=sl2 }/\R (.ok (.ret Value.none)) { s with heap:=s.heap.update l (Obj.mapSeq fun x=>x++items2),toks:=s.toks }) :=
 .of_wp fun prog w A R s h=>by
  obtain ⟨hp,g,d,tk,os⟩:=s;obtain ⟨hl,hb,h⟩:=h;have f1:=AutoSeq1.idx_int;have f2:=AutoSeq1.sub_tuple_tuple;have f3:=AutoSeq1.sub_list_list;have f4:=AutoSeq1.sub_tuple_list;have f5:=AutoSeq1.sub_list_tuple;have hz':(items++items2).size<=sizeLine+1:=by rw [Array.size_append];exact hs2
  wp_walk using (wpAny_updateSeq hl rfl (hz:=hc1) (_hz':=hz')),wpAny_loadPart' hl,wpAny_loadPart' hb;exact ⟨_,rfl,h⟩
def qQ (K:Fg):V->List V->Hp->VK->Prop:=fun x vs H Q=>∃ l b xs zs,x=.ref l/\vs=[.ref b]/\H l=some (.lst xs)/\SqL K H b zs/\xs.length+zs.length<=sizeLine/\Q .non (upd H l (.lst (xs++zs)))
theorem kF:MtM X "list.extend" (qQ X.K):=by
 intro pins s Z H x vs v us Q I rx rv h;obtain ⟨l,b,xs,zs,rfl,rfl,hH,hB,hz,q⟩:=h;cases rx;obtain ⟨u,rfl,ru⟩:=rv.one;cases ru;obtain ⟨z,its,n,r,hl,e⟩:=I.Mq hH;obtain ⟨its2,r2,p2,z2⟩:=I.list hB;have hl2:=r2.length;obtain ⟨⟨cls2,dd2,data2,sl2⟩,n2,e2,hc2,hd02,hd2⟩:=p2;simp only at hc2 hd2;subst hc2 hd2;have hsz:its.toArray.size+its2.toArray.size<=sizeLine:=by rw [Om,Om];omega
 have hlong:¬(!its.toArray.isEmpty&&Builtin.List.listTooLong (its.toArray.size+its2.toArray.size))=true:=by
  rw [zA hsz,Bool.and_false];exact Pc
 refine P0 F.slot_list_extend ⟨_,e,rfl⟩ F.entry_list_extend (F.args_list_extend_2 _ _) (oy l its.toArray n b its2.toArray n2 dd2 sl2 hlong (by rw [Om];omega) (by omega)) ⟨e,e2,?_⟩;refine ⟨.non,_,I.MN (its':=its++its2) hH e (by simp) (r.append r2) ?_,rfl,q⟩;rw [N5];omega
end
mutual
noncomputable def hkB:Qq->Bool
 | .int _=>true
 | .str _=>true
 | .tuple ds=>Mv ds
 | _=>false
noncomputable def Mv:List Qq->Bool
 | []=>true
 | d :: ds=>hkB d&&Mv ds
end
def hk6 (d:Qq):Bool:=hkB d&&decide (d.depth<=6)
end L2
namespace L2
open PySem
def Nv (K:Fg) (a:Qx) (xs:List V):Prop:=∃ (o:Obj) (its:Array Qz) (n:Nat),K.lookup a=some o/\o.cls=.type "list" /\ o.dict=none/\o.data=.seq its n/\its.size<=sizeLine/\Vals xs its.toList
def LsF (K:Fg) (F:Qx->Prop) (H:Hp) (a:Qx) (xs:List V):Prop:=(¬F a/\Rd H a (.lst xs))\/Nv K a xs
def clsAt:Qx:=417
noncomputable def NS:Qq->Str
 | .str f=>f
 | _=>Str.empty
def pX (xs:List (Qq×V×V)):List (Str×V):=xs.map fun x=>(NS x.1,x.2.2)
mutual
def Dm (K:Fg) (F:Qx->Prop) (H:Hp):Qq->V->Prop
 | .none,v=>v=.non
 | .bool b,v=>v=.bl b
 | .int i,v=>v=.int i
 | .str x,v=>v=.str x/\x.length<=sizeLine/\PyData.strOk x=true
 | .list ds,v=>∃ a xs,v=.ref a/\LsF K F H a xs/\xs.length<=sizeLine/\DmL K F H ds xs
 | .tuple ds,v=>∃ a xs,v=.ref a/\SqT K H a xs/\xs.length<=sizeLine/\DmL K F H ds xs
 | .dict kvs,v=>∃ a ep xs,v=.ref a/\¬F a/\H a=some (.ins clsAt ep (pX xs))/\xs.length<=sizeLine/\DmP K F H kvs xs
def DmL (K:Fg) (F:Qx->Prop) (H:Hp):List Qq->List V->Prop
 | [],vs=>vs=[]
 | d :: ds,vs=>∃ v r,vs=v :: r/\Dm K F H d v/\DmL K F H ds r
def DmP (K:Fg) (F:Qx->Prop) (H:Hp):List (Qq×Qq)->List (Qq×V×V)->Prop
 | [],vs=>vs=[]
 | (k,d) :: ds,vs=>∃ j v r,vs=(k,j,v) :: r/\hk6 k=true/\Dm K F H k j/\Dm K F H d v/\DmP K F H ds r
end
noncomputable def Wr:HO->Bool | .lst _=>true | .ins _ _ _=>true | _=>false
def Pr (F:Qx->Prop) (H H':Hp):Prop:=∀ b o,H b=some o->(¬F b\/Wr o=false)->H' b=some o
section
variable {K:PySem.W.Frag} {F F':Qx->Prop} {H H':Hp}
theorem SqT.pr (p:Pr F H H') (h:SqT K H a xs):SqT K H' a xs:=by
 rcases h with (h | ⟨o,h⟩) | h
 ·exact .inl (.inl (p _ _ h (.inr rfl)))
 ·exact .inl (.inr ⟨o,p _ _ h (.inr rfl)⟩)
 ·exact .inr h
theorem LsF.pr (p:Pr F H H') (hf:∀ b,F' b->F b) (h:LsF K F H a xs):LsF K F' H' a xs:=by
 rcases h with ⟨n,h | ⟨o,h⟩⟩ | h
 ·exact .inl ⟨fun z=>n (hf _ z),.inl (p _ _ h (.inl n))⟩
 ·exact .inl ⟨fun z=>n (hf _ z),.inr ⟨o,p _ _ h (.inl n)⟩⟩
 ·exact .inr h
mutual
theorem Dm.pr (p:Pr F H H') (hf:∀ b,F' b->F b):∀ {d:Qq} {v:V},Dm K F H d v->Dm K F' H' d v
 | .none,v,h=>h
 | .bool b,v,h=>h
 | .int i,v,h=>h
 | .str x,v,h=>h
 | .list ds,v,h=>by
  obtain ⟨a,xs,e,l,z,r⟩:=h;exact ⟨a,xs,e,l.pr p hf,z,DmL.pr p hf r⟩
 | .tuple ds,v,h=>by
  obtain ⟨a,xs,e,l,z,r⟩:=h;exact ⟨a,xs,e,l.pr p,z,DmL.pr p hf r⟩
 | .dict kvs,v,h=>by
  obtain ⟨a,ep,xs,e,n,l,z,r⟩:=h;exact ⟨a,ep,xs,e,fun q=>n (hf _ q),p _ _ l (.inl n),z,DmP.pr p hf r⟩
theorem DmL.pr (p:Pr F H H') (hf:∀ b,F' b->F b):∀ {ds:List Qq} {vs:List V},DmL K F H ds vs->DmL K F' H' ds vs
 | [],vs,h=>h
 | d :: ds,vs,h=>by
  obtain ⟨v,r,e,h1,h2⟩:=h;exact ⟨v,r,e,Dm.pr p hf h1,DmL.pr p hf h2⟩
theorem DmP.pr (p:Pr F H H') (hf:∀ b,F' b->F b):∀ {ds:List (Qq×Qq)} {vs:List (Qq×V×V)},DmP K F H ds vs->DmP K F' H' ds vs
 | [],vs,h=>h
 | (k,d) :: ds,vs,h=>by
  obtain ⟨j,v,r,e,e2,h0,h1,h2⟩:=h;exact ⟨j,v,r,e,e2,Dm.pr p hf h0,Dm.pr p hf h1,DmP.pr p hf h2⟩
end
theorem LsF.fresh (hc:H c=none) (h:LsF K F H a xs):LsF K (fun b=>F b\/b=c) H a xs:=by
 rcases h with ⟨n,h⟩ | h
 ·refine .inl ⟨fun z=>z.elim n fun e=>?_,h⟩;subst e;rcases h with h | ⟨o,h⟩ <;> (rw [hc] at h;cases h)
 ·exact .inr h
mutual
theorem Dm.fresh (hc:H c=none):∀ {d:Qq} {v:V},Dm K F H d v->Dm K (fun b=>F b\/b=c) H d v
 | .none,v,h=>h
 | .bool b,v,h=>h
 | .int i,v,h=>h
 | .str x,v,h=>h
 | .list ds,v,h=>by
  obtain ⟨a,xs,e,l,z,r⟩:=h;exact ⟨a,xs,e,l.fresh hc,z,DmL.fresh hc r⟩
 | .tuple ds,v,h=>by
  obtain ⟨a,xs,e,l,z,r⟩:=h;exact ⟨a,xs,e,l,z,DmL.fresh hc r⟩
 | .dict kvs,v,h=>by
  obtain ⟨a,ep,xs,e,n,l,z,r⟩:=h;exact ⟨a,ep,xs,e,fun q=>q.elim n fun q=>(by subst q;rw [hc] at l;cases l),l,z,DmP.fresh hc r⟩
theorem DmL.fresh (hc:H c=none):∀ {ds:List Qq} {vs:List V},DmL K F H ds vs->DmL K (fun b=>F b\/b=c) H ds vs
 | [],vs,h=>h
 | d :: ds,vs,h=>by
  obtain ⟨v,r,e,h1,h2⟩:=h;exact ⟨v,r,e,Dm.fresh hc h1,DmL.fresh hc h2⟩
theorem DmP.fresh (hc:H c=none):∀ {ds:List (Qq×Qq)} {vs:List (Qq×V×V)},DmP K F H ds vs->DmP K (fun b=>F b\/b=c) H ds vs
 | [],vs,h=>h
 | (k,d) :: ds,vs,h=>by
  obtain ⟨j,v,r,e,e2,h0,h1,h2⟩:=h;exact ⟨j,v,r,e,e2,Dm.fresh hc h0,Dm.fresh hc h1,DmP.fresh hc h2⟩
end
theorem Pr.refl:Pr F H H:=fun _ _ h _=>h
theorem Pr.trans (a:Pr F H H1) (b:Pr F' H1 H2) (hf:∀ b,F' b->F b):Pr F H H2:=fun c o h n=>b c o (a c o h n) (n.imp (fun z q=>z (hf _ q)) id)
theorem Pr.of_same (a:aZ H H'):Pr F H H':=fun c o h _=>a c o h
theorem Dm.mono (hf:∀ b,F' b->F b) (h:Dm K F H d v):Dm K F' H d v:=h.pr Pr.refl hf
theorem DmL.mono (hf:∀ b,F' b->F b) (h:DmL K F H d v):DmL K F' H d v:=h.pr Pr.refl hf
theorem DmL.len:∀ {ds:List Qq} {vs:List V},DmL K F H ds vs->vs.length=ds.length
 | [],vs,h=>by rw [show vs=[] from h];rfl
 | d :: ds,vs,h=>by
  obtain ⟨v,r,e,h1,h2⟩:=h;rw [e,Oc,Oc,DmL.len h2]
theorem DmL.get:∀ {ds:List Qq} {vs:List V} {i:Nat} {d:Qq},DmL K F H ds vs->ds[i]?=some d->∃ v,vs[i]?=some v/\Dm K F H d v
 | [],vs,_,_,h,e=>by simp at e
 | d :: ds,vs,0,d',h,e=>by
  obtain ⟨v,r,e1,h1,h2⟩:=h;simp at e;subst e;subst e1;exact ⟨v,rfl,h1⟩
 | d :: ds,vs,i+1,d',h,e=>by
  obtain ⟨v,r,e1,h1,h2⟩:=h;subst e1;obtain ⟨w,q1,q2⟩:=DmL.get (i:=i) h2 (by simpa using e);exact ⟨w,by simpa using q1,q2⟩
theorem DmL.get' {ds:List Qq} {vs:List V} {i:Nat} {v:V} (h:DmL K F H ds vs) (e:vs[i]?=some v):∃ d,ds[i]?=some d/\Dm K F H d v:=by
 have hl:=h.len;have hi:i < vs.length:=(N9.mp e).1;have hd:ds[i]?=some (ds[i]'(by omega)):=Oi _;obtain ⟨w,e2,q⟩:=h.get hd;rw [e] at e2;cases e2;exact ⟨_,hd,q⟩
theorem DmL.app:∀ {ds es:List Qq} {vs ws:List V},DmL K F H ds vs->DmL K F H es ws->DmL K F H (ds++es) (vs++ws)
 | [],es,vs,ws,h,q=>by rw [show vs=[] from h];exact q
 | d :: ds,es,vs,ws,h,q=>by
  obtain ⟨v,r,e,h1,h2⟩:=h;subst e;exact ⟨v,r++ws,rfl,h1,DmL.app h2 q⟩
theorem DmL.snoc (h:DmL K F H ds vs) (q:Dm K F H d v):DmL K F H (ds++[d]) (vs++[v]):=h.app ⟨v,[],rfl,q,rfl⟩
def Top (K:PySem.W.Frag) (F:Qx->Prop) (H:Hp):Qq->Qx->Prop
 | .list ds,a=>∃ xs,H a=some (.lst xs)/\xs.length<=sizeLine/\DmL K F H ds xs
 | .dict kvs,a=>∃ ep xs,H a=some (.ins clsAt ep (pX xs))/\xs.length<=sizeLine/\DmP K F H kvs xs
 | _,_=>False
def EK (K:PySem.W.Frag) (F:Qx->Prop) (H:Hp):Qq->Qx->Prop
 | .list ds,a=>∃ xs,SqL K H a xs/\xs.length<=sizeLine/\DmL K F H ds xs
 | .dict kvs,a=>∃ ep xs,H a=some (.ins clsAt ep (pX xs))/\xs.length<=sizeLine/\DmP K F H kvs xs
 | _,_=>False
def Vw (K:PySem.W.Frag) (F:Qx->Prop) (H:Hp):Qq->V->Prop
 | .list ds,v=>∃ a,v=.ref a/\EK K F H (.list ds) a
 | .dict ds,v=>∃ a,v=.ref a/\EK K F H (.dict ds) a
 | d,v=>Dm K F H d v
theorem Top.r (h:Top K F H d a):EK K F H d a:=by
 cases d with
 | list ds=>obtain ⟨xs,e,z,r⟩:=h;exact ⟨xs,.inl (.inl e),z,r⟩
 | dict ds=>exact h
 | _=>exact h
theorem EK.vw (h:EK K F H d a):Vw K F H d (.ref a):=by
 cases d with
 | list ds=>exact ⟨a,rfl,h⟩
 | dict ds=>exact ⟨a,rfl,h⟩
 | _=>exact absurd h id
theorem Dm.vw (h:Dm K F H d v):Vw K F H d v:=by
 cases d with
 | list ds =>
  obtain ⟨a,xs,e,l,z,r⟩:=h;refine ⟨a,e,xs,?_,z,r⟩;rcases l with ⟨n,l⟩ | l
  ·exact .inl l
  ·exact .inr l
 | dict ds=>obtain ⟨a,ep,xs,e,n,l,z,r⟩:=h;exact ⟨a,e,ep,xs,l,z,r⟩
 | _=>exact h
theorem Top.dm (h:Top K F H d a) (n:¬F a):Dm K F H d (.ref a):=by
 cases d with
 | list ds=>obtain ⟨xs,e,z,r⟩:=h;exact ⟨a,xs,rfl,.inl ⟨n,.inl e⟩,z,r⟩
 | dict ds=>obtain ⟨ep,xs,e,z,r⟩:=h;exact ⟨a,ep,xs,rfl,n,e,z,r⟩
 | _=>exact absurd h id
theorem Top.wr (h:Top K F H d a):∃ o,H a=some o/\Wr o=true:=by
 cases d with
 | list ds=>obtain ⟨xs,e,_⟩:=h;exact ⟨_,e,rfl⟩
 | dict ds=>obtain ⟨ep,xs,e,_⟩:=h;exact ⟨_,e,rfl⟩
 | _=>exact absurd h id
theorem Top.pr (h:Top K F H d a) (p:Pr F H H') (hf:∀ b,F' b->F b) (ha:∀ o,H a=some o->H' a=some o):Top K F' H' d a:=by
 cases d with
 | list ds=>obtain ⟨xs,e,z,r⟩:=h;exact ⟨xs,ha _ e,z,r.pr p hf⟩
 | dict ds=>obtain ⟨ep,xs,e,z,r⟩:=h;exact ⟨ep,xs,ha _ e,z,r.pr p hf⟩
 | _=>exact absurd h id
theorem Top.fresh (hc:H c=none) (h:Top K F H d a):Top K (fun b=>F b\/b=c) H d a:=by
 cases d with
 | list ds=>obtain ⟨xs,e,z,r⟩:=h;exact ⟨xs,e,z,r.fresh hc⟩
 | dict ds=>obtain ⟨ep,xs,e,z,r⟩:=h;exact ⟨ep,xs,e,z,r.fresh hc⟩
 | _=>exact absurd h id
end
inductive Sl where | un | dat (d:Qq) | own (d:Qq) | ino (d:Qq) | ro (d:Qq)
abbrev En:=List Sl
inductive RV where | dat (d:Qq) | bor (i:Nat) | frs (d:Qq)
inductive PR where | dat (d:Qq) | frs (d:Qq)
inductive AV where | dat (d:Qq) | bor (i:Nat)
inductive PM where | dat | bor | ino
def PR.rv:PR->RV | .dat d=>.dat d | .frs d=>.frs d
def RV.av:RV->AV | .dat d=>.dat d | .frs d=>.dat d | .bor i=>.bor i
structure Fn where
 ms:List PM
 F:List Qq->Option (PR×List Qq)
 X:List Qq->Option Int:=fun _=>none
noncomputable def cont (env:En) (i:Nat):Option Qq:=match env[i]? with | some (.own d)=>some d | some (.ino d)=>some d | some (.ro d)=>some d | _=>none
noncomputable def aR (env:En) (i:Nat):Option Qq:=match env[i]? with | some (.own d)=>some d | some (.ino d)=>some d | _=>none
noncomputable def fR (env:En) (i:Nat) (d:Qq):En:=match env[i]? with | some (.own _)=>env.set i (.own d) | some (.ino _)=>env.set i (.ino d) | _=>env
def AV.view (env:En):AV->Option Qq | .dat d=>some d | .bor i=>cont env i
def RV.view (env:En) (r:RV):Option Qq:=r.av.view env
def mu (env:En) (i:Nat):Prop:=∃ d,env[i]?=some (.own d)\/env[i]?=some (.ino d)
def IA (env:En) (Z:St) (b:Qx):Prop:=∃ i,mu env i/\Z[i]?=some (some (.ref b))
def FF (F0:Qx->Prop) (env:En) (Z:St) (b:Qx):Prop:=F0 b\/∃ (i:Nat) (d:Qq),env[i]?=some (.own d)/\Z[i]?=some (some (.ref b))
def jR (K:Fg) (F I:Qx->Prop) (H:Hp):Qq->Qx->Prop
 | .list ds,a=>∃ xs,LsF K I H a xs/\xs.length<=sizeLine/\DmL K F H ds xs
 | .dict kvs,a=>∃ ep xs,¬I a/\H a=some (.ins clsAt ep (pX xs))/\xs.length<=sizeLine/\DmP K F H kvs xs
 | _,_=>False
structure Rel (K:Fg) (F0:Qx->Prop) (ZY:Hp) (I:Qx->Prop) (env:En) (Z:St) (H:Hp):Prop where
 len:env.length=Z.length
 dat:∀ (i:Nat) (d:Qq),env[i]?=some (.dat d)->∃ v,Z[i]?=some (some v)/\Dm K (FF F0 env Z) H d v
 own:∀ (i:Nat) (d:Qq),env[i]?=some (.own d)->∃ a,Z[i]?=some (some (.ref a))/\¬F0 a/\(ZY a=none\/I a)/\Top K (FF F0 env Z) H d a
 ino:∀ (i:Nat) (d:Qq),env[i]?=some (.ino d)->∃ a,Z[i]?=some (some (.ref a))/\F0 a/\I a/\Top K (FF F0 env Z) H d a
 ro:∀ (i:Nat) (d:Qq),env[i]?=some (.ro d)->∃ a,Z[i]?=some (some (.ref a))/\jR K (FF F0 env Z) (IA env Z) H d a
 sep:∀ i j a,mu env i->mu env j->Z[i]?=some (some (.ref a))->Z[j]?=some (some (.ref a))->i=j
 dom:∀ b,F0 b->H b≠none
 gP:∀ b o,ZY b=some o->¬I b->H b=some o
section
variable {K:Fg} {F F' I I' F0:Qx->Prop} {H H' ZY:Hp} {env env':En} {Z Z':St}
theorem jR.r (h:jR K F I H d a):EK K F H d a:=by
 cases d with
 | list ds =>
  obtain ⟨xs,l,z,r⟩:=h;exact ⟨xs,l.elim (fun q=>.inl q.2) .inr,z,r⟩
 | dict ds=>obtain ⟨ep,xs,n,l,z,r⟩:=h;exact ⟨ep,xs,l,z,r⟩
 | _=>exact absurd h id
theorem jR.pr (h:jR K F I H d a) (p:Pr F H H') (hf:∀ b,F' b->F b) (hi:∀ b,I' b->I b) (k:∀ b o,H b=some o->¬I b->H' b=some o):jR K F' I' H' d a:=by
 cases d with
 | list ds =>
  obtain ⟨xs,l,z,r⟩:=h;refine ⟨xs,?_,z,r.pr p hf⟩;rcases l with ⟨n,l | ⟨o,l⟩⟩ | l
  ·exact .inl ⟨fun q=>n (hi _ q),.inl (k _ _ l n)⟩
  ·exact .inl ⟨fun q=>n (hi _ q),.inr ⟨o,k _ _ l n⟩⟩
  ·exact .inr l
 | dict ds=>obtain ⟨ep,xs,n,l,z,r⟩:=h;exact ⟨ep,xs,fun q=>n (hi _ q),k _ _ l n,z,r.pr p hf⟩
 | _=>exact absurd h id
theorem jR.fresh (hc:H c=none) (h:jR K F I H d a):jR K (fun b=>F b\/b=c) I H d a:=by
 cases d with
 | list ds=>obtain ⟨xs,e,z,r⟩:=h;exact ⟨xs,e,z,r.fresh hc⟩
 | dict ds=>obtain ⟨ep,xs,n,e,z,r⟩:=h;exact ⟨ep,xs,n,e,z,r.fresh hc⟩
 | _=>exact absurd h id
theorem Dm.ro (h:Dm K F H d v) (hi:∀ b,I b->F b) (l:(∃ ds,d=.list ds)\/∃ ds,d=.dict ds):∃ a,v=.ref a/\jR K F I H d a:=by
 rcases l with ⟨ds,rfl⟩ | ⟨ds,rfl⟩
 ·obtain ⟨a,xs,e,l,z,r⟩:=h;exact ⟨a,e,xs,l.elim (fun q=>.inl ⟨fun z=>q.1 (hi _ z),q.2⟩) .inr,z,r⟩
 ·obtain ⟨a,ep,xs,e,n,l,z,r⟩:=h;exact ⟨a,e,ep,xs,fun q=>n (hi _ q),l,z,r⟩
theorem Top.ro (h:Top K F H d a) (n:¬I a):jR K F I H d a:=by
 cases d with
 | list ds=>obtain ⟨xs,e,z,r⟩:=h;exact ⟨xs,.inl ⟨n,.inl e⟩,z,r⟩
 | dict ds=>obtain ⟨ep,xs,e,z,r⟩:=h;exact ⟨ep,xs,n,e,z,r⟩
 | _=>exact absurd h id
theorem Rel.ia (R:Rel K F0 ZY I env Z H) (h:IA env Z b):FF F0 env Z b:=by
 obtain ⟨i,⟨d,e | e⟩,s⟩:=h
 ·exact .inr ⟨i,d,e,s⟩
 ·obtain ⟨a,s',f,_⟩:=R.ino i d e;rw [s] at s';cases s';exact .inl f
theorem Rel.iaT (R:Rel K F0 ZY I env Z H) (h:IA env Z b):∃ o,H b=some o/\Wr o=true:=by
 obtain ⟨i,⟨d,e | e⟩,s⟩:=h
 ·obtain ⟨a,s',_,_,t⟩:=R.own i d e;rw [s] at s';cases s';exact t.wr
 ·obtain ⟨a,s',_,_,t⟩:=R.ino i d e;rw [s] at s';cases s';exact t.wr
theorem Rel.iaI (R:Rel K F0 ZY I env Z H) (h:IA env Z b):ZY b=none\/I b:=by
 obtain ⟨i,⟨d,e | e⟩,s⟩:=h
 ·obtain ⟨a,s',_,q,t⟩:=R.own i d e;rw [s] at s';cases s';exact q
 ·obtain ⟨a,s',_,q,t⟩:=R.ino i d e;rw [s] at s';cases s';exact .inr q
theorem Rel.d4 (R:Rel K F0 ZY I env Z H) (h:FF F0 env Z b):H b≠none:=by
 rcases h with h | ⟨i,d,e,s⟩
 ·exact R.dom b h
 ·obtain ⟨o,q,_⟩:=R.iaT ⟨i,⟨d,.inl e⟩,s⟩;rw [q];exact nofun
theorem Rel.uK (R:Rel K F0 ZY I env Z H) (k:∀ b o,H b=some o->¬IA env Z b->H' b=some o):Pr (FF F0 env Z) H H':=fun b o h n=>k b o h fun q=>by
 rcases n with n | n
 ·exact n (R.ia q)
 ·obtain ⟨o',h',w⟩:=R.iaT q;rw [h] at h';cases h';rw [n] at w;cases w
theorem Rel.rebase (R:Rel K F0 ZY I env Z H):Rel K F0 H (IA env Z) env Z H :=
 ⟨R.len,R.dat,fun i d e=>let ⟨a,s,n,_,t⟩:=R.own i d e;⟨a,s,n,.inr ⟨i,⟨d,.inl e⟩,s⟩,t⟩,fun i d e=>let ⟨a,s,n,_,t⟩:=R.ino i d e;⟨a,s,n,⟨i,⟨d,.inr e⟩,s⟩,t⟩,R.ro,R.sep,R.dom,fun _ _ h _=>h⟩
theorem Rel.oi (R:Rel K F0 ZY I env Z H) (h:H a=none\/IA env Z a):ZY a=none\/I a:=by
 rcases h with h | h
 ·cases e:ZY a with
  | none=>exact .inl rfl
  | some o =>
   by_cases z:I a
   ·exact .inr z
   ·have:=R.gP a o e z;rw [h] at this;cases this
 ·exact R.iaI h
theorem Rel.cB (R:Rel K F0 ZY I env Z H) (S:Rel K F0 H (IA env Z) env' Z' H'):Rel K F0 ZY I env' Z' H':=by
 refine ⟨S.len,S.dat,fun i d e=>?_,fun i d e=>?_,S.ro,S.sep,S.dom,fun b o h n=>?_⟩
 ·obtain ⟨a,s,n,q,t⟩:=S.own i d e;exact ⟨a,s,n,R.oi q,t⟩
 ·obtain ⟨a,s,n,q,t⟩:=S.ino i d e;refine ⟨a,s,n,?_,t⟩;obtain ⟨j,⟨d',e' | e'⟩,s'⟩:=q
  ·obtain ⟨a',s2,n',_⟩:=R.own j d' e';rw [s'] at s2;cases s2;exact absurd n n'
  ·obtain ⟨a',s2,_,n',_⟩:=R.ino j d' e';rw [s'] at s2;cases s2;exact n'
 ·refine S.gP b o (R.gP b o h n) fun q=>?_;rcases R.iaI q with z | z
  ·rw [h] at z;cases z
  ·exact n z
def Evo:Sl->Sl->Prop
 | .un,s=>s=.un
 | .dat d,s=>s=.dat d
 | .own _,s=>(∃ d,s=.own d)\/(∃ d,s=.dat d)\/s=.un
 | .ino _,s=>∃ d,s=.ino d
 | .ro d,s=>s=.ro d
def KpE (env env':En):Prop:=env'.length=env.length/\∀ (i:Nat) (s:Sl),env[i]?=some s->∃ s',env'[i]?=some s'/\Evo s s'
theorem Evo.refl:∀ s,Evo s s
 | .un=>rfl
 | .dat _=>rfl
 | .own d=>.inl ⟨d,rfl⟩
 | .ino d=>⟨d,rfl⟩
 | .ro _=>rfl
theorem Evo.trans:∀ {a b c:Sl},Evo a b->Evo b c->Evo a c
 | .un,b,c,h,q=>by rw [show b=.un from h] at q;exact q
 | .dat d,b,c,h,q=>by rw [show b=.dat d from h] at q;exact q
 | .own d,b,c,h,q=>by
  rcases h with ⟨d,rfl⟩ | ⟨d,rfl⟩ | rfl
  ·exact q
  ·exact .inr (.inl ⟨d,q⟩)
  ·exact .inr (.inr q)
 | .ino d,b,c,h,q=>by obtain ⟨d,rfl⟩:=h;exact q
 | .ro d,b,c,h,q=>by rw [show b=.ro d from h] at q;exact q
theorem KpE.refl (env:En):KpE env env:=⟨rfl,fun i s e=>⟨s,e,.refl s⟩⟩
theorem KpE.trans (a:KpE e1 e2) (b:KpE e2 e3):KpE e1 e3:=⟨b.1.trans a.1,fun i s e=>by
 obtain ⟨s1,h1,v1⟩:=a.2 i s e;obtain ⟨s2,h2,v2⟩:=b.2 i s1 h1
 exact ⟨s2,h2,v1.trans v2⟩⟩
theorem KpE.back (k:KpE env env') {i:Nat} {s':Sl} (e:env'[i]?=some s'):∃ s,env[i]?=some s/\Evo s s':=by
 have hi:i < env'.length:=(N9.mp e).1;have:env[i]?=some (env[i]'(by rw [<- k.1];exact hi)):=Oi _;obtain ⟨s2,h2,v⟩:=k.2 i _ this;rw [e] at h2;cases h2;exact ⟨_,this,v⟩
theorem KpE.own (k:KpE env env') {i:Nat} {d:Qq} (e:env'[i]?=some (.own d)):∃ d',env[i]?=some (.own d'):=by
 obtain ⟨s,h,v⟩:=k.back e;cases s with
 | un=>cases v
 | dat _=>cases v
 | own d'=>exact ⟨d',h⟩
 | ino _=>obtain ⟨_,v⟩:=v;cases v
 | ro _=>cases v
theorem KpE.ff (k:KpE env env') {b:Qx} (h:FF F0 env' Z b):FF F0 env Z b:=by
 rcases h with h | ⟨i,d,e,s⟩
 ·exact .inl h
 ·obtain ⟨d',e'⟩:=k.own e;exact .inr ⟨i,d',e',s⟩
theorem KpE.mu (k:KpE env env') {i:Nat} (h:mu env' i):mu env i:=by
 obtain ⟨d,h | h⟩:=h
 ·obtain ⟨d',e⟩:=k.own h;exact ⟨d',.inl e⟩
 ·obtain ⟨s,h,v⟩:=k.back h;cases s with
  | un=>cases v
  | dat _=>cases v
  | own d'=>rcases v with ⟨_,v⟩ | ⟨_,v⟩ | v <;> cases v
  | ino d'=>exact ⟨d',.inr h⟩
  | ro _=>cases v
theorem KpE.ia (k:KpE env env') (h:IA env' Z b):IA env Z b:=let ⟨i,m,s⟩:=h;⟨i,k.mu m,s⟩
theorem Rel.wH (R:Rel K F0 ZY I env Z H) (S:Rel K F0 H (IA env Z) env' Z H') (k:KpE env env') (h:Dm K (FF F0 env Z) H d v):Dm K (FF F0 env' Z) H' d v :=
 h.pr (R.uK fun b o e n=>S.gP b o e n) fun _ z=>k.ff z
theorem Rel.same (R:Rel K F0 ZY I env Z H) (s:aZ H H'):Rel K F0 ZY I env Z H':=by
 have p:Pr (FF F0 env Z) H H':=Pr.of_same s;refine ⟨R.len,fun i d e=>?_,fun i d e=>?_,fun i d e=>?_,fun i d e=>?_,R.sep,fun b h=>?_,fun b o h n=>s _ _ (R.gP b o h n)⟩
 ·obtain ⟨v,q,r⟩:=R.dat i d e;exact ⟨v,q,r.pr p fun _ z=>z⟩
 ·obtain ⟨a,q,n,w,t⟩:=R.own i d e;exact ⟨a,q,n,w,t.pr p (fun _ z=>z) (fun o z=>s _ _ z)⟩
 ·obtain ⟨a,q,n,w,t⟩:=R.ino i d e;exact ⟨a,q,n,w,t.pr p (fun _ z=>z) (fun o z=>s _ _ z)⟩
 ·obtain ⟨a,q,t⟩:=R.ro i d e;exact ⟨a,q,t.pr p (fun _ z=>z) (fun _ z=>z) (fun b o z _=>s _ _ z)⟩
 ·cases e:H b with
  | none=>exact absurd e (R.dom b h)
  | some o=>rw [s _ _ e];exact nofun
theorem n5:FF (fun b=>F0 b\/b=c) env Z=fun b=>FF F0 env Z b\/b=c:=by
 funext b;apply propext;constructor
 ·rintro ((h | h) | h)
  ·exact .inl (.inl h)
  ·exact .inr h
  ·exact .inl (.inr h)
 ·rintro ((h | h) | h)
  ·exact .inl (.inl h)
  ·exact .inr h
  ·exact .inl (.inr h)
theorem Rel.fresh (R:Rel K F0 ZY I env Z H) (hc:H c=none) (s:aZ H H') (hc':H' c≠none):Rel K (fun b=>F0 b\/b=c) ZY I env Z H':=by
 have p:Pr (fun b=>FF F0 env Z b\/b=c) H H':=Pr.of_same s;have na:∀ i a,mu env i->Z[i]?=some (some (.ref a))->a≠c:=fun i a m q z=>by
  obtain ⟨o,h,_⟩:=R.iaT ⟨i,m,q⟩;rw [z,hc] at h;cases h
 refine ⟨R.len,fun i d e=>?_,fun i d e=>?_,fun i d e=>?_,fun i d e=>?_,R.sep,fun b h=>?_,fun b o h n=>s _ _ (R.gP b o h n)⟩
 ·obtain ⟨v,q,r⟩:=R.dat i d e;rw [n5];exact ⟨v,q,(r.fresh hc).pr p fun _ z=>z⟩
 ·obtain ⟨a,q,n,w,t⟩:=R.own i d e;rw [n5];exact ⟨a,q,fun z=>z.elim n (na i a ⟨d,.inl e⟩ q),w,(t.fresh hc).pr p (fun _ z=>z) (fun o z=>s _ _ z)⟩
 ·obtain ⟨a,q,n,w,t⟩:=R.ino i d e;rw [n5];exact ⟨a,q,.inl n,w,(t.fresh hc).pr p (fun _ z=>z) (fun o z=>s _ _ z)⟩
 ·obtain ⟨a,q,t⟩:=R.ro i d e;rw [n5];exact ⟨a,q,(t.fresh hc).pr p (fun _ z=>z) (fun _ z=>z) (fun b o z _=>s _ _ z)⟩
 ·rcases h with h | h
  ·cases e:H b with
   | none=>exact absurd e (R.dom b h)
   | some o=>rw [s _ _ e];exact nofun
  ·rw [h];exact hc'
theorem Rel.less (R:Rel K (fun b=>F0 b\/b=c) ZY I env Z H) (hi:∀ (i:Nat) (d:Qq),env[i]?=some (.ino d)->Z[i]?≠some (some (.ref c))):Rel K F0 ZY I env Z H:=by
 have hf:∀ b,FF F0 env Z b->FF (fun b=>F0 b\/b=c) env Z b:=fun b z=>by rw [n5];exact .inl z
 refine ⟨R.len,fun i d e=>?_,fun i d e=>?_,fun i d e=>?_,fun i d e=>?_,R.sep,fun b h=>R.dom b (.inl h),R.gP⟩
 ·obtain ⟨v,q,r⟩:=R.dat i d e;exact ⟨v,q,r.mono hf⟩
 ·obtain ⟨a,q,n,w,t⟩:=R.own i d e;exact ⟨a,q,fun z=>n (.inl z),w,t.pr Pr.refl hf fun _ z=>z⟩
 ·obtain ⟨a,q,n,w,t⟩:=R.ino i d e;refine ⟨a,q,?_,w,t.pr Pr.refl hf fun _ z=>z⟩;rcases n with n | n
  ·exact n
  ·exact absurd (n▸q) (hi i d e)
 ·obtain ⟨a,q,t⟩:=R.ro i d e;exact ⟨a,q,t.pr Pr.refl hf (fun _ z=>z) fun _ _ z _=>z⟩
end
def Bu (K:Fg) (F:Qx->Prop) (H H':Hp):PR->V->Prop
 | .dat d,v=>Dm K F H' d v
 | .frs d,v=>∃ a,v=.ref a/\H a=none/\Top K (fun b=>F b\/b=a) H' d a
def VwL (K:Fg) (F:Qx->Prop) (H:Hp):List Qq->List V->Prop
 | [],vs=>vs=[]
 | d :: ds,vs=>∃ v r,vs=v :: r/\Vw K F H d v/\VwL K F H ds r
structure Cst where
 d:Qq
 v:V
 ok:∀ (K:Fg) (F:Qx->Prop) (H:Hp),Dm K F H d v
def Cst.i (i:Int):Cst:=⟨.int i,.int i,fun _ _ _=>rfl⟩
def Cst.s (x:Str) (h:x.length<=sizeLine) (h2:PyData.strOk x=true):Cst:=⟨.str x,.str x,fun _ _ _=>⟨rfl,h,h2⟩⟩
def Cst.b (b:Bool):Cst:=⟨.bool b,.bl b,fun _ _ _=>rfl⟩
def Cst.n:Cst:=⟨.none,.non,fun _ _ _=>rfl⟩
structure Prm where
 r:Fg->List V->Hp->VK->Prop
 f:List Qq->Option PR
 ok:∀ (K:Fg) (F:Qx->Prop) (H:Hp) (ds:List Qq) (vs:List V) (pr:PR) (Q:VK),f ds=some pr->VwL K F H ds vs->(∀ b,F b->H b≠none)->(∀ v H',aZ H H'->Bu K F H H' pr v->Q v H')->r K vs H Q
structure Mtd where
 T:String
 r:Fg->V->List V->Hp->VK->Prop
 ty:Qq->Bool
 f:Qq->List Qq->Option PR
 yU:∀ (K:Fg) (F:Qx->Prop) (H:Hp) (d:Qq) (v:V),ty d=true->Vw K F H d v->tyV K T v H
 ok:∀ (K:Fg) (F:Qx->Prop) (H:Hp) (d:Qq) (v:V) (ds:List Qq) (vs:List V) (pr:PR) (Q:VK),f d ds=some pr->Vw K F H d v->VwL K F H ds vs->(∀ b,F b->H b≠none)->(∀ v H',aZ H H'->Bu K F H H' pr v->Q v H')->r K v vs H Q
def MvL (K:Fg) (F:Qx->Prop) (H:Hp):List (Bool×Qq)->List V->Prop
 | [],vs=>vs=[]
 | (true,d) :: ds,vs=>∃ v r,vs=v :: r/\Dm K F H d v/\MvL K F H ds r
 | (false,d) :: ds,vs=>∃ v r,vs=v :: r/\Vw K F H d v/\MvL K F H ds r
structure Mtr where
 T:String
 r:Fg->V->List V->Hp->VK->Prop
 ty:Qq->Bool
 f:Qq->List (Bool×Qq)->Option (Qq×Qq)
 tq:Fg->V->Hp->Prop:=fun K x H=>tyV K T x H
 yU:∀ (K:Fg) (F:Qx->Prop) (H:Hp) (d:Qq) (a:Qx),ty d=true->Top K F H d a->tq K (.ref a) H
 ok:∀ (K:Fg) (F:Qx->Prop) (H:Hp) (d:Qq) (a:Qx) (as:List (Bool×Qq)) (vs:List V) (d' x:Qq) (Q:VK),f d as=some (d',x)->F a->Top K F H d a->(∀ b,F b->H b≠none)->MvL K F H as vs ->
  (∀ v H',(∀ b o,b≠a->H b=some o->H' b=some o)->Top K F H' d' a->Dm K F H' x v->Q v H')->r K (.ref a) vs H Q
structure Ek where
 r:Fg->V->V->V->Hp->(Hp->Prop)->Prop
 f:Qq->Qq->Qq->Option Qq
 ok:∀ (K:Fg) (F:Qx->Prop) (H:Hp) (d:Qq) (a:Qx) (k x:Qq) (vk vx:V) (d':Qq) (Q:Hp->Prop),f d k x=some d'->F a->Top K F H d a->Vw K F H k vk->Dm K F H x vx ->
  (∀ H',(∀ b o,b≠a->H b=some o->H' b=some o)->Top K F H' d' a->Q H')->r K (.ref a) vk vx H Q
mutual
inductive XE where
 | var (i:Nat) | mov (i:Nat) | tke (i:Nat) | cst (c:Cst) | glb (g:Nat)
 | prm (p:Prm) (as:XA) | met (m:Mtd) (o:XE) (as:XA) | mtr (m:Mtr) (i:Nat) (as:XA) | call (f:Fn) (as:XA) | bT (f:Fn) (as:XA) | mtx (m:Str) (f:Fn) (i:Nat) (as:XA)
 | tup (as:XA) | lst (as:XA) | fst (as:XA)
 | ifx (c:XT) (a b:XE) | oa (a b:XE) | orv (a b:XE) | ED (a:XE) | chn (p q:Prm) (a b c:XE) | sl2 (p:Int->Int->Prm) (a b c:XE)
 | cmp (js:List Nat) (it:XI) (c:XT) (e:XE)
inductive XA where | nil | cons (e:XE) (r:XA)
inductive XT where | tst (e:XE) | tru (e:XE) | and (a b:XT) | or (a b:XT) | not (a:XT) | yes
inductive XI where | lst (e:XE) | tup (e:XE) | str (e:XE) | rng1 (as:XA)
end
inductive XS where
 | skip | seq (a b:XS) | aY (i:Nat) (e:XE) | pB (i:Nat) (e:XE) | Cs (is:List Nat) (e:XE) | drop (e:XE) | ret (e:XE) | Jd
 | ifs (c:XT) (a b:XS) | fr (i:Nat) (it:XI) (b:XS) | wh (n:Nat) (c:XT) (b:XS) | nev | rse (e:XE) | sto (m:Ek) (i:Nat) (k e:XE)
def excAt:Qx:=104
def cH:Str := "at"
noncomputable def fJ:V->Bool
 | .int i=>decide (i.natAbs.log2 < 1920/\(Str.ofString (toString i)).length<=1000)
 | _=>false
structure Gv where
 v:Nat->V
 E:XK
instance:CoeFun Gv fun _=>Nat->V:=⟨Gv.v⟩
noncomputable def B6 (m:Str):List (Qq×Qq)->Bool
 | []=>true
 | (.str g,_) :: r=>!(g==m)&&B6 m r
 | _=>false
def gNs:List Nat->TGs
 | []=>Ln
 | i :: r=>DQ (fX i) (gNs r)
def gTp (K:PySem.W.Frag) (is:List Nat):TG:=LK K is.length (gNs is)
noncomputable def N4:Nat->List Nat:=List.range
def Nc:List TE->TE:=fun ts=>tFs ts Str.empty
def NoE:XK:=fun _ _ _=>False
def C3 (K:PySem.W.Frag) (G I:Qx->Prop) (H:Hp) (d:Qq) (v:V):Prop:=match d with
 | .tuple ds=>Dm K G H (.tuple ds) v
 | d=>∃ a,v=.ref a/\jR K G I H d a
def bD (K:PySem.W.Frag) (G I:Qx->Prop) (H:Hp):List PM->List Qq->List V->List Qx->Prop
 | [],[],[],is=>is=[]
 | .dat :: ms,d :: ds,v :: vs,is=>Dm K G H d v/\bD K G I H ms ds vs is
 | .bor :: ms,d :: ds,v :: vs,is=>C3 K G I H d v/\bD K G I H ms ds vs is
 | .ino :: ms,d :: ds,v :: vs,is=>∃ a r,v=.ref a/\is=a :: r/\G a/\Top K G H d a/\a ∉ r/\bD K G I H ms ds vs r
 | _,_,_,_=>False
def jg (K:PySem.W.Frag) (G:Qx->Prop) (H:Hp):List Qq->List Qx->Prop
 | [],[]=>True
 | d :: ds,a :: r=>Top K G H d a/\jg K G H ds r
 | _,_=>False
def J1 (K:PySem.W.Frag) (G:Qx->Prop) (H H':Hp) (outs:List Qq) (is:List Qx):PR->V->Prop
 | .dat d,v=>Dm K G H' d v/\jg K G H' outs is
 | .frs d,v=>∃ a,v=.ref a/\H a=none/\Top K (fun b=>G b\/b=a) H' d a/\jg K (fun b=>G b\/b=a) H' outs is
def jY (f:Fn) (K:PySem.W.Frag):Sp:=fun vs H Q _=>∃ (G:Qx->Prop) (ds:List Qq) (is:List Qx) (pr:PR) (outs:List Qq),f.F ds=some (pr,outs)/\bD K G (·∈is) H f.ms ds vs is/\(∀ b,G b->H b≠none) /\
 ∀ v' H',(∀ b o,H b=some o->b ∉ is->H' b=some o)->J1 K G H H' outs is pr v'->Q v' H'
section
def spX (f:Fn) (K:PySem.W.Frag):Sp:=fun vs H Q E=>jY f K vs H Q NoE\/∃ (G:Qx->Prop) (ds:List Qq) (is:List Qx) (p:Int),f.X ds=some p/\bD K G (·∈is) H f.ms ds vs is/\(∀ b,G b->H b≠none) /\
 ∀ dx H',(∀ b o,H b=some o->b ∉ is->H' b=some o)->H' dx=none->fJ (.int p)=true->E (.ref excAt) (some dx) (upd H' dx (.xd [(cH,.int p)]))
variable (K:PySem.W.Frag) (ga:Gv)
mutual
noncomputable def rE:XE->TE
 | .var i=>gu i | .mov i=>gu i | .tke i=>gu i | .cst c=>tC c.v | .glb g=>tC (ga g)
 | .prm p as=>tCB (p.r K) (rA as) | .met m o as=>tBM K m.T (m.r K) (rE o) (rA as) | .mtr m i as=>fun Z H Q=>gu i Z H fun x H1=>m.tq K x H1/\rA as Z H1 fun xs H2=>m.r K x xs H2 Q | .call f as=>uB (jY f K) [] NoE (rA as) | .bT f as=>uB (spX f K) [] ga.E (rA as)
 | .mtx m f i as=>fun Z H Q=>gu i Z H fun x H1=>(∃ a dx fs,x=.ref a/\H1 a=some (.ins clsAt dx fs)/\fs.lookup m=none)/\rA as Z H1 fun xs H2=>spX f K (x :: xs) H2 Q ga.E
 | .tup as=>Lb (rA as) | .lst as=>JB (rA as) | .fst as=>Nc (rF as)
 | .ifx c a b=>tIf (rT c) (rE a) (rE b) | .oa a b=>Cd (rE a) (rE b) | .orv a b=>JX (rE a) (rE b) | .ED a=>D5 (rE a)
 | .chn p q a b c=>nM (fun x y=>p.r K [x,y]) (fun x y=>q.r K [x,y]) (rE a) (rE b) (rE c)
 | .sl2 p a b c=>fun Z H Q=>rE a Z H fun x H1=>rE b Z H1 fun y H2=>∃ i,y=.int i/\rE c Z H2 fun z H3=>∃ j,z=.int j/\(p i j).r K [x] H3 Q
 | .cmp js it c e=>Ay js (rI_ it) (rT c) (rE e)
noncomputable def rA:XA->TA
 | .nil=>rY | .cons e r=>iS (rE e) (rA r)
noncomputable def rF:XA->List TE
 | .nil=>[] | .cons e r=>rE e :: rF r
noncomputable def rT:XT->TT
 | .tst e=>tB (rE e) | .tru e=>Mo K (rE e) | .and a b=>Kj (rT a) (rT b) | .or a b=>tOr (rT a) (rT b) | .not a=>JU (rT a) | .yes=>Lw
noncomputable def rI_:XI->TI
 | .lst e=>Dh K (rE e) | .tup e=>Jz K (rE e) | .str e=>J7 (rE e) | .rng1 as=>DE (rA as)
end
def rS:XS->TS
 | .skip=>zY | .seq a b=>IG (rS a) (rS b) | .aY i e=>yX (rE K ga e) (fX i) | .pB i e=>yX (rE K ga e) (fX i) | .Cs is e=>yX (rE K ga e) (gTp K is) | .drop e=>EB (rE K ga e) | .ret e=>GL (rE K ga e) | .Jd=>LZ
 | .ifs c a b=>IK (rT K ga c) (rS a) (rS b) | .fr i it b=>Iq (rI_ K ga it) (fX i) (rS b) | .wh n c b=>wo (rT K ga c) (rS b) | .nev=>uS | .rse e=>fun _ Z H=>rE K ga e Z H fun v H1=>fJ v=true/\∀ dx,H1 dx=none->ga.E (.ref excAt) (some dx) (upd H1 dx (.xd [(cH,v)]))
 | .sto m i k e=>fun D Z H=>rE K ga e Z H fun x H1=>gu i Z H1 fun o H2=>rE K ga k Z H2 fun y H3=>m.r K o y x H3 (D.nx Z)
end
noncomputable def JL:Qq->Bool
 | .none=>false | .bool b=>b | .int i=>i != 0 | .str x=>(x.length:Int) != 0 | .list ds=>!ds.isEmpty | .tuple ds=>!ds.isEmpty | .dict ds=>!ds.isEmpty
noncomputable def BZ:Qq->Bool | .dict _=>true | _=>false
noncomputable def qm (lk:Bool):Sl->Sl
 | .own d=>if lk then .ro d else .ino d
 | .ino d=>if lk then .ro d else .ino d
 | s=>s
def fQ (env:En) (lock:Option Nat) (js:List Nat):En:=js.map fun j=>qm (decide (lock=some j)) (env[j]?.getD .un)
def br:En->List Nat->En->En
 | env,j :: js,.ino d :: es=>br (fR env j d) js es
 | env,_ :: js,_ :: es=>br env js es
 | env,_,_=>env
noncomputable def AZ (step:Qq->En->Option (Option Qq×En)):List Qq->En->Option (List Qq×En)
 | [],env=>some ([],env)
 | d :: ds,env=>match step d env with
  | some (y,e1)=>match AZ step ds e1 with
   | some (ys,e2)=>some (y.toList++ys,e2)
   | none=>none
  | none=>none
def K4 (env:En):PM->AV->Option Qq
 | .dat,.dat d=>some d
 | .bor,.dat (.list d)=>some (.list d)
 | .bor,.dat (.dict d)=>some (.dict d)
 | .bor,.dat (.tuple d)=>some (.tuple d)
 | .bor,.bor i=>cont env i
 | .ino,.bor i=>aR env i
 | _,_=>none
def gQ (env:En):List PM->List AV->Option (List Qq)
 | [],[]=>some []
 | m :: ms,a :: as=>match K4 env m a,gQ env ms as with
  | some d,some ds=>some (d :: ds)
  | _,_=>none
 | _,_=>none
noncomputable def cT:List PM->List AV->List Nat
 | .ino :: ms,.bor i :: as=>i :: cT ms as
 | _ :: ms,_ :: as=>cT ms as
 | _,_=>[]
noncomputable def qY:List PM->List AV->List Nat
 | .bor :: ms,.bor i :: as=>i :: qY ms as
 | _ :: ms,_ :: as=>qY ms as
 | _,_=>[]
def dH:En->List Nat->List Qq->En
 | env,i :: is,d :: ds=>dH (fR env i d) is ds
 | env,_,_=>env
noncomputable def EI:List Nat->Bool
 | []=>true
 | x :: xs=>!xs.contains x&&EI xs
def ckA (is bs:List Nat) (n:Nat):Bool:=EI is&&(bs.all (fun i=>!is.contains i)&&n==is.length)
def kU (f:Fn) (avs:List AV) (env:En):Option (RV×En) :=
 match gQ env f.ms avs with
 | none=>none
 | some ds=>match f.F ds with
  | none=>none
  | some (pr,outs)=>if ckA (cT f.ms avs) (qY f.ms avs) outs.length=true then some (pr.rv,dH env (cT f.ms avs) outs) else none
def aK (env:En):List AV->Option (List Qq)
 | []=>some []
 | a :: as=>match a.view env,aK env as with
  | some d,some ds=>some (d :: ds)
  | _,_=>none
noncomputable def AV.Ld:AV->Bool | .dat _=>true | .bor _=>false
def cP (env:En):List AV->Option (List (Bool×Qq))
 | []=>some []
 | a :: as=>match a.view env,cP env as with
  | some d,some ds=>some ((a.Ld,d) :: ds)
  | _,_=>none
noncomputable def lh:List AV->Option (List Qq)
 | []=>some []
 | .dat d :: as=>match lh as with | some ds=>some (d :: ds) | none=>none
 | .bor _ :: _=>none
noncomputable def Jv (env:En):Option Nat->En
 | some i=>match env[i]? with | some (.own d)=>env.set i (.ro d) | some (.ino d)=>env.set i (.ro d) | _=>env
 | none=>env
noncomputable def CI (EF:En) (lock:Option Nat) (env:En):En:=match lock with
 | some i=>match EF[i]?,env[i]? with
  | some (.own _),some (.ro d)=>env.set i (.own d)
  | some (.ino _),some (.ro d)=>env.set i (.ino d)
  | _,_=>env
 | none=>env
def fN (t:En->Option (Bool×En)) (b:En->Option (RV×En)) (d:Qq) (ec:En):Option (Option Qq×En):=match t (.dat d :: ec) with
 | some (true,e2)=>match b e2 with
  | some (rv,e3)=>match rv.av with | .dat y=>some (some y,e3.tail) | .bor _=>none
  | none=>none
 | some (false,e2)=>some (none,e2.tail)
 | none=>none
mutual
noncomputable def dE (gd:List Qq):XE->En->Option (RV×En)
 | .var i,env=>match env[i]? with | some (.dat d)=>some (.dat d,env) | some (.own _)=>some (.bor i,env) | some (.ino _)=>some (.bor i,env) | some (.ro _)=>some (.bor i,env) | _=>none
 | .mov i,env=>match env[i]? with | some (.own d)=>some (.dat d,env.set i (.dat d)) | _=>none
 | .tke i,env=>match env[i]? with | some (.own d)=>some (.frs d,env.set i .un) | _=>none
 | .cst c,env=>some (.dat c.d,env)
 | .glb g,env=>match gd[g]? with | some d=>some (.dat d,env) | none=>none
 | .prm p as,env=>match dA gd as env with
  | some (avs,e1)=>match aK e1 avs with
   | some ds=>match p.f ds with | some pr=>some (pr.rv,e1) | none=>none
   | none=>none
  | none=>none
 | .met m o as,env=>match dE gd o env with
  | some (rv,e1)=>match rv.view e1 with
   | some d0=>if m.ty d0=true then match dA gd as e1 with
     | some (avs,e2)=>match rv.view e2,aK e2 avs with
      | some d,some ds=>match m.f d ds with | some pr=>some (pr.rv,e2) | none=>none
      | _,_=>none
     | none=>none
    else none
   | none=>none
  | none=>none
 | .mtr m i as,env=>match aR env i with
  | some d0=>if m.ty d0=true then match dA gd as env with
    | some (avs,e1)=>match aR e1 i,cP e1 avs with
     | some d,some ds=>match m.f d ds with | some (d',x)=>some (.dat x,fR e1 i d') | none=>none
     | _,_=>none
    | none=>none
   else none
  | none=>none
 | .call f as,env=>match dA gd as env with
  | some (avs,e1)=>kU f avs e1
  | none=>none
 | .bT f as,env=>match dA gd as env with
  | some (avs,e1)=>kU f avs e1
  | none=>none
 | .mtx m f i as,env=>match aR env i with
  | some (.dict kvs)=>if B6 m kvs=true then match dA gd as env with
    | some (avs,e1)=>kU f (.bor i :: avs) e1
    | none=>none
   else none
  | _=>none
 | .tup as,env=>match dA gd as env with
  | some (avs,e1)=>match lh avs with | some ds=>if ds.length<=sizeLine then some (.dat (.tuple ds),e1) else none | none=>none
  | none=>none
 | .lst as,env=>match dA gd as env with
  | some (avs,e1)=>match lh avs with | some ds=>if ds.length<=sizeLine then some (.frs (.list ds),e1) else none | none=>none
  | none=>none
 | .fst as,env=>match dF gd as Str.empty env with
  | some (x,e1)=>some (.dat (.str x),e1)
  | none=>none
 | .ifx c a b,env=>match dT gd c env with
  | some (true,e1)=>dE gd a e1
  | some (false,e1)=>dE gd b e1
  | none=>none
 | .oa a b,env=>match dE gd a env with
  | some (.dat (.bool true),e1)=>dE gd b e1
  | some (.dat (.bool false),e1)=>some (.dat (.bool false),e1)
  | _=>none
 | .orv a b,env=>match dE gd a env with
  | some (.dat (.bool true),e1)=>some (.dat (.bool true),e1)
  | some (.dat (.bool false),e1)=>dE gd b e1
  | _=>none
 | .ED a,env=>match dE gd a env with
  | some (.dat (.bool x),e1)=>some (.dat (.bool (!x)),e1)
  | _=>none
 | .chn p q a b c,env=>match dE gd a env with
  | some (ra,e1)=>match dE gd b e1 with
   | some (rb,e2)=>match ra.av,rb.av with
    | .dat x,.dat y=>match p.f [x,y] with
     | some (.dat (.bool true))=>match dE gd c e2 with
      | some (rc,e3)=>match rc.av with
       | .dat z=>match q.f [y,z] with | some pr=>some (pr.rv,e3) | none=>none
       | _=>none
      | none=>none
     | some (.dat (.bool false))=>some (.dat (.bool false),e2)
     | _=>none
    | _,_=>none
   | none=>none
  | none=>none
 | .sl2 p a b c,env=>match dE gd a env with
  | some (ra,e1)=>match dE gd b e1 with
   | some (.dat (.int i),e2)=>match dE gd c e2 with
    | some (.dat (.int j),e3)=>match ra.view e3 with
     | some d=>match (p i j).f [d] with | some pr=>some (pr.rv,e3) | none=>none
     | none=>none
    | _=>none
   | _=>none
  | none=>none
 | .cmp js it c e,env=>match dI gd it env with
  | some (ds,lock,e1)=>if js.Nodup then match AZ (fN (dT gd c) (dE gd e)) ds (fQ e1 lock js) with
    | some (ys,ec)=>some (.frs (.list ys),br e1 js ec)
    | none=>none
   else none
  | none=>none
noncomputable def dA (gd:List Qq):XA->En->Option (List AV×En)
 | .nil,env=>some ([],env)
 | .cons e r,env=>match dE gd e env with
  | some (rv,e1)=>match dA gd r e1 with
   | some (avs,e2)=>some (rv.av :: avs,e2)
   | none=>none
  | none=>none
noncomputable def dF (gd:List Qq):XA->Str->En->Option (Str×En)
 | .nil,out,env=>if out.length<=sizeLine then some (out,env) else none
 | .cons e r,out,env=>match dE gd e env with
  | some (.dat (.str x),e1)=>if (out++x).length<=sizeLine then dF gd r (out++x) e1 else none
  | _=>none
noncomputable def dT (gd:List Qq):XT->En->Option (Bool×En)
 | .tst e,env=>match dE gd e env with | some (.dat (.bool b),e1)=>some (b,e1) | _=>none
 | .tru e,env=>match dE gd e env with
  | some (rv,e1)=>match rv.view e1 with | some d=>if BZ d=true then none else some (JL d,e1) | none=>none
  | none=>none
 | .and a b,env=>match dT gd a env with | some (true,e1)=>dT gd b e1 | some (false,e1)=>some (false,e1) | none=>none
 | .or a b,env=>match dT gd a env with | some (true,e1)=>some (true,e1) | some (false,e1)=>dT gd b e1 | none=>none
 | .not a,env=>match dT gd a env with | some (b,e1)=>some (!b,e1) | none=>none
 | .yes,env=>some (true,env)
noncomputable def dI (gd:List Qq):XI->En->Option (List Qq×Option Nat×En)
 | .lst e,env=>match dE gd e env with
  | some (rv,e1)=>match rv.av with
   | .dat (.list ds)=>some (ds,none,e1)
   | .dat _=>none
   | .bor i=>match cont e1 i with | some (.list ds)=>some (ds,some i,e1) | _=>none
  | none=>none
 | .tup e,env=>match dE gd e env with
  | some (rv,e1)=>match rv.av with | .dat (.tuple ds)=>some (ds,none,e1) | _=>none
  | none=>none
 | .str e,env=>match dE gd e env with
  | some (rv,e1)=>match rv.av with | .dat (.str x)=>some (x.cps.toList.map fun c=>.str ⟨#[c]⟩,none,e1) | _=>none
  | none=>none
 | .rng1 as,env=>match dA gd as env with
  | some (avs,e1)=>match avs with | [.dat (.int j)]=>if -(2 ^ 62)<=j/\j<=2 ^ 24 then some ((List.range j.toNat).map fun (k:Nat)=>.int ((0:Int)+(k:Int)),none,e1) else none | _=>none
  | none=>none
end
inductive Out where | nx (env:En) | rt (rv:RV) (env:En) | bk (env:En) | ct (env:En)
noncomputable def forL (b:Qq->En->Option Out):List Qq->En->Option Out
 | [],env=>some (.nx env)
 | d :: ds,env=>match b d env with
  | some (.nx e)=>forL b ds e
  | some (.ct e)=>forL b ds e
  | some (.bk e)=>some (.nx e)
  | some (.rt r e)=>some (.rt r e)
  | none=>none
noncomputable def whL (t:En->Option (Bool×En)) (b:En->Option Out):Nat->En->Option Out
 | 0,_=>none
 | n+1,env=>match t env with
  | some (true,e1)=>match b e1 with
   | some (.nx e)=>whL t b n e
   | some (.ct e)=>whL t b n e
   | some (.bk e)=>some (.nx e)
   | some (.rt r e)=>some (.rt r e)
   | none=>none
  | some (false,e1)=>some (.nx e1)
  | none=>none
noncomputable def free (env:En) (i:Nat):Bool:=match env[i]? with | some .un=>true | some (.dat _)=>true | some (.own _)=>true | _=>false
def nS:En->List Nat->List Qq->Option En
 | env,[],[]=>some env
 | env,i :: is,d :: ds=>if free env i=true then nS (env.set i (.dat d)) is ds else none
 | _,_,_=>none
def nV (i:Nat) (b:En->Option Out) (d:Qq) (e:En):Option Out:=if free e i=true then b (e.set i (.dat d)) else none
def dS (gd:List Qq):XS->En->Option Out
 | .skip,env=>some (.nx env)
 | .seq a b,env=>match dS gd a env with
  | some (.nx e)=>dS gd b e
  | o=>o
 | .aY i e,env=>match dE gd e env with
  | some (rv,e1)=>match rv.av with | .dat d=>if free e1 i=true then some (.nx (e1.set i (.dat d))) else none | .bor _=>none
  | none=>none
 | .pB i e,env=>match dE gd e env with
  | some (.frs d,e1)=>if free e1 i=true then some (.nx (e1.set i (.own d))) else none
  | _=>none
 | .Cs is e,env=>match dE gd e env with
  | some (rv,e1)=>match rv.av with
   | .dat (.tuple ds)=>match nS e1 is ds with | some e2=>some (.nx e2) | none=>none
   | _=>none
  | none=>none
 | .drop e,env=>match dE gd e env with | some (_,e1)=>some (.nx e1) | none=>none
 | .ret e,env=>match dE gd e env with | some (rv,e1)=>some (.rt rv e1) | none=>none
 | .Jd,env=>some (.rt (.dat .none) env)
 | .ifs c a b,env=>match dT gd c env with
  | some (true,e1)=>dS gd a e1
  | some (false,e1)=>dS gd b e1
  | none=>none
 | .fr i it b,env=>match dI gd it env with
  | some (ds,none,e1)=>forL (nV i (dS gd b)) ds e1
  | _=>none
 | .wh n c b,env=>whL (dT gd c) (dS gd b) n env
 | .nev,_=>none
 | .rse _,_=>none
 | .sto m i k e,env=>match dE gd e env with
  | some (rv,e1)=>match rv.av with
   | .dat x=>match aR e1 i with
    | some _=>match dE gd k e1 with
     | some (rk,e2)=>match rk.view e2,aR e2 i with
      | some dk,some d=>match m.f d dk x with | some d'=>some (.nx (fR e2 i d')) | none=>none
      | _,_=>none
     | none=>none
    | none=>none
   | .bor _=>none
  | none=>none
def tZ (f:Fn) (avs:List AV) (env:En):Option Int:=match gQ env f.ms avs with
 | none=>none
 | some ds=>if ckA (cT f.ms avs) (qY f.ms avs) (cT f.ms avs).length=true then f.X ds else none
mutual
noncomputable def xE (gd:List Qq):XE->En->Option Int
 | .bT f as,env=>match dA gd as env with
  | some (avs,e1)=>tZ f avs e1
  | none=>xA gd as env
 | .mtx m f i as,env=>match aR env i with
  | some (.dict kvs)=>if B6 m kvs=true then match dA gd as env with
    | some (avs,e1)=>tZ f (.bor i :: avs) e1
    | none=>xA gd as env
   else none
  | _=>none
 | .prm _ as,env=>xA gd as env
 | .mtr m i as,env=>match aR env i with
  | some d0=>if m.ty d0=true then xA gd as env else none
  | none=>none
 | .tup as,env=>xA gd as env
 | _,_=>none
noncomputable def xA (gd:List Qq):XA->En->Option Int
 | .nil,_=>none
 | .cons e r,env=>match dE gd e env with
  | some (_,e1)=>xA gd r e1
  | none=>xE gd e env
end
noncomputable def whX (t:En->Option (Bool×En)) (b:En->Option Out) (x:En->Option Int):Nat->En->Option Int
 | 0,_=>none
 | n+1,env=>match t env with
  | some (true,e1)=>match b e1 with
   | some (.nx e)=>whX t b x n e
   | some _=>none
   | none=>x e1
  | _=>none
def xS (gd:List Qq):XS->En->Option Int
 | .seq a b,env=>match dS gd a env with
  | some (.nx e)=>xS gd b e
  | some _=>none
  | none=>xS gd a env
 | .aY _ e,env=>xE gd e env
 | .drop e,env=>xE gd e env
 | .ret e,env=>xE gd e env
 | .ifs c a b,env=>match dT gd c env with
  | some (true,e1)=>xS gd a e1
  | some (false,e1)=>xS gd b e1
  | none=>none
 | .wh n c b,env=>whX (dT gd c) (dS gd b) (xS gd b) n env
 | .rse e,env=>match dE gd e env with
  | some (rv,_)=>match rv.av with | .dat (.int i)=>if fJ (.int i)=true then some i else none | _=>none
  | none=>none
 | _,_=>none
noncomputable def DG:Qq->Sl | .tuple ds=>.dat (.tuple ds) | d=>.ro d
def aB:List PM->List Qq->Nat->En
 | .dat :: ms,d :: ds,n=>.dat d :: aB ms ds (n - 1)
 | .bor :: ms,d :: ds,n=>DG d :: aB ms ds (n - 1)
 | .ino :: ms,d :: ds,n=>.ino d :: aB ms ds (n - 1)
 | _,_,n=>List.replicate n .un
noncomputable def gM:List PM->En->Option (List Qq)
 | .ino :: ms,.ino d :: es=>match gM ms es with | some ds=>some (d :: ds) | none=>none
 | .ino :: _,_=>none
 | _ :: ms,_ :: es=>gM ms es
 | _,_=>some []
def RV.pr:RV->Option PR | .dat d=>some (.dat d) | .frs d=>some (.frs d) | .bor _=>none
def bJ (gd:List Qq) (ms:List PM) (n:Nat) (b:XS):Fn where
 ms:=ms
 F:=fun ds=>if ds.length=ms.length then match dS gd b (aB ms ds n) with
   | some (.rt rv env)=>match rv.pr,gM ms env with | some pr,some outs=>some (pr,outs) | _,_=>none
   | some (.nx env)=>match gM ms env with | some outs=>some (.dat .none,outs) | none=>none
   | _=>none
  else none
 X:=fun ds=>if ds.length=ms.length then xS gd b (aB ms ds n) else none
theorem aZ.rf (H:Hp):aZ H H:=fun _ _ h=>h
theorem aZ.tr (a:aZ H H1) (b:aZ H1 H2):aZ H H2:=fun c o h=>b c o (a c o h)
theorem aZ.nw (o:HO) (h:H a=none):aZ H (upd H a o):=fun b u q=>by rw [aL (a6 q h)];exact q
section
variable {K:Fg} {F F' I I' F0:Qx->Prop} {H H' ZY:Hp} {env env':En} {Z Z':St} {ga:Gv} {gd:List Qq}
def mW (K:Fg) (F0:Qx->Prop) (ZY:Hp) (I:Qx->Prop) (env:En) (Z:St) (H:Hp):RV->V->Prop
 | .dat d,v=>Dm K (FF F0 env Z) H d v
 | .bor i,v=>Z[i]?=some (some v)
 | .frs d,v=>∃ a,v=.ref a/\Rel K (fun b=>F0 b\/b=a) ZY I env Z H/\Top K (fun b=>FF F0 env Z b\/b=a) H d a/\(ZY a=none\/I a)/\¬FF F0 env Z a/\(∀ (i:Nat) (d':Qq),env[i]?=some (.ino d')->Z[i]?≠some (some (.ref a))) /\
   ∀ (i:Nat) (d':Qq),env[i]?=some (.ro d')->∃ b,Z[i]?=some (some (.ref b))/\jR K (fun b=>FF F0 env Z b\/b=a) (fun b=>IA env Z b\/b=a) H d' b
def Ep (K:Fg) (F0:Qx->Prop) (env:En) (Z:St) (H:Hp):AV->V->Prop
 | .dat d,v=>Dm K (FF F0 env Z) H d v
 | .bor i,v=>Z[i]?=some (some v)
def fT (K:Fg) (F0:Qx->Prop) (env:En) (Z:St) (H:Hp):List AV->List V->Prop
 | [],vs=>vs=[]
 | a :: as,vs=>∃ v r,vs=v :: r/\Ep K F0 env Z H a v/\fT K F0 env Z H as r
theorem mW.av (h:mW K F0 ZY I env Z H rv v):Ep K F0 env Z H rv.av v:=by
 cases rv with
 | dat d=>exact h
 | bor i=>exact h
 | frs d =>
  obtain ⟨a,e,R,t,_,n,_⟩:=h;subst e;exact (t.pr Pr.refl (F':=FF F0 env Z) (fun _ z=>.inl z) (fun _ z=>z)).dm n
theorem Ep.keep (R:Rel K F0 ZY I env Z H) (S:Rel K F0 H (IA env Z) env' Z H') (k:KpE env env') (h:Ep K F0 env Z H a v):Ep K F0 env' Z H' a v:=by
 cases a with
 | dat d=>exact R.wH S k h
 | bor i=>exact h
theorem Rel.KD (R:Rel K F0 ZY I env Z H) (h:cont env i=some d) (s:Z[i]?=some (some v)):Vw K (FF F0 env Z) H d v:=by
 unfold cont at h;cases e:env[i]? with
 | none=>rw [e] at h;cases h
 | some sl =>
  rw [e] at h;cases sl with
  | un=>cases h
  | dat _=>cases h
  | own d' =>
   cases h;obtain ⟨a,q,_,_,t⟩:=R.own i d e;rw [s] at q;cases q;exact t.r.vw
  | ino d' =>
   cases h;obtain ⟨a,q,_,_,t⟩:=R.ino i d e;rw [s] at q;cases q;exact t.r.vw
  | ro d' =>
   cases h;obtain ⟨a,q,t⟩:=R.ro i d e;rw [s] at q;cases q;exact t.r.vw
theorem Rel.dC (R:Rel K F0 ZY I env Z H) (h:aR env i=some d):mu env i/\∃ a,Z[i]?=some (some (.ref a))/\FF F0 env Z a/\Top K (FF F0 env Z) H d a:=by
 unfold aR at h;cases e:env[i]? with
 | none=>rw [e] at h;cases h
 | some sl =>
  rw [e] at h;cases sl with
  | un=>cases h
  | dat _=>cases h
  | own d' =>
   cases h;obtain ⟨a,q,_,_,t⟩:=R.own i d e;exact ⟨⟨d,.inl e⟩,a,q,.inr ⟨i,d,e,q⟩,t⟩
  | ino d' =>
   cases h;obtain ⟨a,q,f,_,t⟩:=R.ino i d e;exact ⟨⟨d,.inr e⟩,a,q,.inl f,t⟩
  | ro d'=>cases h
theorem Ep.vw (R:Rel K F0 ZY I env Z H) (h:Ep K F0 env Z H a v) (e:a.view env=some d):Vw K (FF F0 env Z) H d v:=by
 cases a with
 | dat d'=>cases e;exact Dm.vw h
 | bor i=>exact R.KD e h
theorem fT.vw (R:Rel K F0 ZY I env Z H):∀ {as:List AV} {vs:List V} {ds:List Qq},fT K F0 env Z H as vs->aK env as=some ds->VwL K (FF F0 env Z) H ds vs
 | [],_,ds,h,e=>by cases e;exact h
 | a :: as,_,ds,h,e=>by
  obtain ⟨v,r,rfl,h1,h2⟩:=h;unfold aK at e;cases e1:a.view env with
  | none=>rw [e1] at e;cases e
  | some d =>
   cases e2:aK env as with
   | none=>rw [e1,e2] at e;cases e
   | some ds' =>
    rw [e1,e2] at e;cases e;exact ⟨v,r,rfl,h1.vw R e1,fT.vw R h2 e2⟩
theorem fT.mv (R:Rel K F0 ZY I env Z H):∀ {as:List AV} {vs:List V} {ds:List (Bool×Qq)},fT K F0 env Z H as vs->cP env as=some ds->MvL K (FF F0 env Z) H ds vs
 | [],_,ds,h,e=>by cases e;exact h
 | a :: as,_,ds,h,e=>by
  obtain ⟨v,r,rfl,h1,h2⟩:=h;unfold cP at e;cases e1:a.view env with
  | none=>rw [e1] at e;cases e
  | some d =>
   cases e2:cP env as with
   | none=>rw [e1,e2] at e;cases e
   | some ds' =>
    rw [e1,e2] at e;cases e;have ih:=fT.mv R h2 e2;cases a with
    | dat d'=>cases e1;exact ⟨v,r,rfl,h1,ih⟩
    | bor i=>exact ⟨v,r,rfl,h1.vw R e1,ih⟩
theorem fT.Kf:∀ {as:List AV} {vs:List V} {ds:List Qq},fT K F0 env Z H as vs->lh as=some ds->DmL K (FF F0 env Z) H ds vs
 | [],_,ds,h,e=>by cases e;exact h
 | .dat d :: as,_,ds,h,e=>by
  obtain ⟨v,r,rfl,h1,h2⟩:=h;unfold lh at e;cases e2:lh as with
  | none=>rw [e2] at e;cases e
  | some ds' =>
   rw [e2] at e;cases e;exact ⟨v,r,rfl,h1,fT.Kf h2 e2⟩
 | .bor i :: as,_,ds,h,e=>by unfold lh at e;cases e
theorem jR.Bk (hc:H c=none) (h:jR K F I H d a):jR K F (fun b=>I b\/b=c) H d a:=by
 cases d with
 | list ds=>obtain ⟨xs,e,z,r⟩:=h;exact ⟨xs,e.fresh hc,z,r⟩
 | dict ds =>
  obtain ⟨ep,xs,n,e,z,r⟩:=h;exact ⟨ep,xs,fun q=>q.elim n fun q=>(by subst q;rw [hc] at e;cases e),e,z,r⟩
 | _=>exact absurd h id
theorem Rel.sy (R:Rel K F0 ZY I env Z H) (s:aZ H H') (h:Bu K (FF F0 env Z) H H' pr v):mW K F0 ZY I env Z H' pr.rv v:=by
 cases pr with
 | dat d=>exact h
 | frs d =>
  obtain ⟨a,e,hn,t⟩:=h;refine ⟨a,e,R.fresh hn s ?_,t,R.oi (.inl hn),fun z=>R.d4 z hn,fun i d' e' q=>?_,fun i d' e'=>?_⟩
  ·obtain ⟨o,q,_⟩:=t.wr;rw [q];exact nofun
  ·obtain ⟨o,z,_⟩:=R.iaT ⟨i,⟨d',.inr e'⟩,q⟩;rw [hn] at z;cases z
  ·obtain ⟨b,q,t'⟩:=R.ro i d' e';exact ⟨b,q,((t'.fresh hn).Bk hn).pr (Pr.of_same s) (fun _ z=>z) (fun _ z=>z) fun b o z _=>s _ _ z⟩
theorem yM (env:En) (i:Nat) (d:Qq):KpE env (fR env i d):=by
 unfold fR;cases e:env[i]? with
 | none=>exact KpE.refl _
 | some sl =>
  have hi:i < env.length:=(N9.mp e).1;cases sl with
  | un=>exact KpE.refl _
  | dat _=>exact KpE.refl _
  | ro _=>exact KpE.refl _
  | own d' =>
   refine ⟨OJ,fun j s h=>?_⟩;by_cases z:i=j
   ·subst z;rw [e] at h;cases h;exact ⟨.own d,by rw [Oj hi],.inl ⟨d,rfl⟩⟩
   ·exact ⟨s,by rw [N7 z];exact h,.refl s⟩
  | ino d' =>
   refine ⟨OJ,fun j s h=>?_⟩;by_cases z:i=j
   ·subst z;rw [e] at h;cases h;exact ⟨.ino d,by rw [Oj hi],⟨d,rfl⟩⟩
   ·exact ⟨s,by rw [N7 z];exact h,.refl s⟩
def SmK (env env':En):Prop:=env'.length=env.length/\∀ i:Nat,env'[i]?=env[i]?\/(∃ d d',env[i]?=some (.own d)/\env'[i]?=some (.own d'))\/∃ d d',env[i]?=some (.ino d)/\env'[i]?=some (.ino d')
theorem SmK.refl (env:En):SmK env env:=⟨rfl,fun _=>.inl rfl⟩
theorem SmK.trans (a:SmK e1 e2) (b:SmK e2 e3):SmK e1 e3:=⟨b.1.trans a.1,fun i=>by
 rcases b.2 i with h | ⟨d,d',h,h'⟩ | ⟨d,d',h,h'⟩
 ·rw [h];exact a.2 i
 ·rcases a.2 i with q | ⟨c,c',q,q'⟩ | ⟨c,c',q,q'⟩
  ·exact .inr (.inl ⟨d,d',by rw [<- q];exact h,h'⟩)
  ·exact .inr (.inl ⟨c,d',q,h'⟩)
  ·rw [h] at q';cases q'
 ·rcases a.2 i with q | ⟨c,c',q,q'⟩ | ⟨c,c',q,q'⟩
  ·exact .inr (.inr ⟨d,d',by rw [<- q];exact h,h'⟩)
  ·rw [h] at q';cases q'
  ·exact .inr (.inr ⟨c,d',q,h'⟩)⟩
theorem SmK.kp (k:SmK env env'):KpE env env':=⟨k.1,fun i s e=>by
 rcases k.2 i with h | ⟨d,d',h,h'⟩ | ⟨d,d',h,h'⟩
 ·exact ⟨s,by rw [h];exact e,.refl s⟩
 ·rw [e] at h;cases h;exact ⟨_,h',.inl ⟨d',rfl⟩⟩
 ·rw [e] at h;cases h;exact ⟨_,h',⟨d',rfl⟩⟩⟩
theorem SmK.symm (k:SmK env env'):SmK env' env:=⟨k.1.symm,fun i=>by
 rcases k.2 i with h | ⟨d,d',h,h'⟩ | ⟨d,d',h,h'⟩
 ·exact .inl h.symm
 ·exact .inr (.inl ⟨d',d,h',h⟩)
 ·exact .inr (.inr ⟨d',d,h',h⟩)⟩
theorem SmK.ff (k:SmK env env'):FF F0 env' Z=FF F0 env Z:=by
 funext b;exact propext ⟨fun h=>k.kp.ff h,fun h=>k.symm.kp.ff h⟩
theorem SmK.ia (k:SmK env env'):IA env' Z=IA env Z:=by
 funext b;exact propext ⟨fun h=>k.kp.ia h,fun h=>k.symm.kp.ia h⟩
theorem ft (env:En) (i:Nat) (d:Qq):SmK env (fR env i d):=by
 unfold fR;cases e:env[i]? with
 | none=>exact SmK.refl _
 | some sl =>
  have hi:i < env.length:=(N9.mp e).1;cases sl with
  | un=>exact SmK.refl _
  | dat _=>exact SmK.refl _
  | ro _=>exact SmK.refl _
  | own d' =>
   refine ⟨OJ,fun j=>?_⟩;by_cases z:i=j
   ·subst z;exact .inr (.inl ⟨d',d,e,by rw [Oj hi]⟩)
   ·exact .inl (by rw [N7 z])
  | ino d' =>
   refine ⟨OJ,fun j=>?_⟩;by_cases z:i=j
   ·subst z;exact .inr (.inr ⟨d',d,e,by rw [Oj hi]⟩)
   ·exact .inl (by rw [N7 z])
theorem kT (h:mu env i):aR (fR env i d) i=some d:=by
 unfold fR aR;obtain ⟨d',e | e⟩:=h
 ·have hi:i < env.length:=(N9.mp e).1;rw [e];simp only;rw [Oj hi]
 ·have hi:i < env.length:=(N9.mp e).1;rw [e];simp only;rw [Oj hi]
theorem lL (h:j≠i):(fR env i d)[j]?=env[j]?:=by
 unfold fR;split <;> first | rfl | rw [N7 (Ne.symm h)]
theorem rg (h:aR env i=some d):env[i]?=some (.own d)\/env[i]?=some (.ino d):=by
 unfold aR at h;split at h
 ·rename_i e;cases h;exact .inl e
 ·rename_i e;cases h;exact .inr e
 ·cases h
theorem Rel.chg (R:Rel K F0 ZY I env Z H) (k:SmK env env') (hk:∀ b o,H b=some o->¬IA env Z b->H' b=some o) (ht:∀ i d a,aR env' i=some d->Z[i]?=some (some (.ref a))->Top K (FF F0 env Z) H' d a):Rel K F0 ZY I env' Z H':=by
 have p:=R.uK hk;have eF:=k.ff (F0:=F0) (Z:=Z);have eI:=k.ia (Z:=Z);have mc:∀ {i:Nat} {d:Qq},env'[i]?=some (.own d)\/env'[i]?=some (.ino d)->aR env' i=some d:=fun {i d} h=>by
  unfold aR;rcases h with h | h <;> rw [h]
 refine ⟨k.1.trans R.len,fun i d e=>?_,fun i d e=>?_,fun i d e=>?_,fun i d e=>?_,fun i j a h1 h2 h3 h4=>R.sep i j a (k.kp.mu h1) (k.kp.mu h2) h3 h4,fun b h=>?_,fun b o h n=>?_⟩
 ·rcases k.2 i with q | ⟨c,c',q,q'⟩ | ⟨c,c',q,q'⟩
  ·rw [e] at q;obtain ⟨v,s,r⟩:=R.dat i d q.symm;rw [eF];exact ⟨v,s,r.pr p fun _ z=>z⟩
  ·rw [e] at q';cases q'
  ·rw [e] at q';cases q'
 ·have hm:=mc (.inl e);obtain ⟨d0,e0⟩:=k.kp.own e;obtain ⟨a,s,n,w,_⟩:=R.own i d0 e0;rw [eF];exact ⟨a,s,n,w,ht i d a hm s⟩
 ·have hm:=mc (.inr e);have:∃ d0,env[i]?=some (.ino d0):=by
   rcases k.2 i with q | ⟨c,c',q,q'⟩ | ⟨c,c',q,q'⟩
   ·exact ⟨d,by rw [<- q];exact e⟩
   ·rw [e] at q';cases q'
   ·exact ⟨c,q⟩
  obtain ⟨d0,e0⟩:=this;obtain ⟨a,s,n,w,_⟩:=R.ino i d0 e0;rw [eF];exact ⟨a,s,n,w,ht i d a hm s⟩
 ·have e0:env[i]?=some (.ro d):=by
   rcases k.2 i with q | ⟨c,c',q,q'⟩ | ⟨c,c',q,q'⟩
   ·rw [<- q];exact e
   ·rw [e] at q';cases q'
   ·rw [e] at q';cases q'
  obtain ⟨a,s,t⟩:=R.ro i d e0;rw [eF,eI];exact ⟨a,s,t.pr p (fun _ z=>z) (fun _ z=>z) hk⟩
 ·by_cases z:IA env Z b
  ·obtain ⟨i,m,s⟩:=z;have m':=k.symm.kp.mu m;obtain ⟨d,m'⟩:=m';obtain ⟨o,q,_⟩:=(ht i d b (mc m') s).wr;rw [q];exact nofun
  ·cases e:H b with
   | none=>exact absurd e (R.dom b h)
   | some o=>rw [hk b o e z];exact nofun
 ·refine hk b o (R.gP b o h n) fun z=>?_;rcases R.iaI z with q | q
  ·rw [h] at q;cases q
  ·exact n q
end
section
variable {K:Fg} {F F' I I' F0:Qx->Prop} {H H' ZY:Hp} {env env':En} {Z Z':St} {ga:Gv} {gd:List Qq}
theorem get_set {α:Type} {l:List α} {i j:Nat} {x y:α} (h:(l.set i x)[j]?=some y):(i=j/\x=y)\/(i≠j/\l[j]?=some y):=by
 by_cases z:i=j
 ·subst z;by_cases hi:i < l.length
  ·rw [Oj hi] at h;exact .inl ⟨rfl,OS h⟩
  ·rw [List.getElem?_eq_none (by rw [OJ];omega)] at h;cases h
 ·rw [N7 z] at h;exact .inr ⟨z,h⟩
theorem Rel.sub (R:Rel K F0 ZY I env Z H) (i:Nat) (x:Option V):(∀ b,FF F0 (env.set i .un) (Z.set i x) b->FF F0 env Z b)/\(∀ b,IA (env.set i .un) (Z.set i x) b->IA env Z b):=by
 constructor
 ·rintro b (h | ⟨j,d,e,s⟩)
  ·exact .inl h
  ·rcases get_set e with ⟨_,z⟩ | ⟨n,e⟩
   ·cases z
   ·rw [N7 n] at s;exact .inr ⟨j,d,e,s⟩
 ·rintro b ⟨j,⟨d,e⟩,s⟩;have:∃ d,(env[j]?=some (.own d)\/env[j]?=some (.ino d))/\i≠j:=by
   rcases e with e | e
   ·rcases get_set e with ⟨_,z⟩ | ⟨n,e⟩
    ·cases z
    ·exact ⟨d,.inl e,n⟩
   ·rcases get_set e with ⟨_,z⟩ | ⟨n,e⟩
    ·cases z
    ·exact ⟨d,.inr e,n⟩
  obtain ⟨d,e,n⟩:=this;rw [N7 n] at s;exact ⟨j,⟨d,e⟩,s⟩
theorem Rel.forget (R:Rel K F0 ZY I env Z H) (i:Nat) (x:Option V):Rel K F0 ZY I (env.set i .un) (Z.set i x) H:=by
 obtain ⟨hf,hi⟩:=R.sub i x;have mm:∀ j,mu (env.set i .un) j->mu env j/\i≠j:=fun j h=>by
  obtain ⟨d,e | e⟩:=h
  ·rcases get_set e with ⟨_,z⟩ | ⟨n,e⟩
   ·cases z
   ·exact ⟨⟨d,.inl e⟩,n⟩
  ·rcases get_set e with ⟨_,z⟩ | ⟨n,e⟩
   ·cases z
   ·exact ⟨⟨d,.inr e⟩,n⟩
 refine ⟨by rw [OJ,OJ];exact R.len,fun j d e=>?_,fun j d e=>?_,fun j d e=>?_,fun j d e=>?_,fun j k a h1 h2 h3 h4=>?_,R.dom,R.gP⟩
 ·rcases get_set e with ⟨_,z⟩ | ⟨n,e⟩
  ·cases z
  obtain ⟨v,s,r⟩:=R.dat j d e;exact ⟨v,by rw [N7 n];exact s,r.mono hf⟩
 ·rcases get_set e with ⟨_,z⟩ | ⟨n,e⟩
  ·cases z
  obtain ⟨a,s,q,w,t⟩:=R.own j d e;exact ⟨a,by rw [N7 n];exact s,q,w,t.pr Pr.refl hf fun _ z=>z⟩
 ·rcases get_set e with ⟨_,z⟩ | ⟨n,e⟩
  ·cases z
  obtain ⟨a,s,q,w,t⟩:=R.ino j d e;exact ⟨a,by rw [N7 n];exact s,q,w,t.pr Pr.refl hf fun _ z=>z⟩
 ·rcases get_set e with ⟨_,z⟩ | ⟨n,e⟩
  ·cases z
  obtain ⟨a,s,t⟩:=R.ro j d e;exact ⟨a,by rw [N7 n];exact s,t.pr Pr.refl hf hi fun _ _ z _=>z⟩
 ·obtain ⟨m1,n1⟩:=mm j h1;obtain ⟨m2,n2⟩:=mm k h2;rw [N7 n1] at h3;rw [N7 n2] at h4;exact R.sep j k a m1 m2 h3 h4
theorem Bl {i:Nat} {s:Sl} {x:Option V} (hu:env[i]?=some .un) (hs:∀ d,s≠.own d):FF F0 (env.set i s) (Z.set i x)=FF F0 env Z:=by
 funext b;apply propext;constructor
 ·rintro (h | ⟨j,d,e,q⟩)
  ·exact .inl h
  ·rcases get_set e with ⟨_,z⟩ | ⟨n,e⟩
   ·exact absurd z (hs d)
   ·rw [N7 n] at q;exact .inr ⟨j,d,e,q⟩
 ·rintro (h | ⟨j,d,e,q⟩)
  ·exact .inl h
  ·have n:i≠j:=fun z=>by subst z;rw [hu] at e;cases e
   exact .inr ⟨j,d,by rw [N7 n];exact e,by rw [N7 n];exact q⟩
theorem Hv {i:Nat} {s:Sl} {x:Option V} (hu:env[i]?=some .un) (hs:∀ d,s≠.own d/\s≠.ino d):IA (env.set i s) (Z.set i x)=IA env Z:=by
 funext b;apply propext;constructor
 ·rintro ⟨j,⟨d,e | e⟩,q⟩
  ·rcases get_set e with ⟨_,z⟩ | ⟨n,e⟩
   ·exact absurd z (hs d).1
   ·rw [N7 n] at q;exact ⟨j,⟨d,.inl e⟩,q⟩
  ·rcases get_set e with ⟨_,z⟩ | ⟨n,e⟩
   ·exact absurd z (hs d).2
   ·rw [N7 n] at q;exact ⟨j,⟨d,.inr e⟩,q⟩
 ·rintro ⟨j,⟨d,e⟩,q⟩;have n:i≠j:=fun z=>by subst z;rw [hu] at e;rcases e with e | e <;> cases e
  refine ⟨j,⟨d,?_⟩,by rw [N7 n];exact q⟩;rw [N7 n];exact e
theorem Rel.putD (R:Rel K F0 ZY I env Z H) {i:Nat} {d:Qq} {v:V} (hu:env[i]?=some .un) (h:Dm K (FF F0 env Z) H d v):Rel K F0 ZY I (env.set i (.dat d)) (Z.set i (some v)) H:=by
 have hi:i < env.length:=(N9.mp hu).1;have eF:FF F0 (env.set i (.dat d)) (Z.set i (some v))=FF F0 env Z:=Bl hu (fun _=>nofun);have eI:IA (env.set i (.dat d)) (Z.set i (some v))=IA env Z:=Hv hu (fun _=>⟨nofun,nofun⟩);have mm:∀ j,mu (env.set i (.dat d)) j->mu env j/\i≠j:=fun j h=>by
  obtain ⟨c,e | e⟩:=h
  ·rcases get_set e with ⟨_,z⟩ | ⟨n,e⟩
   ·cases z
   ·exact ⟨⟨c,.inl e⟩,n⟩
  ·rcases get_set e with ⟨_,z⟩ | ⟨n,e⟩
   ·cases z
   ·exact ⟨⟨c,.inr e⟩,n⟩
 refine ⟨by rw [OJ,OJ];exact R.len,fun j c e=>?_,fun j c e=>?_,fun j c e=>?_,fun j c e=>?_,fun j k a h1 h2 h3 h4=>?_,R.dom,R.gP⟩
 ·rw [eF];rcases get_set e with ⟨z,y⟩ | ⟨n,e⟩
  ·subst z;cases y;exact ⟨v,Oj (by rw [<- R.len];exact hi),h⟩
  obtain ⟨w,s,r⟩:=R.dat j c e;exact ⟨w,by rw [N7 n];exact s,r⟩
 ·rw [eF];rcases get_set e with ⟨_,z⟩ | ⟨n,e⟩
  ·cases z
  obtain ⟨a,s,q,w,t⟩:=R.own j c e;exact ⟨a,by rw [N7 n];exact s,q,w,t⟩
 ·rw [eF];rcases get_set e with ⟨_,z⟩ | ⟨n,e⟩
  ·cases z
  obtain ⟨a,s,q,w,t⟩:=R.ino j c e;exact ⟨a,by rw [N7 n];exact s,q,w,t⟩
 ·rw [eF,eI];rcases get_set e with ⟨_,z⟩ | ⟨n,e⟩
  ·cases z
  obtain ⟨a,s,t⟩:=R.ro j c e;exact ⟨a,by rw [N7 n];exact s,t⟩
 ·obtain ⟨m1,n1⟩:=mm j h1;obtain ⟨m2,n2⟩:=mm k h2;rw [N7 n1] at h3;rw [N7 n2] at h4;exact R.sep j k a m1 m2 h3 h4
theorem Rel.NT {i:Nat} {d:Qq} {a:Qx} (hu:env[i]?=some .un) (h:mW K F0 ZY I env Z H (.frs d) (.ref a)):Rel K F0 ZY I (env.set i (.own d)) (Z.set i (some (.ref a))) H:=by
 obtain ⟨a',ea,R,t,w,nF,hino,hro⟩:=h;cases ea;have hi:i < env.length:=(N9.mp hu).1;have his:i < Z.length:=by rw [<- R.len];exact hi
 have eF:FF F0 (env.set i (.own d)) (Z.set i (some (.ref a)))=fun b=>FF F0 env Z b\/b=a:=by
  funext b;apply propext;constructor
  ·rintro (h | ⟨j,c,e,q⟩)
   ·exact .inl (.inl h)
   ·rcases get_set e with ⟨z,y⟩ | ⟨n,e⟩
    ·subst z;rw [Oj his] at q;cases q;exact .inr rfl
    ·rw [N7 n] at q;exact .inl (.inr ⟨j,c,e,q⟩)
  ·rintro ((h | ⟨j,c,e,q⟩) | rfl)
   ·exact .inl h
   ·have n:i≠j:=fun z=>by subst z;rw [hu] at e;cases e
    exact .inr ⟨j,c,by rw [N7 n];exact e,by rw [N7 n];exact q⟩
   ·exact .inr ⟨i,d,Oj hi,Oj his⟩
 have eF2:FF (fun b=>F0 b\/b=a) env Z=fun b=>FF F0 env Z b\/b=a:=n5;have mm:∀ j,mu (env.set i (.own d)) j->i=j\/(mu env j/\i≠j):=fun j h=>by
  obtain ⟨c,e | e⟩:=h
  ·rcases get_set e with ⟨z,_⟩ | ⟨n,e⟩
   ·exact .inl z
   ·exact .inr ⟨⟨c,.inl e⟩,n⟩
  ·rcases get_set e with ⟨z,_⟩ | ⟨n,e⟩
   ·exact .inl z
   ·exact .inr ⟨⟨c,.inr e⟩,n⟩
 have eI:∀ b,IA (env.set i (.own d)) (Z.set i (some (.ref a))) b->IA env Z b\/b=a:=by
  rintro b ⟨j,m,q⟩;rcases mm j m with z | ⟨m',n⟩
  ·subst z;rw [Oj his] at q;cases q;exact .inr rfl
  ·rw [N7 n] at q;exact .inl ⟨j,m',q⟩
 have na:∀ j,mu env j->Z[j]?≠some (some (.ref a)):=fun j m q=>by
  obtain ⟨c,e | e⟩:=m
  ·exact nF (.inr ⟨j,c,e,q⟩)
  ·exact hino j c e q
 refine ⟨by rw [OJ,OJ];exact R.len,fun j c e=>?_,fun j c e=>?_,fun j c e=>?_,fun j c e=>?_,fun j k b h1 h2 h3 h4=>?_,fun b h=>R.dom b (.inl h),R.gP⟩
 ·rw [eF];rcases get_set e with ⟨_,z⟩ | ⟨n,e⟩
  ·cases z
  obtain ⟨x,s,r⟩:=R.dat j c e;rw [eF2] at r;exact ⟨x,by rw [N7 n];exact s,r⟩
 ·rw [eF];rcases get_set e with ⟨z,y⟩ | ⟨n,e⟩
  ·subst z;cases y;exact ⟨a,Oj his,fun z=>nF (.inl z),w,t⟩
  obtain ⟨b,s,q,w',t'⟩:=R.own j c e;rw [eF2] at t';exact ⟨b,by rw [N7 n];exact s,fun z=>q (.inl z),w',t'⟩
 ·rw [eF];rcases get_set e with ⟨_,z⟩ | ⟨n,e⟩
  ·cases z
  obtain ⟨b,s,q,w',t'⟩:=R.ino j c e;rw [eF2] at t';refine ⟨b,by rw [N7 n];exact s,?_,w',t'⟩;rcases q with q | q
  ·exact q
  ·subst q;exact absurd s (hino j c e)
 ·rw [eF];rcases get_set e with ⟨_,z⟩ | ⟨n,e⟩
  ·cases z
  obtain ⟨b,s,t'⟩:=hro j c e;exact ⟨b,by rw [N7 n];exact s,t'.pr Pr.refl (fun _ z=>z) eI fun _ _ z _=>z⟩
 ·rcases mm j h1 with z1 | ⟨m1,n1⟩
  ·rcases mm k h2 with z2 | ⟨m2,n2⟩
   ·rw [<- z1,<-z2]
   ·rw [<- z1,Oj his] at h3;cases h3;rw [N7 n2] at h4;exact absurd h4 (na k m2)
  ·rw [N7 n1] at h3;rcases mm k h2 with z2 | ⟨m2,n2⟩
   ·rw [<- z2,Oj his] at h4;cases h4;exact absurd h3 (na j m1)
   ·rw [N7 n2] at h4;exact R.sep j k b m1 m2 h3 h4
theorem Rel.take (R:Rel K F0 ZY I env Z H) {i:Nat} {d:Qq} (e:env[i]?=some (.own d)):∃ a,Z[i]?=some (some (.ref a))/\mW K F0 ZY I (env.set i .un) Z H (.frs d) (.ref a):=by
 obtain ⟨a,s,nF0,w,t⟩:=R.own i d e;have hi:i < env.length:=(N9.mp e).1;have mm:∀ j,mu (env.set i .un) j->mu env j/\i≠j:=fun j h=>by
  obtain ⟨c,e | e⟩:=h
  ·rcases get_set e with ⟨_,z⟩ | ⟨n,e⟩
   ·cases z
   ·exact ⟨⟨c,.inl e⟩,n⟩
  ·rcases get_set e with ⟨_,z⟩ | ⟨n,e⟩
   ·cases z
   ·exact ⟨⟨c,.inr e⟩,n⟩
 have eF:FF F0 env Z=fun b=>FF F0 (env.set i .un) Z b\/b=a:=by
  funext b;apply propext;constructor
  ·rintro (h | ⟨j,c,e',q⟩)
   ·exact .inl (.inl h)
   ·by_cases n:i=j
    ·subst n;rw [s] at q;cases q;exact .inr rfl
    ·exact .inl (.inr ⟨j,c,by rw [N7 n];exact e',q⟩)
  ·rintro ((h | ⟨j,c,e',q⟩) | rfl)
   ·exact .inl h
   ·rcases get_set e' with ⟨_,z⟩ | ⟨n,e'⟩
    ·cases z
    ·exact .inr ⟨j,c,e',q⟩
   ·exact .inr ⟨i,d,e,s⟩
 have eF2:FF (fun b=>F0 b\/b=a) (env.set i .un) Z=FF F0 env Z:=by rw [n5];exact eF.symm
 have na:∀ j,mu (env.set i .un) j->Z[j]?≠some (some (.ref a)):=fun j m q=>by
  obtain ⟨m',n⟩:=mm j m;exact n (R.sep i j a ⟨d,.inl e⟩ m' s q)
 have nF:¬FF F0 (env.set i .un) Z a:=by
  rintro (h | ⟨j,c,e',q⟩)
  ·exact nF0 h
  ·exact na j ⟨c,.inl e'⟩ q
 have ia:∀ b,IA (env.set i .un) Z b->IA env Z b:=fun b ⟨j,m,q⟩=>⟨j,(mm j m).1,q⟩;have ia2:∀ b,(IA (env.set i .un) Z b\/b=a)->IA env Z b:=fun b h=>h.elim (ia b) fun z=>z▸⟨i,⟨d,.inl e⟩,s⟩;have R':Rel K (fun b=>F0 b\/b=a) ZY I (env.set i .un) Z H:=by
  refine ⟨by rw [OJ];exact R.len,fun j c e'=>?_,fun j c e'=>?_,fun j c e'=>?_,fun j c e'=>?_,fun j k b h1 h2 h3 h4=>R.sep j k b (mm j h1).1 (mm k h2).1 h3 h4,fun b h=>?_,R.gP⟩
  ·rw [eF2];rcases get_set e' with ⟨_,z⟩ | ⟨n,e'⟩
   ·cases z
   exact R.dat j c e'
  ·rw [eF2];have m:=e';rcases get_set e' with ⟨_,z⟩ | ⟨n,e'⟩
   ·cases z
   obtain ⟨b,s',q,w',t'⟩:=R.own j c e';exact ⟨b,s',fun z=>z.elim q fun z=>na j ⟨c,.inl m⟩ (z▸s'),w',t'⟩
  ·rw [eF2];rcases get_set e' with ⟨_,z⟩ | ⟨n,e'⟩
   ·cases z
   obtain ⟨b,s',q,w',t'⟩:=R.ino j c e';exact ⟨b,s',.inl q,w',t'⟩
  ·rw [eF2];rcases get_set e' with ⟨_,z⟩ | ⟨n,e'⟩
   ·cases z
   obtain ⟨b,s',t'⟩:=R.ro j c e';exact ⟨b,s',t'.pr Pr.refl (fun _ z=>z) ia fun _ _ z _=>z⟩
  ·rcases h with h | h
   ·exact R.dom b h
   ·obtain ⟨o,q,_⟩:=t.wr;rw [h,q];exact nofun
 refine ⟨a,s,a,rfl,R',by rw [eF] at t;exact t,w,nF,fun j c e'=>na j ⟨c,.inr e'⟩,fun j c e'=>?_⟩;rcases get_set e' with ⟨_,z⟩ | ⟨n,e'⟩
 ·cases z
 obtain ⟨b,s',t'⟩:=R.ro j c e';rw [eF] at t';exact ⟨b,s',t'.pr Pr.refl (fun _ z=>z) ia2 fun _ _ z _=>z⟩
theorem mW.rel (h:mW K F0 ZY I env Z H (.frs d) v):Rel K F0 ZY I env Z H:=by
 obtain ⟨a,_,R,_,_,_,hi,_⟩:=h;exact R.less hi
theorem set_same {α:Type} {l:List α} {i:Nat} {x:α} (h:l[i]?=some x):l.set i x=l:=by
 have hi:i < l.length:=(N9.mp h).1;apply List.ext_getElem?;intro j;by_cases z:i=j
 ·subst z;rw [Oj hi,h]
 ·rw [N7 z]
theorem Rel.mov (R:Rel K F0 ZY I env Z H) {i:Nat} {d:Qq} (e:env[i]?=some (.own d)):∃ a,Z[i]?=some (some (.ref a))/\Rel K F0 ZY I (env.set i (.dat d)) Z H/\Dm K (FF F0 (env.set i (.dat d)) Z) H d (.ref a):=by
 have hi:i < env.length:=(N9.mp e).1;obtain ⟨a,s,h⟩:=R.take e;have R1:=h.rel;have hu:(env.set i .un)[i]?=some .un:=Oj hi;have hd:Dm K (FF F0 (env.set i .un) Z) H d (.ref a):=mW.av h;have R2:=R1.putD hu hd;rw [P6,set_same s] at R2;refine ⟨a,s,R2,?_⟩;have eF:FF F0 (env.set i (.dat d)) Z=FF F0 (env.set i .un) Z:=by
  have:=Bl (F0:=F0) (Z:=Z) (s:=.dat d) (x:=some (.ref a)) hu (fun _=>nofun);rw [P6,set_same s] at this;exact this
 rw [eF];exact hd
theorem BL (e:env[i]?=some s) (v:Evo s s'):KpE env (env.set i s'):=by
 have hi:i < env.length:=(N9.mp e).1;refine ⟨OJ,fun j t h=>?_⟩;by_cases z:i=j
 ·subst z;rw [e] at h;cases h;exact ⟨s',Oj hi,v⟩
 ·exact ⟨t,by rw [N7 z];exact h,.refl t⟩
end
theorem bF (x y:Str):(x++y).cps=x.cps++y.cps:=rfl
theorem o7 (h:PyData.strOk x=true) (q:PyData.strOk y=true):PyData.strOk (x++y)=true:=by
 unfold PyData.strOk at h q ⊢;rw [bF,Array.all_append,h,q];rfl
def SE (K:Fg) (ga:Gv) (gd:List Qq) (e:XE):Prop:=∀ (env:En) (rv:RV) (env':En),dE gd e env=some (rv,env')->∀ (F0:Qx->Prop) (ZY:Hp) (I:Qx->Prop) (Z:St) (H:Hp) (Q:VK),Rel K F0 ZY I env Z H ->
 (∀ v H',Rel K F0 ZY I env' Z H'->KpE env env'->mW K F0 ZY I env' Z H' rv v->Q v H')->rE K ga e Z H Q
def SA (K:Fg) (ga:Gv) (gd:List Qq) (e:XA):Prop:=∀ (env:En) (rv:List AV) (env':En),dA gd e env=some (rv,env')->∀ (F0:Qx->Prop) (ZY:Hp) (I:Qx->Prop) (Z:St) (H:Hp) (Q:List V->Hp->Prop),Rel K F0 ZY I env Z H ->
 (∀ v H',Rel K F0 ZY I env' Z H'->KpE env env'->fT K F0 env' Z H' rv v->Q v H')->rA K ga e Z H Q
def SF (K:Fg) (ga:Gv) (gd:List Qq) (e:XA):Prop:=∀ (out:Str) (env:En) (x:Str) (env':En),dF gd e out env=some (x,env')->∀ (F0:Qx->Prop) (ZY:Hp) (I:Qx->Prop) (Z:St) (H:Hp) (Q:VK),Rel K F0 ZY I env Z H ->
 PyData.strOk out=true->(∀ H',Rel K F0 ZY I env' Z H'->KpE env env'->x.length<=sizeLine->PyData.strOk x=true->Q (.str x) H')->tFs (rF K ga e) out Z H Q
def ST (K:Fg) (ga:Gv) (gd:List Qq) (e:XT):Prop:=∀ (env:En) (b:Bool) (env':En),dT gd e env=some (b,env')->∀ (F0:Qx->Prop) (ZY:Hp) (I:Qx->Prop) (Z:St) (H:Hp) (Q:Bool->Hp->Prop),Rel K F0 ZY I env Z H ->
 (∀ H',Rel K F0 ZY I env' Z H'->KpE env env'->Q b H')->rT K ga e Z H Q
def ItY (K:Fg) (F:Qx->Prop) (H H' H'':Hp) (d:Qq) (x:V):Prop:=(H''=H'/\Dm K F H d x)\/∃ p u v d1 d2,d=.tuple [d1,d2]/\x=.ref p/\H' p=none/\H''=upd H' p (.tup [u,v])/\Dm K F H d1 u/\Dm K F H d2 v
theorem ItY.dm {K:Fg} (h:ItY K F H H' H'' d x) (T:∀ d v,Dm K F H d v->Dm K F2 H' d v):aZ H' H''/\Dm K F2 H'' d x:=by
 rcases h with ⟨rfl,h⟩ | ⟨p,u,v,d1,d2,rfl,rfl,hp,rfl,h1,h2⟩
 ·exact ⟨fun _ _ e=>e,T _ _ h⟩
 ·have sm:aZ H' (upd H' p (.tup [u,v])):=fun b o e=>by rw [aL (fun z=>by rw [z,hp] at e;cases e)];exact e
  refine ⟨sm,p,[u,v],rfl,SqT.of aE,OW rfl,u,_,rfl,?_,v,_,rfl,?_,rfl⟩
  ·exact (T _ _ h1).pr (fun b o e _=>sm b o e) fun _ z=>z
  ·exact (T _ _ h2).pr (fun b o e _=>sm b o e) fun _ z=>z
def Et (K:Fg) (F I:Qx->Prop) (H:Hp) (J:It) (ds:List Qq):Prop:=ds.length<=sizeLine/\∀ H',(∀ b o,H b=some o->¬I b->H' b=some o)->∀ k,(k < ds.length->J.go k H'/\∀ x H'',J.yld k H' x H''->∃ d,ds[k]?=some d/\ItY K F H H' H'' d x)/\(ds.length<=k->J.stop k H')
theorem my {K:Fg} (hd:DmL K F H ds vs) (hl:vs.length<=sizeLine) (h:∀ H',(∀ b o,H b=some o->¬I b->H' b=some o)->∀ k,(k < vs.length->J.go k H'/\∀ x H'',J.yld k H' x H''->H''=H'/\vs[k]?=some x)/\(vs.length<=k->J.stop k H')):Et K F I H J ds:=by
 have e:=hd.len;refine ⟨by omega,fun H' k j=>⟨fun hj=>?_,fun hj=>((h H' k j).2 (by omega))⟩⟩;obtain ⟨g,y⟩:=(h H' k j).1 (by omega);refine ⟨g,fun x H'' hx=>?_⟩;obtain ⟨e0,hx2⟩:=y x H'' hx;obtain ⟨d,h1,h2⟩:=hd.get' hx2;exact ⟨d,h1,.inl ⟨e0,h2⟩⟩
def SI (K:Fg) (ga:Gv) (gd:List Qq) (e:XI):Prop:=∀ (env:En) (ds:List Qq) (lock:Option Nat) (env':En),dI gd e env=some (ds,lock,env')->∀ (F0:Qx->Prop) (ZY:Hp) (I:Qx->Prop) (Z:St) (H:Hp) (R:It->Hp->Prop),Rel K F0 ZY I env Z H ->
 (∀ J H',Rel K F0 ZY I env' Z H'->KpE env env'->(∀ i,lock=some i->∃ d,cont env' i=some d)->Et K (FF F0 env' Z) (fun b=>IA env' Z b/\∀ i,lock=some i->mu env' i->Z[i]?≠some (some (.ref b))) H' J ds->R J H')->rI_ K ga e Z H R
section
variable {K:Fg} {F F' I I' F0:Qx->Prop} {H H' ZY:Hp} {env env':En} {Z Z':St} {ga:Gv} {gd:List Qq}
theorem Ks (i:Nat):SE K ga gd (.var i):=by
 intro env rv env' h F0 ZY I Z H Q R q;simp only [dE] at h;split at h
 ·rename_i d e;cases h;obtain ⟨v,s,r⟩:=R.dat i d e;exact ⟨v,s,q v H R (KpE.refl _) r⟩
 ·rename_i d e;cases h;obtain ⟨a,s,_⟩:=R.own i d e;exact ⟨_,s,q _ H R (KpE.refl _) s⟩
 ·rename_i d e;cases h;obtain ⟨a,s,_⟩:=R.ino i d e;exact ⟨_,s,q _ H R (KpE.refl _) s⟩
 ·rename_i d e;cases h;obtain ⟨a,s,_⟩:=R.ro i d e;exact ⟨_,s,q _ H R (KpE.refl _) s⟩
 ·cases h
theorem L8 (i:Nat):SE K ga gd (.mov i):=by
 intro env rv env' h F0 ZY I Z H Q R q;simp only [dE] at h;split at h
 ·rename_i d e;cases h;obtain ⟨a,s,R',r⟩:=R.mov e;exact ⟨_,s,q _ H R' (BL e (.inr (.inl ⟨d,rfl⟩))) r⟩
 ·cases h
theorem JP (i:Nat):SE K ga gd (.tke i):=by
 intro env rv env' h F0 ZY I Z H Q R q;simp only [dE] at h;split at h
 ·rename_i d e;cases h;obtain ⟨a,s,r⟩:=R.take e;exact ⟨_,s,q _ H r.rel (BL e (.inr (.inr rfl))) r⟩
 ·cases h
theorem Jp (c:Cst):SE K ga gd (.cst c):=by
 intro env rv env' h F0 ZY I Z H Q R q;simp only [dE] at h;cases h;exact q _ H R (KpE.refl _) (c.ok _ _ _)
theorem L4 (hg:∀ g d,gd[g]?=some d->∀ F H,Dm K F H d (ga g)) (g:Nat):SE K ga gd (.glb g):=by
 intro env rv env' h F0 ZY I Z H Q R q;simp only [dE] at h;split at h
 ·rename_i d e;cases h;exact q _ H R (KpE.refl _) (hg g d e _ _)
 ·cases h
theorem JD (ih:SA K ga gd as):SE K ga gd (.prm p as):=by
 intro env rv env' h F0 ZY I Z H Q R q;simp only [dE] at h;split at h
 ·rename_i avs e1 h1;split at h
  ·rename_i ds h2;split at h
   ·rename_i pr h3;cases h;refine ih _ _ _ h1 F0 ZY I Z H _ R fun vs H1 R1 k1 a1=>?_;refine p.ok K _ H1 ds vs pr Q h3 (a1.vw R1 h2) (fun b z=>R1.d4 z) fun v H2 s2 hp=>?_;exact q v H2 (R1.same s2) k1 (R1.sy s2 hp)
   ·cases h
  ·cases h
 ·cases h
theorem LL (io:SE K ga gd o) (ih:SA K ga gd as):SE K ga gd (.met m o as):=by
 intro env rv env' h F0 ZY I Z H Q R q;simp only [dE] at h;split at h
 ·rename_i rv0 e1 h1;split at h
  ·rename_i d0 h2;split at h
   ·rename_i hty;split at h
    ·rename_i avs e2 h3;split at h
     ·rename_i d ds h4 h5;split at h
      ·rename_i pr h6;cases h;refine io _ _ _ h1 F0 ZY I Z H _ R fun v H1 R1 k1 a1=>?_;refine ⟨m.yU K _ H1 d0 v hty (a1.av.vw R1 h2),?_⟩;refine ih _ _ _ h3 F0 _ _ Z H1 _ R1.rebase fun vs H2 S2 k2 a2=>?_;have R2:=R1.cB S2;refine m.ok K _ H2 d v ds vs pr Q h6 ((a1.av.keep R1 S2 k2).vw R2 h4) (a2.vw R2 h5) (fun b z=>R2.d4 z) fun v H3 s3 hp=>?_;exact q v H3 (R2.same s3) (k1.trans k2) (R2.sy s3 hp)
      ·cases h
     ·cases h
    ·cases h
   ·cases h
  ·cases h
 ·cases h
theorem Rel.MB (R:Rel K F0 ZY I env Z H) (hm:aR env i=some d) (s:Z[i]?=some (some (.ref a))) (hk:∀ b o,b≠a->H b=some o->H' b=some o) (ht:Top K (FF F0 env Z) H' d' a):Rel K F0 ZY I (fR env i d') Z H':=by
 obtain ⟨m,a',s',_,_⟩:=R.dC hm;rw [s] at s';cases s';have hia:IA env Z a:=⟨i,m,s⟩;refine R.chg (ft env i d') (fun b o e n=>hk b o (fun z=>n (z▸hia)) e) fun j c b hc hs=>?_;by_cases z:j=i
 ·subst z;rw [kT m] at hc;cases hc;rw [s] at hs;cases hs;exact ht
 ·have hc':aR env j=some c:=by
   unfold aR at hc ⊢
   rwa [lL z] at hc
  obtain ⟨m2,b',s2,_,t2⟩:=R.dC hc';rw [hs] at s2;cases s2;have nb:b≠a:=fun y=>z (R.sep j i a m2 m (y▸hs) s);refine t2.pr (R.uK fun b' o e n=>hk b' o (fun z=>n (z▸hia)) e) (fun _ z=>z) fun o e=>hk b o nb e
theorem KJ (ih:SA K ga gd as):SE K ga gd (.mtr m i as):=by
 intro env rv env' h F0 ZY I Z H Q R q;simp only [dE] at h;split at h
 ·rename_i d0 h0;split at h
  ·rename_i hty;split at h
   ·rename_i avs e1 h1;split at h
    ·rename_i d ds h2 h3;split at h
     ·rename_i d' pr h4;cases h;obtain ⟨_,a,s,f,t⟩:=R.dC h0;refine ⟨.ref a,s,m.yU K _ H d0 a hty t,?_⟩;refine ih _ _ _ h1 F0 ZY I Z H _ R fun vs H1 R1 k1 a1=>?_;obtain ⟨m1,a',s',f1,t1⟩:=R1.dC h2;rw [s] at s';cases s';refine m.ok K _ H1 d a ds vs d' pr Q h4 f1 t1 (fun b z=>R1.d4 z) (a1.mv R1 h3) fun v H2 hk ht hp=>?_;refine q v H2 (R1.MB h2 s hk ht) (k1.trans (yM _ _ _)) ?_;show Dm K (FF F0 (fR e1 i d') Z) H2 pr v;rw [(ft e1 i d').ff (F0:=F0) (Z:=Z)];exact hp
     ·cases h
    ·cases h
   ·cases h
  ·cases h
 ·cases h
theorem HS:∀ {xs:List (Qq×V×V)},DmP K F H ds xs->B6 m ds=true->(pX xs).lookup m=none:=by
 induction ds with
 | nil=>intro xs h _;rw [show xs=[] from h];rfl
 | cons p ds ih =>
  obtain ⟨k0,d⟩:=p;intro xs h e;obtain ⟨j,v,r,rfl,_,_,h1,h2⟩:=h;cases k0 with
  | str g =>
   have e:(!(g==m)&&B6 m ds)=true:=e;rw [OF] at e;show List.lookup m ((g,v) :: pX r)=none;rw [O7];have q:¬g=m:=fun z=>by have:=e.1;rw [z,Qg] at this;cases this
   rw [show (m==g)=false from PD.mpr fun z=>q z.symm];exact ih h2 e.2
  | _=>cases e
noncomputable def adr (Z:St) (i:Nat):Qx:=match Z[i]? with | some (some (.ref a))=>a | _=>0
theorem iA (h:Z[i]?=some (some (.ref a))):adr Z i=a:=by unfold adr;rw [h]
theorem kj (h:gQ env (m :: ms) (a :: as)=some ds):∃ d r,ds=d :: r/\K4 env m a=some d/\gQ env ms as=some r:=by
 unfold gQ at h;split at h
 ·rename_i d r e1 e2;cases h;exact ⟨d,r,rfl,e1,e2⟩
 ·cases h
theorem jR.bor (h:jR K G I H d a):C3 K G I H d (.ref a):=by cases d <;> first | exact ⟨a,rfl,h⟩ | exact absurd h id
theorem BD (R:Rel K F0 ZY I env Z H) (all:List Nat) (hall:∀ i∈all,mu env i):∀ {ms:List PM} {as:List AV} {ds:List Qq} {vs:List V},gQ env ms as=some ds->fT K F0 env Z H as vs->(cT ms as).Nodup->(∀ i∈qY ms as,i ∉ all)->(∀ i∈cT ms as,i∈all) ->
  bD K (FF F0 env Z) (·∈all.map (adr Z)) H ms ds vs ((cT ms as).map (adr Z)):=by
 have iAll:∀ b,b∈all.map (adr Z)->IA env Z b:=fun b hb=>by
  obtain ⟨i,hi,e⟩:=O1.mp hb;have m:=hall i hi;obtain ⟨d,m'⟩:=m;have:∃ a,Z[i]?=some (some (.ref a)):=by
   rcases m' with z | z
   ·obtain ⟨a,s,_⟩:=R.own i d z;exact ⟨a,s⟩
   ·obtain ⟨a,s,_⟩:=R.ino i d z;exact ⟨a,s⟩
  obtain ⟨a,s⟩:=this;rw [iA s] at e;subst e;exact ⟨i,hall i hi,s⟩
 intro ms;induction ms with
 | nil =>
  intro as ds vs h q _ _ _;cases as with
  | nil=>cases h;rw [show vs=[] from q];rfl
  | cons a as=>cases h
 | cons m ms ih =>
  intro as ds vs h q nd hb hi;cases as with
  | nil=>cases h
  | cons a as =>
   obtain ⟨d,r,rfl,h1,h2⟩:=kj h;obtain ⟨v,vr,rfl,q1,q2⟩:=q;cases m with
   | dat =>
    cases a with
    | bor i=>cases h1
    | dat d' =>
     cases h1;exact ⟨q1,ih h2 q2 (by simpa [cT] using nd) (by simpa [qY] using hb) (by simpa [cT] using hi)⟩
   | bor =>
    cases a with
    | dat d' =>
     by_cases ct:∃ ts,d'=.tuple ts
     ·obtain ⟨ts,rfl⟩:=ct;cases h1;exact ⟨q1,ih h2 q2 (by simpa [cT] using nd) (by simpa [qY] using hb) (by simpa [cT] using hi)⟩
     have l:d'=d/\((∃ ds,d=.list ds)\/∃ ds,d=.dict ds):=by
      cases d' <;> first | exact absurd ⟨_,rfl⟩ ct | (cases h1;exact ⟨rfl,.inl ⟨_,rfl⟩⟩) | (cases h1;exact ⟨rfl,.inr ⟨_,rfl⟩⟩) | cases h1
     obtain ⟨rfl,l⟩:=l;obtain ⟨b,e,t⟩:=Dm.ro (I:=(·∈all.map (adr Z))) q1 (fun b z=>R.ia (iAll b z)) l;exact ⟨by rcases l with ⟨_,rfl⟩ | ⟨_,rfl⟩ <;> exact ⟨b,e,t⟩,ih h2 q2 (by simpa [cT] using nd) (by simpa [qY] using hb) (by simpa [cT] using hi)⟩
    | bor i =>
     have h1:cont env i=some d:=h1;have hb':i ∉ all:=hb i (by simp [qY]);refine ⟨?_,ih h2 q2 (by simpa [cT] using nd) (fun j hj=>hb j (by simp [qY,hj])) (by simpa [cT] using hi)⟩;unfold cont at h1;have na:∀ a,mu env i->Z[i]?=some (some (.ref a))->a ∉ all.map (adr Z):=fun a m s z=>by
      obtain ⟨j,hj,e⟩:=O1.mp z;obtain ⟨k,mk,sk⟩:=iAll a z;obtain ⟨dj,mj⟩:=hall j hj;have:∃ c,Z[j]?=some (some (.ref c)):=by
       rcases mj with z | z
       ·obtain ⟨a,s,_⟩:=R.own j dj z;exact ⟨a,s⟩
       ·obtain ⟨a,s,_⟩:=R.ino j dj z;exact ⟨a,s⟩
      obtain ⟨c,sj⟩:=this;rw [iA sj] at e;subst e;have:=R.sep i j c m ⟨dj,mj⟩ s sj;subst this;exact hb' hj
     split at h1
     ·rename_i d' e;cases h1;obtain ⟨a,s,_,_,t⟩:=R.own i d e;rw [show Z[i]?=some (some v) from q1] at s;cases s;exact jR.bor (t.ro (na a ⟨d,.inl e⟩ q1))
     ·rename_i d' e;cases h1;obtain ⟨a,s,_,_,t⟩:=R.ino i d e;rw [show Z[i]?=some (some v) from q1] at s;cases s;exact jR.bor (t.ro (na a ⟨d,.inr e⟩ q1))
     ·rename_i d' e;cases h1;obtain ⟨a,s,t⟩:=R.ro i d e;rw [show Z[i]?=some (some v) from q1] at s;cases s;exact jR.bor (t.pr Pr.refl (fun _ z=>z) iAll fun _ _ z _=>z)
     ·cases h1
   | ino =>
    cases a with
    | dat d'=>cases h1
    | bor i =>
     have h1:aR env i=some d:=h1;obtain ⟨m,b,s,f,t⟩:=R.dC h1;rw [show Z[i]?=some (some v) from q1] at s;cases s;have nd':i ∉ cT ms as/\(cT ms as).Nodup:=by simpa [cT] using nd
     refine ⟨b,(cT ms as).map (adr Z),rfl,by simp [cT,iA q1],f,t,fun z=>?_,ih h2 q2 nd'.2 (by simpa [qY] using hb) (fun j hj=>hi j (by simp [cT,hj]))⟩;obtain ⟨j,hj,e⟩:=O1.mp z;obtain ⟨dj,mj⟩:=hall j (hi j (by simp [cT,hj]));have:∃ c,Z[j]?=some (some (.ref c)):=by
      rcases mj with z | z
      ·obtain ⟨a,s,_⟩:=R.own j dj z;exact ⟨a,s⟩
      ·obtain ⟨a,s,_⟩:=R.ino j dj z;exact ⟨a,s⟩
     obtain ⟨c,sj⟩:=this;rw [iA sj] at e;subst e;have:=R.sep i j c m ⟨dj,mj⟩ q1 sj;subst this;exact nd'.1 hj
theorem qC:∀ {ms:List PM} {as:List AV} {ds:List Qq},gQ env ms as=some ds->∀ i∈cT ms as,mu env i
 | [],[],_,_,i,h=>by simp [cT] at h
 | [],_ :: _,_,h,_,_=>by cases h
 | _ :: _,[],_,h,_,_=>by cases h
 | m :: ms,a :: as,_,h,i,hi=>by
  obtain ⟨d,r,rfl,h1,h2⟩:=kj h;have ih:=qC h2 i;cases m with
  | dat=>exact ih (by simpa [cT] using hi)
  | bor=>exact ih (by simpa [cT] using hi)
  | ino =>
   cases a with
   | dat d'=>cases h1
   | bor j =>
    simp only [cT,Oo] at hi;rcases hi with rfl | hi
    ·rcases rg h1 with e | e
     ·exact ⟨d,.inl e⟩
     ·exact ⟨d,.inr e⟩
    ·exact ih hi
theorem nI:∀ (env:En) (is:List Nat) (ds:List Qq),SmK env (dH env is ds)
 | env,[],ds=>by unfold dH;exact SmK.refl _
 | env,i :: is,[]=>by unfold dH;exact SmK.refl _
 | env,i :: is,d :: ds=>by unfold dH;exact (ft env i d).trans (nI _ is ds)
theorem jL:∀ (env:En) (is:List Nat) (ds:List Qq) (j:Nat),j ∉ is->(dH env is ds)[j]?=env[j]?
 | env,[],ds,j,_=>by unfold dH;rfl
 | env,i :: is,[],j,_=>by unfold dH;rfl
 | env,i :: is,d :: ds,j,h=>by
  unfold dH;have n:j≠i:=fun z=>h (by rw [z];exact Od);rw [jL _ is ds j (fun z=>h (N8 _ z)),lL n]
theorem l8:∀ {env:En} {is:List Nat} {ds:List Qq} {j:Nat} {c:Qq},is.Nodup->(∀ i∈is,mu env i)->jg K G H ds (is.map (adr Z))->j∈is->aR (dH env is ds) j=some c->Top K G H c (adr Z j)
 | env,[],ds,j,c,_,_,_,h,_=>by simp at h
 | env,i :: is,[],j,c,_,_,h,_,_=>by simp [jg] at h
 | env,i :: is,d :: ds,j,c,nd,hm,h,hj,hc=>by
  obtain ⟨n1,nd'⟩:=Pa.mp nd;have h':Top K G H d (adr Z i)/\jg K G H ds (is.map (adr Z)):=h;unfold dH at hc;rcases Oo.mp hj with rfl | hj
  ·have e:=jL (fR env j d) is ds j n1;have:aR (fR env j d) j=some c:=by unfold aR at hc ⊢;rwa [e] at hc
   rw [kT (hm j Od)] at this;cases this;exact h'.1
  ·exact l8 (env:=fR env i d) nd' (fun k hk=>(ft env i d).symm.kp.mu (hm k (N8 _ hk))) h'.2 hj hc
theorem lX:∀ {is:List Nat},EI is=true->is.Nodup
 | [],_=>List.nodup_nil
 | x :: xs,h=>by
  have h':xs.contains x=false/\EI xs=true:=by simpa [EI] using h
  exact Pa.mpr ⟨fun z=>by simp [z] at h',lX h'.2⟩
theorem wt (h:ckA is bs n=true):is.Nodup/\(∀ i∈bs,i ∉ is)/\n=is.length:=by
 unfold ckA at h;simp only [OF,O8,Px] at h;exact ⟨lX h.1,fun i hi z=>by have:=h.2.1 i hi;simp [z] at this,h.2.2⟩
theorem Bg {is:List Nat} (R1:Rel K F0 ZY I e1 Z H1) (hmu:∀ i∈is,mu e1 i) (b:Qx) (hb:b∈is.map (adr Z)):IA e1 Z b:=by
 obtain ⟨i,hi,e⟩:=O1.mp hb;obtain ⟨d,m'⟩:=hmu i hi;have:∃ a,Z[i]?=some (some (.ref a)):=by
  rcases m' with z | z
  ·obtain ⟨a,s,_⟩:=R1.own i d z;exact ⟨a,s⟩
  ·obtain ⟨a,s,_⟩:=R1.ino i d z;exact ⟨a,s⟩
 obtain ⟨a,s⟩:=this;rw [iA s] at e;subst e;exact ⟨i,hmu i hi,s⟩
theorem mF {f:Fn} {avs:List AV} {vs:List V} {rv:RV} {Q:VK} (h:kU f avs e1=some (rv,env')) (R1:Rel K F0 ZY I e1 Z H1) (a1:fT K F0 e1 Z H1 avs vs) (q:∀ v H',Rel K F0 ZY I env' Z H'->KpE e1 env'->mW K F0 ZY I env' Z H' rv v->Q v H'):jY f K vs H1 Q NoE:=by
 unfold kU at h;split at h
 ·cases h
 ·rename_i ds h2;split at h
  ·cases h
  ·rename_i pr outs h3;split at h
   ·rename_i hc;obtain ⟨nd,hb,hl⟩:=wt hc;cases h;have hmu:=qC h2;refine ⟨FF F0 e1 Z,ds,(cT f.ms avs).map (adr Z),pr,outs,h3,BD R1 (cT f.ms avs) hmu h2 a1 nd hb (fun _ z=>z),fun b z=>R1.d4 z,fun v H2 hk hr=>?_⟩;have k:=nI e1 (cT f.ms avs) outs;have eF:=k.ff (F0:=F0) (Z:=Z);have eI:=k.ia (Z:=Z);have isIA:=Bg R1 hmu;have hk':∀ b o,H1 b=some o->¬IA e1 Z b->H2 b=some o:=fun b o e n=>hk b o e fun z=>n (isIA b z);have nK:∀ j d a,j ∉ cT f.ms avs->aR (dH e1 (cT f.ms avs) outs) j=some d->Z[j]?=some (some (.ref a))->aR e1 j=some d/\a ∉ (cT f.ms avs).map (adr Z):=fun j d a hj hm hs=>by
     have hm':aR e1 j=some d:=by unfold aR at hm ⊢;rwa [jL _ _ _ _ hj] at hm
     refine ⟨hm',fun z=>?_⟩;obtain ⟨i,hi,e⟩:=O1.mp z;obtain ⟨i',m2,s2⟩:=isIA a z;obtain ⟨di,mi⟩:=hmu i hi;have:∃ a,Z[i]?=some (some (.ref a)):=by
      rcases mi with z | z
      ·obtain ⟨a,s,_⟩:=R1.own i di z;exact ⟨a,s⟩
      ·obtain ⟨a,s,_⟩:=R1.ino i di z;exact ⟨a,s⟩
     obtain ⟨c,sc⟩:=this;rw [iA sc] at e;subst e;have:=R1.sep j i c (R1.dC hm').1 ⟨di,mi⟩ hs sc;subst this;exact hj hi
    cases pr with
    | dat d =>
     obtain ⟨hd,ht⟩:=hr;refine q v H2 (R1.chg k hk' fun j c a hm hs=>?_) k.kp (show Dm K _ H2 d v by rw [eF];exact hd);by_cases hj:j∈cT f.ms avs
     ·have:=l8 nd hmu ht hj hm
      rwa [iA hs] at this
     ·obtain ⟨hm',ha⟩:=nK j c a hj hm hs;obtain ⟨_,a',s',_,t'⟩:=R1.dC hm';rw [hs] at s';cases s';exact t'.pr (R1.uK hk') (fun _ z=>z) fun o e=>hk a o e ha
    | frs d =>
     obtain ⟨c,ev,hn,td,ht⟩:=hr;obtain ⟨o,ho,_⟩:=td.wr;have sm:aZ H1 (upd H1 c o):=aZ.nw o hn;have R1c:=R1.fresh (c:=c) hn sm (by rw [aE];exact nofun);have cIA:¬IA e1 Z c:=fun z=>by obtain ⟨o',z,_⟩:=R1.iaT z;rw [hn] at z;cases z
     have hkc:∀ b o',upd H1 c o b=some o'->¬IA e1 Z b->H2 b=some o':=fun b o' e n=>by
      by_cases z:b=c
      ·subst z;rw [aE] at e;cases e;exact ho
      ·rw [aL z] at e;exact hk' b o' e n
     have pF:Pr (fun b=>FF F0 e1 Z b\/b=c) H1 H2:=fun b o' e n=>hk' b o' e fun y=>by
      rcases n with n | n
      ·exact n (.inl (R1.ia y))
      ·obtain ⟨o2,h2,w2⟩:=R1.iaT y;rw [e] at h2;cases h2;rw [n] at w2;cases w2
     have R2c:Rel K (fun b=>F0 b\/b=c) ZY I (dH e1 (cT f.ms avs) outs) Z H2:=by
      refine R1c.chg k hkc fun j c' a hm hs=>?_;rw [n5];by_cases hj:j∈cT f.ms avs
      ·have:=l8 nd hmu ht hj hm
       rwa [iA hs] at this
      ·obtain ⟨hm',ha⟩:=nK j c' a hj hm hs;obtain ⟨_,a',s',_,t'⟩:=R1.dC hm';rw [hs] at s';cases s';exact (t'.fresh hn).pr pF (fun _ z=>z) fun o e=>hk a o e ha
     have nino:∀ (i:Nat) (d':Qq),(dH e1 (cT f.ms avs) outs)[i]?=some (.ino d')->Z[i]?≠some (some (.ref c)):=fun i d' e' z=>cIA ⟨i,k.kp.mu ⟨d',.inr e'⟩,z⟩;have rv:mW K F0 ZY I (dH e1 (cT f.ms avs) outs) Z H2 (.frs d) v:=by
      refine ⟨c,ev,R2c,by rw [eF];exact td,R1.oi (.inl hn),fun z=>?_,nino,fun i d' e'=>?_⟩
      ·rw [eF] at z;exact R1.d4 z hn
      ·have e0:e1[i]?=some (.ro d'):=by
        rcases k.2 i with y | ⟨_,_,_,y⟩ | ⟨_,_,_,y⟩
        ·rw [<- y];exact e'
        ·rw [e'] at y;cases y
        ·rw [e'] at y;cases y
       obtain ⟨b,s,t⟩:=R1.ro i d' e0;rw [eF,eI];exact ⟨b,s,((t.fresh hn).Bk hn).pr pF (fun _ z=>z) (fun _ z=>z) fun b o' e n=>hk' b o' e fun z=>n (.inl z)⟩
     exact q v H2 rv.rel k.kp rv
   ·cases h
theorem s_call (ih:SA K ga gd as):SE K ga gd (.call f as):=by
 intro env rv env' h F0 ZY I Z H Q R q;simp only [dE] at h;split at h
 ·rename_i avs e1 h1;refine ih _ _ _ h1 F0 ZY I Z H _ R fun vs H1 R1 k1 a1=>?_;show jY f K (vs++[]) H1 Q NoE;rw [OC];exact mF h R1 a1 fun v H' R' k r=>q v H' R' (k1.trans k) r
 ·cases h
theorem Eu (ih:SA K ga gd as):SE K ga gd (.bT f as):=by
 intro env rv env' h F0 ZY I Z H Q R q;simp only [dE] at h;split at h
 ·rename_i avs e1 h1;refine ih _ _ _ h1 F0 ZY I Z H _ R fun vs H1 R1 k1 a1=>?_;show spX f K (vs++[]) H1 Q ga.E;rw [OC];exact .inl (mF h R1 a1 fun v H' R' k r=>q v H' R' (k1.trans k) r)
 ·cases h
theorem BC (R:Rel K F0 ZY I env Z H) (hm:aR env i=some (.dict kvs)) (h:B6 m kvs=true):∃ a,Z[i]?=some (some (.ref a))/\∃ a' dx fs,V.ref a=.ref a'/\H a'=some (.ins clsAt dx fs)/\fs.lookup m=none:=by
 obtain ⟨_,a,s,_,ep,xs,ea,_,r⟩:=R.dC hm;exact ⟨a,s,a,ep,_,rfl,ea,HS r h⟩
theorem KC (ih:SA K ga gd as):SE K ga gd (.mtx m f i as):=by
 intro env rv env' h F0 ZY I Z H Q R q;simp only [dE] at h;split at h
 ·rename_i kvs hm;split at h
  ·rename_i hn;split at h
   ·rename_i avs e1 h1;obtain ⟨a,s,t⟩:=BC R hm hn;exact ⟨_,s,t,ih _ _ _ h1 F0 ZY I Z H _ R fun vs H1 R1 k1 a1=>.inl (mF h R1 ⟨_,_,rfl,s,a1⟩ fun v H' R' k r=>q v H' R' (k1.trans k) r)⟩
   ·cases h
  ·cases h
 ·cases h
theorem JR (ih:SA K ga gd as):SE K ga gd (.tup as):=by
 intro env rv env' h F0 ZY I Z H Q R q;simp only [dE] at h;split at h
 ·rename_i avs e1 h1;split at h
  ·rename_i ds h2;split at h
   ·rename_i hl;cases h;refine ih _ _ _ h1 F0 ZY I Z H _ R fun vs H1 R1 k1 a1=>?_;have dl:=a1.Kf h2;have hl':vs.length<=sizeLine:=by rw [dl.len];exact hl
    refine ⟨hl',fun p hp=>?_⟩;have s:=aZ.nw (.tup vs) hp;exact q _ _ (R1.same s) k1 ⟨p,vs,rfl,.inl (.inl aE),hl',dl.pr (Pr.of_same s) fun _ z=>z⟩
   ·cases h
  ·cases h
 ·cases h
theorem LI (ih:SA K ga gd as):SE K ga gd (.lst as):=by
 intro env rv env' h F0 ZY I Z H Q R q;simp only [dE] at h;split at h
 ·rename_i avs e1 h1;split at h
  ·rename_i ds h2;split at h
   ·rename_i hl;cases h;refine ih _ _ _ h1 F0 ZY I Z H _ R fun vs H1 R1 k1 a1=>?_;have dl:=a1.Kf h2;have hl':vs.length<=sizeLine:=by rw [dl.len];exact hl
    refine ⟨hl',fun p hp=>?_⟩;have s:=aZ.nw (.lst vs) hp;exact q _ _ (R1.same s) k1 (R1.sy (pr:=.frs (.list ds)) s ⟨p,rfl,hp,vs,aE,hl',(dl.fresh hp).pr (Pr.of_same s) fun _ z=>z⟩)
   ·cases h
  ·cases h
 ·cases h
theorem Kv (ih:SF K ga gd as):SE K ga gd (.fst as):=by
 intro env rv env' h F0 ZY I Z H Q R q;simp only [dE] at h;split at h
 ·rename_i x e1 h1;cases h;exact ih _ _ _ _ h1 F0 ZY I Z H _ R (show PyData.strOk ⟨#[]⟩=true by simp [PyData.strOk]) fun H1 R1 k1 hl ho=>q _ H1 R1 k1 ⟨rfl,hl,ho⟩
 ·cases h
theorem LR:SF K ga gd .nil:=by
 intro out env x env' h F0 ZY I Z H Q R ok q;simp only [dF] at h;split at h
 ·rename_i hl;cases h;exact ⟨hl,q H R (KpE.refl _) hl ok⟩
 ·cases h
theorem Gi (ie:SE K ga gd e) (ir:SF K ga gd r):SF K ga gd (.cons e r):=by
 intro out env x env' h F0 ZY I Z H Q R ok q;simp only [dF] at h;split at h
 ·rename_i y e1 h1;split at h
  ·rename_i hl;refine ie _ _ _ h1 F0 ZY I Z H _ R fun v H1 R1 k1 a1=>?_;obtain ⟨rfl,_,oky⟩:=(show v=.str y/\y.length<=sizeLine/\PyData.strOk y=true from a1);refine ⟨y,rfl,hl,?_⟩;exact ir _ _ _ _ h F0 ZY I Z H1 _ R1 (o7 ok oky) fun H2 R2 k2 hx=>q H2 R2 (k1.trans k2) hx
  ·cases h
 ·cases h
theorem K3:SA K ga gd .nil:=by
 intro env rv env' h F0 ZY I Z H Q R q;simp only [dA] at h;cases h;exact q [] H R (KpE.refl _) rfl
theorem FW (ie:SE K ga gd e) (ir:SA K ga gd r):SA K ga gd (.cons e r):=by
 intro env rv env' h F0 ZY I Z H Q R q;simp only [dA] at h;split at h
 ·rename_i rv0 e1 h1;split at h
  ·rename_i avs e2 h2;cases h;refine ie _ _ _ h1 F0 ZY I Z H _ R fun v H1 R1 k1 a1=>?_;refine ir _ _ _ h2 F0 _ _ Z H1 _ R1.rebase fun vs H2 S2 k2 a2=>?_;exact q (v :: vs) H2 (R1.cB S2) (k1.trans k2) ⟨v,vs,rfl,a1.av.keep R1 S2 k2,a2⟩
  ·cases h
 ·cases h
end
section
variable {K:Fg} {F F' I I' F0:Qx->Prop} {H H' ZY:Hp} {env env':En} {Z Z':St} {ga:Gv} {gd:List Qq}
theorem KI (ic:ST K ga gd c) (ia:SE K ga gd a) (ib:SE K ga gd b):SE K ga gd (.ifx c a b):=by
 intro env rv env' h F0 ZY I Z H Q R q;simp only [dE] at h;split at h
 ·rename_i e1 h1;refine ic _ _ _ h1 F0 ZY I Z H _ R fun H1 R1 k1=>?_;rw [Og rfl];exact ia _ _ _ h F0 ZY I Z H1 _ R1 fun v H2 R2 k2 r=>q v H2 R2 (k1.trans k2) r
 ·rename_i e1 h1;refine ic _ _ _ h1 F0 ZY I Z H _ R fun H1 R1 k1=>?_;rw [Ot (by decide)];exact ib _ _ _ h F0 ZY I Z H1 _ R1 fun v H2 R2 k2 r=>q v H2 R2 (k1.trans k2) r
 ·cases h
theorem Gb (ia:SE K ga gd a) (ib:SE K ga gd b):SE K ga gd (.oa a b):=by
 intro env rv env' h F0 ZY I Z H Q R q;simp only [dE] at h;split at h
 ·rename_i e1 h1;refine ia _ _ _ h1 F0 ZY I Z H _ R fun v H1 R1 k1 r1=>⟨true,r1,?_⟩;rw [Og rfl];exact ib _ _ _ h F0 ZY I Z H1 _ R1 fun v H2 R2 k2 r=>q v H2 R2 (k1.trans k2) r
 ·rename_i e1 h1;cases h;refine ia _ _ _ h1 F0 ZY I Z H _ R fun v H1 R1 k1 r1=>⟨false,r1,?_⟩;rw [Ot (by decide)];exact q _ H1 R1 k1 rfl
 ·cases h
theorem L7 (ia:SE K ga gd a) (ib:SE K ga gd b):SE K ga gd (.orv a b):=by
 intro env rv env' h F0 ZY I Z H Q R q;simp only [dE] at h;split at h
 ·rename_i e1 h1;cases h;refine ia _ _ _ h1 F0 ZY I Z H _ R fun v H1 R1 k1 r1=>⟨true,r1,?_⟩;rw [Og rfl];exact q _ H1 R1 k1 rfl
 ·rename_i e1 h1;refine ia _ _ _ h1 F0 ZY I Z H _ R fun v H1 R1 k1 r1=>⟨false,r1,?_⟩;rw [Ot (by decide)];exact ib _ _ _ h F0 ZY I Z H1 _ R1 fun v H2 R2 k2 r=>q v H2 R2 (k1.trans k2) r
 ·cases h
theorem HE (ia:SE K ga gd a):SE K ga gd (.ED a):=by
 intro env rv env' h F0 ZY I Z H Q R q;simp only [dE] at h;split at h
 ·rename_i x e1 h1;cases h;exact ia _ _ _ h1 F0 ZY I Z H _ R fun v H1 R1 k1 r1=>⟨x,r1,q _ H1 R1 k1 rfl⟩
 ·cases h
theorem Jq (hx:Vw K F H x u) (hy:Vw K F H y v):VwL K F H [x,y] [u,v]:=⟨u,[v],rfl,hx,v,[],rfl,hy,rfl⟩
theorem Ji (ia:SE K ga gd a) (ib:SE K ga gd b) (ic:SE K ga gd c):SE K ga gd (.chn p p' a b c):=by
 intro env rv env' h F0 ZY I Z H Q R q;simp only [dE] at h;split at h
 ·rename_i ra e1 h1;split at h
  ·rename_i rb e2 h2;split at h
   ·rename_i x y hx hy;refine ia _ _ _ h1 F0 ZY I Z H _ R fun v H1 R1 k1 r1=>?_;refine ib _ _ _ h2 F0 _ _ Z H1 _ R1.rebase fun u H2 S2 k2 r2=>?_;have R2:=R1.cB S2;have a1:=r1.av.keep R1 S2 k2;have a2:=r2.av;rw [hx] at a1;rw [hy] at a2;have dx:Dm K (FF F0 e2 Z) H2 x v:=a1;have dy:Dm K (FF F0 e2 Z) H2 y u:=a2;split at h
    ·rename_i hp;split at h
     ·rename_i rc e3 h3;split at h
      ·rename_i z hz;split at h
       ·rename_i pr hq;cases h;refine p.ok K _ H2 _ _ _ _ hp (Jq dx.vw dy.vw) (fun b z=>R2.d4 z) fun w H3 s3 hw=>⟨true,hw,?_⟩;rw [Og rfl];have R3:=R2.same s3;have dy3:Dm K (FF F0 e2 Z) H3 y u:=dy.pr (Pr.of_same s3) fun _ z=>z;refine ic _ _ _ h3 F0 _ _ Z H3 _ R3.rebase fun t H4 S4 k4 r4=>?_;have R4:=R3.cB S4;have a4:=r4.av;rw [hz] at a4;have dz:Dm K (FF F0 env' Z) H4 z t:=a4;refine p'.ok K _ H4 _ _ _ _ hq (Jq (R3.wH S4 k4 dy3).vw dz.vw) (fun b z=>R4.d4 z) fun w H5 s5 hw=>?_;exact q w H5 (R4.same s5) ((k1.trans k2).trans k4) (R4.sy s5 hw)
       ·cases h
      ·cases h
     ·cases h
    ·rename_i hp;cases h;refine p.ok K _ H2 _ _ _ _ hp (Jq dx.vw dy.vw) (fun b z=>R2.d4 z) fun w H3 s3 hw=>⟨false,hw,?_⟩;rw [Ot (by decide)];exact q _ H3 (R2.same s3) (k1.trans k2) rfl
    ·cases h
   ·cases h
  ·cases h
 ·cases h
theorem JN (ia:SE K ga gd a) (ib:SE K ga gd b) (ic:SE K ga gd c):SE K ga gd (.sl2 p a b c):=by
 intro env rv env' h F0 ZY I Z H Q R q;simp only [dE] at h;split at h
 ·rename_i ra e1 h1;split at h
  ·rename_i i e2 h2;split at h
   ·rename_i j e3 h3;split at h
    ·rename_i d hv;split at h
     ·rename_i pr hp;cases h;refine ia _ _ _ h1 F0 ZY I Z H _ R fun v H1 R1 k1 r1=>?_;refine ib _ _ _ h2 F0 _ _ Z H1 _ R1.rebase fun u H2 S2 k2 r2=>⟨i,r2,?_⟩;have R2:=R1.cB S2;have a1:=r1.av.keep R1 S2 k2;refine ic _ _ _ h3 F0 _ _ Z H2 _ R2.rebase fun w H3 S3 k3 r3=>⟨j,r3,?_⟩;have R3:=R2.cB S3;have a2:=a1.keep R2 S3 k3;refine (p i j).ok K _ H3 [d] [v] pr Q hp ⟨v,[],rfl,a2.vw R3 hv,rfl⟩ (fun b z=>R3.d4 z) fun w H4 s4 hw=>?_;exact q w H4 (R3.same s4) ((k1.trans k2).trans k3) (R3.sy s4 hw)
     ·cases h
    ·cases h
   ·cases h
  ·cases h
 ·cases h
theorem Jk (ie:SE K ga gd e):ST K ga gd (.tst e):=by
 intro env b env' h F0 ZY I Z H Q R q;simp only [dT] at h;split at h
 ·rename_i x e1 h1;cases h;exact ie _ _ _ h1 F0 ZY I Z H _ R fun v H1 R1 k1 r1=>⟨_,r1,q H1 R1 k1⟩
 ·cases h
theorem kv (h:DmL K F H ds vs):vs.isEmpty=ds.isEmpty:=by
 cases ds with
 | nil=>rw [show vs=[] from h];rfl
 | cons d ds=>obtain ⟨v,r,rfl,_⟩:=h;rfl
theorem Vw.tru (h:Vw K F H d v) (nd:BZ d≠true):IV K v H (JL d):=by
 cases d with
 | none=>rw [show v=.non from h];rfl
 | bool b=>rw [show v=.bl b from h];rfl
 | int i=>rw [show v=.int i from h];rfl
 | str x=>obtain ⟨rfl,hl,_⟩:=(show v=.str x/\x.length<=sizeLine/\PyData.strOk x=true from h);exact ⟨hl,rfl⟩
 | list ds=>obtain ⟨a,rfl,xs,e,_,r⟩:=h;exact .inl ⟨xs,e,by rw [kv r];rfl⟩
 | tuple ds=>obtain ⟨a,xs,rfl,e,_,r⟩:=h;exact .inr (.inl ⟨xs,e,by rw [kv r];rfl⟩)
 | dict ds=>exact absurd rfl nd
theorem Lo (ie:SE K ga gd e):ST K ga gd (.tru e):=by
 intro env b env' h F0 ZY I Z H Q R q;simp only [dT] at h;split at h
 ·rename_i x e1 h1;split at h
  ·rename_i d h2;split at h
   ·cases h
   ·rename_i nd;cases h;exact ie _ _ _ h1 F0 ZY I Z H _ R fun v H1 R1 k1 r1=>⟨_,(r1.av.vw R1 h2).tru nd,q H1 R1 k1⟩
  ·cases h
 ·cases h
theorem Lu (ia:ST K ga gd a) (ib:ST K ga gd b):ST K ga gd (.and a b):=by
 intro env x env' h F0 ZY I Z H Q R q;simp only [dT] at h;split at h
 ·rename_i e1 h1;refine ia _ _ _ h1 F0 ZY I Z H _ R fun H1 R1 k1=>?_;rw [Og rfl];exact ib _ _ _ h F0 ZY I Z H1 _ R1 fun H2 R2 k2=>q H2 R2 (k1.trans k2)
 ·rename_i e1 h1;cases h;refine ia _ _ _ h1 F0 ZY I Z H _ R fun H1 R1 k1=>?_;rw [Ot (by decide)];exact q H1 R1 k1
 ·cases h
theorem Nu (ia:ST K ga gd a) (ib:ST K ga gd b):ST K ga gd (.or a b):=by
 intro env x env' h F0 ZY I Z H Q R q;simp only [dT] at h;split at h
 ·rename_i e1 h1;cases h;refine ia _ _ _ h1 F0 ZY I Z H _ R fun H1 R1 k1=>?_;rw [Og rfl];exact q H1 R1 k1
 ·rename_i e1 h1;refine ia _ _ _ h1 F0 ZY I Z H _ R fun H1 R1 k1=>?_;rw [Ot (by decide)];exact ib _ _ _ h F0 ZY I Z H1 _ R1 fun H2 R2 k2=>q H2 R2 (k1.trans k2)
 ·cases h
theorem Mc (ia:ST K ga gd a):ST K ga gd (.not a):=by
 intro env x env' h F0 ZY I Z H Q R q;simp only [dT] at h;split at h
 ·rename_i b e1 h1;cases h;exact ia _ _ _ h1 F0 ZY I Z H _ R fun H1 R1 k1=>q H1 R1 k1
 ·cases h
theorem Kg:ST K ga gd .yes:=by
 intro env x env' h F0 ZY I Z H Q R q;simp only [dT] at h;cases h;exact q H R (KpE.refl _)
theorem BK (hd:DmL K F H ds vs) (hl:vs.length<=sizeLine) (h:∀ H',(∀ b o,H b=some o->¬I b->H' b=some o)->SqL K H' a vs):Et K F I H (Itl K a) ds :=
 my hd hl fun H' k j=>⟨fun hj=>⟨⟨vs,vs[j],h H' k,Oi hj⟩,fun x H'' y=>⟨y.1,y.2 vs (h H' k)⟩⟩,fun hj=>⟨vs,h H' k,hj⟩⟩
theorem Ie (hd:DmL K F H ds vs) (hl:vs.length<=sizeLine) (h:∀ H',(∀ b o,H b=some o->¬I b->H' b=some o)->SqT K H' a vs):Et K F I H (Itt K a) ds :=
 my hd hl fun H' k j=>⟨fun hj=>⟨⟨vs,vs[j],h H' k,Oi hj⟩,fun x H'' y=>⟨y.1,y.2 vs (h H' k)⟩⟩,fun hj=>⟨vs,h H' k,hj⟩⟩
theorem Lj (ie:SE K ga gd e):SI K ga gd (.lst e):=by
 intro env ds lock env' h F0 ZY I Z H Q R q;simp only [dI] at h;split at h
 ·rename_i rv e1 h1;split at h
  ·rename_i ds' hv;cases h;refine ie _ _ _ h1 F0 ZY I Z H _ R fun v H1 R1 k1 r1=>?_;have a1:=r1.av;rw [hv] at a1;obtain ⟨a,xs,rfl,l,z,r⟩:=(show Dm K (FF F0 env' Z) H1 (.list ds) v from a1);refine ⟨a,rfl,⟨xs,l.elim (fun q=>.inl q.2) .inr⟩,q _ H1 R1 k1 (fun i z=>by cases z) (BK r z fun H' k=>?_)⟩;rcases l with ⟨n,l | ⟨o,l⟩⟩ | l
   ·exact .inl (.inl (k _ _ l fun z=>n (R1.ia z.1)))
   ·exact .inl (.inr ⟨o,k _ _ l fun z=>n (R1.ia z.1)⟩)
   ·exact .inr l
  ·cases h
  ·rename_i i hv;split at h
   ·rename_i ds' hc;cases h;refine ie _ _ _ h1 F0 ZY I Z H _ R fun v H1 R1 k1 r1=>?_;have a1:=r1.av;rw [hv] at a1;have s:Z[i]?=some (some v):=a1;unfold cont at hc;have fin:∀ a xs,v=.ref a->DmL K (FF F0 env' Z) H1 ds xs->xs.length<=sizeLine->(∀ H',(∀ b o,H1 b=some o->¬(IA env' Z b/\∀ j,some i=some j->mu env' j->Z[j]?≠some (some (.ref b)))->H' b=some o)->SqL K H' a xs)->(∃ d,cont env' i=some d) ->
      ∃ a,v=.ref a/\(∃ xs,SqL K H1 a xs)/\Q (Itl K a) H1:=fun a xs ev r z k hcd =>
     ⟨a,ev,⟨xs,k H1 fun _ _ e _=>e⟩,q _ H1 R1 k1 (fun j hj=>by cases hj;exact hcd) (BK r z k)⟩
    split at hc
    ·rename_i d e;cases hc;obtain ⟨a,s',_,_,xs,t,z,r⟩:=R1.own i _ e;rw [s] at s';cases s';exact fin a xs rfl r z (fun H' k=>.inl (.inl (k _ _ t fun y=>y.2 i rfl ⟨_,.inl e⟩ s))) ⟨_,by unfold cont;rw [e]⟩
    ·rename_i d e;cases hc;obtain ⟨a,s',_,_,xs,t,z,r⟩:=R1.ino i _ e;rw [s] at s';cases s';exact fin a xs rfl r z (fun H' k=>.inl (.inl (k _ _ t fun y=>y.2 i rfl ⟨_,.inr e⟩ s))) ⟨_,by unfold cont;rw [e]⟩
    ·rename_i d e;cases hc;obtain ⟨a,s',xs,l,z,r⟩:=R1.ro i _ e;rw [s] at s';cases s';refine fin a xs rfl r z (fun H' k=>?_) ⟨_,by unfold cont;rw [e]⟩;rcases l with ⟨n,l | ⟨o,l⟩⟩ | l
     ·exact .inl (.inl (k _ _ l fun z=>n z.1))
     ·exact .inl (.inr ⟨o,k _ _ l fun z=>n z.1⟩)
     ·exact .inr l
    ·cases hc
   ·cases h
 ·cases h
theorem Jt (ie:SE K ga gd e):SI K ga gd (.tup e):=by
 intro env ds lock env' h F0 ZY I Z H Q R q;simp only [dI] at h;split at h
 ·rename_i rv e1 h1;split at h
  ·rename_i ds' hv;cases h;refine ie _ _ _ h1 F0 ZY I Z H _ R fun v H1 R1 k1 r1=>?_;have a1:=r1.av;rw [hv] at a1;obtain ⟨a,xs,rfl,l,z,r⟩:=(show Dm K (FF F0 env' Z) H1 (.tuple ds) v from a1);refine ⟨a,rfl,⟨xs,l⟩,q _ H1 R1 k1 (fun i z=>by cases z) (Ie r z fun H' k=>?_)⟩;exact l.pr (R1.uK fun b o e n=>k b o e fun z=>n z.1)
  ·cases h
 ·cases h
theorem GA:∀ {cs:List Nat},(∀ c∈cs,c < 0x110000)->DmL K F H (cs.map fun c=>.str ⟨#[c]⟩) (cs.map fun c=>.str ⟨#[c]⟩)
 | [],_=>rfl
 | c :: cs,h=>⟨_,_,rfl,⟨rfl,by show 1<=sizeLine;decide,by have:=h c Od;simp [PyData.strOk,this]⟩,GA fun x hx=>h x (N8 _ hx)⟩
theorem i4 (h:PyData.strOk x=true):∀ c∈x.cps.toList,c < 0x110000:=fun c hc=>by
 unfold PyData.strOk at h;have:=Array.all_eq_true'.mp h c (by simpa using hc);simpa using this
theorem LY (ie:SE K ga gd e):SI K ga gd (.str e):=by
 intro env ds lock env' h F0 ZY I Z H Q R q;simp only [dI] at h;split at h
 ·rename_i rv e1 h1;split at h
  ·rename_i x hv;cases h;refine ie _ _ _ h1 F0 ZY I Z H _ R fun v H1 R1 k1 r1=>?_;have a1:=r1.av;rw [hv] at a1;obtain ⟨rfl,hl,ok⟩:=(show v=.str x/\x.length<=sizeLine/\PyData.strOk x=true from a1);have ez:x.cps.toList.length=x.length:=by simp [Str.length]
   refine ⟨x,rfl,q _ H1 R1 k1 (fun i z=>by cases z) (my (GA (i4 ok)) (by rw [N6,ez];exact hl) fun H' k j=>⟨fun hj=>?_,fun hj=>?_⟩)⟩
   ·rw [N6,ez] at hj;refine ⟨hj,fun y H'' hy=>?_⟩;obtain ⟨e,c,hc,rfl⟩:=hy;refine ⟨e,?_⟩;rw [OA];have:x.cps.toList[j]?=some c:=by rw [<- hc];simp
    rw [this];rfl
   ·rw [N6,ez] at hj;exact hj
  ·cases h
 ·cases h
theorem B9 {f:Nat->Int}:∀ {cs:List Nat},DmL K F H (cs.map fun c=>.int (f c)) (cs.map fun c=>.int (f c))
 | []=>rfl
 | c :: cs=>⟨_,_,rfl,rfl,B9⟩
theorem GZ {lo:Int} (hn:n<=sizeLine):Et K F I H (Itr lo n) ((List.range n).map fun (k:Nat)=>.int (lo+(k:Int))):=by
 refine my (vs:=(List.range n).map fun (k:Nat)=>.int (lo+(k:Int))) (B9 (f:=fun k=>lo+(k:Int))) (by rw [N6,Pt];exact hn) fun H' k j=>⟨fun hj=>?_,fun hj=>?_⟩
 ·rw [N6,Pt] at hj;refine ⟨hj,fun y H'' hy=>⟨hy.1,?_⟩⟩;rw [OA,List.getElem?_range hj,hy.2];rfl
 ·rw [N6,Pt] at hj;exact hj
theorem GJ (ia:SA K ga gd as):SI K ga gd (.rng1 as):=by
 intro env ds lock env' h F0 ZY I Z H Q R q;simp only [dI] at h;split at h
 ·rename_i avs e1 h1;split at h
  ·rename_i j;split at h
   ·rename_i hj;cases h;refine ia _ _ _ h1 F0 ZY I Z H _ R fun vs H1 R1 k1 a1=>?_;obtain ⟨v,r,rfl,hv,rfl⟩:=a1;have hv:v=.int j:=hv;subst hv;refine ⟨j,rfl,hj.1,by have:=hj.2;omega,q _ H1 R1 k1 (fun i z=>by cases z) (GZ ?_)⟩;have:=hj.2;show j.toNat<=2 ^ 24;omega
   ·cases h
  ·cases h
 ·cases h
end
section
variable {K:Fg} {F F' I I' F0:Qx->Prop} {H H' ZY:Hp} {env env':En} {Z Z':St} {ga:Gv} {gd:List Qq}
theorem nH {α:Type}:∀ {l:List α} {i j:Nat} {x:α},l.Nodup->l[i]?=some x->l[j]?=some x->i=j
 | [],_,_,_,_,h,_=>by simp at h
 | y :: l,0,0,_,_,_,_=>rfl
 | y :: l,0,j+1,x,nd,h1,h2=>by
  simp at h1 h2;subst h1;exact absurd (OH h2) (Pa.mp nd).1
 | y :: l,i+1,0,x,nd,h1,h2=>by
  simp at h1 h2;subst h2;exact absurd (OH h1) (Pa.mp nd).1
 | y :: l,i+1,j+1,x,nd,h1,h2=>by
  simp at h1 h2;rw [nH (Pa.mp nd).2 h1 h2]
def noOwn (env:En):Prop:=∀ (i:Nat) (d:Qq),env[i]?≠some (.own d)
theorem gb (h:noOwn env):FF F0 env Z=F0:=by
 funext b;apply propext;constructor
 ·rintro (q | ⟨i,d,e,_⟩)
  ·exact q
  ·exact absurd e (h i d)
 ·exact .inl
theorem noOwn.kp (h:noOwn env) (k:KpE env env'):noOwn env':=fun i d e=>by
 obtain ⟨d',e'⟩:=k.own e;exact h i d' e'
def yE:Sl->Prop | .dat _=>True | .un=>True | _=>False
theorem mP (hp:∀ s∈pre,yE s) (hl:pre.length=ps.length):FF F0 (pre++env) (ps++Z)=FF F0 env Z:=by
 funext b;apply propext;constructor
 ·rintro (q | ⟨i,d,e,s⟩)
  ·exact .inl q
  ·by_cases hi:i < pre.length
   ·rw [Oq hi] at e;have:=hp _ (OH e);exact absurd this id
   ·rw [Oa (by omega)] at e;rw [Oa (by omega),<-hl] at s;exact .inr ⟨_,d,e,s⟩
 ·rintro (q | ⟨i,d,e,s⟩)
  ·exact .inl q
  ·refine .inr ⟨pre.length+i,d,?_,?_⟩
   ·rw [Oa (by omega)];simpa using e
   ·rw [Oa (by omega),hl];simpa using s
theorem mO (hp:∀ s∈pre,yE s) (h:mu (pre++env) i):pre.length<=i/\mu env (i - pre.length):=by
 obtain ⟨d,h⟩:=h;by_cases hi:i < pre.length
 ·rw [Oq hi] at h;rcases h with h | h <;> exact absurd (hp _ (OH h)) id
 ·rw [Oa (by omega)] at h;exact ⟨by omega,d,h⟩
theorem rn (hp:∀ s∈pre,yE s) (hl:pre.length=ps.length):IA (pre++env) (ps++Z)=IA env Z:=by
 funext b;apply propext;constructor
 ·rintro ⟨i,m,s⟩;obtain ⟨hi,m'⟩:=mO hp m;rw [Oa (by omega),<-hl] at s;exact ⟨_,m',s⟩
 ·rintro ⟨i,⟨d,m⟩,s⟩;refine ⟨pre.length+i,⟨d,?_⟩,?_⟩
  ·rw [Oa (by omega)];simpa using m
  ·rw [Oa (by omega),hl];simpa using s
theorem Rel.front (R:Rel K F0 ZY I env Z H) (h:DmL K (FF F0 env Z) H ds vs):Rel K F0 ZY I (ds.map .dat++env) (vs.map some++Z) H:=by
 have hp:∀ s∈(ds.map Sl.dat),yE s:=fun s hs=>by obtain ⟨d,_,rfl⟩:=O1.mp hs;trivial
 have hl:(ds.map Sl.dat).length=(vs.map some).length:=by rw [N6,N6,h.len]
 have hl2:(ds.map Sl.dat).length=ds.length:=N6 _;have eF:=mP (F0:=F0) (env:=env) (Z:=Z) hp hl;have eI:=rn (env:=env) (Z:=Z) hp hl;have back:∀ {i:Nat} {s:Sl},(ds.map Sl.dat++env)[i]?=some s->(∀ d,s≠.dat d)->(ds.map Sl.dat).length<=i/\env[i - (ds.map Sl.dat).length]?=some s:=fun {i s} e n=>by
  by_cases hi:i < (ds.map Sl.dat).length
  ·rw [Oq hi] at e;obtain ⟨d,_,z⟩:=O1.mp (OH e);exact absurd z.symm (n d)
  ·rw [Oa (by omega)] at e;exact ⟨by omega,e⟩
 have fs:∀ {i:Nat} {x:Option V},(ds.map Sl.dat).length<=i->Z[i - (ds.map Sl.dat).length]?=some x->(vs.map some++Z)[i]?=some x:=fun {i x} hi e=>by
  rw [Oa (by omega),<-hl];exact e
 refine ⟨by rw [N5,N5,hl,R.len],fun i d e=>?_,fun i d e=>?_,fun i d e=>?_,fun i d e=>?_,fun i j a h1 h2 h3 h4=>?_,R.dom,R.gP⟩
 ·rw [eF];by_cases hi:i < (ds.map Sl.dat).length
  ·rw [Oq hi,OA] at e;cases e2:ds[i]? with
   | none=>rw [e2] at e;cases e
   | some d' =>
    rw [e2] at e;cases e;obtain ⟨v,q,r⟩:=h.get e2;refine ⟨v,?_,r⟩;rw [Oq (by omega),OA,q];rfl
  ·rw [Oa (by omega)] at e;obtain ⟨v,s,r⟩:=R.dat _ d e;exact ⟨v,fs (by omega) s,r⟩
 ·rw [eF];obtain ⟨hi,e⟩:=back e (fun _=>nofun);obtain ⟨a,s,q⟩:=R.own _ d e;exact ⟨a,fs hi s,q⟩
 ·rw [eF];obtain ⟨hi,e⟩:=back e (fun _=>nofun);obtain ⟨a,s,q⟩:=R.ino _ d e;exact ⟨a,fs hi s,q⟩
 ·rw [eF,eI];obtain ⟨hi,e⟩:=back e (fun _=>nofun);obtain ⟨a,s,q⟩:=R.ro _ d e;exact ⟨a,fs hi s,q⟩
 ·obtain ⟨i1,m1⟩:=mO hp h1;obtain ⟨i2,m2⟩:=mO hp h2;rw [Oa (by omega),<-hl] at h3 h4;have:=R.sep _ _ a m1 m2 h3 h4;omega
theorem Rel.behind (R:Rel K F0 ZY I (pre++env) (ps++Z) H) (hp:∀ s∈pre,yE s) (hl:pre.length=ps.length):Rel K F0 ZY I env Z H:=by
 have eF:=mP (F0:=F0) (env:=env) (Z:=Z) hp hl;have eI:=rn (env:=env) (Z:=Z) hp hl;have up:∀ {i:Nat} {s:Sl},env[i]?=some s->(pre++env)[pre.length+i]?=some s:=fun {i s} e=>by
  rw [Oa (by omega)];simpa using e
 have dn:∀ {i:Nat} {x:Option V},(ps++Z)[pre.length+i]?=some x->Z[i]?=some x:=fun {i x} e=>by
  rw [Oa (by omega),hl] at e;simpa using e
 have us:∀ {i:Nat} {x:Option V},Z[i]?=some x->(ps++Z)[pre.length+i]?=some x:=fun {i x} e=>by
  rw [Oa (by omega),hl];simpa using e
 refine ⟨by have:=R.len;rw [N5,N5,hl] at this;omega,fun i d e=>?_,fun i d e=>?_,fun i d e=>?_,fun i d e=>?_,fun i j a h1 h2 h3 h4=>?_,R.dom,R.gP⟩
 ·obtain ⟨v,s,r⟩:=R.dat _ d (up e);rw [eF] at r;exact ⟨v,dn s,r⟩
 ·obtain ⟨v,s,r⟩:=R.own _ d (up e);rw [eF] at r;exact ⟨v,dn s,r⟩
 ·obtain ⟨v,s,r⟩:=R.ino _ d (up e);rw [eF] at r;exact ⟨v,dn s,r⟩
 ·obtain ⟨v,s,r⟩:=R.ro _ d (up e);rw [eF,eI] at r;exact ⟨v,dn s,r⟩
 ·obtain ⟨d1,m1⟩:=h1;obtain ⟨d2,m2⟩:=h2;have:=R.sep (pre.length+i) (pre.length+j) a ⟨d1,m1.imp up up⟩ ⟨d2,m2.imp up up⟩ (us h3) (us h4);omega
theorem KpE.front {ds:List Qq} {e':En} (k:KpE (ds.map .dat++env) e'):∃ env',e'=ds.map .dat++env'/\KpE env env':=by
 have hlen:=k.1;rw [N5,N6] at hlen;refine ⟨e'.drop ds.length,?_,?_,fun i s e=>?_⟩
 ·apply List.ext_getElem?;intro i;by_cases hi:i < ds.length
  ·have hm:(ds.map Sl.dat++env)[i]?=some (.dat ds[i]):=by
    rw [Oq (by rw [N6];exact hi),OA,Oi hi];rfl
   obtain ⟨s',h',ev⟩:=k.2 i _ hm;have ev:s'=.dat ds[i]:=ev;rw [h',ev,Oq (by rw [N6];exact hi),OA,Oi hi];rfl
  ·rw [Oa (by rw [N6];omega),List.getElem?_drop,N6];congr 1;omega
 ·rw [Pm];omega
 ·obtain ⟨s',h',ev⟩:=k.2 (ds.length+i) s (by rw [Oa (by rw [N6];omega),N6];simpa using e);exact ⟨s',by rw [List.getElem?_drop];exact h',ev⟩
theorem fS {lock:Option Nat} {js:List Nat} {k:Nat} {s:Sl} (h:(fQ env lock js)[k]?=some s):∃ j,js[k]?=some j/\s=qm (decide (lock=some j)) (env[j]?.getD .un):=by
 unfold fQ at h;rw [OA] at h;cases e:js[k]? with
 | none=>rw [e] at h;cases h
 | some j=>rw [e] at h;cases h;exact ⟨j,rfl,rfl⟩
theorem qN {js:List Nat} {k j:Nat} (h:js[k]?=some j):(cS js Z)[k]?=some ((Z[j]?).getD none):=by
 unfold cS;rw [OA,h];rfl
theorem dJ {lock:Option Nat} {js:List Nat}:noOwn (fQ env lock js):=fun k d e=>by
 obtain ⟨j,_,e'⟩:=fS e;cases h:env[j]?.getD .un with
 | un=>rw [h] at e';cases e'
 | dat _=>rw [h] at e';cases e'
 | own c=>rw [h] at e';unfold qm at e';simp only at e';split at e' <;> cases e'
 | ino c=>rw [h] at e';unfold qm at e';simp only at e';split at e' <;> cases e'
 | ro _=>rw [h] at e';cases e'
theorem getD_some {j:Nat} {s:Sl} (h:env[j]?.getD .un=s) (n:s≠.un):env[j]?=some s:=by
 cases e:env[j]? with
 | none=>rw [e] at h;exact absurd h.symm n
 | some t=>rw [e] at h;cases h;rfl
theorem rH {lock:Option Nat} {js:List Nat} {k:Nat} {d:Qq} (h:(fQ env lock js)[k]?=some (.ino d)):∃ j,js[k]?=some j/\lock≠some j/\(env[j]?=some (.own d)\/env[j]?=some (.ino d)):=by
 obtain ⟨j,hj,e'⟩:=fS h;refine ⟨j,hj,?_⟩;cases h:env[j]?.getD .un with
 | un=>rw [h] at e';cases e'
 | dat _=>rw [h] at e';cases e'
 | own c =>
  rw [h] at e';unfold qm at e';simp only at e';split at e'
  ·cases e'
  ·rename_i n;cases e';exact ⟨by simpa using n,.inl (getD_some h nofun)⟩
 | ino c =>
  rw [h] at e';unfold qm at e';simp only at e';split at e'
  ·cases e'
  ·rename_i n;cases e';exact ⟨by simpa using n,.inr (getD_some h nofun)⟩
 | ro _=>rw [h] at e';cases e'
theorem eM {lock:Option Nat} {js:List Nat} {k:Nat} (h:mu (fQ env lock js) k):∃ j,js[k]?=some j/\lock≠some j/\mu env j:=by
 obtain ⟨d,h | h⟩:=h
 ·exact absurd h (dJ k d)
 ·obtain ⟨j,h1,h2,h3⟩:=rH h;exact ⟨j,h1,h2,d,h3⟩
theorem cz {js:List Nat} {k j:Nat} {a:Qx} (h:js[k]?=some j) (e:(cS js Z)[k]?=some (some (.ref a))):Z[j]?=some (some (.ref a)):=by
 rw [qN h] at e;cases q:Z[j]? with
 | none=>rw [q] at e;cases e
 | some x=>rw [q] at e;cases e;rfl
theorem du {js:List Nat} {k j:Nat} {v:V} (h:js[k]?=some j) (e:Z[j]?=some (some v)):(cS js Z)[k]?=some (some v):=by rw [qN h,e];rfl
theorem Rel.cS (R:Rel K F0 ZY I env Z H) {lock:Option Nat} {js:List Nat} (nd:js.Nodup):Rel K (FF F0 env Z) H (IA (fQ env lock js) (L2.cS js Z)) (fQ env lock js) (L2.cS js Z) H:=by
 have eF:FF (FF F0 env Z) (fQ env lock js) (L2.cS js Z)=FF F0 env Z:=gb dJ;have sub:∀ b,IA (fQ env lock js) (L2.cS js Z) b->IA env Z b:=fun b ⟨k,m,s⟩=>by
  obtain ⟨j,hj,_,mj⟩:=eM m;exact ⟨j,mj,cz hj s⟩
 refine ⟨by unfold fQ L2.cS;rw [N6,N6],fun k d e=>?_,fun k d e=>absurd e (dJ k d),fun k d e=>?_,fun k d e=>?_,fun k l a h1 h2 h3 h4=>?_,fun b h=>R.d4 h,fun _ _ h _=>h⟩
 ·rw [eF];obtain ⟨j,hj,e'⟩:=fS e;have ej:env[j]?=some (.dat d):=by
   cases h:env[j]?.getD .un with
   | un=>rw [h] at e';cases e'
   | dat c=>rw [h] at e';cases e';exact getD_some h nofun
   | own c=>rw [h] at e';unfold qm at e';simp only at e';split at e' <;> cases e'
   | ino c=>rw [h] at e';unfold qm at e';simp only at e';split at e' <;> cases e'
   | ro _=>rw [h] at e';cases e'
  obtain ⟨v,s,r⟩:=R.dat j d ej;exact ⟨v,du hj s,r⟩
 ·rw [eF];obtain ⟨j,hj,_,ej⟩:=rH e;have:∃ a,Z[j]?=some (some (.ref a))/\FF F0 env Z a/\Top K (FF F0 env Z) H d a:=by
   rcases ej with ej | ej
   ·obtain ⟨a,s,_,_,t⟩:=R.own j d ej;exact ⟨a,s,.inr ⟨j,d,ej,s⟩,t⟩
   ·obtain ⟨a,s,f,_,t⟩:=R.ino j d ej;exact ⟨a,s,.inl f,t⟩
  obtain ⟨a,s,f,t⟩:=this;exact ⟨a,du hj s,f,⟨k,⟨d,.inr e⟩,du hj s⟩,t⟩
 ·rw [eF];obtain ⟨j,hj,e'⟩:=fS e;have lk:∀ a,lock=some j->mu env j->Z[j]?=some (some (.ref a))->¬IA (fQ env lock js) (L2.cS js Z) a:=fun a hl m s ⟨k',m',s'⟩=>by
   obtain ⟨j',hj',hn,mj'⟩:=eM m';have:=R.sep j' j a mj' m (cz hj' s') s;subst this;exact hn hl
  cases h:env[j]?.getD .un with
  | un=>rw [h] at e';cases e'
  | dat c=>rw [h] at e';cases e'
  | own c =>
   rw [h] at e';unfold qm at e';simp only at e';split at e'
   ·rename_i n;cases e';have ej:=getD_some h nofun;obtain ⟨a,s,_,_,t⟩:=R.own j d ej;exact ⟨a,du hj s,t.ro (lk a (by simpa using n) ⟨d,.inl ej⟩ s)⟩
   ·cases e'
  | ino c =>
   rw [h] at e';unfold qm at e';simp only at e';split at e'
   ·rename_i n;cases e';have ej:=getD_some h nofun;obtain ⟨a,s,_,_,t⟩:=R.ino j d ej;exact ⟨a,du hj s,t.ro (lk a (by simpa using n) ⟨d,.inr ej⟩ s)⟩
   ·cases e'
  | ro c =>
   rw [h] at e';cases e';obtain ⟨a,s,t⟩:=R.ro j d (getD_some h nofun);exact ⟨a,du hj s,t.pr Pr.refl (fun _ z=>z) sub fun _ _ z _=>z⟩
 ·obtain ⟨j1,e1,_,m1⟩:=eM h1;obtain ⟨j2,e2,_,m2⟩:=eM h2;have:=R.sep j1 j2 a m1 m2 (cz e1 h3) (cz e2 h4);subst this;exact nH nd e1 e2
theorem bY:∀ (env:En) (js:List Nat) (es:En),SmK env (br env js es)
 | env,[],es=>by unfold br;exact SmK.refl _
 | env,j :: js,[]=>by unfold br;exact SmK.refl _
 | env,j :: js,s :: es=>by
  cases s with
  | ino d=>unfold br;exact (ft env j d).trans (bY _ js es)
  | un=>unfold br;exact bY _ js es
  | dat _=>unfold br;exact bY _ js es
  | own _=>unfold br;exact bY _ js es
  | ro _=>unfold br;exact bY _ js es
theorem bu:∀ (env:En) (js:List Nat) (es:En) (i:Nat),i ∉ js->(br env js es)[i]?=env[i]?
 | env,[],es,i,_=>by unfold br;rfl
 | env,j :: js,[],i,_=>by unfold br;rfl
 | env,j :: js,s :: es,i,h=>by
  have n:i≠j:=fun z=>h (by rw [z];exact Od);have n':i ∉ js:=fun z=>h (N8 _ z);cases s with
  | ino d=>unfold br;rw [bu _ js es i n',lL n]
  | un=>unfold br;exact bu _ js es i n'
  | dat _=>unfold br;exact bu _ js es i n'
  | own _=>unfold br;exact bu _ js es i n'
  | ro _=>unfold br;exact bu _ js es i n'
theorem fe:∀ (env:En) (js:List Nat) (es:En) (k i:Nat) (s:Sl),js.Nodup->js[k]?=some i->es[k]?=some s->(∀ d,s=.ino d->mu env i->aR (br env js es) i=some d)/\((∀ d,s≠.ino d)->(br env js es)[i]?=env[i]?)
 | env,[],es,k,i,s,_,h,_=>by simp at h
 | env,j :: js,[],k,i,s,_,_,h=>by simp at h
 | env,j :: js,t :: es,0,i,s,nd,h,h'=>by
  obtain ⟨n1,nd'⟩:=Pa.mp nd;simp at h h';subst h h';constructor
  ·rintro d rfl m;unfold br;have:=bu (fR env j d) js es j n1;unfold aR;rw [this];exact kT m
  ·intro hn;cases t with
   | ino d=>exact absurd rfl (hn d)
   | un=>unfold br;exact bu _ js es j n1
   | dat _=>unfold br;exact bu _ js es j n1
   | own _=>unfold br;exact bu _ js es j n1
   | ro _=>unfold br;exact bu _ js es j n1
 | env,j :: js,t :: es,k+1,i,s,nd,h,h'=>by
  obtain ⟨n1,nd'⟩:=Pa.mp nd;simp at h h';have hi:i∈js:=OH h;have ne:i≠j:=fun z=>n1 (z▸hi);cases t with
  | ino d =>
   unfold br;have ih:=fe (fR env j d) js es k i s nd' h h';refine ⟨fun d' e m=>ih.1 d' e ((ft env j d).symm.kp.mu m),fun hn=>?_⟩;rw [ih.2 hn,lL ne]
  | un=>unfold br;exact fe env js es k i s nd' h h'
  | dat _=>unfold br;exact fe env js es k i s nd' h h'
  | own _=>unfold br;exact fe env js es k i s nd' h h'
  | ro _=>unfold br;exact fe env js es k i s nd' h h'
theorem KpE.Km (k:KpE env env') {i:Nat} {d:Qq} (e:env[i]?=some (.ino d)):∃ d',env'[i]?=some (.ino d'):=by
 obtain ⟨s',h,ev⟩:=k.2 i _ e;obtain ⟨d',rfl⟩:=ev;exact ⟨d',h⟩
theorem Rel.back (R:Rel K F0 ZY I env Z H) {lock:Option Nat} {js:List Nat} {ec:En} (nd:js.Nodup) (S:Rel K (FF F0 env Z) H (IA (fQ env lock js) (L2.cS js Z)) ec (L2.cS js Z) H') (k:KpE (fQ env lock js) ec):Rel K F0 ZY I (br env js ec) Z H':=by
 have sub:∀ b,IA (fQ env lock js) (L2.cS js Z) b->IA env Z b:=fun b ⟨k,m,s⟩=>by
  obtain ⟨j,hj,_,mj⟩:=eM m;exact ⟨j,mj,cz hj s⟩
 have hk:∀ b o,H b=some o->¬IA env Z b->H' b=some o:=fun b o e n=>S.gP b o e fun z=>n (sub b z);have eFc:FF (FF F0 env Z) ec (L2.cS js Z)=FF F0 env Z:=gb (dJ.kp k);refine R.chg (bY env js ec) hk fun i d a hm hs=>?_;have sm:=bY env js ec;have mi:mu env i:=sm.kp.mu ((rg hm).elim (fun e=>⟨d,.inl e⟩) fun e=>⟨d,.inr e⟩);have nK:(br env js ec)[i]?=env[i]?->¬IA (fQ env lock js) (L2.cS js Z) a->Top K (FF F0 env Z) H' d a:=fun e n=>by
  have hm':aR env i=some d:=by unfold aR at hm ⊢;rwa [e] at hm
  obtain ⟨_,a',s',_,t⟩:=R.dC hm';rw [hs] at s';cases s';exact t.pr (R.uK hk) (fun _ z=>z) fun o e=>S.gP a o e n
 by_cases hi:i∈js
 ·obtain ⟨p,hp⟩:=List.mem_iff_getElem?.mp hi;have hlen:ec.length=js.length:=by rw [k.1];unfold fQ;rw [N6]
  have hpl:p < js.length:=(N9.mp hp).1;have he:ec[p]?=some (ec[p]'(by omega)):=Oi _;obtain ⟨b1,b2⟩:=fe env js ec p i _ nd hp he;by_cases hl:lock=some i
  ·-- locked
   refine nK (b2 fun d' z=>?_) ?_
   ·rw [z] at he;obtain ⟨s,e0,ev⟩:=k.back he;obtain ⟨j,hj,e'⟩:=fS e0;rw [hp] at hj;cases hj;obtain ⟨c,hc | hc⟩:=mi
    ·rw [hc] at e';simp only [Option.getD_some,qm,hl,decide_true,P5] at e';subst e';cases ev
    ·rw [hc] at e';simp only [Option.getD_some,qm,hl,decide_true,P5] at e';subst e';cases ev
   ·rintro ⟨q,mq,sq⟩;obtain ⟨j',hj',hn,mj'⟩:=eM mq;have:=R.sep j' i a mj' mi (cz hj' sq) hs;subst this;exact hn hl
  ·have:∃ c,(fQ env lock js)[p]?=some (.ino c):=by
    unfold fQ;rw [OA,hp];obtain ⟨c,hc | hc⟩:=mi
    ·exact ⟨c,by rw [Option.map_some,hc];simp [qm,hl]⟩
    ·exact ⟨c,by rw [Option.map_some,hc];simp [qm,hl]⟩
   obtain ⟨c,hc⟩:=this;obtain ⟨d',hd'⟩:=k.Km hc;rw [he] at hd';have ed:=b1 d' (OS hd') mi;rw [hm] at ed;cases ed;obtain ⟨a',s',_,_,t⟩:=S.ino p d (by rw [he];exact hd');have:=cz hp s';rw [hs] at this;cases this
   rwa [eFc] at t
 ·refine nK (bu env js ec i hi) ?_;rintro ⟨q,mq,sq⟩;obtain ⟨j',hj',hn,mj'⟩:=eM mq;have:=R.sep j' i a mj' mi (cz hj' sq) hs;subst this;exact hi (OH hj')
end
section
variable {K:Fg} {F F' I I' F0:Qx->Prop} {H H' ZY H1:Hp} {env env' e1:En} {Z Z':St} {ga:Gv} {gd:List Qq}
def LM (K:Fg) (F:Qx->Prop) (H:Hp) (acc:List V):Option Qq->List V->Prop
 | none,acc'=>acc'=acc
 | some d,acc'=>∃ v,acc'=acc++[v]/\Dm K F H d v
theorem De {step:Qq->En->Option (Option Qq×En)} {ds ys:List Qq} {ec:En} {lock:Option Nat} {js:List Nat} {J:It} {Q:VK} {τ:Type} {TI:τ->Prop} {t0:τ} {body:τ->List V->V->Hp->(τ->List V->Hp->Prop)->Prop} (ht0:TI t0)
  (R1:Rel K F0 ZY I e1 Z H1) (nd:js.Nodup) (hit:Et K (FF F0 e1 Z) (fun b=>IA e1 Z b/\∀ i,lock=some i->mu e1 i->Z[i]?≠some (some (.ref b))) H1 J ds) (h2:AZ step ds (fQ e1 lock js)=some (ys,ec))
  (turn:∀ t acc d envc y envc' x H',TI t->step d envc=some (y,envc')->Rel K (FF F0 e1 Z) H1 (IA (fQ e1 lock js) (cS js Z)) envc (cS js Z) H'->noOwn envc->Dm K (FF F0 e1 Z) H' d x->∀ N:τ->List V->Hp->Prop,
   (∀ t' acc' H2,TI t'->Rel K (FF F0 e1 Z) H1 (IA (fQ e1 lock js) (cS js Z)) envc' (cS js Z) H2->KpE envc envc'->Pr (FF F0 e1 Z) H' H2->LM K (FF F0 e1 Z) H2 acc y acc'->N t' acc' H2)->body t acc x H' N)
  (fin:∀ acc H',Rel K F0 ZY I (br e1 js ec) Z H'->DmL K (FF F0 e1 Z) H' ys acc->acc.length<=sizeLine->∀ p,H' p=none->Q (.ref p) (upd H' p (.lst acc))) :
  ∃ W:Nat->Nat->τ->List V->Hp->Prop,(∃ m,W 0 m t0 [] H1)/\∀ i m t acc H,W i m t acc H ->
   (J.stop i H/\acc.length<=sizeLine/\∀ p,H p=none->Q (.ref p) (upd H p (.lst acc)))\/(J.go i H/\acc.length < sizeLine/\∀ x H',J.yld i H x H'->body t acc x H' fun t' acc' H2=>∃ m',m' < m/\W (i+1) m' t' acc' H2):=by
 obtain ⟨hvl,hturn⟩:=hit;have sub:∀ b,IA (fQ e1 lock js) (cS js Z) b->IA e1 Z b/\∀ i,lock=some i->mu e1 i->Z[i]?≠some (some (.ref b)):=fun b ⟨k,m,s⟩=>by
  obtain ⟨j,hj,hn,mj⟩:=eM m;refine ⟨⟨j,mj,cz hj s⟩,fun i hl mi si=>?_⟩;have:=R1.sep j i b mj mi (cz hj s) si;subst this;exact hn hl
 have Rc0:=R1.cS (lock:=lock) nd
 refine ⟨fun i m t acc H'=>TI t/\m=ds.length - i/\i<=ds.length/\acc.length<=i/\∃ envc done rest,AZ step (ds.drop i) envc=some (rest,ec)/\ys=done++rest/\Rel K (FF F0 e1 Z) H1 (IA (fQ e1 lock js) (cS js Z)) envc (cS js Z) H'/\KpE (fQ e1 lock js) envc/\DmL K (FF F0 e1 Z) H' done acc,
  ⟨ds.length,ht0,rfl,Pg _,Ol _,fQ e1 lock js,[],ys,h2,rfl,Rc0,KpE.refl _,rfl⟩,?_⟩
 rintro i m t acc H' ⟨hti,rfl,hi,hal,envc,done,rest,hc,hy,Rc,kc,hacc⟩;have hkept:∀ b o,H1 b=some o->¬(IA e1 Z b/\∀ i,lock=some i->mu e1 i->Z[i]?≠some (some (.ref b)))->H' b=some o:=fun b o e n=>Rc.gP b o e fun z=>n (sub b z);by_cases hlt:i < ds.length
 ·right;obtain ⟨go,yld⟩:=(hturn H' hkept i).1 (by omega);refine ⟨go,by omega,fun x H'' hx=>?_⟩;obtain ⟨d,hd,hy9⟩:=yld x H'' hx;obtain ⟨sm,hdx'⟩:=hy9.dm (F2:=FF F0 e1 Z) fun d v h=>h.pr (R1.uK fun b o e n=>hkept b o e fun z=>n z.1) fun _ z=>z;have Rc:=Rc.same sm;have hacc:=hacc.pr (fun b o e _=>sm b o e) fun _ z=>z;have ed:ds.drop i=d :: ds.drop (i+1):=by
   rw [Qb hlt];obtain ⟨_,q⟩:=N9.mp hd;rw [q]
  rw [ed] at hc;unfold AZ at hc;split at hc
  ·rename_i y envc' hs;split at hc
   ·rename_i ys' e2 hr;cases hc;refine turn t acc d envc y envc' x H'' hti hs Rc (dJ.kp kc) hdx' _ fun t' acc' H2 ht' R2 k2 p2 ha=>⟨_,by omega,ht',rfl,by omega,?_,envc',done++y.toList,ys',hr,by rw [hy,OE],R2,kc.trans k2,?_⟩
    ·cases y with
     | none=>rw [show acc'=acc from ha];omega
     | some dy=>obtain ⟨v,rfl,_⟩:=ha;rw [N5];simp;omega
    ·have hacc':=hacc.pr p2 fun _ z=>z;cases y with
     | none=>rw [show acc'=acc from ha];simpa using hacc'
     | some dy=>obtain ⟨v,rfl,hv⟩:=ha;exact hacc'.snoc hv
   ·cases hc
  ·cases hc
 ·left;have e:i=ds.length:=by omega
  subst e;have hz:acc.length<=sizeLine:=by omega
  rw [List.drop_length] at hc;unfold AZ at hc;cases hc;rw [OC] at hy;subst hy;exact ⟨(hturn H' hkept _).2 (by omega),hz,fin acc H' (R1.back nd Rc kc) hacc hz⟩
theorem KA {js:List Nat} {it:XI} {c:XT} {e:XE} (ii:SI K ga gd it) (ic:ST K ga gd c) (ie:SE K ga gd e):SE K ga gd (.cmp js it c e):=by
 intro env rv env' h F0 ZY I Z H Q R q;simp only [dE] at h;split at h
 ·rename_i ds lock e1 h1;split at h
  ·rename_i nd;split at h
   ·rename_i ys ec h2;cases h;refine ii _ _ _ _ h1 F0 ZY I Z H _ R fun J H1 R1 k1 _ hit=>?_;refine Exists.elim (De (Q:=Q) (τ:=Unit) (TI:=fun _=>True) (t0:=()) (body:=fun _ acc x H' N=>rT K ga c (some x :: cS js Z) H' fun b H2=>if b=true then rE K ga e (some x :: cS js Z) H2 fun y H3=>N () (acc++[y]) H3 else N () acc H2) trivial R1 nd hit h2 ?_ ?_) fun W hw=>?_
    rotate_right 1
    ·obtain ⟨w0,hW⟩:=hw;exact ⟨fun i m acc H=>W i m () acc H,w0,fun i m acc H w=>hW i m () acc H w⟩
    ·intro _ acc d envc y envc' x H' _ hs Rc no hd N hN;have eF:FF (FF F0 e1 Z) envc (cS js Z)=FF F0 e1 Z:=gb no;have Rx:Rel K (FF F0 e1 Z) H1 (IA (fQ e1 lock js) (cS js Z)) (.dat d :: envc) (some x :: cS js Z) H':=Rc.front (ds:=[d]) (vs:=[x]) ⟨x,[],rfl,by rw [eF];exact hd,rfl⟩;have frontF:∀ {e2:En},KpE envc e2->FF (FF F0 e1 Z) (.dat d :: e2) (some x :: cS js Z)=FF F0 e1 Z:=fun {e2} k=>by
      have:=mP (F0:=FF F0 e1 Z) (env:=e2) (Z:=cS js Z) (pre:=[.dat d]) (ps:=[some x]) (fun s hs=>by rw [Oz.mp hs];trivial) rfl;exact this.trans (gb (no.kp k))
     unfold fN at hs;split at hs
     ·rename_i e2 hT;split at hs
      ·rename_i rv e3 hE;split at hs
       ·rename_i dy hv;cases hs;refine ic _ _ _ hT _ _ _ _ H' _ Rx.rebase fun H2 S2 k2=>?_;rw [Og rfl];have R2:=Rx.cB S2;refine ie _ _ _ hE _ _ _ _ H2 _ R2.rebase fun v H3 S3 k3 r3=>?_;have R3:=R2.cB S3;obtain ⟨ex,e3',kx⟩:=(k2.trans k3).front (ds:=[d]);have k23:=k2.trans k3;subst e3';have ht:(([d].map Sl.dat)++ex).tail=ex:=rfl;obtain ⟨e2x,e2',k2x⟩:=k2.front (ds:=[d]);have p12:Pr (FF F0 e1 Z) H' H2:=by have:=Rx.uK S2.gP;rwa [frontF (KpE.refl _)] at this
        have p23:Pr (FF F0 e1 Z) H2 H3:=by
         have:=R2.uK S3.gP;rw [e2'] at this
         rwa [show FF (FF F0 e1 Z) ([d].map Sl.dat++e2x) (some x :: cS js Z)=FF F0 e1 Z from frontF k2x] at this
        have a3:=r3.av;rw [hv] at a3;have dv:Dm K (FF F0 e1 Z) H3 dy v:=by
         have:Dm K (FF (FF F0 e1 Z) ([d].map Sl.dat++ex) (some x :: cS js Z)) H3 dy v:=a3
         rwa [show FF (FF F0 e1 Z) ([d].map Sl.dat++ex) (some x :: cS js Z)=FF F0 e1 Z from frontF kx] at this
        exact hN () _ H3 trivial (R3.behind (pre:=[.dat d]) (ps:=[some x]) (fun s hs=>by rw [Oz.mp hs];trivial) rfl) kx (p12.trans p23 fun _ z=>z) ⟨v,rfl,dv⟩
       ·cases hs
      ·cases hs
     ·rename_i e2 hT;cases hs;refine ic _ _ _ hT _ _ _ _ H' _ Rx.rebase fun H2 S2 k2=>?_;rw [Ot (by decide)];have R2:=Rx.cB S2;obtain ⟨ex,e2',kx⟩:=k2.front (ds:=[d]);subst e2';have p12:Pr (FF F0 e1 Z) H' H2:=by have:=Rx.uK S2.gP;rwa [frontF (KpE.refl _)] at this
      exact hN () _ H2 trivial (R2.behind (pre:=[.dat d]) (ps:=[some x]) (fun s hs=>by rw [Oz.mp hs];trivial) rfl) kx p12 rfl
     ·cases hs
    ·intro acc H' R' hd hz p hp;have eF:=(bY e1 js ec).ff (F0:=F0) (Z:=Z);have s:=aZ.nw (.lst acc) hp;exact q _ _ (R'.same s) (k1.trans (bY e1 js ec).kp) (R'.sy (pr:=.frs (.list ys)) s ⟨p,rfl,hp,acc,aE,hz,by rw [eF];exact (hd.fresh hp).pr (Pr.of_same s) fun _ z=>z⟩)
   ·cases h
  ·cases h
 ·cases h
mutual
theorem sE (hg:∀ g d,gd[g]?=some d->∀ F H,Dm K F H d (ga g)):∀ e:XE,SE K ga gd e
 | .var i=>Ks i | .mov i=>L8 i | .tke i=>JP i | .cst c=>Jp c | .glb g=>L4 hg g
 | .prm p as=>JD (sA hg as) | .met m o as=>LL (sE hg o) (sA hg as) | .mtr m i as=>KJ (sA hg as) | .call f as=>s_call (sA hg as) | .bT f as=>Eu (sA hg as) | .mtx m f i as=>KC (sA hg as)
 | .tup as=>JR (sA hg as) | .lst as=>LI (sA hg as)| .fst as=>Kv (sF hg as)
 | .ifx c a b=>KI (sT hg c) (sE hg a) (sE hg b) | .oa a b=>Gb (sE hg a) (sE hg b) | .orv a b=>L7 (sE hg a) (sE hg b) | .ED a=>HE (sE hg a)
 | .chn p q a b c=>Ji (sE hg a) (sE hg b) (sE hg c) | .sl2 p a b c=>JN (sE hg a) (sE hg b) (sE hg c)
 | .cmp js it c e=>KA (sI hg it) (sT hg c) (sE hg e)
theorem sA (hg:∀ g d,gd[g]?=some d->∀ F H,Dm K F H d (ga g)):∀ e:XA,SA K ga gd e
 | .nil=>K3 | .cons e r=>FW (sE hg e) (sA hg r)
theorem sF (hg:∀ g d,gd[g]?=some d->∀ F H,Dm K F H d (ga g)):∀ e:XA,SF K ga gd e
 | .nil=>LR | .cons e r=>Gi (sE hg e) (sF hg r)
theorem sT (hg:∀ g d,gd[g]?=some d->∀ F H,Dm K F H d (ga g)):∀ e:XT,ST K ga gd e
 | .tst e=>Jk (sE hg e) | .tru e=>Lo (sE hg e) | .and a b=>Lu (sT hg a) (sT hg b) | .or a b=>Nu (sT hg a) (sT hg b) | .not a=>Mc (sT hg a) | .yes=>Kg
theorem sI (hg:∀ g d,gd[g]?=some d->∀ F H,Dm K F H d (ga g)):∀ e:XI,SI K ga gd e
 | .lst e=>Lj (sE hg e) | .tup e=>Jt (sE hg e) | .str e=>LY (sE hg e) | .rng1 as=>GJ (sA hg as)
end
end
section
variable {K:Fg} {F F' I I' F0:Qx->Prop} {H H' ZY H1:Hp} {env env' e1:En} {Z Z':St} {ga:Gv} {gd:List Qq}
theorem LsF.dM (h:LsF K F H a xs):LsF K (fun b=>F b\/H b=none) H a xs:=by
 rcases h with ⟨n,h⟩ | h
 ·refine .inl ⟨fun z=>z.elim n fun e=>?_,h⟩;rcases h with h | ⟨o,h⟩ <;> (rw [e] at h;cases h)
 ·exact .inr h
mutual
theorem Dm.dM:∀ {d:Qq} {v:V},Dm K F H d v->Dm K (fun b=>F b\/H b=none) H d v
 | .none,v,h=>h
 | .bool b,v,h=>h
 | .int i,v,h=>h
 | .str x,v,h=>h
 | .list ds,v,h=>by
  obtain ⟨a,xs,e,l,z,r⟩:=h;exact ⟨a,xs,e,l.dM,z,DmL.dM r⟩
 | .tuple ds,v,h=>by
  obtain ⟨a,xs,e,l,z,r⟩:=h;exact ⟨a,xs,e,l,z,DmL.dM r⟩
 | .dict kvs,v,h=>by
  obtain ⟨a,ep,xs,e,n,l,z,r⟩:=h;exact ⟨a,ep,xs,e,fun q=>q.elim n fun q=>(by rw [q] at l;cases l),l,z,DmP.dM r⟩
theorem DmL.dM:∀ {ds:List Qq} {vs:List V},DmL K F H ds vs->DmL K (fun b=>F b\/H b=none) H ds vs
 | [],vs,h=>h
 | d :: ds,vs,h=>by
  obtain ⟨v,r,e,h1,h2⟩:=h;exact ⟨v,r,e,Dm.dM h1,DmL.dM h2⟩
theorem DmP.dM:∀ {ds:List (Qq×Qq)} {vs:List (Qq×V×V)},DmP K F H ds vs->DmP K (fun b=>F b\/H b=none) H ds vs
 | [],vs,h=>h
 | (k,d) :: ds,vs,h=>by
  obtain ⟨j,v,r,e,e2,h0,h1,h2⟩:=h;exact ⟨j,v,r,e,e2,Dm.dM h0,Dm.dM h1,DmP.dM h2⟩
end
theorem Pr.NH (p:Pr F H H') (h:∀ b,F b->F' b):Pr F' H H':=fun b o e n=>p b o e (n.imp (fun z q=>z (h _ q)) id)
def Evs:Sl->Sl->Prop
 | .ino _,s=>∃ d,s=.ino d
 | .ro d,s=>s=.ro d
 | _,s=>(∀ d,s≠.ino d)/\∀ d,s≠.ro d
def Gj:Sl->Prop | .ino _=>True | .ro _=>True | _=>False
def KpS (env:En) (Z:St) (env':En) (Z':St):Prop:=env'.length=env.length/\∀ (i:Nat) (s:Sl),env[i]?=some s->∃ s',env'[i]?=some s'/\Evs s s'/\(Gj s->Z'[i]?=Z[i]?)
theorem Evs.refl:∀ s,Evs s s
 | .un=>⟨fun _=>nofun,fun _=>nofun⟩
 | .dat _=>⟨fun _=>nofun,fun _=>nofun⟩
 | .own d=>⟨fun _=>nofun,fun _=>nofun⟩
 | .ino d=>⟨d,rfl⟩
 | .ro _=>rfl
def soft (s:Sl):Prop:=(∀ d,s≠.ino d)/\∀ d,s≠.ro d
theorem Evs.soft (h:Evs s s') (q:L2.soft s):L2.soft s':=by
 cases s with
 | ino d=>exact absurd rfl (q.1 d)
 | ro d=>exact absurd rfl (q.2 d)
 | _=>exact h
theorem Evs.of (q:L2.soft s) (q':L2.soft s'):Evs s s':=by
 cases s with
 | ino d=>exact absurd rfl (q.1 d)
 | ro d=>exact absurd rfl (q.2 d)
 | _=>exact q'
theorem Evs.trans (h:Evs a b) (q:Evs b c):Evs a c:=by
 cases a with
 | ino d=>obtain ⟨d',rfl⟩:=h;exact q
 | ro d=>rw [show b=.ro d from h] at q;exact q
 | un=>exact Evs.of ⟨fun _=>nofun,fun _=>nofun⟩ (q.soft h)
 | dat _=>exact Evs.of ⟨fun _=>nofun,fun _=>nofun⟩ (q.soft h)
 | own _=>exact Evs.of ⟨fun _=>nofun,fun _=>nofun⟩ (q.soft h)
theorem Evs.Gj (h:Evs a b) (q:L2.Gj a):L2.Gj b:=by
 cases a with
 | ino d=>obtain ⟨d',rfl⟩:=h;trivial
 | ro d=>rw [show b=.ro d from h];trivial
 | _=>exact absurd q id
theorem KpS.refl (env:En) (Z:St):KpS env Z env Z:=⟨rfl,fun i s e=>⟨s,e,.refl s,fun _=>rfl⟩⟩
theorem KpS.trans (h:KpS a x b y) (q:KpS b y c z):KpS a x c z:=⟨q.1.trans h.1,fun i s e=>by
 obtain ⟨s1,e1,v1,w1⟩:=h.2 i s e;obtain ⟨s2,e2,v2,w2⟩:=q.2 i s1 e1
 exact ⟨s2,e2,v1.trans v2,fun t=>(w2 (v1.Gj t)).trans (w1 t)⟩⟩
theorem KpE.s (k:KpE env env'):KpS env Z env' Z:=⟨k.1,fun i s e=>by
 obtain ⟨s',e',v⟩:=k.2 i s e;refine ⟨s',e',?_,fun _=>rfl⟩;cases s with
 | un=>rw [show s'=.un from v];exact .refl _
 | dat d=>rw [show s'=.dat d from v];exact .refl _
 | own d=>rcases v with ⟨d',rfl⟩ | ⟨d',rfl⟩ | rfl <;> exact ⟨fun _=>nofun,fun _=>nofun⟩
 | ino d=>exact v
 | ro d=>exact v⟩
theorem ji (h:free env i=true):∃ s,env[i]?=some s/\L2.soft s:=by
 unfold free at h;split at h
 ·rename_i e;exact ⟨_,e,fun _=>nofun,fun _=>nofun⟩
 ·rename_i e;exact ⟨_,e,fun _=>nofun,fun _=>nofun⟩
 ·rename_i e;exact ⟨_,e,fun _=>nofun,fun _=>nofun⟩
 ·cases h
theorem uL (e:env[i]?=some s) (q:L2.soft s) (q':L2.soft s'):KpS env Z (env.set i s') (Z.set i x):=by
 have hi:i < env.length:=(N9.mp e).1;refine ⟨OJ,fun j t h=>?_⟩;by_cases z:i=j
 ·subst z;rw [e] at h;cases h;refine ⟨s',Oj hi,.of q q',fun t=>?_⟩;cases s with
  | ino d=>exact absurd rfl (q.1 d)
  | ro d=>exact absurd rfl (q.2 d)
  | _=>exact absurd t id
 ·exact ⟨t,by rw [N7 z];exact h,.refl t,fun _=>by rw [N7 z]⟩
def ka (K:Fg) (F0:Qx->Prop) (ZY:Hp) (I:Qx->Prop) (env:En) (Z:St) (D:Ends):Out->Prop
 | .nx e=>∀ Z' H',Rel K F0 ZY I e Z' H'->KpS env Z e Z'->D.nx Z' H'
 | .bk e=>∀ Z' H',Rel K F0 ZY I e Z' H'->KpS env Z e Z'->D.bk Z' H'
 | .ct e=>∀ Z' H',Rel K F0 ZY I e Z' H'->KpS env Z e Z'->D.ct Z' H'
 | .rt rv e=>∀ v Z' H',Rel K F0 ZY I e Z' H'->KpS env Z e Z'->mW K F0 ZY I e Z' H' rv v->D.rt v H'
def SS (K:Fg) (ga:Gv) (gd:List Qq) (s:XS):Prop:=∀ (env:En) (out:Out),dS gd s env=some out->∀ (F0:Qx->Prop) (ZY:Hp) (I:Qx->Prop) (Z:St) (H:Hp) (D:Ends),Rel K F0 ZY I env Z H->ka K F0 ZY I env Z D out->rS K ga s D Z H
theorem ka.from (k:KpS env Z env' Z') (h:ka K F0 ZY I env Z D out):ka K F0 ZY I env' Z' D out:=by
 cases out with
 | nx e=>exact fun s h1 r q=>h s h1 r (k.trans q)
 | bk e=>exact fun s h1 r q=>h s h1 r (k.trans q)
 | ct e=>exact fun s h1 r q=>h s h1 r (k.trans q)
 | rt rv e=>exact fun v s h1 r q w=>h v s h1 r (k.trans q) w
theorem Hl (ia:SS K ga gd a) (ib:SS K ga gd b):SS K ga gd (.seq a b):=by
 intro env out h F0 ZY I Z H D R q;simp only [dS] at h;split at h
 ·rename_i e h1;refine ia _ _ h1 F0 ZY I Z H _ R fun Z' H' R' k'=>?_;exact ib _ _ h F0 ZY I Z' H' D R' (q.from k')
 ·rename_i hn;refine ia _ _ h F0 ZY I Z H _ R ?_;cases out with
  | nx e=>exact absurd h (hn e)
  | bk e=>exact q
  | ct e=>exact q
  | rt rv e=>exact q
theorem Rel.K5 (R:Rel K F0 ZY I env Z H) (hf:free env i=true) (h:Dm K (FF F0 env Z) H d v):Rel K F0 ZY I (env.set i (.dat d)) (Z.set i (some v)) H/\KpS env Z (env.set i (.dat d)) (Z.set i (some v)):=by
 obtain ⟨s,e,q⟩:=ji hf;have hi:i < env.length:=(N9.mp e).1;have R1:=R.forget i (some v);have:=R1.putD (i:=i) (d:=d) (v:=v) (Oj hi) (h.mono (R.sub i _).1);rw [P6,P6] at this;exact ⟨this,uL e q ⟨fun _=>nofun,fun _=>nofun⟩⟩
theorem CD (ie:SE K ga gd e):SS K ga gd (.aY i e):=by
 intro env out h F0 ZY I Z H D R q;simp only [dS] at h;split at h
 ·rename_i rv e1 h1;split at h
  ·rename_i d hv;split at h
   ·rename_i hf;cases h;refine ie _ _ _ h1 F0 ZY I Z H _ R fun v H1 R1 k1 r1=>?_;have a1:=r1.av;rw [hv] at a1;obtain ⟨R2,k2⟩:=R1.K5 hf (show Dm K _ H1 d v from a1);exact q _ H1 R2 (k1.s.trans k2)
   ·cases h
  ·cases h
 ·cases h
theorem mW.forget (h:mW K F0 ZY I env Z H (.frs d) v) (i:Nat) (x:Option V) (hs:∀ s,env[i]?=some s->L2.soft s):mW K F0 ZY I (env.set i .un) (Z.set i x) H (.frs d) v:=by
 obtain ⟨a,ea,R,t,w,nF,hi,hr⟩:=h;have R0:=R.less hi;obtain ⟨hf,hia⟩:=R0.sub i x;have hf':∀ b,(FF F0 (env.set i .un) (Z.set i x) b\/b=a)->(FF F0 env Z b\/b=a):=fun b z=>z.imp (hf b) id;refine ⟨a,ea,R.forget i x,t.pr Pr.refl hf' fun _ z=>z,w,fun z=>nF (hf _ z),fun j c e s=>?_,fun j c e=>?_⟩
 ·rcases get_set e with ⟨_,z⟩ | ⟨n,e⟩
  ·cases z
  ·rw [N7 n] at s;exact hi j c e s
 ·rcases get_set e with ⟨_,z⟩ | ⟨n,e⟩
  ·cases z
  ·obtain ⟨b,s,r⟩:=hr j c e;exact ⟨b,by rw [N7 n];exact s,r.pr Pr.refl hf' (fun b z=>z.imp (hia b) id) fun _ _ z _=>z⟩
theorem Dr (ie:SE K ga gd e):SS K ga gd (.pB i e):=by
 intro env out h F0 ZY I Z H D R q;simp only [dS] at h;split at h
 ·rename_i d e1 h1;split at h
  ·rename_i hf;cases h;refine ie _ _ _ h1 F0 ZY I Z H _ R fun v H1 R1 k1 r1=>?_;obtain ⟨s,e,qs⟩:=ji hf;have hi:i < e1.length:=(N9.mp e).1;have ev:∃ a,v=.ref a:=let ⟨a,e,_⟩:=r1;⟨a,e⟩
   obtain ⟨a,rfl⟩:=ev;have r2:=r1.forget i (some (.ref a)) (fun s' h=>by rw [e] at h;cases h;exact qs);have R2:=Rel.NT (i:=i) (Oj hi) r2;rw [P6,P6] at R2;exact q _ H1 R2 (k1.s.trans (uL e qs ⟨fun _=>nofun,fun _=>nofun⟩))
  ·cases h
 ·cases h
theorem wY:∀ {is:List Nat} {ds:List Qq} {vs:List V} {env env':En} {Z:St} {Q:St->Hp->Prop},nS env is ds=some env'->Rel K F0 ZY I env Z H->DmL K (FF F0 env Z) H ds vs->(∀ Z',Rel K F0 ZY I env' Z' H->KpS env Z env' Z'->Q Z' H)->gNs is vs Z H Q
 | [],[],vs,env,env',Z,Q,h,R,hd,q=>by
  cases h;exact ⟨hd,q Z R (KpS.refl _ _)⟩
 | [],d :: ds,vs,env,env',Z,Q,h,R,hd,q=>by cases h
 | i :: is,[],vs,env,env',Z,Q,h,R,hd,q=>by cases h
 | i :: is,d :: ds,vs,env,env',Z,Q,h,R,hd,q=>by
  unfold nS at h;split at h
  ·rename_i hf;obtain ⟨v,r,rfl,h1,h2⟩:=hd;obtain ⟨R1,k1⟩:=R.K5 hf h1;obtain ⟨s,e,qs⟩:=ji hf;refine ⟨v,r,rfl,?_⟩;refine wY h R1 (h2.mono fun b z=>?_) fun Z' R' k'=>q Z' R' (k1.trans k');rcases z with z | ⟨j,c,e',s'⟩
   ·exact .inl z
   ·rcases get_set e' with ⟨_,y⟩ | ⟨n,e'⟩
    ·cases y
    ·rw [N7 n] at s';exact .inr ⟨j,c,e',s'⟩
  ·cases h
theorem DW (ie:SE K ga gd e):SS K ga gd (.Cs is e):=by
 intro env out h F0 ZY I Z H D R q;simp only [dS] at h;split at h
 ·rename_i rv e1 h1;split at h
  ·rename_i ds hv;split at h
   ·rename_i e2 hset;cases h;refine ie _ _ _ h1 F0 ZY I Z H _ R fun v H1 R1 k1 r1=>?_;have a1:=r1.av;rw [hv] at a1;obtain ⟨a,xs,rfl,l,z,r⟩:=(show Dm K (FF F0 e1 Z) H1 (.tuple ds) v from a1);have hlen:∀ {is:List Nat} {ds:List Qq} {e e':En},nS e is ds=some e'->is.length=ds.length:=by
     intro is;induction is with
     | nil=>intro ds e e' h;cases ds with
      | nil=>rfl
      | cons _ _=>cases h
     | cons i is ih=>intro ds e e' h;cases ds with
      | nil=>cases h
      | cons d ds =>
       unfold nS at h;split at h
       ·rw [Oc,Oc,ih h]
       ·cases h
    exact ⟨a,xs,rfl,l,by rw [r.len,hlen hset],wY hset R1 r fun Z' R' k'=>q Z' H1 R' (k1.s.trans k')⟩
   ·cases h
  ·cases h
 ·cases h
theorem Ey (ie:SE K ga gd e):SS K ga gd (.drop e):=by
 intro env out h F0 ZY I Z H D R q;simp only [dS] at h;split at h
 ·rename_i rv e1 h1;cases h;exact ie _ _ _ h1 F0 ZY I Z H _ R fun v H1 R1 k1 r1=>q Z H1 R1 k1.s
 ·cases h
theorem HV (ie:SE K ga gd e):SS K ga gd (.ret e):=by
 intro env out h F0 ZY I Z H D R q;simp only [dS] at h;split at h
 ·rename_i rv e1 h1;cases h;exact ie _ _ _ h1 F0 ZY I Z H _ R fun v H1 R1 k1 r1=>q v Z H1 R1 k1.s r1
 ·cases h
theorem GX (ic:ST K ga gd c) (ia:SS K ga gd a) (ib:SS K ga gd b):SS K ga gd (.ifs c a b):=by
 intro env out h F0 ZY I Z H D R q;simp only [dS] at h;split at h
 ·rename_i e1 h1;refine ic _ _ _ h1 F0 ZY I Z H _ R fun H1 R1 k1=>?_;rw [Og rfl];exact ia _ _ h F0 ZY I Z H1 D R1 (q.from k1.s)
 ·rename_i e1 h1;refine ic _ _ _ h1 F0 ZY I Z H _ R fun H1 R1 k1=>?_;rw [Ot (by decide)];exact ib _ _ h F0 ZY I Z H1 D R1 (q.from k1.s)
 ·cases h
theorem Fo (ik:SE K ga gd k) (ie:SE K ga gd e):SS K ga gd (.sto m i k e):=by
 intro env out h F0 ZY I Z H D R q;simp only [dS] at h;split at h
 ·rename_i rv e1 h1;split at h
  ·rename_i x hv;split at h
   ·rename_i d0 hm0;split at h
    ·rename_i rk e2 h2;split at h
     ·rename_i dk d hvk hm;split at h
      ·rename_i d' hf;cases h;refine ie _ _ _ h1 F0 ZY I Z H _ R fun v H1 R1 k1 r1=>?_;obtain ⟨_,a,s,_⟩:=R1.dC hm0;refine ⟨.ref a,s,?_⟩;refine ik _ _ _ h2 F0 _ _ Z H1 _ R1.rebase fun u H2 S2 k2 r2=>?_;have R2:=R1.cB S2;have a1:=r1.av;rw [hv] at a1;have dx:=R1.wH S2 k2 (show Dm K _ H1 x v from a1);obtain ⟨m2,a',s',f2,t2⟩:=R2.dC hm;rw [s] at s';cases s';refine m.ok K _ H2 d a dk x u v d' _ hf f2 t2 (r2.av.vw R2 hvk) dx fun H3 hk ht=>?_;exact q Z H3 (R2.MB hm s hk ht) ((k1.trans k2).trans (yM _ _ _)).s
      ·cases h
     ·cases h
    ·cases h
   ·cases h
  ·cases h
 ·cases h
theorem LF (ic:ST K ga gd c) (ib:SS K ga gd b):SS K ga gd (.wh n c b):=by
 intro env out h F0 ZY I Z H D R q;simp only [dS] at h;refine ⟨fun m Z' H'=>∃ env',whL (dT gd c) (dS gd b) m env'=some out/\Rel K F0 ZY I env' Z' H'/\KpS env Z env' Z',⟨n,env,h,R,KpS.refl _ _⟩,?_⟩;rintro m Z' H' ⟨env',hw,R',k'⟩;cases m with
 | zero=>cases hw
 | succ m =>
  unfold whL at hw;split at hw
  ·rename_i e1 h1;refine ic _ _ _ h1 F0 ZY I Z' H' _ R' fun H2 R2 k2=>?_;rw [Og rfl];refine ⟨fun Z3 H3=>∃ env3,whL (dT gd c) (dS gd b) m env3=some out/\Rel K F0 ZY I env3 Z3 H3/\KpS env Z env3 Z3,fun Z3 H3 z=>⟨m,Pj _,z⟩,?_⟩;split at hw
   ·rename_i e hb;exact ib _ _ hb F0 ZY I Z' H2 _ R2 fun Z3 H3 R3 k3=>⟨e,hw,R3,(k'.trans k2.s).trans k3⟩
   ·rename_i e hb;exact ib _ _ hb F0 ZY I Z' H2 _ R2 fun Z3 H3 R3 k3=>⟨e,hw,R3,(k'.trans k2.s).trans k3⟩
   ·rename_i e hb;cases hw;exact ib _ _ hb F0 ZY I Z' H2 _ R2 fun Z3 H3 R3 k3=>q Z3 H3 R3 ((k'.trans k2.s).trans k3)
   ·rename_i r e hb;cases hw;exact ib _ _ hb F0 ZY I Z' H2 _ R2 fun v Z3 H3 R3 k3 r3=>q v Z3 H3 R3 ((k'.trans k2.s).trans k3) r3
   ·cases hw
  ·rename_i e1 h1;cases hw;refine ic _ _ _ h1 F0 ZY I Z' H' _ R' fun H2 R2 k2=>?_;rw [Ot (by decide)];exact q Z' H2 R2 (k'.trans k2.s)
  ·cases hw
end
section
variable {K:Fg} {F F' I I' F0:Qx->Prop} {H H' ZY H1:Hp} {env env' e1:En} {Z Z':St} {ga:Gv} {gd:List Qq}
theorem Co {b:Qq->En->Option Out} {ds:List Qq} {out:Out} {J:It} {F1 I1:Qx->Prop} {el:En} {g:TG} {tb:TS} {D:Ends} (R:Rel K F1 H1 I1 el Z H1) (hI:I1=IA el Z) (hit:Et K (FF F1 el Z) I1 H1 J ds) (h:forL b ds el=some out)
  (turn:∀ d o env' Z' H' x,b d env'=some o->Rel K F1 H1 I1 env' Z' H'->KpS el Z env' Z'->Dm K (FF F1 env' Z') H' d x->∀ D':Ends,ka K F1 H1 I1 env' Z' D' o->g x Z' H' fun Z2 H2=>tb D' Z2 H2)
  (q:ka K F1 H1 I1 el Z D out) :
  ∃ W:Nat->Nat->St->Hp->Prop,(∃ m,W 0 m Z H1)/\∀ i m Z H,W i m Z H ->
   (J.stop i H/\D.nx Z H)\/(J.go i H/\∃ N:St->Hp->Prop,(∀ Z' H',N Z' H'->∃ m',m' < m/\W (i+1) m' Z' H')/\∀ x H',J.yld i H x H'->g x Z H' fun Z2 H2=>tb { D with nx:=N,ct:=N,bk:=D.nx } Z2 H2):=by
 subst hI;obtain ⟨hvl,hturn⟩:=hit;refine ⟨fun i m Z' H'=>m=ds.length - i/\i<=ds.length/\∃ env',forL b (ds.drop i) env'=some out/\Rel K F1 H1 (IA el Z) env' Z' H'/\KpS el Z env' Z',⟨ds.length,rfl,Pg _,el,h,R,KpS.refl _ _⟩,?_⟩;rintro i m Z' H' ⟨rfl,hi,env',hf,R',k'⟩;have hkept:∀ b o,H1 b=some o->¬IA el Z b->H' b=some o:=R'.gP;by_cases hlt:i < ds.length
 ·right;obtain ⟨go,yld⟩:=(hturn H' hkept i).1 (by omega);refine ⟨go,fun Z3 H3=>(ds.length - (i+1))=ds.length - (i+1)/\i+1<=ds.length/\∃ env',forL b (ds.drop (i+1)) env'=some out/\Rel K F1 H1 (IA el Z) env' Z3 H3/\KpS el Z env' Z3,fun Z3 H3 z=>⟨ds.length - (i+1),by omega,z⟩,fun x H'' hx=>?_⟩;obtain ⟨d,hd,hy9⟩:=yld x H'' hx;have fSub:∀ b,FF F1 env' Z' b->(FF F1 el Z b\/H1 b=none):=fun b z=>by
   rcases z with z | ⟨j,c,e',s'⟩
   ·exact .inl (.inl z)
   ·obtain ⟨b',q',_,w,_⟩:=R'.own j c e';rw [s'] at q';cases q';exact w.elim .inr fun w=>.inl (R.ia w)
  obtain ⟨sm,hdx'⟩:=hy9.dm (F2:=FF F1 env' Z') fun d v h=>h.dM.pr ((R.uK hkept).NH fun b z=>.inl z) fSub;have R':=R'.same sm;have ed:ds.drop i=d :: ds.drop (i+1):=by
   rw [Qb hlt];obtain ⟨_,z⟩:=N9.mp hd;rw [z]
  rw [ed] at hf;unfold forL at hf;split at hf
  ·rename_i e hb;exact turn d _ env' Z' H'' x hb R' k' hdx' _ fun Z3 H3 R3 k3=>⟨rfl,by omega,e,hf,R3,k'.trans k3⟩
  ·rename_i e hb;exact turn d _ env' Z' H'' x hb R' k' hdx' _ fun Z3 H3 R3 k3=>⟨rfl,by omega,e,hf,R3,k'.trans k3⟩
  ·rename_i e hb;cases hf;exact turn d _ env' Z' H'' x hb R' k' hdx' _ fun Z3 H3 R3 k3=>q Z3 H3 R3 (k'.trans k3)
  ·rename_i r e hb;cases hf;exact turn d _ env' Z' H'' x hb R' k' hdx' _ fun v Z3 H3 R3 k3 r3=>q v Z3 H3 R3 (k'.trans k3) r3
  ·cases hf
 ·left;have e:i=ds.length:=by omega
  subst e;rw [List.drop_length] at hf;unfold forL at hf;cases hf;exact ⟨(hturn H' hkept _).2 (by omega),q Z' H' R' k'⟩
theorem mW.cB (R:Rel K F0 ZY I env Z H) (h:mW K F0 H (IA env Z) env' Z' H' rv v):mW K F0 ZY I env' Z' H' rv v:=by
 cases rv with
 | dat d=>exact h
 | bor i=>exact h
 | frs d =>
  obtain ⟨a,ea,S,t,w,nF,hi,hr⟩:=h;have S0:=R.cB (S.less hi);refine ⟨a,ea,⟨S.len,S.dat,fun i c e=>?_,fun i c e=>?_,S.ro,S.sep,S.dom,S0.gP⟩,t,R.oi w,nF,hi,hr⟩
  ·obtain ⟨b,s,n,w',t'⟩:=S.own i c e;exact ⟨b,s,n,R.oi w',t'⟩
  ·obtain ⟨b,s,n,w',t'⟩:=S.ino i c e;obtain ⟨b2,s2,_,i2,_⟩:=S0.ino i c e;rw [s] at s2;cases s2;exact ⟨b,s,n,i2,t'⟩
theorem ka.rebase (R1:Rel K F0 ZY I e1 Z H1) (q:ka K F0 ZY I e1 Z D out):ka K F0 H1 (IA e1 Z) e1 Z D out:=by
 cases out with
 | nx e=>exact fun Z' H' R' k'=>q Z' H' (R1.cB R') k'
 | bk e=>exact fun Z' H' R' k'=>q Z' H' (R1.cB R') k'
 | ct e=>exact fun Z' H' R' k'=>q Z' H' (R1.cB R') k'
 | rt rv e=>exact fun v Z' H' R' k' r=>q v Z' H' (R1.cB R') k' (r.cB R1)
theorem Kr (ii:SI K ga gd it) (ib:SS K ga gd b):SS K ga gd (.fr i it b):=by
 intro env out h F0 ZY I Z H D R q;simp only [dS] at h;split at h
 ·rename_i ds e1 h1
  ·refine ii _ _ _ _ h1 F0 ZY I Z H _ R fun J H1 R1 k1 _ hit=>?_;refine Co R1.rebase rfl ?_ h ?_ (ka.rebase R1 (q.from k1.s))
   ·obtain ⟨a2,a3⟩:=hit;exact ⟨a2,fun H' hk=>a3 H' fun b o e n=>hk b o e fun z=>n ⟨z,fun i y=>nomatch y⟩⟩
   ·intro d o env' Z' H' x hb R' k' hd D' hD;unfold nV at hb;split at hb
    ·rename_i hf;obtain ⟨R2,k2⟩:=R'.K5 hf hd;exact ib _ _ hb _ _ _ _ H' D' R2 (hD.from k2)
    ·cases hb
 ·cases h
theorem sS (hg:∀ g d,gd[g]?=some d->∀ F H,Dm K F H d (ga g)):∀ s:XS,SS K ga gd s
 | .skip=>fun env out h F0 ZY I Z H D R q=>by cases h;exact q Z H R (KpS.refl _ _)
 | .seq a b=>Hl (sS hg a) (sS hg b)
 | .aY i e=>CD (sE hg e) | .pB i e=>Dr (sE hg e) | .Cs is e=>DW (sE hg e) | .drop e=>Ey (sE hg e) | .ret e=>HV (sE hg e)
 | .Jd=>fun env out h F0 ZY I Z H D R q=>by cases h;exact q .non Z H R (KpS.refl _ _) rfl
 | .ifs c a b=>GX (sT hg c) (sS hg a) (sS hg b)
 | .fr i it b=>Kr (sI hg it) (sS hg b) | .wh n c b=>LF (sT hg c) (sS hg b)
 | .nev=>fun env out h F0 ZY I Z H D R q=>by cases h
 | .rse e=>fun env out h F0 ZY I Z H D R q=>by cases h
 | .sto m i k e=>Fo (sE hg k) (sE hg e)
end
section
variable {K:Fg} {F F' G I I' F0:Qx->Prop} {H H' ZY H1:Hp} {env env' e1:En} {Z Z':St} {ga:Gv} {gd:List Qq}
theorem dB:∀ {ms:List PM} {ds:List Qq} {n:Nat},ds.length=ms.length->ms.length<=n->(aB ms ds n).length=n
 | [],[],n,_,_=>by simp [aB]
 | [],_ :: _,n,h,_=>by cases h
 | _ :: _,[],n,h,_=>by cases h
 | m :: ms,d :: ds,n,h,hn=>by
  have ih:=dB (ms:=ms) (ds:=ds) (n:=n - 1) (by simpa using h) (by simp at hn;omega);simp at hn;cases m <;> (simp only [aB,Oc,ih];omega)
theorem bD.len:∀ {ms:List PM} {ds:List Qq} {vs:List V} {is:List Qx},bD K G I H ms ds vs is->ds.length=ms.length/\vs.length=ms.length
 | [],[],[],_,_=>⟨rfl,rfl⟩
 | [],[],_ :: _,_,h=>by exact absurd h id
 | [],_ :: _,_,_,h=>by exact absurd h id
 | m :: ms,[],_,_,h=>by cases m <;> exact absurd h id
 | m :: ms,d :: ds,[],_,h=>by cases m <;> exact absurd h id
 | .dat :: ms,d :: ds,v :: vs,is,h=>by obtain ⟨a,b⟩:=bD.len h.2;exact ⟨by simp [a],by simp [b]⟩
 | .bor :: ms,d :: ds,v :: vs,is,h=>by obtain ⟨a,b⟩:=bD.len h.2;exact ⟨by simp [a],by simp [b]⟩
 | .ino :: ms,d :: ds,v :: vs,is,h=>by obtain ⟨_,_,_,_,_,_,_,h⟩:=h;obtain ⟨a,b⟩:=bD.len h;exact ⟨by simp [a],by simp [b]⟩
def At (K:Fg) (G I:Qx->Prop) (H:Hp) (is:List Qx) (s:Sl) (x:Option V):Prop:=match s with
 | .un=>True
 | .dat d=>∃ v,x=some v/\Dm K G H d v
 | .ino d=>∃ a,x=some (.ref a)/\a∈is/\G a/\Top K G H d a
 | .ro d=>∃ a,x=some (.ref a)/\jR K G I H d a
 | .own _=>False
theorem At.more (h:At K G I H is s x) (q:∀ a∈is,a∈is'):At K G I H is' s x:=by
 cases s with
 | ino d=>obtain ⟨a,e,m,r⟩:=h;exact ⟨a,e,q a m,r⟩
 | _=>exact h
theorem cM:∀ {ms:List PM} {ds:List Qq} {vs:List V} {is:List Qx} {n:Nat} {tl:St},bD K G I H ms ds vs is->∀ {i:Nat} {s:Sl},(aB ms ds n)[i]?=some s->∀ {x:Option V},(vs.map some++tl)[i]?=some x->At K G I H is s x
 | [],[],[],is,n,tl,h,i,s,e,x,_=>by
  simp only [aB,List.getElem?_replicate] at e;split at e
  ·cases e;trivial
  ·cases e
 | [],[],_ :: _,_,_,_,h,_,_,_,_,_=>by exact absurd h id
 | [],_ :: _,_,_,_,_,h,_,_,_,_,_=>by exact absurd h id
 | m :: ms,[],_,_,_,_,h,_,_,_,_,_=>by cases m <;> exact absurd h id
 | m :: ms,d :: ds,[],_,_,_,h,_,_,_,_,_=>by cases m <;> exact absurd h id
 | .dat :: ms,d :: ds,v :: vs,is,n,tl,h,0,s,e,x,ex=>by
  simp [aB] at e ex;subst e ex;exact ⟨v,rfl,h.1⟩
 | .dat :: ms,d :: ds,v :: vs,is,n,tl,h,i+1,s,e,x,ex=>by
  simp [aB] at e;exact cM h.2 e (by simpa using ex)
 | .bor :: ms,d :: ds,v :: vs,is,n,tl,h,0,s,e,x,ex=>by
  simp [aB] at e ex;subst e ex;have h1:C3 K G I H d v:=h.1;cases d <;> first | exact h1 | exact ⟨v,rfl,h1⟩ | (obtain ⟨a,rfl,r⟩:=h1;exact ⟨a,rfl,r⟩)
 | .bor :: ms,d :: ds,v :: vs,is,n,tl,h,i+1,s,e,x,ex=>by
  simp [aB] at e;exact cM h.2 e (by simpa using ex)
 | .ino :: ms,d :: ds,v :: vs,is,n,tl,h,0,s,e,x,ex=>by
  simp [aB] at e ex;subst e ex;obtain ⟨a,r,rfl,rfl,g,t,_,_⟩:=h;exact ⟨a,rfl,Od,g,t⟩
 | .ino :: ms,d :: ds,v :: vs,is,n,tl,h,i+1,s,e,x,ex=>by
  simp [aB] at e;obtain ⟨a,r,rfl,rfl,g,t,_,h⟩:=h;exact (cM h e (by simpa using ex)).more fun b hb=>N8 _ hb
theorem kf:∀ {ms:List PM} {ds:List Qq} {vs:List V} {is:List Qx} {n:Nat} {tl:St},bD K G I H ms ds vs is->∀ {i j:Nat} {c c':Qq} {a:Qx},(aB ms ds n)[i]?=some (.ino c)->(aB ms ds n)[j]?=some (.ino c') ->
  (vs.map some++tl)[i]?=some (some (.ref a))->(vs.map some++tl)[j]?=some (some (.ref a))->i=j
 | [],[],[],is,n,tl,h,i,j,c,c',a,e,_,_,_=>by
  simp only [aB,List.getElem?_replicate] at e;split at e <;> cases e
 | [],[],_ :: _,_,_,_,h,_,_,_,_,_,_,_,_,_=>by exact absurd h id
 | [],_ :: _,_,_,_,_,h,_,_,_,_,_,_,_,_,_=>by exact absurd h id
 | m :: ms,[],_,_,_,_,h,_,_,_,_,_,_,_,_,_=>by cases m <;> exact absurd h id
 | m :: ms,d :: ds,[],_,_,_,h,_,_,_,_,_,_,_,_,_=>by cases m <;> exact absurd h id
 | m :: ms,d :: ds,v :: vs,is,n,tl,h,0,0,c,c',a,e,e',s,s'=>rfl
 | m :: ms,d :: ds,v :: vs,is,n,tl,h,i+1,j+1,c,c',a,e,e',s,s'=>by
  have hr:∃ r,bD K G I H ms ds vs r:=by
   cases m with
   | dat=>exact ⟨is,h.2⟩
   | bor=>exact ⟨is,h.2⟩
   | ino=>obtain ⟨_,r,_,_,_,_,_,h⟩:=h;exact ⟨r,h⟩
  obtain ⟨r,hr⟩:=hr;have:i=j:=kf (n:=n - 1) (tl:=tl) hr (by cases m <;> simpa [aB] using e) (by cases m <;> simpa [aB] using e') (by simpa using s) (by simpa using s');rw [this]
 | m :: ms,d :: ds,v :: vs,is,n,tl,h,0,j+1,c,c',a,e,e',s,s'=>by
  cases m with
  | dat=>simp [aB] at e
  | bor=>cases d <;> simp [aB,DG] at e
  | ino =>
   obtain ⟨b,r,rfl,rfl,g,t,nr,h⟩:=h;simp [aB] at e' s;subst s;obtain ⟨a',ea,m',_⟩:=cM (tl:=tl) h e' (by simpa using s');cases ea;exact absurd m' nr
 | m :: ms,d :: ds,v :: vs,is,n,tl,h,i+1,0,c,c',a,e,e',s,s'=>by
  cases m with
  | dat=>simp [aB] at e'
  | bor=>cases d <;> simp [aB,DG] at e'
  | ino =>
   obtain ⟨b,r,rfl,rfl,g,t,nr,h⟩:=h;simp [aB] at e s';subst s';obtain ⟨a',ea,m',_⟩:=cM (tl:=tl) h e (by simpa using s);cases ea;exact absurd m' nr
theorem gD:∀ {ms:List PM} {ds:List Qq} {vs:List V} {is:List Qx} {n:Nat} {tl:St} {env':En} {Z':St} {outs:List Qq},bD K G I H ms ds vs is->ms.length<=env'.length ->
  (∀ (i:Nat) (c:Qq),(aB ms ds n)[i]?=some (.ino c)->∃ c',env'[i]?=some (.ino c')/\Z'[i]?=(vs.map some++tl)[i]?)->(∀ (i:Nat) (c:Qq) (a:Qx),env'[i]?=some (.ino c)->Z'[i]?=some (some (.ref a))->Top K G' H' c a) ->
  gM ms env'=some outs->jg K G' H' outs is
 | [],[],[],is,n,tl,env',Z',outs,h,_,_,_,e=>by
  rw [show is=[] from h];cases env' <;> (simp only [gM] at e;cases e;trivial)
 | [],[],_ :: _,_,_,_,_,_,_,h,_,_,_,_=>by exact absurd h id
 | [],_ :: _,_,_,_,_,_,_,_,h,_,_,_,_=>by exact absurd h id
 | m :: ms,[],_,_,_,_,_,_,_,h,_,_,_,_=>by cases m <;> exact absurd h id
 | m :: ms,d :: ds,[],_,_,_,_,_,_,h,_,_,_,_=>by cases m <;> exact absurd h id
 | m :: ms,d :: ds,v :: vs,is,n,tl,[],Z',outs,h,hl,h1,h2,e=>by simp at hl
 | m :: ms,d :: ds,v :: vs,is,n,tl,s :: es,Z',outs,h,hl,h1,h2,e=>by
  have hl':ms.length<=es.length:=by simpa using hl
  have t1:∀ (i:Nat) (c:Qq),(aB ms ds (n - 1))[i]?=some (.ino c)->∃ c',es[i]?=some (.ino c')/\Z'.tail[i]?=(vs.map some++tl)[i]?:=fun i c z=>by
   obtain ⟨c',e',q⟩:=h1 (i+1) c (by cases m <;> simpa [aB] using z);exact ⟨c',by simpa using e',by simpa using q⟩
  have t2:∀ (i:Nat) (c:Qq) (a:Qx),es[i]?=some (.ino c)->Z'.tail[i]?=some (some (.ref a))->Top K G' H' c a:=fun i c a z q=>h2 (i+1) c a (by simpa using z) (by simpa using q);cases m with
  | dat=>exact gD h.2 hl' t1 t2 (by simpa [gM] using e)
  | bor=>exact gD h.2 hl' t1 t2 (by simpa [gM] using e)
  | ino =>
   obtain ⟨b,r,rfl,rfl,g,t,nr,h⟩:=h;obtain ⟨c',e',q⟩:=h1 0 d (by simp [aB]);simp at e' q;subst e';simp only [gM] at e;split at e
   ·rename_i os ho;cases e;exact ⟨h2 0 c' b (by simp) (by simpa using q),gD h hl' t1 t2 ho⟩
   ·cases e
theorem oA (ha:bD K G (·∈is) H ms ds vs is) (hd:∀ b,G b->H b≠none) (hn:ms.length<=N.length):Rel K G H (·∈is) (aB ms ds N.length) (start N vs) H:=by
 obtain ⟨hl1,hl2⟩:=ha.len;have hstart:start N vs=vs.map some++List.replicate (N.length - vs.length) none:=rfl;have no:noOwn (aB ms ds N.length):=fun i d e=>by
  have hi:i < (aB ms ds N.length).length:=(N9.mp e).1;rw [dB hl1 hn] at hi;have hx:(vs.map some++List.replicate (N.length - vs.length) none)[i]?=some ((vs.map some++List.replicate (N.length - vs.length) none)[i]'(by rw [N5,N6,Py];omega)):=Oi _;exact (cM ha e hx:False)
 have at':∀ {i:Nat} {s:Sl},(aB ms ds N.length)[i]?=some s->∃ x,(start N vs)[i]?=some x/\At K G (·∈is) H is s x:=fun {i s} e=>by
  have hi:i < (aB ms ds N.length).length:=(N9.mp e).1;rw [dB hl1 hn] at hi;have hx:(start N vs)[i]?=some ((start N vs)[i]'(by rw [hstart,N5,N6,Py];omega)):=Oi _;exact ⟨_,hx,cM ha e hx⟩
 have eF:FF G (aB ms ds N.length) (start N vs)=G:=gb no;have muI:∀ i,mu (aB ms ds N.length) i->∃ c,(aB ms ds N.length)[i]?=some (.ino c):=fun i ⟨c,m⟩=>m.elim (fun z=>absurd z (no i c)) fun z=>⟨c,z⟩;refine ⟨by rw [dB hl1 hn,hstart,N5,N6,Py];omega,fun i d e=>?_,fun i d e=>absurd e (no i d),fun i d e=>?_,fun i d e=>?_,fun i j a h1 h2 h3 h4=>?_,hd,fun _ _ h _=>h⟩
 ·rw [eF];obtain ⟨x,hx,v,rfl,r⟩:=at' e;exact ⟨v,hx,r⟩
 ·rw [eF];obtain ⟨x,hx,a,rfl,m,g,t⟩:=at' e;exact ⟨a,hx,g,m,t⟩
 ·rw [eF];obtain ⟨x,hx,a,rfl,r⟩:=at' e;refine ⟨a,hx,r.pr Pr.refl (fun _ z=>z) (fun b hb=>?_) fun _ _ z _=>z⟩;obtain ⟨j,m,s⟩:=hb;obtain ⟨c,m⟩:=muI j m;obtain ⟨x,hx,a,rfl,m,g,t⟩:=at' m;rw [s] at hx;cases hx;exact m
 ·obtain ⟨c,m1⟩:=muI i h1;obtain ⟨c',m2⟩:=muI j h2;exact kf ha m1 m2 h3 h4
theorem wz (hg:∀ g d,gd[g]?=some d->∀ F H,Dm K F H d (ga g)) (h:jY (bJ gd ms N.length b) K vs H Q E) (hn:ms.length<=N.length) :
  rS K ga b { nx:=fun _ H'=>Q .non H',rt:=Q } (start N vs) H:=by
 obtain ⟨G,ds,is,pr,outs,hF,ha,hd,post⟩:=h;have ha:bD K G (·∈is) H ms ds vs is:=ha;obtain ⟨hl1,hl2⟩:=ha.len;have hstart:start N vs=vs.map some++List.replicate (N.length - vs.length) none:=rfl;have R:=oA ha hd hn;simp only [bJ] at hF;rw [Og hl1] at hF
 ·have inoK:∀ {env':En} {Z':St},KpS (aB ms ds N.length) (start N vs) env' Z'->∀ (i:Nat) (c:Qq),(aB ms ds N.length)[i]?=some (.ino c)->∃ c',env'[i]?=some (.ino c')/\Z'[i]?=(vs.map some++List.replicate (N.length - vs.length) none)[i]?:=fun {env' Z'} k i c e=>by
   obtain ⟨s',e',v,w⟩:=k.2 i _ e;obtain ⟨c',rfl⟩:=v;exact ⟨c',e',w trivial⟩
  have hlE:∀ {env':En} {Z':St},KpS (aB ms ds N.length) (start N vs) env' Z'->ms.length<=env'.length:=fun {env' Z'} k=>by rw [k.1,dB hl1 hn];exact hn
  split at hF
  ·rename_i rv env' hS;split at hF
   ·rename_i pr' outs' hpr houts;cases hF;refine sS hg b _ _ hS G H (·∈is) _ H _ R fun v Z' H' R' k' r'=>?_;have mono:∀ b,G b->FF G env' Z' b:=fun b z=>.inl z;cases rv with
    | bor i=>cases hpr
    | dat d =>
     cases hpr
     exact post v H' (fun b o e n=>R'.gP b o e n) ⟨Dm.mono mono r',gD ha (hlE k') (inoK k') (fun i c a e s=>by
      obtain ⟨a',s',_,_,t⟩:=R'.ino i c e;rw [s] at s';cases s'
      exact t.pr Pr.refl mono fun _ z=>z) houts⟩
    | frs d =>
     cases hpr;obtain ⟨a,rfl,Ra,t,w,nF,hino,_⟩:=r';have mono':∀ b,(G b\/b=a)->FF (fun b=>G b\/b=a) env' Z' b:=fun b z=>.inl z
     refine post _ H' (fun b o e n=>R'.gP b o e n) ⟨a,rfl,?_,t.pr Pr.refl (fun b z=>z.imp (mono b) id) (fun _ z=>z),gD ha (hlE k') (inoK k') (fun i c a' e s=>by
      obtain ⟨a2,s',_,_,t'⟩:=Ra.ino i c e;rw [s] at s';cases s'
      exact t'.pr Pr.refl mono' fun _ z=>z) houts⟩
     rcases w with w | w
     ·exact w
     ·-- it would be one that was handed in to be changed
      exfalso;have key:∀ {ms:List PM} {ds:List Qq} {vs:List V} {is:List Qx} {I:Qx->Prop} {n:Nat} {tl:St},bD K G I H ms ds vs is->a∈is->∃ (i:Nat) (c:Qq),(aB ms ds n)[i]?=some (.ino c)/\(vs.map some++tl)[i]?=some (some (.ref a)):=by
       intro ms;induction ms with
       | nil =>
        intro ds vs is I n tl h m;cases ds with
        | cons _ _=>exact absurd h id
        | nil=>cases vs with
         | cons _ _=>exact absurd h id
         | nil=>rw [show is=[] from h] at m;cases m
       | cons p ms ih =>
        intro ds vs is I n tl h m;cases ds with
        | nil=>cases p <;> exact absurd h id
        | cons d ds =>
         cases vs with
         | nil=>cases p <;> exact absurd h id
         | cons v vs =>
          cases p with
          | dat=>obtain ⟨i,c,e,s⟩:=ih (n:=n - 1) (tl:=tl) h.2 m;exact ⟨i+1,c,by simpa [aB] using e,by simpa using s⟩
          | bor=>obtain ⟨i,c,e,s⟩:=ih (n:=n - 1) (tl:=tl) h.2 m;exact ⟨i+1,c,by simpa [aB] using e,by simpa using s⟩
          | ino =>
           obtain ⟨b,r,rfl,rfl,g,t,nr,h⟩:=h;rcases Oo.mp m with rfl | m
           ·exact ⟨0,d,by simp [aB],by simp⟩
           ·obtain ⟨i,c,e,s⟩:=ih (n:=n - 1) (tl:=tl) h m;exact ⟨i+1,c,by simpa [aB] using e,by simpa using s⟩
      obtain ⟨i,c,e,s⟩:=key (n:=N.length) (tl:=List.replicate (N.length - vs.length) none) ha w;obtain ⟨c',e',s'⟩:=inoK k' i c e;exact hino i c' e' (s'.trans s)
   ·cases hF
  ·rename_i env' hS;split at hF
   ·rename_i outs' houts;cases hF;refine sS hg b _ _ hS G H (·∈is) _ H _ R fun Z' H' R' k'=>?_;have mono:∀ b,G b->FF G env' Z' b:=fun b z=>.inl z
    exact post .non H' (fun b o e n=>R'.gP b o e n) ⟨rfl,gD ha (hlE k') (inoK k') (fun i c a e s=>by
      obtain ⟨a',s',_,_,t⟩:=R'.ino i c e;rw [s] at s';cases s'
      exact t.pr Pr.refl mono fun _ z=>z) houts⟩
   ·cases hF
  ·cases hF
theorem rz (h:jY f K vs H Q E):vs.length=f.ms.length:=by
 obtain ⟨G,ds,is,pr,outs,_,ha,_⟩:=h;exact ha.len.2
end
end L2
namespace L2
open PySem PySem.Spec PyProof.Rows
def Prm.two (r:Fg->R2) (f:Qq->Qq->Option PR) (ok:∀ (K:Fg) (F:Qx->Prop) (H:Hp) (x y:Qq) (u v:V) (pr:PR) (Q:VK),f x y=some pr->Vw K F H x u->Vw K F H y v->(∀ b,F b->H b≠none)->(∀ w H',aZ H H'->Bu K F H H' pr w->Q w H')->r K u v H Q):Prm where
 r:=fun K vs H Q=>match vs with | [u,v]=>r K u v H Q | _=>False
 f:=fun ds=>match ds with | [x,y]=>f x y | _=>none
 ok:=fun K F H ds vs pr Q hf hv hd q=>by
  match ds,hf with
  | [x,y],hf =>
   obtain ⟨u,r1,rfl,h1,v,r2,rfl,h2,rfl⟩:=hv;exact ok K F H x y u v pr Q hf h1 h2 hd q
def Prm.one (r:Fg->V->Hp->VK->Prop) (f:Qq->Option PR) (ok:∀ (K:Fg) (F:Qx->Prop) (H:Hp) (x:Qq) (u:V) (pr:PR) (Q:VK),f x=some pr->Vw K F H x u->(∀ b,F b->H b≠none)->(∀ w H',aZ H H'->Bu K F H H' pr w->Q w H')->r K u H Q):Prm where
 r:=fun K vs H Q=>match vs with | [u]=>r K u H Q | _=>False
 f:=fun ds=>match ds with | [x]=>f x | _=>none
 ok:=fun K F H ds vs pr Q hf hv hd q=>by
  match ds,hf with
  | [x],hf =>
   obtain ⟨u,r1,rfl,h1,rfl⟩:=hv;exact ok K F H x u pr Q hf h1 hd q
section
variable {K:Fg} {F F':Qx->Prop} {H:Hp}
theorem vInt {i:Int} {v:V} (h:Vw K F H (.int i) v):v=.int i:=h
theorem vBl (h:Vw K F H (.bool b) v):v=.bl b:=h
theorem Gf (h:Vw K F H .none v):v=.non:=h
theorem vStr {x:Str} {v:V} (h:Vw K F H (.str x) v):v=.str x/\x.length<=sizeLine/\PyData.strOk x=true:=h
theorem o9 {ds:List Qq} {v:V} (h:Vw K F H (.list ds) v):∃ a xs,v=.ref a/\SqL K H a xs/\xs.length<=sizeLine/\DmL K F H ds xs:=let ⟨a,e,xs,r⟩:=h;⟨a,xs,e,r⟩
theorem wX {ds:List Qq} {v:V} (h:Vw K F H (.tuple ds) v):∃ a xs,v=.ref a/\SqT K H a xs/\xs.length<=sizeLine/\DmL K F H ds xs:=h
theorem Ir (hp:H p=none) (hz:xs.length<=sizeLine) (h:DmL K F H ds xs):Bu K F H (upd H p (.lst xs)) (.frs (.list ds)) (.ref p) :=
 ⟨p,rfl,hp,xs,aE,hz,(h.fresh hp).pr (Pr.of_same (aZ.nw _ hp)) fun _ z=>z⟩
theorem Iy (hp:H p=none) (hz:xs.length<=sizeLine) (h:DmL K F H ds xs):Bu K F H (upd H p (.tup xs)) (.dat (.tuple ds)) (.ref p) :=
 ⟨p,xs,rfl,.inl (.inl aE),hz,h.pr (Pr.of_same (aZ.nw _ hp)) fun _ z=>z⟩
end
def Ms:Qq->Qq->Option PR
 | .int i,.int j=>some (.dat (.int (i+j)))
 | .str x,.str y=>if x.length+y.length<=sizeLine then some (.dat (.str (x++y))) else none
 | .list xs,.list ys=>if xs.length+ys.length<=sizeLine then some (.frs (.list (xs++ys))) else none
 | .tuple (x :: xs),.tuple ys=>if (x :: xs).length+ys.length<=sizeLine then some (.dat (.tuple ((x :: xs)++ys))) else none
 | _,_=>none
def LH (K:Fg):R2:=rOr (rI0 fun i j=>.int (i+j)) (rOr F7 (rOr (FQ K) (EM K)))
theorem jD (x y:Str):(x++y).length=x.length+y.length:=by
 show (x.cps++y.cps).size=_;rw [Array.size_append];rfl
def bq:Prm:=Prm.two LH Ms fun K F H x y u v pr Q hf hx hy hd q=>by
 unfold Ms at hf;split at hf
 ·cases hf;rw [vInt hx,vInt hy];exact .inl ⟨_,_,rfl,rfl,q _ H (aZ.rf H) rfl⟩
 ·split at hf
  ·rename_i x y hl;cases hf;obtain ⟨rfl,l1,o1⟩:=vStr hx;obtain ⟨rfl,l2,o2⟩:=vStr hy;exact .inr (.inl ⟨_,_,rfl,rfl,hl,q _ H (aZ.rf H) ⟨rfl,by rw [jD];exact hl,o7 o1 o2⟩⟩)
  ·cases hf
 ·split at hf
  ·rename_i xs ys hl;cases hf;obtain ⟨a,us,rfl,s1,z1,d1⟩:=o9 hx;obtain ⟨b,ws,rfl,s2,z2,d2⟩:=o9 hy;have hl':us.length+ws.length<=sizeLine:=by rw [d1.len,d2.len];exact hl
   exact .inr (.inr (.inl ⟨a,b,us,ws,rfl,rfl,s1,s2,hl',fun p hp=>q _ _ (aZ.nw _ hp) (Ir hp (by rw [N5];exact hl') (d1.app d2))⟩))
  ·cases hf
 ·split at hf
  ·rename_i x xs ys hl;cases hf;obtain ⟨a,us,rfl,s1,z1,d1⟩:=wX hx;obtain ⟨b,ws,rfl,s2,z2,d2⟩:=wX hy;have hl':us.length+ws.length<=sizeLine:=by rw [d1.len,d2.len];exact hl
   have hne:us≠[]:=fun z=>by rw [z] at d1;obtain ⟨v,r,e,_⟩:=d1;cases e
   refine .inr (.inr (.inr ⟨a,b,us,ws,rfl,rfl,s1,s2,hne,hl',fun z=>?_,fun z p hp=>q _ _ (aZ.nw _ hp) (Iy hp (by rw [N5];exact hl') (d1.app d2))⟩));subst z;have hys:ys=[]:=by
    cases ys with
    | nil=>rfl
    | cons y ys=>obtain ⟨v,r,e,_⟩:=d2;cases e
   subst hys;exact q _ H (aZ.rf H) ⟨a,us,rfl,s1,z1,by rw [OC];exact d1⟩
  ·cases hf
 ·cases hf
theorem af:OpR X (binaryOp .Add) (fun x y=>bq.r X.K [x,y]):=orR GP (orR Cz (orR DM DZ))
noncomputable def EH (c:Int->Int->Bool) (g:Int->Int->Qq):Qq->Qq->Option PR
 | .int i,.int j=>if c i j=true then some (.dat (g i j)) else none
 | _,_=>none
def Prm.ints (C:Int->Int->Prop) (c:Int->Int->Bool) (hc:∀ i j,c i j=true->C i j) (g:Int->Int->Int):Prm:=Prm.two (fun _=>rI C fun i j=>.int (g i j)) (EH c fun i j=>.int (g i j)) fun K F H x y u v pr Q hf hx hy hd q=>by
 unfold EH at hf;split at hf
 ·split at hf
  ·rename_i h;cases hf;rw [vInt hx,vInt hy];exact ⟨_,_,rfl,rfl,hc _ _ h,q _ H (aZ.rf H) rfl⟩
  ·cases hf
 ·cases hf
def Prm.FX (g:Int->Int->Bool):Prm:=Prm.two (fun _=>rI0 fun i j=>.bl (g i j)) (EH (fun _ _=>true) fun i j=>.bool (g i j)) fun K F H x y u v pr Q hf hx hy hd q=>by
 unfold EH at hf;split at hf
 ·rw [Og rfl] at hf;cases hf;rw [vInt hx,vInt hy];exact ⟨_,_,rfl,rfl,q _ H (aZ.rf H) rfl⟩
 ·cases hf
def Iw:Prm:=Prm.two (fun _=>rI0 fun i j=>.int (i - j)) (EH (fun _ _=>true) fun i j=>.int (i - j)) fun K F H x y u v pr Q hf hx hy hd q=>by
 unfold EH at hf;split at hf
 ·rw [Og rfl] at hf;cases hf;rw [vInt hx,vInt hy];exact ⟨_,_,rfl,rfl,q _ H (aZ.rf H) rfl⟩
 ·cases hf
theorem qM:OpR X (binaryOp .Sub) (fun x y=>Iw.r X.K [x,y]):=E1
noncomputable def mulC (i j:Int):Bool:=(decide (-(2 ^ 64) < i)&&decide (i < 2 ^ 64))||(decide (-(2 ^ 64) < j)&&decide (j < 2 ^ 64))
def vU:Prm:=Prm.ints FJ mulC (fun i j h=>by simpa [mulC,FJ,Qk,OF,OU] using h) (fun i j=>i*j)
theorem dX:OpR X (binaryOp .Mult) (fun x y=>vU.r X.K [x,y]):=Fq
def rL:Prm:=Prm.ints (fun _ j=>0 < j) (fun _ j=>decide (0 < j)) (fun i j h=>by simpa using h) (fun i j=>i % j)
theorem cq:OpR X (binaryOp .Mod) (fun x y=>rL.r X.K [x,y]):=GN
def Ao:Prm:=Prm.ints (fun _ j=>0 < j/\j.natAbs.log2 < 9000) (fun _ j=>decide (0 < j)&&decide (j < 2 ^ 200)) (fun i j h=>by
 simp only [OF,OU] at h;refine ⟨h.1,?_⟩;have hz:j.natAbs≠0:=by omega
 have:j.natAbs < 2 ^ 200:=by omega
 exact Ov ((Nat.log2_lt hz).mpr this) (by decide)) (fun i j=>i / j)
theorem mT:OpR X (binaryOp .FloorDiv) (fun x y=>Ao.r X.K [x,y]):=AE
def Mw:Prm:=Prm.ints MU (fun i j=>decide (0<=j)&&decide (j<=1000000)&&decide (i.natAbs < 2 ^ 64)) (fun i j h=>by simp only [OF,OU] at h;exact ⟨h.1.1,h.1.2,h.2⟩) (fun i j=>i ^ j.toNat)
theorem Ct:OpR X (binaryOp .Pow) (fun x y=>Mw.r X.K [x,y]):=GV
def IY:Prm:=Prm.one (fun _=>rU fun i=>.int (-i)) (fun x=>match x with | .int i=>some (.dat (.int (-i))) | _=>none) fun K F H x u pr Q hf hx hd q=>by
 split at hf
 ·cases hf;rw [vInt hx];exact ⟨_,rfl,q _ H (aZ.rf H) rfl⟩
 ·cases hf
noncomputable def IZ (g:Int->Int->Bool) (h:Str->Str->Bool):Qq->Qq->Option PR
 | .int i,.int j=>some (.dat (.bool (g i j)))
 | .str x,.str y=>some (.dat (.bool (h x y)))
 | _,_=>none
noncomputable def ltS (x y:Str):Bool:=decide (x.cps.toList < y.cps.toList)
noncomputable def leS (x y:Str):Bool:=!decide (y.cps.toList < x.cps.toList)
def ltP:Prm:=Prm.two (fun _=>rOr (rI0 fun i j=>.bl (decide (i < j))) MH) (IZ (fun i j=>decide (i < j)) ltS) fun K F H x y u v pr Q hf hx hy hd q=>by
 unfold IZ at hf;split at hf
 ·cases hf;rw [vInt hx,vInt hy];exact .inl ⟨_,_,rfl,rfl,q _ H (aZ.rf H) rfl⟩
 ·cases hf;rw [(vStr hx).1,(vStr hy).1];exact .inr ⟨_,_,rfl,rfl,q _ H (aZ.rf H) rfl⟩
 ·cases hf
theorem iI:OpR X (compareOp .Lt) (fun x y=>ltP.r X.K [x,y]):=orR LD Hw
def leP:Prm:=Prm.two (fun _=>rOr (rI0 fun i j=>.bl (decide (i<=j))) Mz) (IZ (fun i j=>decide (i<=j)) leS) fun K F H x y u v pr Q hf hx hy hd q=>by
 unfold IZ at hf;split at hf
 ·cases hf;rw [vInt hx,vInt hy];exact .inl ⟨_,_,rfl,rfl,q _ H (aZ.rf H) rfl⟩
 ·cases hf;rw [(vStr hx).1,(vStr hy).1];exact .inr ⟨_,_,rfl,rfl,q _ H (aZ.rf H) rfl⟩
 ·cases hf
theorem cD:OpR X (compareOp .LtE) (fun x y=>leP.r X.K [x,y]):=orR JK Gd
def gtP:Prm:=Prm.FX fun i j=>decide (i > j)
theorem oX:OpR X (compareOp .Gt) (fun x y=>gtP.r X.K [x,y]):=Kh
def geP:Prm:=Prm.FX fun i j=>decide (i>=j)
theorem Fh:OpR X (compareOp .GtE) (fun x y=>geP.r X.K [x,y]):=Ls
mutual
noncomputable def noD:Qq->Bool
 | .dict _=>false
 | .list xs=>fy xs
 | .tuple xs=>fy xs
 | _=>true
noncomputable def fy:List Qq->Bool
 | []=>true
 | x :: xs=>noD x&&fy xs
end
section
variable {K:Fg} {F:Qx->Prop} {H:Hp}
mutual
theorem Dm.lay:∀ {d:Qq} {v:V},Dm K F H d v->noD d=true->d.canLay0=true
 | .none,v,h,_=>by simp [PyData.canLay0]
 | .bool b,v,h,_=>by simp [PyData.canLay0]
 | .int i,v,h,_=>by simp [PyData.canLay0]
 | .str x,v,h,_=>by simpa [PyData.canLay0] using h.2.2
 | .list ds,v,h,n=>by obtain ⟨a,xs,e,l,z,r⟩:=h;simpa [PyData.canLay0] using DmL.lay r (by simpa [noD] using n)
 | .tuple ds,v,h,n=>by obtain ⟨a,xs,e,l,z,r⟩:=h;simpa [PyData.canLay0] using DmL.lay r (by simpa [noD] using n)
 | .dict kvs,v,h,n=>by simp [noD] at n
theorem DmL.lay:∀ {ds:List Qq} {vs:List V},DmL K F H ds vs->fy ds=true->PyData.canLayAll0 ds=true
 | [],vs,h,_=>by simp [PyData.canLayAll0]
 | d :: ds,vs,h,n=>by
  obtain ⟨v,r,e,h1,h2⟩:=h;have n':noD d=true/\fy ds=true:=by simpa [fy] using n
  simp [PyData.canLayAll0,Dm.lay h1 n'.1,DmL.lay h2 n'.2]
end
theorem Vw.lay (h:Vw K F H d v) (n:noD d=true):d.canLay0=true:=by
 cases d with
 | list ds=>obtain ⟨a,xs,e,l,z,r⟩:=o9 h;simpa [PyData.canLay0] using DmL.lay r (by simpa [noD] using n)
 | dict ds=>simp [noD] at n
 | _=>exact Dm.lay (K:=K) (F:=F) (H:=H) h n
variable {X:Cx} {pins:List (Qx×Obj)} {Z:St} {s:Qv}
mutual
theorem Dm.reads (I:Inv X pins Z H s):∀ {d:Qq} {v:V} {u:Qz},Dm X.K F H d v->noD d=true->RelV v u->∃ as,Reads s.heap u d as
 | .none,v,u,hd,_,r=>by
  have e:v=.non:=hd;subst e;cases (show u=Value.none from r);exact ⟨_,.none⟩
 | .bool b,v,u,hd,_,r=>by
  have e:v=.bl b:=hd;subst e;cases (show u=Value.bool b from r);exact ⟨_,.bool b⟩
 | .int i,v,u,hd,_,r=>by
  have e:v=.int i:=hd;subst e;obtain ⟨t,e⟩:=(show ∃ t,u=Value.int i t from r);subst e;exact ⟨_,.int i t⟩
 | .str y,v,u,hd,_,r=>by
  have e:v=.str y:=hd.1;subst e;obtain ⟨t,e⟩:=(show ∃ t,u=Value.str y t from r);subst e;exact ⟨_,.str y t⟩
 | .list ds,v,u,hd,n,r=>by
  obtain ⟨a,xs,e,l,z,rs⟩:=hd;subst e;cases (show u=Value.ref a from r);obtain ⟨its,rv,⟨o,k,h1,h2,h3,h4⟩,_⟩:=I.list (l.elim (fun q=>.inl q.2) .inr);obtain ⟨as,ra⟩:=DmL.reads I rs (by simpa [noD] using n) rv;exact ⟨_,.list h1 h2 h4 (by simpa using ra)⟩
 | .tuple ds,v,u,hd,n,r=>by
  obtain ⟨a,xs,e,l,z,rs⟩:=hd;subst e;cases (show u=Value.ref a from r);obtain ⟨its,rv,⟨o,h1,h2,k,h4⟩,_⟩:=I.tuple l;obtain ⟨as,ra⟩:=DmL.reads I rs (by simpa [noD] using n) rv;exact ⟨_,.tuple h1 h2 h4 (by simpa using ra)⟩
 | .dict kvs,v,u,hd,n,r=>by simp [noD] at n
theorem DmL.reads (I:Inv X pins Z H s):∀ {ds:List Qq} {vs:List V} {us:List Qz},DmL X.K F H ds vs->fy ds=true->Vals vs us->∃ as,ReadsAll s.heap us ds as
 | [],vs,us,hd,_,r=>by
  have e:vs=[]:=hd;subst e;cases r;exact ⟨_,.nil⟩
 | d :: ds,vs,us,hd,n,r=>by
  obtain ⟨v,rr,e,h1,h2⟩:=hd;have n':noD d=true/\fy ds=true:=by simpa [fy] using n
  subst e;cases r with
  | cons r1 r2 =>
   obtain ⟨as,q1⟩:=Dm.reads I h1 n'.1 r1;obtain ⟨bs,q2⟩:=DmL.reads I h2 n'.2 r2;exact ⟨_,.cons q1 q2⟩
end
theorem Vw.reads (I:Inv X pins Z H s) (h:Vw X.K F H d v) (n:noD d=true) (r:RelV v u):∃ as,Reads s.heap u d as:=by
 cases d with
 | list ds =>
  obtain ⟨a,xs,rfl,l,z,rs⟩:=o9 h;cases (show u=Value.ref a from r);obtain ⟨its,rv,⟨o,k,h1,h2,h3,h4⟩,_⟩:=I.list l;obtain ⟨as,ra⟩:=DmL.reads I rs (by simpa [noD] using n) rv;exact ⟨_,.list h1 h2 h4 (by simpa using ra)⟩
 | dict ds=>simp [noD] at n
 | _=>exact Dm.reads (F:=F) I h n r
end
def mV (d:Qq):Bool:=noD d&&decide (d.depth<=64)
def NO (neg:Bool) (K:Fg):R2:=fun x y H Q=>∃ F d e,Vw K F H d x/\Vw K F H e y/\mV d=true/\mV e=true/\Q (.bl (if neg then !PyData.eqv d e else PyData.eqv d e)) H
def eqD (neg:Bool) (d e:Qq):Option PR:=if mV d=true/\mV e=true then some (.dat (.bool (if neg then !PyData.eqv d e else PyData.eqv d e))) else none
def Jb (neg:Bool):Prm:=Prm.two (NO neg) (eqD neg) fun K F H x y u v pr Q hf hx hy hd q=>by
 unfold eqD at hf;split at hf
 ·rename_i h;cases hf;exact ⟨F,x,y,hx,hy,h.1,h.2,q _ H (aZ.rf H) rfl⟩
 ·cases hf
abbrev eqP:Prm:=Jb false
abbrev neP:Prm:=Jb true
theorem gi {K:Fg} {F:Qx->Prop} {H:Hp} {d:Qq} {v:V} (h:Vw K F H d v) (o:mV d=true):SeqAt.shaped d=true:=by
 have o':noD d=true/\d.depth<=64:=by simpa [mV] using o
 simp [SeqAt.shaped,h.lay o'.1,o'.2]
theorem aP {X:Cx} (hu:X.A.units+64 < cLine):OpR X (compareOp .Eq) (fun x y=>eqP.r X.K [x,y]):=by
 intro pins s Z H x y v u Q I rx ry h;obtain ⟨F,d,e,h1,h2,o1,o2,hq⟩:=h;obtain ⟨as,r1⟩:=h1.reads I (by have:=o1;simp [mV] at this;exact this.1) rx;obtain ⟨bs,r2⟩:=h2.reads I (by have:=o2;simp [mV] at this;exact this.1) ry;exact SeqAt.compareEq_shaped r1 r2 (gi h1 o1) (gi h2 o2) hu ⟨.bl _,H,I,rfl,hq⟩
theorem iZ {X:Cx} (hu:X.A.units+64 < cLine):OpR X (compareOp .NotEq) (fun x y=>neP.r X.K [x,y]):=by
 intro pins s Z H x y v u Q I rx ry h;obtain ⟨F,d,e,h1,h2,o1,o2,hq⟩:=h;obtain ⟨as,r1⟩:=h1.reads I (by have:=o1;simp [mV] at this;exact this.1) rx;obtain ⟨bs,r2⟩:=h2.reads I (by have:=o2;simp [mV] at this;exact this.1) ry;exact SeqAt.compareNe_shaped r1 r2 (gi h1 o1) (gi h2 o2) hu ⟨.bl _,H,I,rfl,hq⟩
noncomputable def b8:Qq->Bool | .none=>true | _=>false
theorem rp {K:Fg} {F:Qx->Prop} {H:Hp} {d:Qq} {v:V} (h:Vw K F H d v):decide (v=.non)=b8 d:=by
 cases d with
 | none=>rw [Gf h];rfl
 | bool b=>rw [vBl h];rfl
 | int i=>rw [vInt h];rfl
 | str x=>rw [(vStr h).1];rfl
 | list ds=>obtain ⟨a,xs,rfl,_⟩:=o9 h;rfl
 | tuple ds=>obtain ⟨a,xs,rfl,_⟩:=wX h;rfl
 | dict ds=>obtain ⟨a,rfl,_⟩:=h;rfl
def isP:Prm:=Prm.two (fun _=>LO) (fun x y=>match y with | .none=>some (.dat (.bool (b8 x))) | _=>none) fun K F H x y u v pr Q hf hx hy hd q=>by
 split at hf
 ·cases hf;exact ⟨Gf hy,q _ H (aZ.rf H) (by rw [rp hx];rfl)⟩
 ·cases hf
theorem yP:OpR X (compareOp .Is) (fun x y=>isP.r X.K [x,y]):=qH
def sd:Prm:=Prm.two (fun _=>HH) (fun x y=>match y with | .none=>some (.dat (.bool (!b8 x))) | _=>none) fun K F H x y u v pr Q hf hx hy hd q=>by
 split at hf
 ·cases hf;exact ⟨Gf hy,q _ H (aZ.rf H) (by rw [rp hx];rfl)⟩
 ·cases hf
theorem i5:OpR X (compareOp .IsNot) (fun x y=>sd.r X.K [x,y]):=A5
def ixD:Qq->Qq->Option PR
 | .list xs,.int i=>(atI xs i).map .dat
 | .tuple xs,.int i=>(atI xs i).map .dat
 | .str x,.int i=>(atI x.cps.toList i).map fun c=>.dat (.str ⟨#[c]⟩)
 | _,_=>none
theorem Bj {K:Fg} {F:Qx->Prop} {H:Hp} {ds:List Qq} {xs:List V} {i:Int} {d:Qq} (h:DmL K F H ds xs) (e:atI ds i=some d):∃ v,atI xs i=some v/\Dm K F H d v:=by
 unfold atI at e ⊢;rw [h.len];cases q:ixN ds.length i with
 | none=>rw [q] at e;cases e
 | some j =>
  rw [q] at e;have e:ds[j]?=some d:=e;exact h.get e
theorem DF {α:Type} {xs:List α} {i:Int} {x:α} (e:atI xs i=some x):x∈xs:=by
 unfold atI at e;cases q:ixN xs.length i with
 | none=>rw [q] at e;cases e
 | some j=>rw [q] at e;exact OH (show xs[j]?=some x from e)
def ixP:Prm:=Prm.two rIx ixD fun K F H x y u v pr Q hf hx hy hd q=>by
 unfold ixD at hf;split at hf
 ·obtain ⟨d,e,rfl⟩:=OG.mp hf;obtain ⟨a,us,rfl,s1,z1,d1⟩:=o9 hx;rw [vInt hy];obtain ⟨v,ev,dv⟩:=Bj d1 e;exact .inl ⟨a,us,_,v,rfl,rfl,s1,ev,q _ H (aZ.rf H) dv⟩
 ·obtain ⟨d,e,rfl⟩:=OG.mp hf;obtain ⟨a,us,rfl,s1,z1,d1⟩:=wX hx;rw [vInt hy];obtain ⟨v,ev,dv⟩:=Bj d1 e;exact .inr (.inl ⟨a,us,_,v,rfl,rfl,s1,ev,q _ H (aZ.rf H) dv⟩)
 ·rename_i x i;obtain ⟨c,e,rfl⟩:=OG.mp hf;obtain ⟨rfl,l1,o1⟩:=vStr hx;rw [vInt hy];have hc:=i4 o1 c (DF e);exact .inr (.inr ⟨_,_,c,rfl,rfl,l1,e,q _ H (aZ.rf H) ⟨rfl,by show 1<=sizeLine;decide,by simp [PyData.strOk,hc]⟩⟩)
 ·cases hf
theorem Ga {X:Cx}:IxR X (fun x y=>ixP.r X.K [x,y]):=Hc
def cutD {α:Type} (xs:List α) (lo hi:Option Int):List α:=(xs.drop (HT.sIx xs.length 0 lo)).take (HT.sIx xs.length xs.length hi - HT.sIx xs.length 0 lo)
def slD (lo hi:Option Int):Qq->Option PR
 | .list xs=>some (.frs (.list (cutD xs lo hi)))
 | .tuple xs=>if HT.sIx xs.length 0 lo=0/\HT.sIx xs.length xs.length hi=xs.length then none else some (.dat (.tuple (cutD xs lo hi)))
 | .str x=>some (.dat (.str (iW x lo hi)))
 | _=>none
def IM (K:Fg) (lo hi:Option Int):V->Hp->VK->Prop:=fun x H Q=>KS MI (KS (MV K) (Mt K)) x lo hi H Q
section
variable {K:Fg} {F:Qx->Prop} {H:Hp}
theorem DmL.drop:∀ {ds:List Qq} {xs:List V} (n:Nat),DmL K F H ds xs->DmL K F H (ds.drop n) (xs.drop n)
 | ds,xs,0,h=>h
 | [],xs,n+1,h=>by rw [show xs=[] from h];rfl
 | d :: ds,xs,n+1,h=>by obtain ⟨v,r,rfl,_,h2⟩:=h;exact DmL.drop n h2
theorem DmL.take:∀ {ds:List Qq} {xs:List V} (n:Nat),DmL K F H ds xs->DmL K F H (ds.take n) (xs.take n)
 | ds,xs,0,h=>by rw [List.take_zero,List.take_zero];rfl
 | [],xs,n+1,h=>by rw [show xs=[] from h];rfl
 | d :: ds,xs,n+1,h=>by obtain ⟨v,r,rfl,h1,h2⟩:=h;exact ⟨v,_,rfl,h1,DmL.take n h2⟩
theorem DmL.cut (lo hi:Option Int) (h:DmL K F H ds xs):DmL K F H (cutD ds lo hi) (yW xs lo hi):=by
 unfold cutD yW;rw [h.len];exact (h.drop _).take _
theorem qR (xs:List V) (lo hi:Option Int):(yW xs lo hi).length<=xs.length:=by
 unfold yW;rw [O2,Pm];omega
theorem wQ (lo hi:Option Int) (h:PyData.strOk x=true):PyData.strOk (iW x lo hi)=true:=by
 have hm:=i4 h;unfold PyData.strOk iW;rw [Array.all_eq_true'];intro c hc;have:c∈(x.cps.toList.drop (HT.sIx x.length 0 lo)).take (HT.sIx x.length x.length hi - HT.sIx x.length 0 lo):=by simpa using hc
 have:=hm c (List.mem_of_mem_drop (Pq this));simpa using this
theorem Cg {lo hi:Option Int} {x:Qq} {u:V} {pr:PR} {Q:VK} (hf:slD lo hi x=some pr) (hx:Vw K F H x u) (q:∀ w H',aZ H H'->Bu K F H H' pr w->Q w H'):IM K lo hi u H Q:=by
 unfold slD at hf;split at hf
 ·cases hf;obtain ⟨a,us,rfl,s1,z1,d1⟩:=o9 hx;exact .inr (.inl ⟨a,us,rfl,s1,fun p hp=>q _ _ (aZ.nw _ hp) (Ir hp (Oy (qR _ _ _) z1) (d1.cut lo hi))⟩)
 ·split at hf
  ·cases hf
  rename_i hn;cases hf;obtain ⟨a,us,rfl,s1,z1,d1⟩:=wX hx;exact .inr (.inr ⟨a,us,rfl,s1,by rw [d1.len];exact hn,fun p hp=>q _ _ (aZ.nw _ hp) (Iy hp (Oy (qR _ _ _) z1) (d1.cut lo hi))⟩)
 ·cases hf;obtain ⟨rfl,l1,o1⟩:=vStr hx;exact .inl ⟨_,rfl,l1,q _ H (aZ.rf H) ⟨rfl,Oy (dQ _ _ _) l1,wQ lo hi o1⟩⟩
 ·cases hf
end
def MW:Prm:=Prm.two (fun K x y H Q=>∃ i,y=.int i/\IM K (some i) none x H Q) (fun x y=>match y with | .int i=>slD (some i) none x | _=>none) fun K F H x y u v pr Q hf hx hy hd q=>by
 split at hf
 ·exact ⟨_,vInt hy,Cg hf hx q⟩
 ·cases hf
def Ll:Prm:=Prm.two (fun K x y H Q=>∃ i,y=.int i/\IM K none (some i) x H Q) (fun x y=>match y with | .int i=>slD none (some i) x | _=>none) fun K F H x y u v pr Q hf hx hy hd q=>by
 split at hf
 ·exact ⟨_,vInt hy,Cg hf hx q⟩
 ·cases hf
def MG (i j:Int):Prm:=Prm.one (fun K=>IM K (some i) (some j)) (slD (some i) (some j)) fun K F H x u pr Q hf hx hd q=>Cg hf hx q
noncomputable def MT:Qq->Option PR
 | .str x=>some (.dat (.int x.length))
 | .list xs=>some (.dat (.int xs.length))
 | .tuple xs=>some (.dat (.int xs.length))
 | _=>none
def pe:Prm:=Prm.one (fun K x=>Ht K [x]) MT fun K F H x u pr Q hf hx hd q=>by
 unfold MT at hf;split at hf
 ·cases hf;obtain ⟨rfl,l1,o1⟩:=vStr hx;exact HK l1 (q _ H (aZ.rf H) rfl)
 ·cases hf;obtain ⟨a,us,rfl,s1,z1,d1⟩:=o9 hx;exact FE s1 (q _ H (aZ.rf H) (by rw [d1.len];rfl))
 ·cases hf;obtain ⟨a,us,rfl,s1,z1,d1⟩:=wX hx;exact Gg s1 (q _ H (aZ.rf H) (by rw [d1.len];rfl))
 ·cases hf
theorem jA {X:Cx} {f:Qz} {r:List V->Hp->VK->Prop} {r':V->Hp->VK->Prop} (h:bN X f r) (e:∀ x H Q,r' x H Q->r [x] H Q):bN X f (fun vs H Q=>match vs with | [u]=>r' u H Q | _=>False):=by
 intro pins s Z H xs us Q I rv q
 match xs,q with
 | [x],q=>exact h pins s Z H [x] us Q I rv (e x H Q q)
theorem bK:bN X (.builtin "len") (pe.r X.K):=jA vT fun _ _ _ h=>h
def IC:Prm:=Prm.one (fun _ x=>Ko [x]) (fun x=>match x with | .int i=>some (.dat (.int (if i < 0 then -i else i))) | _=>none) fun K F H x u pr Q hf hx hd q=>by
 split at hf
 ·cases hf;rw [vInt hx];exact Kc (q _ H (aZ.rf H) rfl)
 ·cases hf
theorem qr:bN X (.builtin "abs") (IC.r X.K):=jA yI fun _ _ _ h=>h
def Je:Prm:=Prm.one (fun _ x=>Dw [x]) (fun x=>match x with | .int i=>some (.dat (.int i)) | .bool k=>some (.dat (.int (if k then 1 else 0))) | _=>none) fun K F H x u pr Q hf hx hd q=>by
 split at hf
 ·cases hf;rw [vInt hx];exact .inl ⟨_,rfl,q _ H (aZ.rf H) rfl⟩
 ·cases hf;rw [vBl hx];exact .inr ⟨_,rfl,q _ H (aZ.rf H) rfl⟩
 ·cases hf
theorem Cw:bN X (.type "int") (Je.r X.K):=jA uZ fun _ _ _ h=>h
def uP (T:String) (x:Qq):Option PR:=match T with
 | "str" => some (.dat (.bool (isS x)))
 | "int" => some (.dat (.bool (isI x)))
 | "bool" => some (.dat (.bool (isB x)))
 | "tuple" => some (.dat (.bool (isT x)))
 | "list" => some (.dat (.bool (isL x)))
 | _=>none
def IF (T:String):Qq->Option PR
 | .dict _=>none
 | x=>uP T x
def J2 (T:String) (K:Fg):V->Hp->VK->Prop:=fun x H Q=>∃ F d b,Vw K F H d x/\IF T d=some (.dat (.bool b))/\Q (.bl b) H
theorem K7 (h:IF T d=some pr):∃ b,pr=.dat (.bool b):=by
 have h:uP T d=some pr:=by cases d <;> first | exact h | cases h
 unfold uP at h;split at h <;> first | (cases h;exact ⟨_,rfl⟩) | cases h
def wj (T:String):Prm:=Prm.one (J2 T) (IF T) fun K F H x u pr Q hf hx hd q=>by
 obtain ⟨b,rfl⟩:=K7 hf;exact ⟨F,x,b,hx,hf,q _ H (aZ.rf H) rfl⟩
theorem Ee {K:Fg} {T:String} {d:Qq} {b:Bool} (h:IF T d=some (.dat (.bool b))):PySem.W.kitOne K (.type (tyN d)) (.type T)=some b:=by
 have h:uP T d=some (.dat (.bool b)):=by cases d <;> first | exact h | cases h
 unfold uP at h;split at h
 ·cases h;exact Kq d
 ·cases h;exact L0 d
 ·cases h;exact Kp d
 ·cases h;exact Jm d
 ·cases h;exact Lh d
 ·cases h
def M6 (K:Fg):List V->Hp->VK->Prop:=fun vs H Q=>match vs with | [x,.ty T]=>(wj T).r K [x] H Q | _=>False
theorem D8 {X:Cx}:bN X (.builtin "isinstance") (M6 X.K):=by
 intro pins s Z H xs us Q I r h
 match xs,h with
 | [x,.ty T'],h =>
  obtain ⟨F,d,b,hv,hb,q⟩:=h;obtain ⟨u,w',rfl,r1,r2⟩:=vals2 r;cases (show w'=Value.type T' from r2);have e:=Ee (K:=X.K) hb;have fin:∀ tk,EP X pins Z Q (.bool b) { s with toks:=tk }:=fun tk=>⟨.bl b,H,I.tok _,rfl,q⟩;cases d with
  | none=>rw [Gf hv] at r1;cases (show u=Value.none from r1);exact PL PySem.W.kitx_none I.kIn True.intro e (fun z=>nomatch z) fin
  | bool y=>rw [vBl hv] at r1;cases (show u=Value.bool y from r1);exact PL PySem.W.kitx_bool I.kIn True.intro e (fun z=>nomatch z) fin
  | int i=>rw [vInt hv] at r1;obtain ⟨t,q⟩:=(show ∃ t,u=Value.int i t from r1);cases q;exact PL PySem.W.kitx_int I.kIn True.intro e (fun z=>nomatch z) fin
  | str y=>rw [(vStr hv).1] at r1;obtain ⟨t,q⟩:=(show ∃ t,u=Value.str y t from r1);cases q;exact PL PySem.W.kitx_str I.kIn True.intro e (fun z=>nomatch z) fin
  | list ds =>
   obtain ⟨a,xs,rfl,l,z,rs⟩:=o9 hv;cases (show u=Value.ref a from r1);obtain ⟨its,rv,⟨o,k,h1,h2,h3,h4⟩,_⟩:=I.list l;exact PL PySem.W.kitx_list I.kIn ⟨o,h1,h2⟩ e (fun z=>nomatch z) fin
  | tuple ds =>
   obtain ⟨a,xs,rfl,l,z,rs⟩:=wX hv;cases (show u=Value.ref a from r1);obtain ⟨its,rv,⟨o,h1,h2,k,h4⟩,_⟩:=I.tuple l;exact PL PySem.W.kitx_tuple I.kIn ⟨o,h1,h2⟩ e (fun z=>nomatch z) fin
  | dict ds=>cases hb
noncomputable def B0:Qq->Option PR
 | .list xs=>some (.dat (.tuple xs))
 | .tuple xs=>some (.dat (.tuple xs))
 | _=>none
def xV:Prm:=Prm.one (fun K x=>Bz K [x]) B0 fun K F H x u pr Q hf hx hd q=>by
 unfold B0 at hf;split at hf
 ·cases hf;obtain ⟨a,us,rfl,s1,z1,d1⟩:=o9 hx;exact ⟨a,us,rfl,.inl ⟨s1,fun p hp=>q _ _ (aZ.nw _ hp) (Iy hp z1 d1)⟩⟩
 ·cases hf;obtain ⟨a,us,rfl,s1,z1,d1⟩:=wX hx;exact ⟨a,us,rfl,.inr ⟨s1,q _ H (aZ.rf H) ⟨a,us,rfl,s1,z1,d1⟩⟩⟩
 ·cases hf
theorem oB:bN X (.type "tuple") (xV.r X.K):=jA qo fun _ _ _ h=>h
noncomputable def aw (i:Int):Str:=Str.ofString (toString i)
theorem sQ (hk:0 < k) (h:i.natAbs < 10 ^ k):(aw i).length<=k+1:=by
 unfold aw;rw [PySem.ofString_length];exact int_text_length_le10 hk h
theorem cy (s:String):PyData.strOk (Str.ofString s)=true:=by
 rw [Str.ofString_eq_toList];unfold PyData.strOk;rw [Array.all_eq_true'];intro c hc;have:c∈s.toList.map Char.toNat:=by simpa using hc
 obtain ⟨ch,_,rfl⟩:=O1.mp this;have:=ch.valid;simp only [OU];rcases this with h | ⟨_,h⟩
 ·show ch.val.toNat < _;have:ch.val.toNat < 0xD800:=h;omega
 ·exact h
def MP:Qq->Option PR
 | .int i=>if i.natAbs < 10 ^ 400 then some (.dat (.str (aw i))) else none
 | .str x=>some (.dat (.str x))
 | .none=>some (.dat (.str "None"))
 | _=>none
def AR:Prm:=Prm.one (fun _ x=>GO [x]) MP fun K F H x u pr Q hf hx hd q=>by
 unfold MP at hf;split at hf
 ·split at hf
  ·rename_i i hi;cases hf;rw [vInt hx];have hlog:i.natAbs.log2 < 1920:=by
    by_cases e:i.natAbs=0
    ·rw [e];decide
    ·exact Ov ((Nat.log2_lt e).mpr (Nat.lt_trans hi (by decide +kernel:(10:Nat) ^ 400 < 2 ^ 1900))) (by decide)
   exact .inl ⟨i,rfl,hlog,q _ H (aZ.rf H) ⟨rfl,Oy (sQ (k:=400) (by decide) hi) (by decide),cy _⟩⟩
  ·cases hf
 ·cases hf;obtain ⟨rfl,l1,o1⟩:=vStr hx;exact .inr (.inr ⟨_,rfl,q _ H (aZ.rf H) ⟨rfl,l1,o1⟩⟩)
 ·cases hf;rw [Gf hx];exact .inr (.inl ⟨rfl,q _ H (aZ.rf H) ⟨rfl,by decide,cy _⟩⟩)
 ·cases hf
theorem fI:bN X (.type "str") (AR.r X.K):=jA vY fun _ _ _ h=>h
noncomputable def jI:List Qq->Option (List Bool)
 | []=>some []
 | .bool b :: r=>match jI r with | some bs=>some (b :: bs) | none=>none
 | _ :: _=>none
theorem vW {K:Fg} {F:Qx->Prop} {H:Hp}:∀ {ds:List Qq} {xs:List V} {bs:List Bool},jI ds=some bs->DmL K F H ds xs->xs=bs.map V.bl
 | [],xs,bs,h,q=>by cases h;exact q
 | .bool b :: r,xs,bs,h,q=>by
  unfold jI at h;split at h
  ·rename_i bs' h';cases h;obtain ⟨v,vr,rfl,h1,h2⟩:=q;rw [vW h' h2,show v=.bl b from h1];rfl
  ·cases h
 | .none :: r,xs,bs,h,q=>by cases h
 | .int _ :: r,xs,bs,h,q=>by cases h
 | .str _ :: r,xs,bs,h,q=>by cases h
 | .list _ :: r,xs,bs,h,q=>by cases h
 | .tuple _ :: r,xs,bs,h,q=>by cases h
 | .dict _ :: r,xs,bs,h,q=>by cases h
def Ip:Prm:=Prm.one (fun K x=>Mx K [x]) (fun x=>match x with | .list ds=>(jI ds).map fun bs=>.dat (.bool (bs.all id)) | _=>none) fun K F H x u pr Q hf hx hd q=>by
 split at hf
 ·obtain ⟨bs,e,rfl⟩:=OG.mp hf;obtain ⟨a,us,rfl,s1,z1,d1⟩:=o9 hx;rw [vW e d1] at s1;exact ⟨a,bs,rfl,s1,q _ H (aZ.rf H) rfl⟩
 ·cases hf
theorem vB (hc:X.calm=true):bN X (.builtin "all") (Ip.r X.K):=jA (uJ hc) fun _ _ _ h=>h
theorem Bh {K:Fg} {F:Qx->Prop} {H:Hp}:∀ {ds:List (Qq×Qq)} {xs:List (Qq×V×V)},DmP K F H ds xs->xs.length=ds.length
 | [],xs,h=>by rw [show xs=[] from h];rfl
 | (k,d) :: ds,xs,h=>by obtain ⟨j,v,r,rfl,_,_,_,h2⟩:=h;rw [Oc,Oc,Bh h2]
theorem oV (ha:F a) (e:H a=some o') (w:Wr o'=true):Pr F H (upd H a o):=fun b u q n=>by
 by_cases y:b=a
 ·subst y;rcases n with n | n
  ·exact absurd ha n
  ·rw [e] at q;cases q;rw [n] at w;cases w
 ·rw [aL y];exact q
theorem DmL.set {K:Fg} {F:Qx->Prop} {H:Hp}:∀ {ds:List Qq} {xs:List V} {d:Qq} {v:V} (j:Nat),DmL K F H ds xs->Dm K F H d v->DmL K F H (ds.set j d) (xs.set j v)
 | [],xs,d,v,j,h,q=>by rw [show xs=[] from h];rfl
 | e :: ds,xs,d,v,0,h,q=>by obtain ⟨w,r,rfl,_,h2⟩:=h;exact ⟨v,r,rfl,q,h2⟩
 | e :: ds,xs,d,v,j+1,h,q=>by obtain ⟨w,r,rfl,h1,h2⟩:=h;exact ⟨w,_,rfl,h1,DmL.set j h2 q⟩
def DR:Ek where
 r:=fun _ o i x H Q=>HZ o i x H Q
 f:=fun d k x=>match d,k with
  | .list xs,.int i=>(ixN xs.length i).map fun j=>.list (xs.set j x)
  | _,_=>none
 ok:=fun K F H d a k x vk vx d' Q hf ha ht hk hx q=>by
  split at hf
  ·obtain ⟨j,e,rfl⟩:=OG.mp hf;obtain ⟨xs,ea,z,r⟩:=ht;rw [vInt hk];refine ⟨a,xs,_,j,rfl,rfl,ea,by rw [r.len];exact e,q _ (fun b o n e=>by rw [aL n];exact e) ⟨_,aE,by rw [OJ];exact z,(r.set j hx).pr (oV ha ea rfl) fun _ z=>z⟩⟩
  ·cases hf
theorem x5 {K:Fg} {F:Qx->Prop} {H:Hp} {d:Qq} {a:Qx} (h:isL d=true) (t:Top K F H d a):tyV K "list" (.ref a) H:=by
 cases d with
 | list ds=>obtain ⟨xs,e,_⟩:=t;exact .inl ⟨rfl,xs,.inl (.inl e)⟩
 | _=>cases h
def uF:Mtr where
 T := "list"
 r:=fun _=>yS
 ty:=isL
 f:=fun d as=>match d,as with
  | .list xs,[(true,x)]=>if xs.length < sizeLine then some (.list (xs++[x]),.none) else none
  | _,_=>none
 yU:=fun K F H d a h t=>x5 h t
 ok:=fun K F H d a as vs d' x Q hf ha ht _hd hv q=>by
  split at hf
  ·split at hf
   ·rename_i hl;cases hf;obtain ⟨v,r,rfl,hv,rfl⟩:=hv;obtain ⟨xs,ea,z,rx⟩:=ht;refine ⟨a,xs,v,rfl,rfl,ea,by rw [rx.len];exact hl,q _ _ (fun b o n e=>by rw [aL n];exact e) ⟨_,aE,by rw [N5,rx.len];simp;omega,(rx.snoc hv).pr (oV ha ea rfl) fun _ z=>z⟩ rfl⟩
   ·cases hf
  ·cases hf
def K0:Mtr where
 T := "list"
 r:=qQ
 ty:=isL
 f:=fun d as=>match d,as with
  | .list xs,[(_,.list ys)]=>if xs.length+ys.length<=sizeLine then some (.list (xs++ys),.none) else none
  | _,_=>none
 yU:=fun K F H d a h t=>x5 h t
 ok:=fun K F H d a as vs d' x Q hf ha ht _hd hv q=>by
  split at hf
  ·split at hf
   ·rename_i b ys hl;cases hf;have hv':∃ v,vs=[v]/\Vw K F H (.list ys) v:=by
     cases b with
     | true=>obtain ⟨v,r,rfl,hv,rfl⟩:=hv;exact ⟨v,rfl,hv.vw⟩
     | false=>obtain ⟨v,r,rfl,hv,rfl⟩:=hv;exact ⟨v,rfl,hv⟩
    obtain ⟨v,rfl,hv2⟩:=hv';obtain ⟨b',us,rfl,s1,z1,d1⟩:=o9 hv2;obtain ⟨xs,ea,z,rx⟩:=ht;have hl':xs.length+us.length<=sizeLine:=by rw [rx.len,d1.len];exact hl
    refine ⟨a,b',xs,us,rfl,rfl,ea,s1,hl',q _ _ (fun b o n e=>by rw [aL n];exact e) ⟨_,aE,by rw [N5];exact hl',(rx.app d1).pr (oV ha ea rfl) fun _ z=>z⟩ rfl⟩
   ·cases hf
  ·cases hf
noncomputable def strsOf:List Qq->Option (List Str)
 | []=>some []
 | .str x :: r=>match strsOf r with | some xs=>some (x :: xs) | none=>none
 | _ :: _=>none
theorem sh {K:Fg} {F:Qx->Prop} {H:Hp}:∀ {ds:List Qq} {xs:List V} {ss:List Str},strsOf ds=some ss->DmL K F H ds xs->xs=ss.map V.str/\∀ s∈ss,PyData.strOk s=true
 | [],xs,bs,h,q=>by cases h;exact ⟨q,fun s z=>by cases z⟩
 | .str b :: r,xs,bs,h,q=>by
  unfold strsOf at h;split at h
  ·rename_i bs' h';cases h;obtain ⟨v,vr,rfl,h1,h2⟩:=q;obtain ⟨i1,i2⟩:=sh h' h2;refine ⟨by rw [i1,show v=.str b from h1.1];rfl,fun s z=>?_⟩;rcases Oo.mp z with rfl | z
   ·exact h1.2.2
   ·exact i2 s z
  ·cases h
 | .none :: r,xs,bs,h,q=>by cases h
 | .int _ :: r,xs,bs,h,q=>by cases h
 | .bool _ :: r,xs,bs,h,q=>by cases h
 | .list _ :: r,xs,bs,h,q=>by cases h
 | .tuple _ :: r,xs,bs,h,q=>by cases h
 | .dict _ :: r,xs,bs,h,q=>by cases h
theorem m5 (g:Array Nat):∀ (ps:List Str) (acc:Array Nat),(ps.foldl (fun acc p=>acc++g++p.cps) acc).size=acc.size+(ps.map fun p=>p.length).sum+ps.length*g.size
 | [],acc=>by simp
 | p :: ps,acc=>by
  rw [P4,m5 g ps];simp only [List.map_cons,List.sum_cons,Oc,Array.size_append,Nat.succ_mul];show acc.size+g.size+p.cps.size+_+_=acc.size+(p.cps.size+_)+_;omega
theorem rD (z:Str) (ss:List Str):(Txt.join z ss).length<=(ss.map (·.length)).sum+ss.length*z.length:=by
 cases ss with
 | nil =>
  have:(Txt.join z []).length=0:=rfl;rw [this];exact Pg _
 | cons x r =>
  show ((r.foldl (fun acc p=>acc++z.cps++p.cps) x.cps)).size<=_;rw [m5];simp only [List.map_cons,List.sum_cons,Oc,Nat.succ_mul];show x.cps.size+_+r.length*z.cps.size<=x.cps.size+_+(r.length*z.cps.size+z.cps.size);omega
theorem rM (hg:g.all (· < 0x110000)=true):∀ (ps:List Str) (acc:Array Nat),(∀ p∈ps,PyData.strOk p=true)->acc.all (· < 0x110000)=true->(ps.foldl (fun acc p=>acc++g++p.cps) acc).all (· < 0x110000)=true
 | [],acc,_,h=>h
 | p :: ps,acc,hp,h=>by
  rw [P4];refine rM hg ps _ (fun q hq=>hp q (N8 _ hq)) ?_;rw [Array.all_append,Array.all_append,h,hg,show p.cps.all (· < 0x110000)=true from hp p Od];rfl
theorem wI (hz:PyData.strOk z=true) (hs:∀ s∈ss,PyData.strOk s=true):PyData.strOk (Txt.join z ss)=true:=by
 cases ss with
 | nil=>exact cy ""
 | cons x r=>exact rM hz r _ (fun q hq=>hs q (N8 _ hq)) (hs x Od)
noncomputable def dZ (z:Str) (ss:List Str):Bool:=decide ((ss.map (·.length)).sum+ss.length*z.length<=16777216)
def E8:Qq->List Qq->Option PR
 | .str z,[.list ds]=>match strsOf ds with | some ss=>if dZ z ss=true then some (.dat (.str (Txt.join z ss))) else none | none=>none
 | .str z,[.tuple ds]=>match strsOf ds with | some ss=>if dZ z ss=true then some (.dat (.str (Txt.join z ss))) else none | none=>none
 | _,_=>none
theorem ty_str {K:Fg} {F:Qx->Prop} {H:Hp} {d:Qq} {v:V} (h:isS d=true) (t:Vw K F H d v):tyV K "str" v H:=by
 cases d with
 | str x=>rw [(vStr t).1];rfl
 | _=>cases h
def joinM:Mtd where
 T := "str"
 r:=BH
 ty:=isS
 f:=E8
 yU:=fun K F H d v h t=>ty_str h t
 ok:=fun K F H d v ds vs pr Q hf hx hv hd q=>by
  unfold E8 at hf;split at hf
  ·rename_i z ds;split at hf
   ·rename_i ss hss;split at hf
    ·rename_i hok;cases hf;obtain ⟨rfl,l1,o1⟩:=vStr hx;obtain ⟨w,r,rfl,hw,rfl⟩:=hv;obtain ⟨a,us,rfl,s1,z1,d1⟩:=o9 hw;obtain ⟨e,os⟩:=sh hss d1;rw [e] at s1;have hok':(ss.map (·.length)).sum+ss.length*z.length<=16777216:=by simpa [dZ] using hok
     exact ⟨z,a,ss,rfl,rfl,.inl s1,hok',q _ H (aZ.rf H) ⟨rfl,Oy (rD z ss) hok',wI o1 os⟩⟩
    ·cases hf
   ·cases hf
  ·rename_i z ds;split at hf
   ·rename_i ss hss;split at hf
    ·rename_i hok;cases hf;obtain ⟨rfl,l1,o1⟩:=vStr hx;obtain ⟨w,r,rfl,hw,rfl⟩:=hv;obtain ⟨a,us,rfl,s1,z1,d1⟩:=wX hw;obtain ⟨e,os⟩:=sh hss d1;rw [e] at s1;have hok':(ss.map (·.length)).sum+ss.length*z.length<=16777216:=by simpa [dZ] using hok
     exact ⟨z,a,ss,rfl,rfl,.inr s1,hok',q _ H (aZ.rf H) ⟨rfl,Oy (rD z ss) hok',wI o1 os⟩⟩
    ·cases hf
   ·cases hf
  ·cases hf
def fvP:Prm:=Prm.one (fun _ x H Q=>∃ y,x=.str y/\y.length<=sizeLine/\Q (.str y) H) (fun x=>match x with | .str y=>some (.dat (.str y)) | _=>none) fun K F H x u pr Q hf hx hd q=>by
 split at hf
 ·cases hf;obtain ⟨rfl,l1,o1⟩:=vStr hx;exact ⟨_,rfl,l1,q _ H (aZ.rf H) ⟨rfl,l1,o1⟩⟩
 ·cases hf
noncomputable def Fn.no (ms:List PM):Fn:=⟨ms,fun _=>none,fun _=>none⟩
theorem Bx {K:Fg} {F:Qx->Prop} {H:Hp}:∀ {ns:List Int},DmL K F H (ns.map .int) (ns.map .int)
 | []=>rfl
 | n :: ns=>⟨_,_,rfl,rfl,Bx⟩
theorem Gs {f:Fn} {K:Fg} {H:Hp} {a:Qx} {ns:List Int} (hm:f.ms=[.dat]) (hl:ns.length<=63) (hS:SqL K H a (ns.map V.int)) (hF:f.F [.list (ns.map .int)]=some (.dat (.bool true),[])):jY f K [.ref a] H (fun v _=>v=.bl true) fun _ _ _=>False:=by
 refine ⟨fun _=>False,[.list (ns.map .int)],[],.dat (.bool true),[],hF,?_,fun _ h=>absurd h id,fun v' H' _ r=>r.1⟩;rw [hm];refine ⟨⟨a,ns.map .int,rfl,?_,?_,Bx⟩,rfl⟩
 ·rcases hS with hS | hS
  ·exact .inl ⟨id,hS⟩
  ·exact .inr hS
 ·rw [N6];exact Oy hl (by decide)
noncomputable def zE (f:Str):List (Qq×Qq)->Option Qq
 | (.str g,d) :: r=>if g=f then some d else zE f r
 | _=>none
noncomputable def t9 (f:Str) (x:Qq):List (Qq×Qq)->Option (List (Qq×Qq))
 | []=>some [(.str f,x)]
 | (.str g,d) :: r=>if g=f then some ((.str g,x) :: r) else (t9 f x r).map ((.str g,d) :: ·)
 | _=>none
section
variable {K:Fg} {F:Qx->Prop} {H:Hp} {f:Str}
theorem Gk:∀ {xs:List (Qq×V×V)},DmP K F H ds xs->zE f ds=some d->∃ v,(pX xs).lookup f=some v/\Dm K F H d v:=by
 induction ds with
 | nil=>intro xs h e;cases e
 | cons p ds ih =>
  obtain ⟨k0,d'⟩:=p;intro xs h e;obtain ⟨j,v,r,rfl,_,_,h1,h2⟩:=h;cases k0 with
  | str g =>
   have e:(if g=f then some d' else zE f ds)=some d:=e;show ∃ v',List.lookup f ((g,v) :: pX r)=some v'/\_;by_cases q:g=f
   ·rw [Og q] at e;cases e;subst q;exact ⟨v,by rw [O7,Qg],h1⟩
   ·rw [Ot q] at e;rw [O7,show (f==g)=false from PD.mpr fun z=>q z.symm];exact ih h2 e
  | _=>cases e
theorem ET (hx:Dm K F H x u) (hf:f.length<=sizeLine/\PyData.strOk f=true):∀ {ds':List (Qq×Qq)} {xs:List (Qq×V×V)},DmP K F H ds xs->t9 f x ds=some ds'->∃ xs',DmP K F H ds' xs'/\pX xs'=mU f u (pX xs)/\xs'.length<=xs.length+1:=by
 induction ds with
 | nil =>
  intro ds' xs h e;cases e;rw [show xs=[] from h];refine ⟨[(.str f,.str f,u)],?_,rfl,Ol _⟩;exact ⟨.str f,u,[],rfl,rfl,⟨rfl,hf⟩,hx,rfl⟩
 | cons p ds ih =>
  obtain ⟨k0,d⟩:=p;intro ds' xs h e;obtain ⟨j,v,r,rfl,k,h0,h1,h2⟩:=h;cases k0 with
  | str g =>
   have e:(if g=f then some ((PyData.str g,x) :: ds) else (t9 f x ds).map ((PyData.str g,d) :: ·))=some ds':=e;show ∃ xs',_/\pX xs'=(if g=f then (g,u) :: pX r else (g,v) :: mU f u (pX r))/\_;by_cases q:g=f
   ·rw [Og q] at e ⊢;cases e;refine ⟨(.str g,j,u) :: r,?_,rfl,Qd _⟩;exact ⟨j,u,r,rfl,k,h0,hx,h2⟩
   ·rw [Ot q] at e ⊢;obtain ⟨ds2,e2,rfl⟩:=OG.mp e;obtain ⟨xs',a,b,c⟩:=ih h2 e2;refine ⟨(.str g,j,v) :: xs',?_,by rw [<- b];rfl,Nat.succ_le_succ c⟩;exact ⟨j,v,xs',rfl,k,h0,h1,a⟩
  | _=>cases e
end
def MZ (f:Str) (K:Fg):V->Hp->VK->Prop:=fun x H Q=>∃ a dx fs v,x=.ref a/\H a=some (.ins clsAt dx fs)/\fs.lookup f=some v/\Q v H
def tL (f:Str):Prm:=Prm.one (MZ f) (fun d=>match d with | .dict kvs=>(zE f kvs).map .dat | _=>none) fun K F H x u pr Q hf hx hd q=>by
 split at hf
 ·obtain ⟨d,e,rfl⟩:=OG.mp hf;obtain ⟨a,rfl,ep,xs,ea,_,r⟩:=hx;obtain ⟨v,ev,dv⟩:=Gk r e;exact ⟨a,ep,_,v,rfl,ea,ev,q _ H (aZ.rf H) dv⟩
 ·cases hf
def BE (f:Str):Ek where
 r:=fun K o _ x H Q=>∃ a dx fs,o=.ref a/\H a=some (.ins clsAt dx fs)/\fs.length < 1000/\Q (upd H a (.ins clsAt dx (mU f x fs)))
 f:=fun d _ x=>match d with
  | .dict kvs=>if f.length<=sizeLine/\PyData.strOk f=true/\kvs.length < 1000 then (t9 f x kvs).map .dict else none
  | _=>none
 ok:=fun K F H d a k x vk vx d' Q hf ha ht hk hx q=>by
  split at hf
  ·split at hf
   ·rename_i kvs h;obtain ⟨ds',e,rfl⟩:=OG.mp hf;obtain ⟨ep,xs,ea,z,r⟩:=ht;obtain ⟨xs',r',b,c⟩:=ET hx ⟨h.1,h.2.1⟩ r e;have hl:xs.length < 1000:=by rw [Bh r];exact h.2.2
    refine ⟨a,ep,pX xs,rfl,ea,by unfold pX;rw [N6];exact hl,q _ (fun b o n e=>by rw [aL n];exact e) ⟨ep,xs',by rw [b];exact aE,by rw [Pf];omega,r'.pr (oV ha ea rfl) fun _ z=>z⟩⟩
   ·cases hf
  ·cases hf
section
variable {X:Cx} {o e value:Expr} {f:Str} {pos pos':Pos} {ta tv:TE}
theorem Ny (c:Cls X.K clsAt) (n:eE X.K clsAt f) (he:JE X e ta) (hb:attributeBase e f X.env (eval e X.env)=eval e X.env):JE X (.Attribute e f pos) (fun Z H Q=>ta Z H fun x H1=>(tL f).r X.K [x] H1 Q):=⟨by
 intro pins s Z H Q I h;refine vP hb (thn (he.h pins s Z H _ I h) fun u s1 ⟨x,H1,I1,rx,a,dx,fs,v,ex,ea,l,q⟩=>?_);subst ex;obtain rfl:u=Value.ref a:=rx
 exact t5 I1 ea c n l fun u' s2 I2 ru=>⟨v,H1,I2,ru,q⟩⟩
theorem Ky (c:Cls X.K clsAt) (n:eE X.K clsAt f) (ha:JE X o ta) (hv:JE X value tv) (hs:swapsWith value (some (.Attribute o f pos')) pos.line X.env=pure false) :
  JS X (.Assign [.Attribute o f pos'] value pos) (fun D Z H=>tv Z H fun x H1=>ta Z H1 fun y H2=>(BE f).r X.K y .non x H2 (D.nx Z)):=⟨by
 intro pins s Z H D I h;refine plainObj_wpAny_Assign_Attribute (thn (hv.h pins s Z H _ I h) fun u s1 ⟨y,H1,I1,ry,q⟩=>thn (ha.h pins s1 Z H1 _ I1 q) fun ov s2 ⟨x,H2,I2,rx,a,dx,fs,ex,ea,l,q2⟩=>?_) hs;subst ex;obtain rfl:ov=Value.ref a:=rx
 exact tu I2 ea c n l ry fun s3 I3=>⟨Z,_,I3,q2⟩⟩
end
noncomputable def L6:Qq->Bool
 | .list _=>false
 | .dict _=>false
 | _=>true
noncomputable def MK:Qq->Bool
 | .str _=>true
 | .int _=>true
 | _=>false
def pU:List PM->List (Bool×Qq)->Bool
 | [],[]=>true
 | .dat :: r,p :: s=>(p.1||L6 p.2)&&pU r s
 | _,_=>false
def CW:List PM->List Qq->Bool
 | [],[]=>true
 | .dat :: r,p :: s=>MK p&&CW r s
 | _,_=>false
section
variable {K:Fg} {F:Qx->Prop} {H:Hp}
theorem KN (h:Vw K F H d v) (e:L6 d=true):Dm K F H d v:=by
 cases d <;> first | exact h | cases e
theorem DT:∀ {as:List (Bool×Qq)} {vs:List V},MvL K F H as vs->pU ms as=true->bD K F I H ms (as.map (·.2)) vs []:=by
 induction ms with
 | nil =>
  intro as vs h e;cases as with
  | nil=>rw [show vs=[] from h];rfl
  | cons=>cases e
 | cons m ms ih =>
  intro as vs h e;cases as with
  | nil=>cases m <;> cases e
  | cons p as =>
   cases m with
   | dat =>
    obtain ⟨b,d⟩:=p;have e:((b||L6 d)&&pU ms as)=true:=e;rw [OF] at e;cases b with
    | true=>obtain ⟨v,r,rfl,h1,h2⟩:=h;exact ⟨h1,ih h2 e.2⟩
    | false=>obtain ⟨v,r,rfl,h1,h2⟩:=h;exact ⟨KN h1 e.1,ih h2 e.2⟩
   | _=>cases e
theorem Cm:∀ {ds:List Qq} {vs:List V},VwL K F H ds vs->CW ms ds=true->bD K F' I H' ms ds vs []:=by
 induction ms with
 | nil =>
  intro ds vs h e;cases ds with
  | nil=>rw [show vs=[] from h];rfl
  | cons=>cases e
 | cons m ms ih =>
  intro ds vs h e;cases ds with
  | nil=>cases m <;> cases e
  | cons d ds =>
   cases m with
   | dat =>
    have e:(MK d&&CW ms ds)=true:=e;rw [OF] at e;obtain ⟨v,r,rfl,h1,h2⟩:=h;refine ⟨?_,ih h2 e.2⟩;cases d with
    | str x=>exact h1
    | int i=>exact h1
    | _=>cases e.1
   | _=>cases e
end
def cC (m:Str) (f:Fn):Mtr where
 T := ""
 tq:=fun _ x H=>∃ a dx fs,x=.ref a/\H a=some (.ins clsAt dx fs)/\fs.lookup m=none
 r:=fun K x vs H Q=>jY f K (x :: vs) H Q NoE
 ty:=fun d=>match d with | .dict kvs=>B6 m kvs | _=>false
 f:=fun d as=>match f.ms with
  | .ino :: ms=>if pU ms as=true then match f.F (d :: as.map (·.2)) with | some (.dat x,[d'])=>some (d',x) | _=>none else none
  | _=>none
 yU:=fun K F H d a h t=>by
  cases d with
  | dict kvs=>obtain ⟨ep,xs,ea,_,r⟩:=t;exact ⟨a,ep,_,rfl,ea,HS r h⟩
  | _=>cases h
 ok:=fun K F H d a as vs d' x Q hf ha ht hd hv q=>by
  split at hf
  ·rename_i ms hms;split at hf
   ·rename_i hm;split at hf
    ·rename_i x' d'' hF;cases hf;refine ⟨F,d :: as.map (·.2),[a],.dat x,[d'],hF,?_,hd,fun v' H' hk hr=>?_⟩
     ·rw [hms];exact ⟨a,[],rfl,rfl,ha,ht,by simp,DT hv hm⟩
     ·exact q v' H' (fun b o n e=>hk b o e (by simp [n])) hr.2.1 hr.1
    ·cases hf
   ·cases hf
  ·cases hf
def ID (f:Fn):Prm where
 r:=fun K vs H Q=>∀ x dx,H x=none->H dx=none->dx≠x->jY f K (.ref x :: vs) (upd (upd H dx (.own x)) x (.ins clsAt dx [])) (fun v H2=>v=.non/\Q (.ref x) H2) NoE
 f:=fun ds=>match f.ms with
  | .ino :: ms=>if CW ms ds=true then match f.F (.dict [] :: ds) with | some (.dat .none,[d])=>some (.frs d) | _=>none else none
  | _=>none
 ok:=fun K F H ds vs pr Q hf hv hd q=>by
  split at hf
  ·rename_i ms hms;split at hf
   ·rename_i hm;split at hf
    ·rename_i d hF;cases hf;intro x dx hx hdx ne;have kp:∀ b o,H b=some o->b≠x/\upd (upd H dx (.own x)) x (.ins clsAt dx []) b=some o:=fun b o e=>by
      have n1:b≠x:=fun z=>by rw [z,hx] at e;cases e
      have n2:b≠dx:=fun z=>by rw [z,hdx] at e;cases e
      exact ⟨n1,by rw [aL n1,aL n2];exact e⟩
     refine ⟨fun b=>F b\/b=x,.dict [] :: ds,[x],.dat .none,[d],hF,?_,?_,fun v' H' hk hr=>?_⟩
     ·rw [hms];exact ⟨x,[],rfl,rfl,.inr rfl,⟨dx,[],aE,Pg _,rfl⟩,by simp,Cm hv hm⟩
     ·rintro b (z | rfl)
      ·cases e:H b with
       | none=>exact absurd e (hd b z)
       | some o=>rw [(kp b o e).2];exact fun z=>nomatch z
      ·rw [aE];exact fun z=>nomatch z
     ·exact ⟨hr.1,q (.ref x) H' (fun b o e=>hk b o (kp b o e).2 (by simp [(kp b o e).1])) ⟨x,rfl,hx,hr.2.1⟩⟩
    ·cases hf
   ·cases hf
  ·cases hf
section
variable {X:Cx} {CX:CXT} {k:Nat} {f:Qx} {fd:FuncData} {ps:List Str} {fn:Fn} {x m:Str} {p pos apos:Pos} {e o:Expr} {es:List Expr} {i:Nat} {t:TA}
theorem Ni (he:JE X o (gu i)) (c:Cls X.K clsAt) (hm:Meth X.K clsAt m f) (F:c8 X.prog X.w X.K X.mg X.base CX k f fd ps (jY fn X.K)) (hr:dg k X.A) (hb:Binds X.K fd ps []) (hx:Passes CX X NoE) (ha:JA X (e :: es) t)
  (hst:starEach (e :: es) X.env=(false,eval e X.env) :: starEach es X.env) (hpl:(backTo pos (starEach es X.env)).any (·.1)=false)
  (ht:eval (.Call (.Attribute o m apos) (e :: es) [] pos) X.env=(do
   let ov<-eval o X.env
   standAt apos.atName
   let (f,first)<-holding [ov] (getMethod ov m pl)
   callWith pos f first (backTo pos (starEach (e :: es) X.env)) (backToKw pos (keywordEach [] X.env)))) :
  JE X (.Call (.Attribute o m apos) (e :: es) [] pos) (fun Z H Q=>gu i Z H fun x H1=>(cC m fn).tq X.K x H1/\t Z H1 fun xs H2=>(cC m fn).r X.K x xs H2 Q):=⟨fun pins s Z H Q I h=>by
 refine xo (pl:=pl) he.h c hm F hr hb .nil hx ha.h hst hpl ht pins s Z H Q I ?_;obtain ⟨v,hv,⟨a,dx,fs,e1,e2,e3⟩,q⟩:=h;refine ⟨v,hv,a,dx,fs,e1,e2,e3,?_⟩;simp only [OC]
 exact q⟩
theorem LV (he:JE X o (gu i)) (c:Cls X.K clsAt) (hm:Meth X.K clsAt m f) (F:c8 X.prog X.w X.K X.mg X.base CX k f fd ps (jY fn X.K)) (hr:dg k X.A) (hb:Binds X.K fd ps []) (hx:Passes CX X NoE)
  (ht:eval (.Call (.Attribute o m apos) [] [] pos) X.env=(do
   let ov<-eval o X.env
   standAt apos.atName
   let (f,first)<-holding [ov] (getMethod ov m pl)
   callWith pos f first (backTo pos (starEach [] X.env)) (backToKw pos (keywordEach [] X.env)))) :
  JE X (.Call (.Attribute o m apos) [] [] pos) (fun Z H Q=>gu i Z H fun x H1=>(cC m fn).tq X.K x H1/\rY Z H1 fun xs H2=>(cC m fn).r X.K x xs H2 Q):=⟨fun pins s Z H Q I h=>by
 refine A4 (pl:=pl) he.h c hm F hr hb .nil hx ht pins s Z H Q I ?_;obtain ⟨v,hv,⟨a,dx,fs,e1,e2,e3⟩,q⟩:=h
 exact ⟨v,hv,a,dx,fs,e1,e2,e3,q⟩⟩
theorem eNew (M:Mk X.K clsAt f) (F:c8 X.prog X.w X.K X.mg X.base CX k f fd ps (jY fn X.K)) (hr:dg (k+1) X.A) (hg:Gl X x) (hm:X.mg x=some (.ref clsAt)) (hb:Binds X.K fd ps []) (hx:Passes CX X NoE)
  (ha:JA X (e :: es) t) (hdb:(x==("__debug__" : Str))=false) (he:starEach (e :: es) X.env=(false,eval e X.env) :: starEach es X.env) (hpl:(backTo pos (starEach es X.env)).any (·.1)=false) :
  JE X (.Call (.Name x p) (e :: es) [] pos) (tCB ((ID fn).r X.K) t):=⟨fun pins s Z H Q I h=>by
 refine CN M F hr hg hm hb .nil hx ha.h hdb he hpl pins s Z H Q I ?_;show t Z H fun vs H1=>_;simp only [OC]
 exact h⟩
end
def vC (d:Qq):Bool:=noD d&&decide (d.depth<=32)
noncomputable def oh (ds:List Qq) (x:Qq):Bool:=ds.any fun d=>PyData.eqv d x
noncomputable def ngB (neg b:Bool):Bool:=if neg then !b else b
def M9 (neg:Bool) (K:Fg):R2:=rOr (fun x y H Q=>∃ i j,x=.str i/\y=.str j/\Q (.bl (ngB neg (!(Builtin.Str.occurrences j i 0 j.length 1).isEmpty))) H)
 fun x y H Q=>∃ (p:Qx) (xs:List V) (F:Qx->Prop) (d:Qq) (ds:List Qq),y=.ref p/\(SqL K H p xs\/SqT K H p xs)/\Vw K F H d x/\DmL K F H ds xs/\vC d=true/\fy ds=true/\Q (.bl (ngB neg (oh ds d))) H
def inD (neg:Bool):Qq->Qq->Option PR
 | .str i,.str j=>some (.dat (.bool (ngB neg (!(Builtin.Str.occurrences j i 0 j.length 1).isEmpty))))
 | x,.list ds=>if vC x=true/\fy ds=true then some (.dat (.bool (ngB neg (oh ds x)))) else none
 | x,.tuple ds=>if vC x=true/\fy ds=true then some (.dat (.bool (ngB neg (oh ds x)))) else none
 | _,_=>none
def IQ (neg:Bool):Prm:=Prm.two (M9 neg) (inD neg) fun K F H x y u v pr Q hf hx hy hd q=>by
 unfold inD at hf;split at hf
 ·cases hf;exact .inl ⟨_,_,(vStr hx).1,(vStr hy).1,q _ H (aZ.rf H) rfl⟩
 ·split at hf
  ·rename_i h;cases hf;obtain ⟨a,us,rfl,s1,z1,d1⟩:=o9 hy;exact .inr ⟨a,us,F,_,_,rfl,.inl s1,hx,d1,h.1,h.2,q _ H (aZ.rf H) rfl⟩
  ·cases hf
 ·split at hf
  ·rename_i h;cases hf;obtain ⟨a,us,rfl,s1,z1,d1⟩:=wX hy;exact .inr ⟨a,us,F,_,_,rfl,.inr s1,hx,d1,h.1,h.2,q _ H (aZ.rf H) rfl⟩
  ·cases hf
 ·cases hf
abbrev inP:Prm:=IQ false
abbrev wc:Prm:=IQ true
open Classical in
noncomputable def eqR (h:Heap) (x:Qq) (u:Qz):Bool:=if q:∃ d as,Reads h u d as then PyData.eqv (Classical.choose q) x else false
theorem BQ (r:Reads h u d as):eqR h x u=PyData.eqv d x:=by
 have q:∃ d as,Reads h u d as:=⟨d,as,r⟩;unfold eqR;rw [dif_pos q];obtain ⟨bs,r2⟩:=Classical.choose_spec q;rw [(PySem.Reads.unique r _ _ r2).1]
section
variable {X:Cx} {pins:List (Qx×Obj)} {Z:St} {s:Qv} {H:Hp} {F:Qx->Prop}
theorem jm (I:Inv X pins Z H s) (x:Qq):∀ {ds:List Qq} {xs:List V} {us:List Qz},DmL X.K F H ds xs->fy ds=true->Vals xs us->us.any (eqR s.heap x)=oh ds x
 | [],xs,us,h,_,r=>by rw [show xs=[] from h] at r;cases r;rfl
 | d :: ds,xs,us,h,n,r=>by
  obtain ⟨v,t,rfl,h1,h2⟩:=h;have n':noD d=true/\fy ds=true:=by simpa [fy] using n
  cases r with
  | cons r1 r2 =>
   obtain ⟨as,ra⟩:=h1.reads I n'.1 r1;rw [List.any_cons,BQ ra,jm I x h2 n'.2 r2];rfl
theorem jG (I:Inv X pins Z H s) (rb:Reads s.heap b x bs) (hb:x.canLay0=true) (hu:A.units+x.depth < cLine):∀ {ds:List Qq} {xs:List V} {us:List Qz},DmL X.K F H ds xs->fy ds=true->Vals xs us->∀ u∈us,SeqAt.EqAt A s u b (eqR s.heap x u)
 | [],xs,us,h,_,r=>by rw [show xs=[] from h] at r;cases r;intro u hu;cases hu
 | d :: ds,xs,us,h,n,r=>by
  obtain ⟨v,t,rfl,h1,h2⟩:=h;have n':noD d=true/\fy ds=true:=by simpa [fy] using n
  cases r with
  | cons r1 r2 =>
   intro u hm;rcases Oo.mp hm with rfl | hm
   ·obtain ⟨as,ra⟩:=h1.reads I n'.1 r1;rw [BQ ra];exact SeqAt.eqAt_reads d x A s _ b as bs ra rb (h1.lay n'.1) hb (by omega)
   ·exact jG I rb hb hu h2 n'.2 r2 u hm
end
theorem cE (hu:X.A.units+64 < cLine):OpR X (compareOp .In) (fun x y=>inP.r X.K [x,y]):=by
 refine orR Ig ?_;intro pins s Z H x y v u Q I rx ry h;obtain ⟨p,xs,F,d,ds,rfl,hq,hd,hs,o1,o2,q⟩:=h;have o1':noD d=true/\d.depth<=32:=by simpa [vC] using o1
 cases ry;obtain ⟨bs,rb⟩:=hd.reads I o1'.1 rx;rcases hq with hq | hq
 ·obtain ⟨its,r,pl,hz⟩:=I.list hq;refine SeqAt.in_listAt (eqR s.heap d) pl.isList (fun w hw=>jG I rb (hd.lay o1'.1) (by have:X.A.in1.units=X.A.units+1:=rfl;omega) hs o2 r w (by simpa using hw)) ⟨.bl _,H,I,rfl,?_⟩;rw [show its.toArray.any (eqR s.heap d)=its.any (eqR s.heap d) by simp,jm I d hs o2 r];exact q
 ·obtain ⟨its,r,pl,hz⟩:=I.tuple hq;refine SeqAt.in_tupleAt (eqR s.heap d) pl (fun w hw=>jG I rb (hd.lay o1'.1) (by have:X.A.in1.units=X.A.units+1:=rfl;omega) hs o2 r w (by simpa using hw)) ⟨.bl _,H,I,rfl,?_⟩;rw [show its.toArray.any (eqR s.heap d)=its.any (eqR s.heap d) by simp,jm I d hs o2 r];exact q
theorem uX (hu:X.A.units+64 < cLine):OpR X (compareOp .NotIn) (fun x y=>wc.r X.K [x,y]):=by
 refine orR wW ?_;intro pins s Z H x y v u Q I rx ry h;obtain ⟨p,xs,F,d,ds,rfl,hq,hd,hs,o1,o2,q⟩:=h;have o1':noD d=true/\d.depth<=32:=by simpa [vC] using o1
 cases ry;obtain ⟨bs,rb⟩:=hd.reads I o1'.1 rx;rcases hq with hq | hq
 ·obtain ⟨its,r,pl,hz⟩:=I.list hq;refine SeqAt.notIn_listAt (eqR s.heap d) pl.isList (fun w hw=>jG I rb (hd.lay o1'.1) (by have:X.A.in1.units=X.A.units+1:=rfl;omega) hs o2 r w (by simpa using hw)) ⟨.bl _,H,I,rfl,?_⟩;rw [show its.toArray.any (eqR s.heap d)=its.any (eqR s.heap d) by simp,jm I d hs o2 r];exact q
 ·obtain ⟨its,r,pl,hz⟩:=I.tuple hq;refine SeqAt.notIn_tupleAt (eqR s.heap d) pl (fun w hw=>jG I rb (hd.lay o1'.1) (by have:X.A.in1.units=X.A.units+1:=rfl;omega) hs o2 r w (by simpa using hw)) ⟨.bl _,H,I,rfl,?_⟩;rw [show its.toArray.any (eqR s.heap d)=its.any (eqR s.heap d) by simp,jm I d hs o2 r];exact q
theorem c8.no {P:Program} {w:World} {K:Fg} {mg:Str->Option Qz} {base:Heap} {k:Nat} {f:Qx} {fd:FuncData} {ps:List Str} {sp:Sp} {x qual:Str} {st:Stmt} {N:List Str} (F:Fun K x qual st f fd) (S:b7 N ps (ag st)) (h:∀ vs H Q E,¬sp vs H Q E):c8 P w K mg base CX0 (k+1) f fd ps sp :=
 F.okJ S (fun vs H Q E z=>(h vs H Q E z).elim) (fun cdv A outer s H vs Q E hr z=>(h vs H Q E z).elim)
end L2
namespace L2
open PySem
structure Kn where
 nx:En->Prop
 rt:RV->En->Prop
 bk:En->Prop
 ct:En->Prop
def Kn.at (E:Kn):Out->Prop | .nx e=>E.nx e | .rt r e=>E.rt r e | .bk e=>E.bk e | .ct e=>E.ct e
def WS (gd:List Qq) (s:XS) (env:En) (E:Kn):Prop:=∃ o,dS gd s env=some o/\E.at o
def WE (gd:List Qq) (e:XE) (env:En) (Q:RV->En->Prop):Prop:=∃ r e',dE gd e env=some (r,e')/\Q r e'
def WA (gd:List Qq) (e:XA) (env:En) (Q:List AV->En->Prop):Prop:=∃ r e',dA gd e env=some (r,e')/\Q r e'
def WT (gd:List Qq) (e:XT) (env:En) (Q:Bool->En->Prop):Prop:=∃ r e',dT gd e env=some (r,e')/\Q r e'
def WI (gd:List Qq) (e:XI) (env:En) (Q:List Qq->Option Nat->En->Prop):Prop:=∃ ds lk e',dI gd e env=some (ds,lk,e')/\Q ds lk e'
def WF (f:Fn) (ds:List Qq) (Q:PR->List Qq->Prop):Prop:=∃ pr outs,f.F ds=some (pr,outs)/\Q pr outs
def WPr (p:Prm) (avs:List AV) (e:En) (Q:RV->En->Prop):Prop:=∃ ds pr,aK e avs=some ds/\p.f ds=some pr/\Q pr.rv e
def WBo (r:RV) (P:Bool->Prop):Prop:=∃ k,r=.dat (.bool k)/\P k
def Ec (i:Nat) (r:RV) (e:En) (N:En->Prop):Prop:=∃ d,r.av=.dat d/\free e i=true/\N (e.set i (.dat d))
def tw (i:Nat) (r:RV) (e:En) (N:En->Prop):Prop:=∃ d,r=.frs d/\free e i=true/\N (e.set i (.own d))
def MJ (b:Qq->En->Option Out) (ds:List Qq) (lk:Option Nat) (e1:En) (E:Kn):Prop:=∃ o,lk=none/\forL b ds e1=some o/\E.at o
def mB (f:Fn) (avs:List AV) (e:En) (Q:RV->En->Prop):Prop:=∃ rv e',kU f avs e=some (rv,e')/\Q rv e'
def EJ (ms:List PM) (QF:PR->List Qq->Prop) (r:RV) (e:En):Prop:=∃ pr outs,r.pr=some pr/\gM ms e=some outs/\QF pr outs
def sC (ms:List PM) (QF:PR->List Qq->Prop) (e:En):Prop:=∃ outs,gM ms e=some outs/\QF (.dat .none) outs
def Ce (m:Ek) (i:Nat) (v:Qq) (rk:RV) (e2:En) (N:En->Prop):Prop:=∃ dk d d',rk.view e2=some dk/\aR e2 i=some d/\m.f d dk v=some d'/\N (fR e2 i d')
def E5 (gd:List Qq) (m:Ek) (i:Nat) (a:XE) (r:RV) (e:En) (N:En->Prop):Prop:=∃ v,r.av=.dat v/\(aR e i).isSome=true/\WE gd a e fun rk e2=>Ce m i v rk e2 N
def Ae (m:Mtd) (r:RV) (avs:List AV) (e2:En) (Q:RV->En->Prop):Prop:=∃ d ds pr,r.view e2=some d/\aK e2 avs=some ds/\m.f d ds=some pr/\Q pr.rv e2
def FZ (gd:List Qq) (m:Mtd) (as:XA) (r:RV) (e:En) (Q:RV->En->Prop):Prop:=∃ d0,r.view e=some d0/\m.ty d0=true/\WA gd as e fun avs e2=>Ae m r avs e2 Q
def WMr (m:Mtr) (i:Nat) (avs:List AV) (e2:En) (Q:RV->En->Prop):Prop:=∃ d ds d' x,aR e2 i=some d/\cP e2 avs=some ds/\m.f d ds=some (d',x)/\Q (.dat x) (fR e2 i d')
def WTp (mk:List Qq->RV) (avs:List AV) (e:En) (Q:RV->En->Prop):Prop:=∃ ds,lh avs=some ds/\ds.length<=sizeLine/\Q (mk ds) e
def C6 (is:List Nat) (r:RV) (e:En) (N:En->Prop):Prop:=∃ ds e2,r.av=.dat (.tuple ds)/\nS e is ds=some e2/\N e2
theorem kPr {p:Prm} {avs:List AV} {e:En} {Q:RV->En->Prop} {ds:List Qq} {pr:PR} (h1:aK e avs=some ds) (h2:p.f ds=some pr) (q:Q pr.rv e):WPr p avs e Q:=⟨_,_,h1,h2,q⟩
theorem kBo {P:Bool->Prop} {k:Bool} (q:P k):WBo (.dat (.bool k)) P:=⟨_,rfl,q⟩
theorem kAs {i:Nat} {r:RV} {e:En} {N:En->Prop} {d:Qq} (h1:r.av=.dat d) (h2:free e i=true) (q:N (e.set i (.dat d))):Ec i r e N:=⟨_,h1,h2,q⟩
theorem kAO {i:Nat} {r:RV} {e:En} {N:En->Prop} {d:Qq} (h1:r=.frs d) (h2:free e i=true) (q:N (e.set i (.own d))):tw i r e N:=⟨_,h1,h2,q⟩
theorem kFi {ms:List PM} {QF:PR->List Qq->Prop} {r:RV} {e:En} {pr:PR} {outs:List Qq} (h1:r.pr=some pr) (h2:gM ms e=some outs) (q:QF pr outs):EJ ms QF r e:=⟨_,_,h1,h2,q⟩
theorem kFN {ms:List PM} {QF:PR->List Qq->Prop} {e:En} {outs:List Qq} (h2:gM ms e=some outs) (q:QF (.dat .none) outs):sC ms QF e:=⟨_,h2,q⟩
theorem kS2 {m:Ek} {i:Nat} {v dk d d':Qq} {rk:RV} {e:En} {N:En->Prop} (h1:rk.view e=some dk) (h2:aR e i=some d) (h3:m.f d dk v=some d') (q:N (fR e i d')):Ce m i v rk e N:=⟨_,_,_,h1,h2,h3,q⟩
theorem kS1 {gd:List Qq} {m:Ek} {i:Nat} {a:XE} {v:Qq} {r:RV} {e:En} {N:En->Prop} (h1:r.av=.dat v) (h2:(aR e i).isSome=true) (q:WE gd a e fun rk e2=>Ce m i v rk e2 N):E5 gd m i a r e N:=⟨_,h1,h2,q⟩
theorem kM2 {m:Mtd} {r:RV} {avs:List AV} {e:En} {Q:RV->En->Prop} {d:Qq} {ds:List Qq} {pr:PR} (h1:r.view e=some d) (h2:aK e avs=some ds) (h3:m.f d ds=some pr) (q:Q pr.rv e):Ae m r avs e Q:=⟨_,_,_,h1,h2,h3,q⟩
theorem kM1 {gd:List Qq} {m:Mtd} {as:XA} {r:RV} {e:En} {Q:RV->En->Prop} {d:Qq} (h1:r.view e=some d) (h2:m.ty d=true) (q:WA gd as e fun avs e2=>Ae m r avs e2 Q):FZ gd m as r e Q:=⟨_,h1,h2,q⟩
theorem kMr {m:Mtr} {i:Nat} {avs:List AV} {e:En} {Q:RV->En->Prop} {d d' x:Qq} {ds:List (Bool×Qq)} (h1:aR e i=some d) (h2:cP e avs=some ds) (h3:m.f d ds=some (d',x)) (q:Q (.dat x) (fR e i d')):WMr m i avs e Q:=⟨_,_,_,_,h1,h2,h3,q⟩
theorem kTp {mk:List Qq->RV} {avs:List AV} {e:En} {Q:RV->En->Prop} {ds:List Qq} (h1:lh avs=some ds) (h2:ds.length<=sizeLine) (q:Q (mk ds) e):WTp mk avs e Q:=⟨_,h1,h2,q⟩
theorem kAT {is:List Nat} {r:RV} {e e2:En} {N:En->Prop} {ds:List Qq} (h1:r.av=.dat (.tuple ds)) (h2:nS e is ds=some e2) (q:N e2):C6 is r e N:=⟨_,_,h1,h2,q⟩
section
variable {gd:List Qq} {env e1:En} {E:Kn} {Q:RV->En->Prop} {QA:List AV->En->Prop} {QT:Bool->En->Prop} {QI:List Qq->Option Nat->En->Prop} {i:Nat} {d:Qq} {a b c:XE} {as:XA} {s t:XS} {p:Prm} {f:Fn} {x y:XT}
theorem dY (hl:ds.length=ms.length) (h:WS gd s (aB ms ds n) ⟨sC ms QF,EJ ms QF,fun _=>False,fun _=>False⟩):WF (bJ gd ms n s) ds QF:=by
 obtain ⟨o,ho,q⟩:=h;unfold WF bJ;simp only;rw [Og hl,ho];cases o with
 | nx e=>obtain ⟨outs,h1,h2⟩:=q;simp only [h1];exact ⟨_,_,rfl,h2⟩
 | rt r e=>obtain ⟨pr,outs,h1,h2,h3⟩:=q;simp only [h1,h2];exact ⟨_,_,rfl,h3⟩
 | bk e=>exact absurd q id
 | ct e=>exact absurd q id
theorem mY (h:WS gd s env { E with nx:=fun e=>WS gd t e E }):WS gd (.seq s t) env E:=by
 obtain ⟨o,ho,q⟩:=h;unfold WS;simp only [dS,ho];cases o with
 | nx e=>exact q
 | rt r e=>exact ⟨_,rfl,q⟩
 | bk e=>exact ⟨_,rfl,q⟩
 | ct e=>exact ⟨_,rfl,q⟩
theorem iJ (h:∀ N:En->Prop,N=(fun e=>WS gd t e E)->WS gd s env { E with nx:=N }):WS gd (.seq s t) env E:=mY (h _ rfl)
theorem iu {e:En} {x y:AV} {i:Int} {xs:List Qq} (h1:aK e [x,y]=some [.list xs,.int i]) (h:atI xs i=some d) (q:Q (.dat d) e):WPr ixP [x,y] e Q:=⟨_,.dat d,h1,by show (atI xs i).map PR.dat=_;rw [h];rfl,q⟩
theorem gG {e:En} {x y:AV} {i:Int} {z:Str} {c:Nat} (h1:aK e [x,y]=some [.str z,.int i]) (h:atI z.cps.toList i=some c) (q:Q (.dat (.str ⟨#[c]⟩)) e):WPr ixP [x,y] e Q:=⟨_,.dat (.str ⟨#[c]⟩),h1,by show (atI z.cps.toList i).map _=_;rw [h];rfl,q⟩
theorem BI (h:E.nx env):WS gd .skip env E:=⟨_,rfl,h⟩
theorem BR (h:E.rt (.dat .none) env):WS gd .Jd env E:=⟨_,rfl,h⟩
theorem BN (h:WE gd a env fun r e=>Ec i r e E.nx):WS gd (.aY i a) env E:=by
 obtain ⟨r,e',h1,d,h2,h3,h4⟩:=h;unfold WS;simp only [dS,h1,h2];rw [Og h3];exact ⟨_,rfl,h4⟩
theorem Bq (h:WE gd a env fun r e=>tw i r e E.nx):WS gd (.pB i a) env E:=by
 obtain ⟨r,e',h1,d,rfl,h3,h4⟩:=h;unfold WS;simp only [dS,h1];rw [Og h3];exact ⟨_,rfl,h4⟩
theorem GK (h:WE gd a env fun r e=>C6 is r e E.nx):WS gd (.Cs is a) env E:=by
 obtain ⟨r,e',h1,ds,e2,h2,h3,h4⟩:=h;unfold WS;simp only [dS,h1,h2,h3];exact ⟨_,rfl,h4⟩
theorem B4 (h:WE gd a env fun _ e=>E.nx e):WS gd (.drop a) env E:=by
 obtain ⟨r,e',h1,h2⟩:=h;unfold WS;simp only [dS,h1];exact ⟨_,rfl,h2⟩
theorem Hi (h:WE gd a env E.rt):WS gd (.ret a) env E:=by
 obtain ⟨r,e',h1,h2⟩:=h;unfold WS;simp only [dS,h1];exact ⟨_,rfl,h2⟩
theorem Jr (h:WT gd x env fun b e=>if b=true then WS gd s e E else WS gd t e E):WS gd (.ifs x s t) env E:=by
 obtain ⟨b,e',h1,h2⟩:=h;unfold WS;simp only [dS,h1];cases b with
 | true=>exact h2
 | false=>exact h2
theorem Np (h:WI gd it env fun ds lk e=>MJ (nV i (dS gd s)) ds lk e E):WS gd (.fr i it s) env E:=by
 obtain ⟨ds,lk,e',h1,o,rfl,h2,h3⟩:=h;unfold WS;simp only [dS,h1,h2];exact ⟨_,rfl,h3⟩
theorem E7 (h:WE gd b env fun r e=>E5 gd m i a r e E.nx):WS gd (.sto m i a b) env E:=by
 obtain ⟨r,e',h1,v,h2,h3,rk,e2,h4,dk,d,d',h5,h6,h7,h8⟩:=h;obtain ⟨d0,hd0⟩:=Option.isSome_iff_exists.mp h3;unfold WS;simp only [dS,h1,h2,hd0,h4,h5,h6,h7];exact ⟨_,rfl,h8⟩
theorem My (Inv:Nat->En->Prop) (m:Nat) (hm:m < n) (h0:Inv m env) (hs:∀ k e,k<=m->Inv k e->WT gd x e fun b e1=>if b=true then WS gd s e1 ⟨fun e2=>∃ j,j < k/\Inv j e2,E.rt,E.nx,fun e2=>∃ j,j < k/\Inv j e2⟩ else E.nx e1):WS gd (.wh n x s) env E:=by
 unfold WS;simp only [dS];induction n generalizing m env with
 | zero=>omega
 | succ n ih =>
  unfold whL;obtain ⟨b,e1,h1,h2⟩:=hs m env (Ol _) h0;rw [h1];cases b with
  | false=>exact ⟨_,rfl,h2⟩
  | true =>
   rw [Og rfl] at h2;obtain ⟨o,h3,h4⟩:=h2;simp only [h3];have step:∀ e2,(∃ j,j < m/\Inv j e2)->∃ o,whL (dT gd x) (dS gd s) n e2=some o/\E.at o:=fun e2 ⟨j,hj,hi⟩=>ih j (by omega) hi fun k e hk=>hs k e (by omega);cases o with
   | nx e=>exact step e h4
   | ct e=>exact step e h4
   | bk e=>exact ⟨_,rfl,h4⟩
   | rt r e=>exact ⟨_,rfl,h4⟩
theorem w_var (h:env[i]?=some (.dat d)) (q:Q (.dat d) env):WE gd (.var i) env Q:=⟨_,_,by simp only [dE,h],q⟩
theorem GQ (h:env[i]?=some (.own d)) (q:Q (.bor i) env):WE gd (.var i) env Q:=⟨_,_,by simp only [dE,h],q⟩
theorem Gm (h:env[i]?=some (.ino d)) (q:Q (.bor i) env):WE gd (.var i) env Q:=⟨_,_,by simp only [dE,h],q⟩
theorem HC (h:env[i]?=some (.ro d)) (q:Q (.bor i) env):WE gd (.var i) env Q:=⟨_,_,by simp only [dE,h],q⟩
theorem Lg (h:env[i]?=some (.own d)) (q:Q (.dat d) (env.set i (.dat d))):WE gd (.mov i) env Q:=⟨_,_,by simp only [dE,h],q⟩
theorem Lr (h:env[i]?=some (.own d)) (q:Q (.frs d) (env.set i .un)):WE gd (.tke i) env Q:=⟨_,_,by simp only [dE,h],q⟩
theorem Cj {c:Cst} (q:Q (.dat c.d) env):WE gd (.cst c) env Q:=⟨_,_,rfl,q⟩
theorem Ly (h:gd[g]?=some d) (q:Q (.dat d) env):WE gd (.glb g) env Q:=⟨_,_,by simp only [dE,h],q⟩
theorem AS (h:WA gd as env fun avs e=>WPr p avs e Q):WE gd (.prm p as) env Q:=by
 obtain ⟨avs,e',h1,ds,pr,h2,h3,h4⟩:=h;exact ⟨_,_,by simp only [dE,h1,h2,h3],h4⟩
theorem Gp (h:WA gd as env fun avs e=>mB f avs e Q):WE gd (.call f as) env Q:=by
 obtain ⟨avs,e',h1,rv,e2,h2,h3⟩:=h;exact ⟨_,_,by simp only [dE,h1];exact h2,h3⟩
theorem ae (h1:gQ e1 f.ms avs=some ds) (h2:cT f.ms avs=is) (h:WF f ds fun pr outs=>ckA is (qY f.ms avs) outs.length=true/\Q pr.rv (dH e1 is outs)):mB f avs e1 Q:=by
 obtain ⟨pr,outs,h3,h4,h5⟩:=h;subst h2;unfold mB kU;simp only [h1,h3];rw [Og h4];exact ⟨_,_,rfl,h5⟩
theorem LG (h:WE gd o env fun r e=>FZ gd m as r e Q):WE gd (.met m o as) env Q:=by
 obtain ⟨r,e',h1,d0,h2,h3,avs,e2,h4,d,ds,pr,h5,h6,h7,h8⟩:=h;exact ⟨_,_,by simp only [dE,h1,h2];rw [Og h3];simp only [h4,h5,h6,h7],h8⟩
theorem Ge (h0:aR env i=some d) (h1:m.ty d=true) (h:WA gd as env fun avs e2=>WMr m i avs e2 Q):WE gd (.mtr m i as) env Q:=by
 obtain ⟨avs,e2,h4,d,ds,d',x,h5,h6,h7,h8⟩:=h;exact ⟨_,_,by simp only [dE,h0];rw [Og h1];simp only [h4,h5,h6,h7],h8⟩
theorem Be (h:WA gd as env fun avs e=>WTp (fun ds=>.dat (.tuple ds)) avs e Q):WE gd (.tup as) env Q:=by
 obtain ⟨avs,e2,h4,ds,h5,h6,h7⟩:=h;exact ⟨_,_,by simp only [dE,h4,h5];rw [Og h6],h7⟩
theorem F5 (h:WA gd as env fun avs e=>WTp (fun ds=>.frs (.list ds)) avs e Q):WE gd (.lst as) env Q:=by
 obtain ⟨avs,e2,h4,ds,h5,h6,h7⟩:=h;exact ⟨_,_,by simp only [dE,h4,h5];rw [Og h6],h7⟩
theorem LU (h:WT gd x env fun k e=>if k=true then WE gd a e Q else WE gd b e Q):WE gd (.ifx x a b) env Q:=by
 obtain ⟨k,e',h1,h2⟩:=h;unfold WE;simp only [dE,h1];cases k with
 | true=>exact h2
 | false=>exact h2
theorem GI (h:WE gd a env fun r e=>WBo r fun k=>if k=true then WE gd b e Q else Q (.dat (.bool false)) e):WE gd (.oa a b) env Q:=by
 obtain ⟨r,e',h1,k,rfl,h2⟩:=h;unfold WE;cases k with
 | true=>simp only [dE,h1];exact h2
 | false=>simp only [dE,h1];exact ⟨_,_,rfl,h2⟩
theorem Jj (h:WE gd a env fun r e=>WBo r fun k=>if k=true then Q (.dat (.bool true)) e else WE gd b e Q):WE gd (.orv a b) env Q:=by
 obtain ⟨r,e',h1,k,rfl,h2⟩:=h;unfold WE;cases k with
 | true=>simp only [dE,h1];exact ⟨_,_,rfl,h2⟩
 | false=>simp only [dE,h1];exact h2
theorem HU (h:WE gd a env fun r e=>WBo r fun k=>Q (.dat (.bool (!k))) e):WE gd (.ED a) env Q:=by
 obtain ⟨r,e',h1,k,rfl,h2⟩:=h;exact ⟨_,_,by simp only [dE,h1],h2⟩
theorem Jl (h:WE gd a env fun r e=>WE gd b e fun r2 e2=>∃ x y k,r.av=.dat x/\r2.av=.dat y/\p.f [x,y]=some (.dat (.bool k))/\if k=true then WE gd c e2 fun r3 e3=>∃ z pr,r3.av=.dat z/\p'.f [y,z]=some pr/\Q pr.rv e3 else Q (.dat (.bool false)) e2):WE gd (.chn p p' a b c) env Q:=by
 obtain ⟨r,e',h1,r2,e2,h2,x,y,k,h3,h4,h5,h6⟩:=h;unfold WE;cases k with
 | true =>
  rw [Og rfl] at h6;obtain ⟨r3,e3,h7,z,pr,h8,h9,h10⟩:=h6;simp only [dE,h1,h2,h3,h4,h5,h7,h8,h9];exact ⟨_,_,rfl,h10⟩
 | false =>
  rw [Ot (by decide)] at h6;simp only [dE,h1,h2,h3,h4,h5];exact ⟨_,_,rfl,h6⟩
theorem Kb (h:WE gd a env fun r e=>WE gd b e fun r2 e2=>∃ i,r2=.dat (.int i)/\WE gd c e2 fun r3 e3=>∃ j,r3=.dat (.int j)/\∃ d pr,r.view e3=some d/\(g i j).f [d]=some pr/\Q pr.rv e3):WE gd (.sl2 g a b c) env Q:=by
 obtain ⟨r,e',h1,r2,e2,h2,i,rfl,r3,e3,h3,j,rfl,d,pr,h4,h5,h6⟩:=h;exact ⟨_,_,by simp only [dE,h1,h2,h3,h4,h5],h6⟩
theorem pw (h:∃ x e1,dF gd as Str.empty env=some (x,e1)/\Q (.dat (.str x)) e1):WE gd (.fst as) env Q:=by
 obtain ⟨x,e1,h1,h2⟩:=h;exact ⟨_,_,by simp only [dE,h1],h2⟩
def IW (st:Qq->En->Option (Option Qq×En)) (js:List Nat) (ds:List Qq) (lk:Option Nat) (e1:En) (Q:RV->En->Prop):Prop :=
 ∃ ys ec,AZ st ds (fQ e1 lk js)=some (ys,ec)/\Q (.frs (.list ys)) (br e1 js ec)
theorem JY (hn:EI js=true) (h:WI gd it env fun ds lk e1=>IW (fN (dT gd x) (dE gd a)) js ds lk e1 Q):WE gd (.cmp js it x a) env Q:=by
 obtain ⟨ds,lk,e1,h1,ys,ec,h2,h3⟩:=h;refine ⟨_,_,?_,h3⟩;simp only [dE,h1];rw [Og (lX hn),h2]
def CO (st:Qq->En->Option (Option Qq×En)) (d:Qq) (ec:En) (Q:Option Qq->En->Prop):Prop:=∃ y e,st d ec=some (y,e)/\Q y e
theorem kr (h:WT gd x (.dat d :: ec) fun k e2=>if k=true then WE gd a e2 fun r e3=>∃ y,r.av=.dat y/\QS (some y) e3.tail else QS none e2.tail):CO (fN (dT gd x) (dE gd a)) d ec QS:=by
 obtain ⟨k,e2,h1,h2⟩:=h;unfold CO fN;rw [h1];cases k with
 | true =>
  rw [Og rfl] at h2;obtain ⟨r,e3,h3,y,h4,h5⟩:=h2;simp only [h3,h4];exact ⟨_,_,rfl,h5⟩
 | false =>
  rw [Ot (by decide)] at h2;exact ⟨_,_,rfl,h2⟩
theorem gK {st:Qq->En->Option (Option Qq×En)} (Inv:Nat->List Qq->En->Prop) (h0:Inv 0 [] (fQ e1 lk js))
  (hs:∀ i d ys ec,ds[i]?=some d->Inv i ys ec->CO st d ec fun y e=>Inv (i+1) (ys++y.toList) e)
  (hq:∀ ys ec,Inv ds.length ys ec->Q (.frs (.list ys)) (br e1 js ec)):IW st js ds lk e1 Q:=by
 have key:∀ (rest:List Qq) (i:Nat) (ys:List Qq) (ec:En),ds.drop i=rest->i<=ds.length->Inv i ys ec->∃ zs ec',AZ st rest ec=some (zs,ec')/\Inv ds.length (ys++zs) ec':=by
  intro rest;induction rest with
  | nil =>
   intro i ys ec hd hi hI;have:ds.length<=i:=List.drop_eq_nil_iff.mp hd;have:i=ds.length:=by omega
   subst this;exact ⟨[],ec,rfl,by rw [OC];exact hI⟩
  | cons d rest ih =>
   intro i ys ec hd hi hI;have hlt:i < ds.length:=by
    apply Classical.byContradiction;intro h;rw [List.drop_eq_nil_iff.mpr (by omega)] at hd;cases hd
   rw [Qb hlt] at hd;injection hd with hd1 hd2;obtain ⟨y,e,h1,h2⟩:=hs i d ys ec (by rw [Oi hlt,hd1]) hI;obtain ⟨zs,ec',h3,h4⟩:=ih (i+1) _ e hd2 hlt h2;refine ⟨y.toList++zs,ec',?_,by rw [<- OE];exact h4⟩;unfold AZ;simp only [h1,h3]
 obtain ⟨zs,ec,h1,h2⟩:=key ds 0 [] _ rfl (Pg _) h0;exact ⟨zs,ec,h1,hq zs ec h2⟩
def WB (b:Qq->En->Option Out) (d:Qq) (e:En) (E:Kn):Prop:=∃ o,b d e=some o/\E.at o
theorem Ag (hf:free e i=true) (h:WS gd s (e.set i (.dat d)) E):WB (nV i (dS gd s)) d e E:=by
 obtain ⟨o,h1,h2⟩:=h;exact ⟨o,by unfold nV;rw [Og hf];exact h1,h2⟩
theorem eO {b:Qq->En->Option Out} {ds:List Qq} (Inv:Nat->En->Prop) (h0:Inv 0 e1)
  (hs:∀ i d e,ds[i]?=some d->Inv i e->WB b d e ⟨Inv (i+1),E.rt,E.nx,Inv (i+1)⟩)
  (hq:∀ e,Inv ds.length e->E.nx e):MJ b ds none e1 E:=by
 have key:∀ (rest:List Qq) (i:Nat) (e:En),ds.drop i=rest->i<=ds.length->Inv i e->∃ o,forL b rest e=some o/\E.at o:=by
  intro rest;induction rest with
  | nil =>
   intro i e hd hi hI;have:ds.length<=i:=List.drop_eq_nil_iff.mp hd;have:i=ds.length:=by omega
   subst this;exact ⟨_,rfl,hq e hI⟩
  | cons d rest ih =>
   intro i e hd hi hI;have hlt:i < ds.length:=by
    apply Classical.byContradiction;intro h;rw [List.drop_eq_nil_iff.mpr (by omega)] at hd;cases hd
   rw [Qb hlt] at hd;injection hd with hd1 hd2;obtain ⟨o,h1,h2⟩:=hs i d e (by rw [Oi hlt,hd1]) hI;unfold forL;simp only [h1];cases o with
   | nx e'=>exact ih (i+1) e' hd2 hlt h2
   | ct e'=>exact ih (i+1) e' hd2 hlt h2
   | bk e'=>exact ⟨_,rfl,h2⟩
   | rt r e'=>exact ⟨_,rfl,h2⟩
 obtain ⟨o,h1,h2⟩:=key ds 0 _ rfl (Pg _) h0;exact ⟨o,rfl,h1,h2⟩
theorem CJ (q:QA [] env):WA gd .nil env QA:=⟨_,_,rfl,q⟩
theorem xB (h:WE gd a env fun r e=>WA gd as e fun avs e2=>QA (r.av :: avs) e2):WA gd (.cons a as) env QA:=by
 obtain ⟨r,e',h1,avs,e2,h2,h3⟩:=h;exact ⟨_,_,by simp only [dA,h1,h2],h3⟩
theorem JZ (h:WE gd a env fun r e=>WBo r fun k=>QT k e):WT gd (.tst a) env QT:=by
 obtain ⟨r,e',h1,k,rfl,h2⟩:=h;exact ⟨_,_,by simp only [dT,h1],h2⟩
theorem Kx (h:WE gd a env fun r e=>∃ d,r.view e=some d/\BZ d=false/\QT (JL d) e):WT gd (.tru a) env QT:=by
 obtain ⟨r,e',h1,d,h2,h4,h3⟩:=h;exact ⟨_,e',by simp only [dT,h1,h2,h4];rfl,h3⟩
theorem w_and (h:WT gd x env fun k e=>if k=true then WT gd y e QT else QT false e):WT gd (.and x y) env QT:=by
 obtain ⟨k,e',h1,h2⟩:=h;unfold WT;cases k with
 | true=>simp only [dT,h1];exact h2
 | false=>simp only [dT,h1];exact ⟨_,_,rfl,h2⟩
theorem w_or (h:WT gd x env fun k e=>if k=true then QT true e else WT gd y e QT):WT gd (.or x y) env QT:=by
 obtain ⟨k,e',h1,h2⟩:=h;unfold WT;cases k with
 | true=>simp only [dT,h1];exact ⟨_,_,rfl,h2⟩
 | false=>simp only [dT,h1];exact h2
theorem w_not (h:WT gd x env fun k e=>QT (!k) e):WT gd (.not x) env QT:=by
 obtain ⟨k,e',h1,h2⟩:=h;exact ⟨_,_,by simp only [dT,h1],h2⟩
theorem Lm (h:QT true env):WT gd .yes env QT:=⟨_,_,rfl,h⟩
def IP (r:RV) (e:En) (QI:List Qq->Option Nat->En->Prop):Prop:=(∃ ds,r.av=.dat (.list ds)/\QI ds none e)\/∃ i ds,r.av=.bor i/\cont e i=some (.list ds)/\QI ds (some i) e
theorem Nw (h:WE gd a env fun r e=>IP r e QI):WI gd (.lst a) env QI:=by
 obtain ⟨r,e',h1,⟨ds,h2,h3⟩ | ⟨i,ds,h2,h3,h4⟩⟩:=h
 ·exact ⟨_,_,_,by simp only [dI,h1,h2],h3⟩
 ·exact ⟨_,_,_,by simp only [dI,h1,h2,h3],h4⟩
theorem EX (h:r.av=.dat (.list ds)) (q:QI ds none e):IP r e QI:=.inl ⟨ds,h,q⟩
theorem NG (h:WE gd a env fun r e=>∃ ds,r.av=.dat (.tuple ds)/\QI ds none e):WI gd (.tup a) env QI:=by
 obtain ⟨r,e',h1,ds,h2,h3⟩:=h;exact ⟨_,_,_,by simp only [dI,h1,h2],h3⟩
theorem NC (h:WE gd a env fun r e=>∃ z,r.av=.dat (.str z)/\QI (z.cps.toList.map fun c=>.str ⟨#[c]⟩) none e):WI gd (.str a) env QI:=by
 obtain ⟨r,e',h1,ds,h2,h3⟩:=h;exact ⟨_,_,_,by simp only [dI,h1,h2],h3⟩
theorem Nd (h:WA gd as env fun avs e=>∃ j:Int,avs=[.dat (.int j)]/\(-(2 ^ 62)<=j/\j<=2 ^ 24)/\QI ((List.range j.toNat).map fun (k:Nat)=>.int ((0:Int)+(k:Int))) none e):WI gd (.rng1 as) env QI:=by
 obtain ⟨r,e',h1,j,rfl,h2,h3⟩:=h;exact ⟨_,_,_,by simp only [dI,h1];rw [Og h2],h3⟩
end
end L2
namespace L2
open PySem PySem.Spec PyProof.Rows
noncomputable def LA (ww:World):Bool:=ww.params.followText "set-order"
structure Nq (ww:World) (tb:SetTable) (n:Nat):Prop where
 fit:tb.fits n=true
 led:tb.led=!LA ww
 pln:n≠0->tb.plain=false
def L9 (pr:Program) (ww:World) (h:Heap) (a:Qx) (ss:List Str):Prop :=
 ∃ ob es ep tb,h.get? a=some ob/\ob.ExactSet/\ob.data=.set es ep tb/\ElemsOf (strKind pr ww) es.toList/\(∃ zs,StrsAre (es.toList.map (·.2)) zs/\zs.Perm ss)/\es.size < scanBound/\Nq ww tb es.size
noncomputable def leT (x y:Str):Bool:=!ltCps y.cps.toList x.cps.toList
theorem mw (x y:Str):leT x y=true↔x.cps.toList<=y.cps.toList:=by
 unfold leT;rw [ltCps_eq,Bool.not_eq_true',decide_eq_false_iff_not];exact List.not_lt
theorem nL (h:leT x y=true) (h':leT y z=true):leT x z=true:=by
 rw [mw] at *;exact List.le_trans h h'
theorem wA (x y:Str):leT x y=true\/leT y x=true:=by
 rw [mw,mw];exact List.le_total _ _
theorem qS (h:leT x y=true) (h':leT y x=true):x=y:=by
 rw [mw] at *;have:=List.le_antisymm h h';cases x;cases y;simp only [Str.mk.injEq];exact Array.toList_inj.mp this
def Cv (x:Str):List Str->List Str
 | []=>[x]
 | y :: r=>if leT x y=true then x :: y :: r else y :: Cv x r
def j7:List Str->List Str
 | []=>[]
 | x :: r=>Cv x (j7 r)
theorem i3 (x:Str):∀ l:List Str,(Cv x l).Perm (x :: l)
 | []=>List.Perm.refl _
 | y :: r=>by
  unfold Cv;split
  ·exact List.Perm.refl _
  ·exact ((i3 x r).cons y).trans (List.Perm.swap ..)
theorem cA:∀ l:List Str,(j7 l).Perm l
 | []=>List.Perm.refl _
 | x :: r=>(i3 x _).trans ((cA r).cons x)
theorem yN (x:Str):∀ l:List Str,l.Pairwise (fun a b=>leT a b=true)->(Cv x l).Pairwise fun a b=>leT a b=true
 | [],_=>by simp [Cv]
 | y :: r,h=>by
  obtain ⟨h1,h2⟩:=P8.mp h;unfold Cv;split
  ·rename_i c;refine P8.mpr ⟨fun b hb=>?_,h⟩;rcases Oo.mp hb with rfl | hb
   ·exact c
   ·exact nL c (h1 b hb)
  ·rename_i c;refine P8.mpr ⟨fun b hb=>?_,yN x r h2⟩;rcases Oo.mp ((i3 x r).mem_iff.mp hb) with rfl | hb
   ·exact (wA b y).resolve_left c
   ·exact h1 b hb
theorem lG:∀ l:List Str,(j7 l).Pairwise fun a b=>leT a b=true
 | []=>by simp [j7]
 | x :: r=>yN x _ (lG r)
theorem oY:∀ (p:Str) (l:List Str),risingS p l=true->(p :: l).Pairwise fun a b=>leT a b=true
 | p,[],_=>by simp
 | p,x :: r,h=>by
  have h:(!ltCps x.cps.toList p.cps.toList&&risingS x r)=true:=h;rw [OF] at h;have ih:=oY x r h.2;refine P8.mpr ⟨fun b hb=>?_,ih⟩;rcases Oo.mp hb with rfl | hb
  ·exact h.1
  ·exact nL h.1 ((P8.mp ih).1 b hb)
theorem xy:∀ {l:List Str},sortedS l=true->l.Pairwise fun a b=>leT a b=true
 | [],_=>by simp
 | x :: r,h=>oY x r h
theorem vF (h:sortedS l=true) (p:l.Perm l'):l=j7 l' :=
 List.Perm.eq_of_pairwise (fun _ _ _ _ a b=>qS a b) (xy h) (lG l') (p.trans (cA l').symm)
theorem vA:∀ {ds:List Qq} {ss:List Str},strsOf ds=some ss->ds=ss.map .str
 | [],ss,h=>by cases h;rfl
 | d :: ds,ss,h=>by
  unfold strsOf at h;split at h
  ·cases h;rename_i e;cases e
  ·rename_i x r e;cases e;split at h
   ·rename_i xs hx;cases h;rw [vA hx];rfl
   ·cases h
  ·cases h
theorem xh {K:Fg} {F:Qx->Prop} {H:Hp}:∀ {ss:List Str},(∀ s∈ss,s.length<=sizeLine/\PyData.strOk s=true)->DmL K F H (ss.map .str) (ss.map V.str)
 | [],_=>rfl
 | s :: ss,h=>⟨_,_,rfl,⟨rfl,h s Od⟩,xh fun x hx=>h x (N8 _ hx)⟩
theorem Bt {K:Fg} {F:Qx->Prop} {H:Hp}:∀ {ss:List Str} {us:List V},DmL K F H (ss.map .str) us->∀ s∈ss,s.length<=sizeLine/\PyData.strOk s=true
 | [],_,_,s,hs=>by cases hs
 | s :: ss,us,h,x,hx=>by
  obtain ⟨v,r,rfl,h1,h2⟩:=h;rcases Oo.mp hx with rfl | hx
  ·exact h1.2
  ·exact Bt h2 x hx
def zC:Qq->Option PR
 | .list ds=>match strsOf ds with | some ss=>if ss.length < 64 then some (.frs (.list ((j7 ss).map .str))) else none | none=>none
 | _=>none
def pJ:Prm:=Prm.one (fun K x=>BU K [x]) zC fun K F H x u pr Q hf hx hd q=>by
 unfold zC at hf;split at hf
 ·rename_i ds;split at hf
  ·rename_i ss hss;split at hf
   ·rename_i h64;cases hf;obtain ⟨a,us,rfl,s1,z1,d1⟩:=o9 hx;obtain ⟨e,os⟩:=sh hss d1;rw [e] at s1;rw [vA hss] at d1;refine ⟨a,ss,rfl,s1,h64,fun p ss' hp pm so=>?_⟩;have es:ss'=j7 ss:=vF so pm;subst es;refine q _ _ (aZ.nw _ hp) (Ir hp (by rw [N6,(cA ss).length_eq,Pf];omega) (xh fun s hs=>Bt d1 s ((cA ss).mem_iff.mp hs)))
   ·cases hf
  ·cases hf
 ·cases hf
theorem sZ:bN X (.builtin "sorted") (pJ.r X.K):=jA oM fun _ _ _ h=>h
noncomputable def M5 (X:Cx) (p:Qx) (ss:List Str):HO:=.ext fun h=>L9 X.prog X.w h p ss
noncomputable def vE:Qq->List Qq->Option PR
 | .str z,[.str y]=>some (.dat (.bool (decide (y.length<=z.length)&&Builtin.Str.subAt z y 0)))
 | _,_=>none
def yT:Mtd where
 T := "str"
 r:=fun _=>uV
 ty:=isS
 f:=vE
 yU:=fun K F H d v h t=>ty_str h t
 ok:=fun K F H d v ds vs pr Q hf hx hv hd q=>by
  unfold vE at hf;split at hf
  ·cases hf;obtain ⟨rfl,_⟩:=vStr hx;obtain ⟨w,r,rfl,hw,rfl⟩:=hv;obtain ⟨rfl,_⟩:=vStr hw;exact ⟨_,_,rfl,rfl,q _ H (aZ.rf H) rfl⟩
  ·cases hf
noncomputable def kgV (l:List (Str×Cst)) (z:Str):V:=((l.find? fun p=>decide (p.1=z)).map (·.2.v)).getD .non
noncomputable def kgD (l:List (Str×Cst)) (z:Str):Qq:=((l.find? fun p=>decide (p.1=z)).map (·.2.d)).getD .none
theorem J8 (l:List (Str×Cst)) (z:Str) (K:Fg) (F:Qx->Prop) (H:Hp):Dm K F H (kgD l z) (kgV l z):=by
 unfold kgD kgV;cases l.find? fun p=>decide (p.1=z) with
 | none=>rfl
 | some p=>exact p.2.ok K F H
def KG (w:World) (K:Fg) (a:Qx) (l:List (Str×Cst)):Prop:=∃ es n,K.lookup a=some ⟨.type "dict", none,.dict es n,#[]⟩/\PySem.W.KeysLit w.params es.toList/\(a==sysModules)=false/\∀ z,RelV (kgV l z) ((findBy Value.isStrOf es z).getD .none)
noncomputable def EC (e:DictEntry):Option Str:=match e.key with | .str x _=>some x | _=>none
theorem L5 (hk:es.toList.map EC=l.map fun p=>some p.1) (h:∀ p∈l,∃ u,findBy Value.isStrOf es p.1=some u/\RelV p.2.v u):∀ z,RelV (kgV l z) ((findBy Value.isStrOf es z).getD .none):=by
 intro z;unfold kgV;cases hf:l.find? (fun p=>decide (p.1=z)) with
 | none =>
  have:findBy Value.isStrOf es z=none:=by
   unfold findBy;rw [Option.map_eq_none_iff,Array.find?_eq_none];intro e he hz;obtain ⟨t,ek⟩:=Value.isStrOf_shape hz;have hm:EC e∈es.toList.map EC:=List.mem_map_of_mem (Array.mem_def.mp he);rw [hk] at hm;obtain ⟨p,hp,e2⟩:=O1.mp hm;have:EC e=some z:=by unfold EC;rw [ek]
   rw [this] at e2;injection e2 with e2;have:=List.find?_eq_none.mp hf p hp;simp [e2] at this
  rw [this];rfl
 | some p =>
  have hp:=List.mem_of_find?_eq_some hf;have hz:p.1=z:=by simpa using List.find?_some hf
  obtain ⟨u,h1,h2⟩:=h p hp;rw [<- hz,h1];exact h2
def Gh (l:List (Str×Cst)):V->Hp->VK->Prop:=fun y H Q=>∃ z,y=.str z/\Q (kgV l z) H
def Gn (l:List (Str×Cst)):Qq->Option PR
 | .str z=>some (.dat (kgD l z))
 | _=>none
def Fm (l:List (Str×Cst)):Prm:=Prm.one (fun _=>Gh l) (Gn l) fun K F H x u pr Q hf hx hd q=>by
 unfold Gn at hf;split at hf
 ·cases hf;obtain ⟨rfl,_⟩:=vStr hx;exact ⟨_,rfl,q _ H (aZ.rf H) (J8 l _ K F H)⟩
 ·cases hf
section
variable {X:Cx} {o e:Expr} {apos cpos:Pos} {te:TE} {a:Qx} {l:List (Str×Cst)}
theorem eKG (ho:JE X o (tC (.ref a))) (hk:KG X.w X.K a l) (he:JE X e te) (hbase:attributeBase o "get" X.env (eval o X.env)=eval o X.env)
  (hfew:((backTo cpos (starEach [e] X.env)).all (fun x=>!x.1)&&(backToKw cpos (keywordEach [] X.env)).all (fun x=>x.1.isSome)&&decide (([e]:List Expr).length+([]:List Keyword).length+(if ([]:List Keyword).isEmpty then 0 else 1) < 30))=true)
  (hline:(apos.endLine==cpos.line)=true) (h1:PySem.W.isStarred e=false):JE X (.Call (.Attribute o "get" apos) [e] [] cpos) (tCB ((Fm l).r X.K) (iS te rY)):=by
 have m:M1 X o "get" apos e cpos:=⟨hbase,hfew,hline,by rw [aV h1];rfl⟩;refine ⟨?_⟩;intro pins s Z H Q I h;obtain ⟨es,n,hl,hks,hsm,hf⟩:=hk;refine wpAny_Call_method m.base m.few m.line PySem.F.plainAttrs_dict PySem.F.slot_dict_get PySem.F.type_dict_get (thn (ho.h pins s Z H (fun x H1=>x=.ref a/\H1=H) I ⟨rfl,rfl⟩) fun u s1 ⟨x,H1,I1,rx,ex,eH⟩=>?_);subst ex eH;obtain rfl:u=Value.ref a:=rx;have hm:s1.heap.MapOf (PySem.strKind X.prog X.w) a (fun k=>findBy Value.isStrOf es k):=PySem.W.mapOf_K I1.kIn hl hks;refine ⟨hm.typeIs,hm.noDict,?_⟩;rw [m.trees];have h:te Z H1 fun y H2=>Gh l y H2 Q:=h;refine Calls.callWith_builtin rfl (Calls.evalArgs_plain (Calls.spliced_cons (thn (he.h pins s1 Z H1 _ I1 h) fun iv s2 ⟨y,H2,I2,ry,z,ey,q2⟩=>Calls.spliced_nil ?_)));subst ey;obtain ⟨t,rfl⟩:=ry;have hm2:s2.heap.MapOf (PySem.strKind X.prog X.w) a (fun k=>findBy Value.isStrOf es k):=PySem.W.mapOf_K I2.kIn hl hks;refine call_meetsIn PySem.F.slot_dict_get hm2.typeIs PySem.F.entry_dict_get (PySem.F.args_dict_get_2 _ _) (meets_dict_get (PySem.strKind X.prog X.w) a (strKind_is X.prog X.w z t) hsm) ⟨_,hm2,?_⟩;exact ⟨_,H2,I2.tok _,hf z,q2⟩
end
noncomputable def jQ {α:Type} (n:Nat) (xs:List α):List α:=(List.replicate n xs).flatten
theorem se {α:Type} (n:Nat) (xs:List α):(jQ n xs).length=n*xs.length:=by
 unfold jQ;induction n with
 | zero=>simp
 | succ n ih=>rw [List.replicate_succ,O6,N5,ih,Nat.succ_mul,PX]
theorem MR (n:Nat) (vs:List Qz):List.foldl (fun x1 x2:Array Qz=>x1++x2) #[] (List.replicate n vs.toArray)=(jQ n vs).toArray:=by
 have:∀ (n:Nat) (acc:List Qz),List.foldl (fun x1 x2:Array Qz=>x1++x2) acc.toArray (List.replicate n vs.toArray)=(acc++jQ n vs).toArray:=by
  intro n;induction n with
  | zero=>intro acc;simp [jQ]
  | succ n ih =>
   intro acc;rw [List.replicate_succ,P4];have e:acc.toArray++vs.toArray=(acc++vs).toArray:=by simp
   rw [e,ih];unfold jQ;rw [List.replicate_succ,O6,OE]
 have:=this n [];simpa using this
theorem pI {xs:List V} {vs:List Qz} (r:Vals xs vs):∀ n,Vals (jQ n xs) (jQ n vs)
 | 0=>.nil
 | n+1=>by
  unfold jQ;rw [List.replicate_succ,List.replicate_succ,O6,O6];exact r.append (pI r n)
theorem vK (l:Qx) (items:Array Qz) (n:Nat) (dd:Option Qx) (sl:Array (Option Qz)) (x:Int) (u:Tok) (hc0:¬(!Builtin.List.listFitsIndex x)=true) (hc1:¬items.size*x.toNat > (2 ^ 63 - 1) / 8) (hc2:¬Builtin.List.listTooLong (items.size*x.toNat)=true) :
  Meets (Builtin.«list.__mul__» ⟨[.ref l,.int x u],[]⟩) (fun _ R s=>s.heap.get? l=some { cls:=.type "list", dict:=dd,data:=.seq items n,slots:=sl }/\R (.ok (.ret (Value.ref s.heap.objs.size))) { s with heap:=s.heap.push { cls:=Value.type "list", data:=Data.seq (List.foldl (fun x1 x2=>x1++x2) #[] (List.replicate (if items.isEmpty=true then 0 else x.toNat) items)) },toks:=s.toks }) :=
 .of_wp fun prog w A R s h=>by
  obtain ⟨hp,g,d,tk,os⟩:=s;obtain ⟨hl,h⟩:=h;have hsz:=AutoListH.joined_fits hc2
  wp_walk;refine PJ (Ob (Nat.not_lt.mpr hsz)) ?_;wp_walk;exact ⟨_,rfl,h⟩
theorem wR (a:Int) (t:Tok) (l:Qx) (items:Array Qz) (n:Nat) (dd:Option Qx) (sl:Array (Option Qz)) :
  Meets (Builtin.«int.__rmul__» ⟨[.int a t,.ref l],[]⟩) (fun _ R s=>s.heap.get? l=some { cls:=.type "list", dict:=dd,data:=.seq items n,slots:=sl }/\R (.ok (.ret Value.notImplemented)) s) :=
 .of_wp fun prog w A R s h=>by obtain ⟨hp,g,d,tk,os⟩:=s;obtain ⟨hl,h⟩:=h;wp_walk;exact ⟨_,rfl,h⟩
theorem wV (a:Int) (t:Tok) (l:Qx) (items:Array Qz) (n:Nat) (dd:Option Qx) (sl:Array (Option Qz)) :
  Meets (Builtin.«int.__rmul__» ⟨[.int a t,.ref l],[]⟩) (fun _ R s=>s.heap.get? l=some { cls:=.type "tuple", dict:=dd,data:=.seq items n,slots:=sl }/\R (.ok (.ret Value.notImplemented)) s) :=
 .of_wp fun prog w A R s h=>by obtain ⟨hp,g,d,tk,os⟩:=s;obtain ⟨hl,h⟩:=h;wp_walk;exact ⟨_,rfl,h⟩
theorem iO:fillsNumberSlot (.type "tuple") "mul" = pure false :=
 PySem.fillsNumberSlot_seq (id := "tuple.__mul__") (r:=some (.builtin "tuple.__rmul__")) F.slot_tuple_mul.lookup (by decide +kernel) F.slot_tuple_rmul.lookup (by decide +kernel)
theorem oS:seqRepeat? (.type "tuple")=pure (some (.builtin "tuple.__mul__")):=by
 unfold seqRepeat?;rw [PySem.seqSlot_of (T := "tuple") (name := "__mul__") (id := "tuple.__mul__") F.slot_tuple_mul.lookup (by decide +kernel),PySem.seqSlot_of (T := "tuple") (name := "__rmul__") (id := "tuple.__rmul__") F.slot_tuple_rmul.lookup (by decide +kernel)];rfl
theorem sU (l:Qx) (items:Array Qz) (n:Nat) (dd:Option Qx) (sl:Array (Option Qz)) (u:Tok) (h0:items.isEmpty=false) :
  Meets (Builtin.«tuple.__mul__» ⟨[.ref l,.int 0 u],[]⟩) (fun _ R s=>s.heap.get? l=some { cls:=.type "tuple", dict:=dd,data:=.seq items n,slots:=sl }/\R (.ok (.ret (Value.ref s.heap.objs.size))) { s with heap:=s.heap.push { cls:=Value.type "tuple", data:=Data.seq #[] },toks:=s.toks }) :=
 .of_wp fun prog w A R s h=>by obtain ⟨hp,g,d,tk,os⟩:=s;obtain ⟨hl,h⟩:=h;wp_walk;exact ⟨_,rfl,h⟩
theorem tO (l:Qx) (items:Array Qz) (n:Nat) (dd:Option Qx) (sl:Array (Option Qz)) (u:Tok) :
  Meets (Builtin.«tuple.__mul__» ⟨[.ref l,.int 1 u],[]⟩) (fun _ R s=>s.heap.get? l=some { cls:=.type "tuple", dict:=dd,data:=.seq items n,slots:=sl }/\R (.ok (.ret (Value.ref l))) s) :=
 .of_wp fun prog w A R s h=>by obtain ⟨hp,g,d,tk,os⟩:=s;obtain ⟨hl,h⟩:=h;wp_walk;exact ⟨_,rfl,h⟩
theorem t7 (l:Qx) (items:Array Qz) (n:Nat) (dd:Option Qx) (sl:Array (Option Qz)) (x:Int) (u:Tok) (h0:items.isEmpty=false) (h1:2<=x) (h2:(items.size:Int)*x<=1000) :
  Meets (Builtin.«tuple.__mul__» ⟨[.ref l,.int x u],[]⟩) (fun _ R s=>s.heap.get? l=some { cls:=.type "tuple", dict:=dd,data:=.seq items n,slots:=sl }/\R (.ok (.ret (Value.ref s.heap.objs.size))) { s with heap:=s.heap.push { cls:=Value.type "tuple", data:=Data.seq (List.foldl (fun x1 x2=>x1++x2) #[] (List.replicate x.toNat items)) },toks:=s.toks }) :=
 .of_wp fun prog w A R s h=>by
  obtain ⟨hp,g,d,tk,os⟩:=s;obtain ⟨hl,h⟩:=h;have hz:1<=items.size:=by
   rcases Nat.eq_zero_or_pos items.size with z | z
   ·rw [Array.isEmpty,z] at h0;cases h0
   ·exact z
  have hx:x<=1000:=by
   have:x<=(items.size:Int)*x:=by
    have:=Int.mul_le_mul_of_nonneg_right (show (1:Int)<=items.size by omega) (show 0<=x by omega);omega
   omega
  have e1:(decide (x < -(2 ^ 63))||decide (x>=2 ^ 63))=false:=by simp;omega
  have e2:(items.isEmpty||x==1)=false:=by rw [h0];simp;omega
  have e3:(decide (x<=0)||items.isEmpty)=false:=by rw [h0];simp;omega
  have e4:¬(items.size:Int)*x > (2 ^ 63 - 1) / 8:=by omega
  have e5:Builtin.Tuple.tupleTooMany ((items.size:Int)*x)=false:=by unfold Builtin.Tuple.tupleTooMany;rw [Pf];simp;omega
  wp_walk
  refine PJ (by rw [e1];rfl) ?_
  wp_walk
  refine PJ (by rw [e2];rfl) ?_
  wp_walk
  refine PJ (by rw [e3];rfl) ?_;refine PJ (Ob e4) ?_;refine PJ (by rw [e5];rfl) ?_
  wp_walk
  refine PJ (Ob ?_) ?_
  ·rw [AutoListH.size_joined,Pf];have:((x.toNat*items.size:Nat):Int)=(items.size:Int)*x:=by
    rw [Int.natCast_mul,Pw (by omega),Int.mul_comm]
   simp only [Om,OP];omega
  wp_walk
  exact ⟨_,rfl,h⟩
def EU (K:Fg):R2:=fun x y H Q=>∃ (a:Qx) (xs:List V) (n:Int),x=.ref a/\y=.int n/\0<=n/\(xs.length:Int)*n<=1000/\n<=1000/\((SqL K H a xs/\∀ p,H p=none->Q (.ref p) (upd H p (.lst (jQ n.toNat xs))))\/(SqT K H a xs/\xs≠[]/\(n=1->Q (.ref a) H)/\(n≠1->∀ p,H p=none->Q (.ref p) (upd H p (.tup (jQ n.toNat xs))))))
theorem ly {α:Type} {xs:List α} {n:Int} (h0:0<=n) (h:(xs.length:Int)*n<=1000):(jQ n.toNat xs).length<=1000:=by
 rw [se];have:((n.toNat*xs.length:Nat):Int)=(xs.length:Int)*n:=by rw [Int.natCast_mul,Pw h0,Int.mul_comm]
 omega
theorem CB {X:Cx}:OpR X (binaryOp .Mult) (EU X.K):=by
 intro pins s Z H x y v u Q I rx ry h;obtain ⟨a,xs,n,rfl,rfl,h0,hz,hn,hL | ⟨hT,hne,q1,q2⟩⟩:=h
 ·obtain ⟨hL,q⟩:=hL;cases rx;obtain ⟨t,rfl⟩:=ry;obtain ⟨its,r,p,_⟩:=I.list hL;obtain ⟨⟨cls,dd,data,sl⟩,k,ho,hc,hd0,hd⟩:=p;simp only at hc hd;subst hc hd;have hsz:(its.toArray.size:Int)*n<=1000:=by rw [Om,<-r.length];exact hz
  have hsz2:its.toArray.size*n.toNat<=1000:=by
   have:((its.toArray.size*n.toNat:Nat):Int)=(its.toArray.size:Int)*n:=by rw [Int.natCast_mul,Pw h0]
   omega
  refine wpAny_binaryOp_repeat_ref (T := "list") (U := "int") (by decide) ⟨_,ho,rfl⟩ (fun s'=>typeIs_int s' n t) noFill_list_mul F.fills_int_mul F.slot_int_rmul repeat_list F.slot_int_index.lookup
   (P0 F.slot_int_rmul (typeIs_int s n t) F.entry_int_rmul (F.args_int_rmul_2 _ _) (wR n t a its.toArray k dd sl)
   ⟨ho,rfl,⟨_,ho,rfl⟩,P0 F.slot_list_mul ⟨_,ho,rfl⟩ F.entry_list_mul (F.args_list_mul_2 _ _)
    (vK a its.toArray k dd sl n t (by simp [Builtin.List.listFitsIndex];omega) (by omega) (by simp [Builtin.List.listTooLong,sizeLine] at hsz2 ⊢;omega))
    ⟨ho,?_⟩⟩)
  have e:List.foldl (fun x1 x2:Array Qz=>x1++x2) #[] (List.replicate (if its.toArray.isEmpty=true then 0 else n.toNat) its.toArray)=(jQ n.toNat its).toArray:=by
   split
   ·rename_i c;have:its=[]:=by simpa using c
    subst this;have:∀ m,jQ m ([]:List Qz)=[]:=fun m=>List.length_eq_zero_iff.mp (by rw [se];simp);rw [this];rfl
   ·exact MR _ _
  rw [e];refine ⟨.ref _,_,I.MA (t':=s.toks) (pI r n.toNat) ?_,rfl,q _ I.fresh⟩;have:=ly (xs:=xs) h0 hz;rw [Pf];omega
 ·cases rx;obtain ⟨t,rfl⟩:=ry;obtain ⟨its,r,p,_⟩:=I.tuple hT;obtain ⟨⟨cls,dd,data,sl⟩,ho,hc,k,hd⟩:=p;simp only at hc hd;subst hc hd;have hit:its≠[]:=fun z=>hne (r.lA.mp z);have hie:its.toArray.isEmpty=false:=by simpa using hit
  have go:∀ {R:Qz->Qv->Prop},wpAny (model X.prog X.w) X.A (call (.builtin "tuple.__mul__") [.ref a,.int n t]) R X.xe s->wpAny (model X.prog X.w) X.A (binaryOp .Mult (.ref a) (.int n t)) R X.xe s:=fun hh =>
   wpAny_binaryOp_repeat_ref (T := "tuple") (U := "int") (by decide) ⟨_,ho,rfl⟩ (fun s'=>typeIs_int s' n t) iO F.fills_int_mul F.slot_int_rmul oS F.slot_int_index.lookup
    (P0 F.slot_int_rmul (typeIs_int s n t) F.entry_int_rmul (F.args_int_rmul_2 _ _) (wV n t a its.toArray k dd sl) ⟨ho,rfl,⟨_,ho,rfl⟩,hh⟩)
  refine go ?_;by_cases h1:n=1
  ·subst h1;exact P0 F.slot_tuple_mul ⟨_,ho,rfl⟩ F.entry_tuple_mul (F.args_tuple_mul_2 _ _) (tO a its.toArray k dd sl t) ⟨ho,.ref a,H,I,rfl,q1 rfl⟩
  ·by_cases h2:n=0
   ·subst h2;refine P0 F.slot_tuple_mul ⟨_,ho,rfl⟩ F.entry_tuple_mul (F.args_tuple_mul_2 _ _) (sU a its.toArray k dd sl t hie) ⟨ho,?_⟩;refine ⟨.ref s.heap.objs.size,_,I.laid (t':=s.toks) (o:=.tup []) (fun b ob q=>Of _ q) (Ol _) ?_,rfl,q2 h1 _ (I.hok.fresh (Ol _))⟩;exact ⟨Pg _,[],.nil,IsTup.new _ _⟩
   ·refine P0 F.slot_tuple_mul ⟨_,ho,rfl⟩ F.entry_tuple_mul (F.args_tuple_mul_2 _ _) (t7 a its.toArray k dd sl n t hie (by omega) (by rw [Om,<-r.length];exact hz)) ⟨ho,?_⟩;rw [MR];refine ⟨.ref s.heap.objs.size,_,I.laid (t':=s.toks) (o:=.tup (jQ n.toNat xs)) (fun b ob q=>Of _ q) (Ol _) ?_,rfl,q2 h1 _ (I.hok.fresh (Ol _))⟩;refine ⟨?_,_,pI r n.toNat,IsTup.new _ _⟩;have:=ly (xs:=xs) h0 hz;rw [Pf];omega
theorem DmL.rep {K:Fg} {F:Qx->Prop} {H:Hp} {ds:List Qq} {xs:List V} (h:DmL K F H ds xs):∀ n,DmL K F H (jQ n ds) (jQ n xs)
 | 0=>rfl
 | n+1=>by
  unfold jQ;rw [List.replicate_succ,List.replicate_succ,O6,O6];exact h.app (DmL.rep h n)
def MO:Qq->Qq->Option PR
 | .list xs,.int n=>if 0<=n/\(xs.length:Int)*n<=1000/\n<=1000 then some (.frs (.list (jQ n.toNat xs))) else none
 | .tuple (x :: xs),.int n=>if 0<=n/\((x :: xs).length:Int)*n<=1000/\n<=1000 then some (.dat (.tuple (jQ n.toNat (x :: xs)))) else none
 | _,_=>none
theorem zN {α:Type} (xs:List α):jQ 1 xs=xs:=by simp [jQ]
def Ju:Prm:=Prm.two EU MO fun K F H x y u v pr Q hf hx hy hd q=>by
 unfold MO at hf;split at hf
 ·split at hf
  ·rename_i xs n h;cases hf;obtain ⟨a,us,rfl,s1,z1,d1⟩:=o9 hx;rw [vInt hy];refine ⟨a,us,n,rfl,rfl,h.1,by rw [d1.len];exact h.2.1,h.2.2,.inl ⟨s1,fun p hp=>q _ _ (aZ.nw _ hp) (Ir hp ?_ (d1.rep _))⟩⟩;have:=ly (xs:=us) h.1 (by rw [d1.len];exact h.2.1);rw [Pf];omega
  ·cases hf
 ·split at hf
  ·rename_i x xs n h;cases hf;obtain ⟨a,us,rfl,s1,z1,d1⟩:=wX hx;rw [vInt hy];have hne:us≠[]:=fun z=>by rw [z] at d1;obtain ⟨v,r,e,_⟩:=d1;cases e
   refine ⟨a,us,n,rfl,rfl,h.1,by rw [d1.len];exact h.2.1,h.2.2,.inr ⟨s1,hne,fun e=>?_,fun _ p hp=>q _ _ (aZ.nw _ hp) (Iy hp ?_ (d1.rep _))⟩⟩
   ·subst e;exact q _ H (aZ.rf H) ⟨a,us,rfl,s1,z1,by rw [show (1:Int).toNat=1 from rfl,zN];exact d1⟩
   ·have:=ly (xs:=us) h.1 (by rw [d1.len];exact h.2.1);rw [Pf];omega
  ·cases hf
 ·cases hf
theorem xR:OpR X (binaryOp .Mult) (fun x y=>Ju.r X.K [x,y]):=CB
theorem LB (hg:Gl X "isinstance") (hm:X.mg "isinstance" = none) (ha:JE X e te) (hs:PySem.W.isStarred e=false) (hb:JE X (.Name (Str.ofString T) p2) (tC (.ty T))):JE X (.Call (.Name "isinstance" p) [e,.Name (Str.ofString T) p2] [] pos) (tCB ((wj T).r X.K) (iS te rY)) :=
 ⟨(eB D8 hg hm (by decide +kernel) (eA ha (eA hb aa rfl) hs) hs rfl (by decide) rfl).h⟩
noncomputable def IU {α:Type} (xs:List α) (i:Nat) (y:α):List α:=xs.take i++y :: xs.drop i
def DS:V->List V->Hp->VK->Prop:=fun x vs H Q=>∃ (l:Qx) (xs:List V) (i:Nat) (y:V),x=.ref l/\vs=[.int i,y]/\H l=some (.lst xs)/\xs.length < sizeLine/\i<=xs.length/\Q .non (upd H l (.lst (IU xs i y)))
theorem C1 {α:Type} {xs:List α} {i:Nat} {y:α} (h:i<=xs.length):(IU xs i y).length=xs.length+1:=by
 simp [IU];omega
def N3:Mtr where
 T := "list"
 r:=fun _=>DS
 ty:=isL
 f:=fun d as=>match d,as with
  | .list xs,[(_,.int i),(true,x)]=>if xs.length < sizeLine/\0<=i/\i<=xs.length then some (.list (IU xs i.toNat x),.none) else none
  | _,_=>none
 yU:=fun K F H d a h t=>x5 h t
 ok:=fun K F H d a as vs d' x Q hf ha ht _hd hv q=>by
  split at hf
  ·rename_i ds bb i y;split at hf
   ·rename_i hl;cases hf;obtain ⟨xs,ea,z,rx⟩:=ht;have hv2:∃ v,vs=[.int i,v]/\Dm K F H y v:=by
     cases bb with
     | true=>obtain ⟨v1,r1,rfl,h1,v2,r2,rfl,h2,rfl⟩:=hv;exact ⟨v2,by rw [show v1=.int i from h1],h2⟩
     | false=>obtain ⟨v1,r1,rfl,h1,v2,r2,rfl,h2,rfl⟩:=hv;exact ⟨v2,by rw [show v1=.int i from h1],h2⟩
    obtain ⟨v,rfl,hd⟩:=hv2;have hi:i.toNat<=xs.length:=by rw [rx.len];omega
    have e1:((i.toNat:Nat):Int)=i:=Pw hl.2.1;refine ⟨a,xs,i.toNat,v,rfl,by rw [e1],ea,by rw [rx.len];exact hl.1,hi,q _ _ (fun b o n e=>by rw [aL n];exact e) ⟨_,aE,by rw [C1 hi,rx.len];omega,DmL.pr (oV ha ea rfl) (fun _ z=>z) ?_⟩ rfl⟩;have tk:∀ {ds:List Qq} {xs:List V} (n:Nat),DmL K F H ds xs->DmL K F H (ds.take n) (xs.take n)/\DmL K F H (ds.drop n) (xs.drop n):=by
     intro ds;induction ds with
     | nil=>intro xs n h;rw [show xs=[] from h];simp [DmL]
     | cons d ds ih =>
      intro xs n h;obtain ⟨v,r,rfl,h1,h2⟩:=h;cases n with
      | zero=>exact ⟨rfl,v,r,rfl,h1,h2⟩
      | succ n=>exact ⟨⟨v,_,rfl,h1,(ih n h2).1⟩,(ih n h2).2⟩
    exact (tk _ rx).1.app ⟨v,_,rfl,hd,(tk _ rx).2⟩
   ·cases hf
  ·cases hf
noncomputable def mM (x:Str) (n:Nat):Str:=⟨(List.replicate n x.cps.toList).flatten.toArray⟩
theorem rK (x:Str) (n:Nat):(mM x n).length=n*x.length:=by
 show ((List.replicate n x.cps.toList).flatten.toArray).size=n*x.cps.size;simp
theorem oo:∀ (l:List (Array Nat)) (a:Array Nat),(l.foldl (·++·) a).toList=a.toList++(l.map (·.toList)).flatten
 | [],a=>by simp
 | x :: l,a=>by rw [P4,oo l];simp
theorem Dp (x:Str) (n:Nat):Txt.mul x n=mM x n:=by
 have ext:∀ {a b:Str},a.cps.toList=b.cps.toList->a=b:=by
  intro a b h;cases a;cases b;congr 1;exact Array.toList_inj.mp h
 unfold Txt.mul;by_cases h1:(n:Int) < 1
 ·rw [Og h1];have:n=0:=by omega
  subst this;exact ext rfl
 ·rw [Ot h1];by_cases h2:((n:Int)==1||x.length==0)=true
  ·rw [Og h2];simp only [Qk,Px] at h2;refine ext ?_;rcases h2 with h2 | h2
   ·have:n=1:=by omega
    subst this;simp [mM]
   ·have:x.cps.toList=[]:=by
     have:x.cps.toList.length=0:=by simpa [Str.length] using h2
     exact List.length_eq_zero_iff.mp this
    simp [mM,this]
  ·rw [Ot h2];refine ext ?_;show ((List.replicate (n:Int).toNat x.cps).foldl (·++·) #[]).toList=_;rw [oo];simp [mM]
def HX:R2:=fun x y H Q=>∃ (z:Str) (n:Nat),x=.str z/\y=.int n/\n<=1000/\z.length<=1000/\Q (.str (mM z n)) H
theorem DO:OpR X (binaryOp .Mult) HX:=by
 intro pins s Z H x y v u Q I rx ry h;obtain ⟨z,n,rfl,rfl,h1,h2,q⟩:=h;obtain ⟨t,rfl⟩:=rx;obtain ⟨t',rfl⟩:=ry;refine SB.mul ⟨by simp;omega,fun a b=>?_,fun a b=>?_⟩ fun t'' k=>⟨.str _,H,I.tok k,⟨t'',by rw [Dp]⟩,q⟩
 ·have hn:(0:Int) < n:=by omega
  rw [Int.not_lt];refine Int.le_ediv_of_mul_le hn ?_;have:(z.length:Int)*n<=1000*1000:=Int.mul_le_mul (by omega) (by omega) (by omega) (by omega);omega
 ·have:z.length*(n:Int).toNat<=1000*1000:=Nat.mul_le_mul h2 (by omega);have hs:sizeLine=16777216:=Pf;simp only [Builtin.Str.tooLong];simp;rw [Int.toNat_natCast] at this;omega
theorem tW (h:PyData.strOk x=true):PyData.strOk (mM x n)=true:=by
 unfold PyData.strOk at h ⊢;rw [Array.all_eq_true'] at h ⊢;intro c hc;have:c∈(List.replicate n x.cps.toList).flatten:=by simpa [mM] using hc
 obtain ⟨l,hl,hcl⟩:=List.mem_flatten.mp this;rw [(List.mem_replicate.mp hl).2] at hcl;exact h c (by simpa using hcl)
def sG:Prm:=Prm.two (fun _=>HX) (fun x y=>match x,y with | .str z,.int n=>if 0<=n/\n<=1000/\z.length<=1000 then some (.dat (.str (mM z n.toNat))) else none | _,_=>none) fun K F H x y u v pr Q hf hx hy hd q=>by
 split at hf
 ·rename_i z n;split at hf
  ·rename_i h;cases hf;obtain ⟨ex,hl,ho⟩:=vStr hx;have ey:=vInt hy;have e1:((n.toNat:Nat):Int)=n:=Pw h.1;refine ⟨z,n.toNat,ex,by rw [e1];exact ey,by omega,h.2.2,q _ H (aZ.rf H) ⟨rfl,?_,tW ho⟩⟩;rw [rK];have:n.toNat*z.length<=1000*1000:=Nat.mul_le_mul (by omega) h.2.2;have hs:sizeLine=16777216:=Pf;omega
  ·cases hf
 ·cases hf
theorem iX:OpR X (binaryOp .Mult) (fun x y=>sG.r X.K [x,y]):=DO
end L2
namespace L2
open PySem
theorem i7 (h:e[i]?=some s) (q:soft s):free e i=true:=by
 unfold free;rw [h];cases s with
 | ino d=>exact absurd rfl (q.1 d)
 | ro d=>exact absurd rfl (q.2 d)
 | _=>rfl
theorem gO:soft .un:=⟨fun _=>nofun,fun _=>nofun⟩
theorem gj:soft (.dat d):=⟨fun _=>nofun,fun _=>nofun⟩
theorem Md:soft (.own d):=⟨fun _=>nofun,fun _=>nofun⟩
theorem jN (h1:aR e i=some (.list xs)) (h2:xs.length < sizeLine) (h3:cP e avs=some [(true,d)]) (q:Q (.dat .none) (fR e i (.list (xs++[d])))):WMr uF i avs e Q :=
 ⟨_,_,.list (xs++[d]),.none,h1,h3,by show (if xs.length < sizeLine then _ else _)=_;rw [Og h2],q⟩
theorem fB:∀ (ss:List Str),strsOf (ss.map .str)=some ss
 | []=>rfl
 | s :: ss=>by simp only [List.map_cons,strsOf,fB ss]
theorem Bi (h1:r.view e=some (.str z)) (h2:aK e avs=some [.list (ss.map .str)]) (h3:dZ z ss=true) (q:Q (.dat (.str (Txt.join z ss))) e):Ae joinM r avs e Q:=by
 refine ⟨_,_,.dat (.str (Txt.join z ss)),h1,h2,?_,q⟩;show (match strsOf (ss.map .str) with | some ss=>if dZ z ss=true then some (PR.dat (.str (Txt.join z ss))) else none | none=>none)=_;rw [fB];simp only;rw [Og h3]
theorem bO (h1:aK e [x,y]=some [.list xs,.list ys]) (h2:xs.length+ys.length<=sizeLine) (q:Q (.frs (.list (xs++ys))) e):WPr bq [x,y] e Q :=
 ⟨_,.frs (.list (xs++ys)),h1,by show (if xs.length+ys.length<=sizeLine then _ else _)=_;rw [Og h2],q⟩
theorem fU (h1:aK e [x,y]=some [.str xs,.str ys]) (h2:xs.length+ys.length<=sizeLine) (q:Q (.dat (.str (xs++ys))) e):WPr bq [x,y] e Q :=
 ⟨_,.dat (.str (xs++ys)),h1,by show (if xs.length+ys.length<=sizeLine then _ else _)=_;rw [Og h2],q⟩
theorem KZ (h1:aK e [x,y]=some [d,d']) (h2:mV d=true) (h3:mV d'=true) (q:Q (.dat (.bool (!PyData.eqv d d'))) e):WPr neP [x,y] e Q :=
 ⟨_,.dat (.bool (!PyData.eqv d d')),h1,by show (if mV d=true/\mV d'=true then _ else _)=_;rw [Og ⟨h2,h3⟩];rfl,q⟩
theorem fD (h:((List.range n).map fun (k:Nat)=>PyData.int ((0:Int)+(k:Int)))[i]?=some d):d=.int i/\i < n:=by
 rw [OA] at h;cases q:(List.range n)[i]? with
 | none=>rw [q] at h;cases h
 | some j =>
  rw [q] at h;obtain ⟨hi,e⟩:=N9.mp q;rw [Pt] at hi;have:j=i:=by rw [<- e];simp
  subst this;cases h;exact ⟨by simp,hi⟩
theorem pT:((List.range n).map fun (k:Nat)=>PyData.int ((0:Int)+(k:Int))).length=n:=by rw [N6,Pt]
theorem atV {α:Type} {xs:List α} {r:Int} (h0:0<=r) (h1:r < xs.length):∃ v,v∈xs/\atI xs r=some v:=by
 have hj:r.toNat < xs.length:=by omega
 have ej:r=((r.toNat:Nat):Int):=by omega
 refine ⟨xs[r.toNat],List.getElem_mem hj,?_⟩;have:=bZ (xs:=xs) (j:=r.toNat) (v:=xs[r.toNat]) (Oi hj);rw [<- ej] at this;exact this
theorem kE:∀ (ss:List Str),strsOf (ss.map .str)=some ss
 | []=>rfl
 | s :: ss=>by simp only [List.map_cons,strsOf,kE ss]
theorem rW {α:Type} {xs:List α} {k:Int} (h:0<=k):cutD xs none (some k)=xs.take k.toNat:=by
 unfold cutD;simp only [HT.sIx,List.drop_zero,Nat.sub_zero];rw [Ot (by omega)];by_cases z:k.toNat<=xs.length
 ·congr 1;omega
 ·rw [PY (by omega),PY (by omega)]
theorem ax (x:Str):x.cps.toList.length=x.length:=by simp [Str.length]
theorem BY:∀ {ss:List Str},(∀ s∈ss,s.length<=k)->(ss.map (·.length)).sum<=k*ss.length
 | [],_=>by simp
 | s :: ss,h=>by
  have h1:=h s Od;have h2:=BY fun x hx=>h x (N8 _ hx);simp only [List.map_cons,List.sum_cons,Oc,Nat.mul_succ];omega
mutual
theorem eqv_refl:∀ d:Qq,noD d=true->PyData.eqv d d=true
 | .none,_=>by simp [PyData.eqv]
 | .bool b,_=>by simp [PyData.eqv]
 | .int i,_=>by simp [PyData.eqv]
 | .str x,_=>by simp [PyData.eqv]
 | .list xs,h=>by simpa [PyData.eqv] using eqvAll_refl xs (by simpa [noD] using h)
 | .tuple xs,h=>by simpa [PyData.eqv] using eqvAll_refl xs (by simpa [noD] using h)
 | .dict _,h=>by simp [noD] at h
theorem eqvAll_refl:∀ ds:List Qq,fy ds=true->PyData.eqvAll ds ds=true
 | [],_=>by simp [PyData.eqvAll]
 | d :: ds,h=>by
  have h':noD d=true/\fy ds=true:=by simpa [fy] using h
  simp [PyData.eqvAll,eqv_refl d h'.1,eqvAll_refl ds h'.2]
end
theorem lg:∀ {ds:List Qq},fy ds=true↔∀ d∈ds,noD d=true
 | []=>by simp [fy]
 | d :: ds=>by simp [fy,lg (ds:=ds)]
theorem fC:∀ {ds:List Qq},(∀ d∈ds,d.depth<=k)->PyData.depthAll ds<=k
 | [],_=>by simp [PyData.depthAll]
 | d :: ds,h=>by
  have h1:=h d Od;have h2:=fC fun x hx=>h x (N8 _ hx);simp only [PyData.depthAll];omega
theorem sr (h:∀ d∈ds,d.depth<=k):(PyData.list ds).depth<=k+1:=by
 simp only [PyData.depth];have:=fC h;omega
theorem pK (h:∀ d∈ds,d.depth<=k):(PyData.tuple ds).depth<=k+1:=by
 simp only [PyData.depth];have:=fC h;omega
theorem yF (h1:noD d=true) (h2:d.depth<=64):mV d=true:=by simp [mV,h1,h2]
section
variable {gd:List Qq} {env e1:En} {Q:RV->En->Prop} {a:XE} {as:XA}
def WFs (gd:List Qq) (as:XA) (out:Str) (env:En) (Q:Str->En->Prop):Prop:=∃ x e1,dF gd as out env=some (x,e1)/\Q x e1
theorem NX (h:WFs gd as Str.empty env fun x e=>Q (.dat (.str x)) e):WE gd (.fst as) env Q:=pw h
theorem AW (h:WE gd a env fun r e=>∃ x,r=.dat (.str x)/\(out++x).length<=sizeLine/\WFs gd as (out++x) e R):WFs gd (.cons a as) out env R:=by
 obtain ⟨r,e1,h1,x,rfl,h2,y,e2,h3,h4⟩:=h;refine ⟨y,e2,?_,h4⟩;simp only [dF,h1];rw [Og h2,h3]
theorem LS (h:out.length<=sizeLine) (q:R out env):WFs gd .nil out env R:=⟨out,env,by simp only [dF];rw [Og h],q⟩
theorem jy (h1:aK e1 [x]=some [.int i]) (h2:i.natAbs < 10 ^ 400) (q:Q (.dat (.str (aw i))) e1):WPr AR [x] e1 Q :=
 ⟨_,.dat (.str (aw i)),h1,by show (if i.natAbs < 10 ^ 400 then _ else _)=_;rw [Og h2],q⟩
theorem Gy (h1:aK e [x,y]=some [.int i,.int j]) (h2:-(2 ^ 64) < j) (h3:j < 2 ^ 64) (q:Q (.dat (.int (i*j))) e):WPr vU [x,y] e Q :=
 ⟨_,.dat (.int (i*j)),h1,Og (by simp only [mulC,Qk,OF,OU];exact .inr ⟨h2,h3⟩),q⟩
end
end L2
namespace L2
open PySem PySem.Spec PyProof.Rows
theorem EV (h1:aK e [x]=some [.list (ss.map .str)]) (h2:ss.length < 64) (q:Q (.frs (.list ((j7 ss).map .str))) e):WPr pJ [x] e Q:=by
 refine ⟨_,.frs (.list ((j7 ss).map .str)),h1,?_,q⟩;show zC (.list (ss.map .str))=_;unfold zC;simp only [kE];rw [Og h2]
theorem kg:∀ bs:List Bool,jI (bs.map .bool)=some bs
 | []=>rfl
 | b :: bs=>by
  rw [List.map_cons];unfold jI;rw [kg bs]
theorem Eo (h1:aR e i=some (.list xs)) (h2:xs.length+ys.length<=sizeLine) (h3:cP e avs=some [(b,.list ys)]) (q:Q (.dat .none) (fR e i (.list (xs++ys)))):WMr K0 i avs e Q :=
 ⟨_,_,.list (xs++ys),.none,h1,h3,by show (if xs.length+ys.length<=sizeLine then _ else _)=_;rw [Og h2],q⟩
def uG:List (Option Sl)->En->Prop
 | [],e=>e=[]
 | some s :: r,e=>∃ e',uG r e'/\e=s :: e'
 | none :: r,e=>∃ x e',soft x/\uG r e'/\e=x :: e'
def Az:List (Option Sl)->(En->Prop)->Prop
 | [],P=>P []
 | some s :: ts,P=>Az ts fun e=>P (s :: e)
 | none :: ts,P=>∀ s,soft s->Az ts fun e=>P (s :: e)
theorem uG.out:∀ {ts:List (Option Sl)} {e:En} {P:En->Prop},uG ts e->Az ts P->P e
 | [],_,_,h,q=>by cases (show _=_ from h);exact q
 | some s :: ts,e,P,h,q=>by obtain ⟨r,hr,rfl⟩:=h;exact hr.out (P:=fun e=>P (s :: e)) q
 | none :: ts,e,P,h,q=>by obtain ⟨s,r,hs,hr,rfl⟩:=h;exact hr.out (P:=fun e=>P (s :: e)) (q s hs)
section
variable {gd:List Qq} {e e':En} {E:Kn} {Q:RV->En->Prop} {QA:List AV->En->Prop} {QT:Bool->En->Prop} {QI:List Qq->Option Nat->En->Prop} {N:En->Prop} {i:Nat} {r:RV}
theorem Gw (h:e=e') (q:Ec i r e' N):Ec i r e N:=h▸q
theorem Dy (h:e=e') (q:tw i r e' N):tw i r e N:=h▸q
theorem Ia (h:e=e') (q:C6 is r e' N):C6 is r e N:=h▸q
theorem NA (h:e=e') (q:WA gd as e' QA):WA gd as e QA:=h▸q
theorem M3 (h:e=e') (q:WE gd a e' Q):WE gd a e Q:=h▸q
theorem Nh (h:e=e') (q:WS gd s e' E):WS gd s e E:=h▸q
theorem NL (h:e=e') (q:WT gd t e' QT):WT gd t e QT:=h▸q
theorem Nn (h:e=e') (q:WI gd t e' QI):WI gd t e QI:=h▸q
theorem LC (h:e=e') (q:WPr p avs e' Q):WPr p avs e Q:=h▸q
theorem DY (h:e=e') (q:mB f avs e' Q):mB f avs e Q:=h▸q
theorem Lv (h:e=e') (q:WTp mk avs e' Q):WTp mk avs e Q:=h▸q
theorem K9 (h:e=e') (q:WMr m i avs e' Q):WMr m i avs e Q:=h▸q
theorem JV (h:e=e') (q:Ae m r avs e' Q):Ae m r avs e Q:=h▸q
theorem FT (h:e=e') (q:FZ gd m as r e' Q):FZ gd m as r e Q:=h▸q
theorem HN (h:e=e') (q:EJ ms QF r e'):EJ ms QF r e:=h▸q
theorem CU (h:e=e') (q:sC ms QF e'):sC ms QF e:=h▸q
theorem Hj (h:e=e') (q:IP r e' QI):IP r e QI:=h▸q
theorem FP (h:e=e') (q:E5 gd m i a r e' N):E5 gd m i a r e N:=h▸q
theorem FK (h:e=e') (q:Ce m i v r e' N):Ce m i v r e N:=h▸q
end
theorem isEq (h:WPr (Jb b) avs e Q):WPr (Jb b) avs e Q:=h
theorem at0:atI (x :: xs) 0=some x:=by
 unfold atI ixN;rw [Og (Int.le_refl _),Og (by rw [Oc];omega)];rfl
theorem yC:atI (xs++[x]) (-1)=some x:=by
 unfold atI ixN;rw [Ot (by decide),Og (by rw [N5];simp;omega)];have:((-1:Int)+(((xs++[x]).length:Nat):Int)).toNat=xs.length:=by rw [N5];simp;omega
 rw [this];simp
theorem Ei:PyData.eqv (.str x) (.str y)=decide (x=y):=by
 simp only [PyData.eqv];rfl
def Li (p:Prm) (r r2:RV) (k:Qq->Bool->Prop):Prop:=∃ x y b,r.av=.dat x/\r2.av=.dat y/\p.f [x,y]=some (.dat (.bool b))/\k y b
def Jw (p:Prm) (y:Qq) (r:RV) (e:En) (Q:RV->En->Prop):Prop:=∃ z pr,r.av=.dat z/\p.f [y,z]=some pr/\Q pr.rv e
theorem kC1 {p:Prm} {r r2:RV} {k:Qq->Bool->Prop} {x y:Qq} {b:Bool} (h1:r.av=.dat x) (h2:r2.av=.dat y) (h3:p.f [x,y]=some (.dat (.bool b))) (q:k y b):Li p r r2 k:=⟨_,_,_,h1,h2,h3,q⟩
theorem kC2 {p:Prm} {y z:Qq} {r:RV} {e:En} {Q:RV->En->Prop} {pr:PR} (h1:r.av=.dat z) (h2:p.f [y,z]=some pr) (q:Q pr.rv e):Jw p y r e Q:=⟨_,_,h1,h2,q⟩
theorem Hq (h:WE gd a env fun r e=>WE gd b e fun r2 e2=>Li p r r2 fun y k=>if k=true then WE gd c e2 fun r3 e3=>Jw p' y r3 e3 Q else Q (.dat (.bool false)) e2):WE gd (.chn p p' a b c) env Q:=by
 refine Jl ?_;obtain ⟨r,e,h1,r2,e2,h2,x,y,k,h3,h4,h5,h6⟩:=h;exact ⟨r,e,h1,r2,e2,h2,x,y,k,h3,h4,h5,h6⟩
theorem w_all {e:En} {x:AV} {bs:List Bool} {Q:RV->En->Prop} (h1:aK e [x]=some [.list (bs.map .bool)]) (q:Q (.dat (.bool (bs.all id))) e):WPr Ip [x] e Q:=by
 refine ⟨_,.dat (.bool (bs.all id)),h1,?_,q⟩;show (jI (bs.map .bool)).map _=_;rw [kg];rfl
theorem take_snoc {α:Type} {xs:List α} {i:Nat} {x:α} (h:xs[i]?=some x):xs.take i++[x]=xs.take (i+1):=by
 rw [List.take_add_one,h];rfl
theorem gp {α:Type} {P:α->Prop} {xs:List α} {y:α} (h:∀ x∈xs,P x) (hy:P y):∀ x∈xs++[y],P x:=fun x hm=>by
 rcases Po.mp hm with hm | hm
 ·exact h x hm
 ·rw [Oz.mp hm];exact hy
theorem BW (h1:aK e [x,y]=some [.str z,.int n]) (h2:0<=n) (h3:n<=1000) (h4:z.length<=1000) (q:Q (.dat (.str (mM z n.toNat))) e):WPr sG [x,y] e Q :=
 ⟨_,.dat _,h1,by show (if 0<=n/\n<=1000/\z.length<=1000 then some (PR.dat (.str (mM z n.toNat))) else none)=_;rw [Og ⟨h2,h3,h4⟩],q⟩
def Js:V->Hp->VK->Prop:=fun x H Q=>Dw [x] H Q\/∃ y n,x=.str y/\y.length<=640/\PySem.intText? y=some n/\Q (.int n) H
noncomputable def zB:Qq->Option PR
 | .int i=>some (.dat (.int i)) | .bool k=>some (.dat (.int (if k then 1 else 0)))
 | .str x=>if x.length<=640 then (PySem.intText? x).map fun n=>.dat (.int n) else none
 | _=>none
def ow:Prm:=Prm.one (fun _=>Js) zB fun K F H x u pr Q hf hx hd q=>by
 unfold zB at hf;split at hf
 ·rename_i i;exact .inl (Je.ok K F H [.int i] [u] pr Q hf ⟨u,_,rfl,hx,rfl⟩ hd q)
 ·rename_i k;exact .inl (Je.ok K F H [.bool k] [u] pr Q hf ⟨u,_,rfl,hx,rfl⟩ hd q)
 ·split at hf
  ·rename_i y hl;cases e:PySem.intText? y with
   | none=>rw [e] at hf;cases hf
   | some n =>
    rw [e] at hf;cases hf;exact .inr ⟨y,n,(vStr hx).1,hl,e,q _ H (aZ.rf H) rfl⟩
  ·cases hf
 ·cases hf
theorem lK:bN X (.type "int") (ow.r X.K):=by
 intro pins s Z H xs us Q I r h
 match xs,h with
 | [x],h =>
  rcases h with h | ⟨y,n,rfl,hl,hn,q⟩
  ·exact Cw pins s Z H [x] us Q I r h
  ·cases r with
   | cons r1 rr =>
    cases rr;obtain ⟨t,rfl⟩:=r1;exact PySem.W.KIN.call_text hn hl ⟨.int n,H,I.tok _,⟨_,rfl⟩,q⟩
section
variable {X:Cx} {x:Str} {p pos:Pos} {e:Expr} {es:List Expr} {t:TA} {f:Qx} {fd:FuncData} {ps:List Str} {sp:Sp} {k m:Nat} {r:List V->Hp->VK->Prop} {id T:String}
theorem eVx (i:Nat) (a:X.N[i]?=some x:=by exact rfl) (b:Vis X.env.scope x:=by exact .inl rfl) (c:(x==("__debug__" : Str))=false:=by exact rfl) (d:(x==("__classdict__" : Str))=false:=by exact rfl):JE X (.Name x pos) (gu i):=ER i a b c d
theorem eVy (i:Nat) (a:X.N[i]?=some x:=by exact rfl) (b:Vis X.env.scope x:=by exact .inr (.inl rfl)) (c:(x==("__debug__" : Str))=false:=by exact rfl) (d:(x==("__classdict__" : Str))=false:=by exact rfl):JE X (.Name x pos) (gu i):=ER i a b c d
theorem eBs (hc:bN X (.builtin id) r) (hm:X.mg x=none) (ha:JA X (e :: es) t) (a:Gl X x:=by exact rfl) (hv:bootBuiltins x=some (.builtin id):=by decide +kernel) (h1:PySem.W.isStarred e=false:=by exact rfl) (h2:es.all (fun e=>!PySem.W.isStarred e)=true:=by exact rfl)
  (hn:x ≠ "__name__" := by decide) (c:(x==("__debug__" : Str))=false:=by exact rfl):JE X (.Call (.Name x p) (e :: es) [] pos) (tCB r t):=eB hc a hm hv ha h1 h2 hn c
theorem eTs (hc:bN X (.type T) r) (hm:X.mg x=none) (ha:JA X (e :: es) t) (a:Gl X x:=by exact rfl) (hv:bootBuiltins x=some (.type T):=by decide +kernel) (h1:PySem.W.isStarred e=false:=by exact rfl) (h2:es.all (fun e=>!PySem.W.isStarred e)=true:=by exact rfl)
  (hn:x ≠ "__name__" := by decide) (c:(x==("__debug__" : Str))=false:=by exact rfl):JE X (.Call (.Name x p) (e :: es) [] pos) (tCB r t):=eTy hc a hm hv ha h1 h2 hn c
end
theorem Fun.okX {P:Program} {w:World} {K:Fg} {mg:Str->Option Qz} {base:Heap} {x qual:Str} {st:Stmt} {f:Qx} {fd:FuncData} {N ps:List Str} {k:Nat} {b:XS} {gd:List Qq} {ga:Nat->V} {ms:List PM} {rd:TS}
  (F:Fun K x qual st f fd) (S:b7 N ps (ag st)) (hg:∀ g d,gd[g]?=some d->∀ F H,Dm K F H d (ga g)) (e:rd=rS K ⟨ga,NoE⟩ b)
  (j:∀ {cdv:Qz} {A:Around} {outer:List Env} {s:Qv} {H:Hp} {E:XK},dg k (A.deeper (envOfC qual (ag st) s.heap.objs.size f cdv))->JSs (tS CX0 P w K mg base N qual (ag st) f cdv A outer s H E).nox (aU st) rd)
  (hl:ms.length<=N.length:=by decide) (hp:ms.length=ps.length:=by exact rfl):c8 P w K mg base CX0 (k+1) f fd ps (jY (bJ gd ms N.length b) K) :=
 F.okJ S (fun vs H Q E h=>(rz h).trans hp) fun cdv A outer s H vs Q E hr h=>⟨rd,j hr,by rw [e];exact wz (ga:=⟨ga,NoE⟩) (N:=N) hg h hl⟩
structure Fa (K:Fg) (mg:Str->Option Qz) (x:Str) (st:Stmt) (ps:List Str) (a:Qx×FuncData):Prop where
 F:Fun K x x st a.1 a.2
 c:∀ us:List Qz,us.length=ps.length->bindArgs a.2 ⟨us,[]⟩=pure (ps.zip us)
 m:mg x=some (.ref a.1)
section
variable {K:Fg} {mg:Str->Option Qz} {x:Str} {st:Stmt} {ps:List Str} {a:Qx×FuncData} {h:Heap} {f:Qx} {od an:Option Qx} {sl:Array (Option Qz)} {oc kV dc pm cd ct:Qz}
theorem Fa.b (D:Fa K mg x st ps a):Binds K a.2 ps []:=.all D.c
def EL (K:Fg) (mg:Str->Option Qz):List (Str×Stmt×List Str)->Prop
 | []=>True
 | (x,st,ps) :: r=>(∃ a,Fa K mg x st ps a)/\EL K mg r
theorem J5 (X:K.In h) (G:h.Ns mainGlobals mg) (a:PySem.W.nsIn K mainGlobals x=some (some (.ref f))) (l:K.lookup f=some ⟨oc,od,.func (PySem.W.fnOf x x (bE st) (aU st) (ag st) .none kV dc pm an cd ct),sl⟩) (c:PySem.W.codeIn K cd x=true) (k:PySem.W.keepIn K (.ref f)=true)
  (hb:∀ (kV dc pm:Qz) (an:Option Qx) (cd ct:Qz) (us:List Qz),us.length=ps.length->bindArgs (PySem.W.fnOf x x (bE st) (aU st) (ag st) .none kV dc pm an cd ct) ⟨us,[]⟩=pure (ps.zip us)) (hr:EL K mg r):EL K mg ((x,st,ps) :: r) :=
 ⟨⟨(f,_),eR l c k,hb _ _ _ _ _ _,OR X G a⟩,hr⟩
theorem FD (a0:Qx×FuncData):∀ {l:List (Str×Stmt×List Str)},EL K mg l->∃ f:Nat->Qx×FuncData,∀ i {x st ps},l[i]?=some (x,st,ps)->Fa K mg x st ps (f i)
 | [],_=>⟨fun _=>a0,fun i x st ps h=>by cases h⟩
 | (y,st,ps) :: r,⟨⟨a,ha⟩,hr⟩=>by
  obtain ⟨f,hf⟩:=FD a0 hr;refine ⟨fun i=>i.casesOn a f,fun i x st ps h=>?_⟩;cases i with
  | zero=>cases h;exact ha
  | succ i=>exact hf i h
theorem Nr (D:EL K mg (e :: l)):∃ f:Nat->Qx×FuncData,∀ i {x st ps},(e :: l)[i]?=some (x,st,ps)->Fa K mg x st ps (f i):=by
 obtain ⟨y,st,ps⟩:=e;have ⟨⟨a,_⟩,_⟩:=D;exact FD a D
end
theorem us1 {P:List Qz->Prop} (h:∀ a,P [a]):∀ us:List Qz,us.length=1->P us
 | [a],_=>h a
theorem us2 {P:List Qz->Prop} (h:∀ a b,P [a,b]):∀ us:List Qz,us.length=2->P us
 | [a,b],_=>h a b
theorem us3 {P:List Qz->Prop} (h:∀ a b c,P [a,b,c]):∀ us:List Qz,us.length=3->P us
 | [a,b,c],_=>h a b c
theorem us4 {P:List Qz->Prop} (h:∀ a b c d,P [a,b,c,d]):∀ us:List Qz,us.length=4->P us
 | [a,b,c,d],_=>h a b c d
theorem scm (a:sc.kind=.function:=by exact rfl) (b:sc.isCoroutine=false:=by exact rfl) (c:sc.isGenerator=false:=by exact rfl) (d:N.Nodup:=by decide +kernel) (e:N.take P.length=P:=by exact rfl) (f:∀ x∈P,sc.names.lookup x=some .local\/sc.names.lookup x=some .cell:=by decide +kernel) (g:∀ y∈sc.names,y.2≠.free:=by decide +kernel):b7 N P sc:=⟨a,b,c,d,e,f,g⟩
section
variable {X:Cx} {x:Str} {p p2 pos pos':Pos} {e a b:Expr} {es:List Expr} {t:TA} {te ta tb:TE} {ps:List Str} {sp:Sp} {k m i:Nat} {r:List V->Hp->VK->Prop} {T:String} {st:Stmt} {q:Qx×FuncData}
theorem eCx (F:c8 X.prog X.w X.K X.mg X.base CX0 k q.1 q.2 ps sp) (hr:dg m X.A) (D:Fa X.K X.mg x st ps q) (ha:JA X (e :: es) t)
  (a:k<=m:=by omega) (b:Gl X x:=by exact rfl) (h1:PySem.W.isStarred e=false:=by exact rfl) (h2:es.all (fun e=>!PySem.W.isStarred e)=true:=by exact rfl) (c:(x==("__debug__" : Str))=false:=by exact rfl):JE X (.Call (.Name x p) (e :: es) [] pos) (uB sp [] E0 t) :=
 Fx F (hr.mono a) b D.m D.F.kp D.b .nil zD ha h1 h2 c
theorem eAx (ha:JE X e te) (hr:JA X es t) (h:PySem.W.isStarred e=false:=by exact rfl):JA X (e :: es) (iS te t):=eA ha hr h
theorem eIy (ha:JE X a ta) (hb:JE X b tb) (hs:qG b:=by exact fun _ _=>rfl):JE X (.Subscript a b pos) (tOp (fun x y=>ixP.r X.K [x,y]) ta tb):=eIx Ga ha hb hs
theorem eSx (hN:X.N.Nodup) (i:Nat) (he:JE X e te) (hi:X.N[i]?=some x:=by exact rfl) (hx:Loc X.env.scope x:=by exact .inl rfl) (hs:swapsWith e (some (.Name x pos')) pos.line X.env=pure false:=by exact rfl) (hf:X.fn x=true\/X.env.scope.names.lookup x=some .local:=by exact .inl rfl) :
  JS X (.Assign [.Name x pos'] e pos) (yX te (fX i)):=Kz he hN hi hx hs hf
theorem eSy (hN:X.N.Nodup) (i:Nat) (he:JE X e te) (hi:X.N[i]?=some x:=by exact rfl) (hx:Loc X.env.scope x:=by exact .inr rfl) (hs:swapsWith e (some (.Name x pos')) pos.line X.env=pure false:=by exact rfl) (hf:X.fn x=true\/X.env.scope.names.lookup x=some .local:=by exact .inl rfl) :
  JS X (.Assign [.Name x pos'] e pos) (yX te (fX i)):=Kz he hN hi hx hs hf
theorem eGx (hN:X.N.Nodup) (i:Nat) (hi:X.N[i]?=some x:=by exact rfl) (hx:Loc X.env.scope x:=by exact .inl rfl) (hf:X.fn x=true\/X.env.scope.names.lookup x=some .local:=by exact .inl rfl):JG X (.Name x pos) (fX i):=eGN hN hi hx hf
theorem eTx {op:CmpOp} {r:R2} (ho:OpR X (compareOp op) r) (ha:JE X a ta) (hb:JE X b tb) (hm:behindInMarks op b=false:=by exact cR _):JT X (.Compare a [op] [b] pos) (uE (tOp r ta tb)):=fM ho ha hb hm
theorem eUx (h:JE X e te) (he:∀ whole,isTrue e X.env whole=(do let v<-whole;standAt e.pos;holding [v] (truthy v)):=by exact fun _=>rfl):JT X e (tB te):=zG h he
theorem eIz (hm:X.mg "isinstance" = none) (ha:JE X e te) (hz:X.mg (Str.ofString T)=none) (hg:Gl X "isinstance" := by exact rfl) (hs:PySem.W.isStarred e=false:=by exact rfl)
  (h1:Gl X (Str.ofString T):=by exact rfl) (h2:bootBuiltins (Str.ofString T)=some (.type T):=by decide +kernel) (h3:Str.ofString T ≠ "__name__" := by decide) (h4:(Str.ofString T==("__debug__" : Str))=false:=by exact rfl):JE X (.Call (.Name "isinstance" p) [e,.Name (Str.ofString T) p2] [] pos) (tCB ((wj T).r X.K) (iS te rY)) :=
 LB hg hm ha hs (Im h1 hz h2 rfl h3 h4)
theorem eFx {iter tg:Expr} {body:List Stmt} {wi:TI} {g:TG} {tb:TS} (hi:JI X tg iter wi) (hg:JG X tg g) (hb:JSs X body tb) (hp:PassesOwn (model X.prog X.w) X.A X.env X.xe:=by exact PassesOwn.never) (hc:X.calm=true:=by exact rfl) (hs:∀ x,foldedSetIterable iter X.env x=pure x:=by exact fun _=>rfl):JS X (.For tg iter body [] pos) (Iq wi g tb):=NJ hi hg hb hp hc hs
theorem eUy (ha:JE X a ta):JE X (.UnaryOp .USub a pos) (tCB (IY.r X.K) (iS ta rY)):=eUn Hh ha
theorem eKx (ys:List Str) (hi:JI X (.Name x px) iter wi) (ht:JTs X (x :: ys) scope ifs tt) (he:JC X (x :: ys) scope elt te) (B:ke X scope x) (cap:iQ X scope ys js)
  (hc:X.calm=true:=by exact rfl) (nd:(x :: ys).Nodup:=by decide +kernel) (hs:∀ x,foldedSetIterable iter X.env x=pure x:=by exact fun _=>rfl):JE X (.ListComp elt [⟨.Name x px,iter,ifs,0⟩] scope pos) (Ay js wi tt te):=Kk ys hi ht he hc B nd cap hs
end
abbrev vr (i:Nat):XE:=.var i
abbrev ci (i:Int):XE:=.cst (.i i)
abbrev cs (x:String) (h:(Str.ofString x).length<=sizeLine:=by decide +kernel):XE:=.cst (.s x h (cy x))
abbrev p1 (p:Prm) (a:XE):XE:=.prm p (.cons a .nil)
abbrev p2 (p:Prm) (a b:XE):XE:=.prm p (.cons a (.cons b .nil))
section
variable {X:Cx} {e o value:Expr} {es:List Expr} {f m x:Str} {p pos pos' apos:Pos} {ta tv:TE} {t:TA} {k n i:Nat} {a:Qx} {fd:FuncData} {ps:List Str} {fn:Fn} {pl:Sem Bool}
theorem eFl (c:Cls X.K clsAt) (n:eE X.K clsAt f) (he:JE X e ta) (hb:attributeBase e f X.env (eval e X.env)=eval e X.env:=by exact rfl):JE X (.Attribute e f pos) (tCB ((tL f).r X.K) (iS ta rY)):=Ny c n he hb
theorem eSF (c:Cls X.K clsAt) (n:eE X.K clsAt f) (ha:JE X o (gu i)) (hv:JE X value tv) (hs:swapsWith value (some (.Attribute o f pos')) pos.line X.env=pure false:=by exact rfl) :
  JS X (.Assign [.Attribute o f pos'] value pos) (fun D Z H=>tv Z H fun x H1=>gu i Z H1 fun y H2=>(BE f).r X.K y .non x H2 (D.nx Z)):=Ky c n ha hv hs
theorem eMt (c:Cls X.K clsAt) (hm:Meth X.K clsAt m a) (F:c8 X.prog X.w X.K X.mg X.base CX0 k a fd ps (jY fn X.K)) (hr:dg n X.A) (hb:Binds X.K fd ps []) (he:JE X o (gu i)) (ha:JA X (e :: es) t)
  (hk:k<=n:=by omega) (hst:PySem.W.isStarred e=false:=by exact rfl) (hpl:es.all (fun e=>!PySem.W.isStarred e)=true:=by exact rfl)
  (ht:eval (.Call (.Attribute o m apos) (e :: es) [] pos) X.env=(do
   let ov<-eval o X.env
   standAt apos.atName
   let (f,first)<-holding [ov] (getMethod ov m pl)
   callWith pos f first (backTo pos (starEach (e :: es) X.env)) (backToKw pos (keywordEach [] X.env))):=by exact rfl) :
  JE X (.Call (.Attribute o m apos) (e :: es) [] pos) (fun Z H Q=>gu i Z H fun x H1=>(cC m fn).tq X.K x H1/\t Z H1 fun xs H2=>(cC m fn).r X.K x xs H2 Q) :=
 Ni (pl:=pl) he c hm F (hr.mono hk) hb zD ha (aV hst) (bG hpl) ht
theorem tD (c:Cls X.K clsAt) (hm:Meth X.K clsAt m a) (F:c8 X.prog X.w X.K X.mg X.base CX0 k a fd ps (jY fn X.K)) (hr:dg n X.A) (hb:Binds X.K fd ps []) (he:JE X o (gu i))
  (hk:k<=n:=by omega)
  (ht:eval (.Call (.Attribute o m apos) [] [] pos) X.env=(do
   let ov<-eval o X.env
   standAt apos.atName
   let (f,first)<-holding [ov] (getMethod ov m pl)
   callWith pos f first (backTo pos (starEach [] X.env)) (backToKw pos (keywordEach [] X.env))):=by exact rfl) :
  JE X (.Call (.Attribute o m apos) [] [] pos) (fun Z H Q=>gu i Z H fun x H1=>(cC m fn).tq X.K x H1/\rY Z H1 fun xs H2=>(cC m fn).r X.K x xs H2 Q) :=
 LV (pl:=pl) he c hm F (hr.mono hk) hb zD ht
theorem eNw (M:Mk X.K clsAt a) (F:c8 X.prog X.w X.K X.mg X.base CX0 k a fd ps (jY fn X.K)) (hr:dg n X.A) (hm:X.mg x=some (.ref clsAt)) (hb:Binds X.K fd ps []) (ha:JA X (e :: es) t)
  (hk:k+1<=n:=by omega) (hg:Gl X x:=by exact rfl) (hdb:(x==("__debug__" : Str))=false:=by exact rfl) (hst:PySem.W.isStarred e=false:=by exact rfl) (hpl:es.all (fun e=>!PySem.W.isStarred e)=true:=by exact rfl) :
  JE X (.Call (.Name x p) (e :: es) [] pos) (tCB ((ID fn).r X.K) t):=eNew M F (hr.mono hk) hg hm hb zD ha hdb (aV hst) (bG hpl)
end
end L2
namespace L2
open PySem
section
variable {K:Fg} {F0 I:Qx->Prop} {H ZY H1:Hp} {env e1:En} {Z:St} {ga:Gv} {gd:List Qq}
def Rz (E:XK) (ZY:Hp) (I:Qx->Prop) (p:Int):Prop:=∀ dx H',(∀ b o,ZY b=some o->¬I b->H' b=some o)->H' dx=none->fJ (.int p)=true->E (.ref excAt) (some dx) (upd H' dx (.xd [(cH,.int p)]))
def SXE (K:Fg) (ga:Gv) (gd:List Qq) (e:XE):Prop:=∀ (env:En) (p:Int),xE gd e env=some p->∀ (F0:Qx->Prop) (ZY:Hp) (I:Qx->Prop) (Z:St) (H:Hp) (Q:VK),Rel K F0 ZY I env Z H->Rz ga.E ZY I p->rE K ga e Z H Q
def SXA (K:Fg) (ga:Gv) (gd:List Qq) (e:XA):Prop:=∀ (env:En) (p:Int),xA gd e env=some p->∀ (F0:Qx->Prop) (ZY:Hp) (I:Qx->Prop) (Z:St) (H:Hp) (Q:List V->Hp->Prop),Rel K F0 ZY I env Z H->Rz ga.E ZY I p->rA K ga e Z H Q
def SXS (K:Fg) (ga:Gv) (gd:List Qq) (e:XS):Prop:=∀ (env:En) (p:Int),xS gd e env=some p->∀ (F0:Qx->Prop) (ZY:Hp) (I:Qx->Prop) (Z:St) (H:Hp) (D:Ends),Rel K F0 ZY I env Z H->Rz ga.E ZY I p->rS K ga e D Z H
theorem sg (h:tZ f avs e1=some p) (R1:Rel K F0 ZY I e1 Z H1) (a1:fT K F0 e1 Z H1 avs vs) (q:Rz E ZY I p):spX f K vs H1 Q E:=by
 unfold tZ at h;split at h
 ·cases h
 ·rename_i ds h2;split at h
  ·rename_i hc;obtain ⟨nd,hb,_⟩:=wt hc;have hmu:=qC h2
   exact .inr ⟨FF F0 e1 Z,ds,(cT f.ms avs).map (adr Z),p,h,BD R1 (cT f.ms avs) hmu h2 a1 nd hb (fun _ z=>z),fun b z=>R1.d4 z,
    fun dx H2 hk hd=>q dx H2 (fun b o e n=>hk b o (R1.gP b o e n) fun z=>(R1.iaI (Bg R1 hmu b z)).elim (fun y=>by rw [e] at y;cases y) n) hd⟩
  ·cases h
variable (hg:∀ g d,gd[g]?=some d->∀ F H,Dm K F H d (ga g))
include hg
mutual
theorem sXE:∀ e:XE,SXE K ga gd e:=by
 intro e env p h F0 ZY I Z H Q R q;cases e with
 | bT f as =>
  simp only [xE] at h;split at h
  ·rename_i avs e1 h1;refine sA hg as _ _ _ h1 F0 ZY I Z H _ R fun vs H1 R1 k1 a1=>?_;show spX f K (vs++[]) H1 Q ga.E;rw [OC];exact sg h R1 a1 q
  ·exact sXA as _ _ h F0 ZY I Z H _ R q
 | mtx m f i as =>
  simp only [xE] at h;split at h
  ·rename_i kvs hm;split at h
   ·rename_i hn;obtain ⟨a,s,t⟩:=BC R hm hn;refine ⟨_,s,t,?_⟩;split at h
    ·rename_i avs e1 h1;exact sA hg as _ _ _ h1 F0 ZY I Z H _ R fun vs H1 R1 k1 a1=>sg h R1 ⟨_,_,rfl,s,a1⟩ q
    ·exact sXA as _ _ h F0 ZY I Z H _ R q
   ·cases h
  ·cases h
 | prm p' as=>exact sXA as _ _ (by simpa only [xE] using h) F0 ZY I Z H _ R q
 | tup as=>exact sXA as _ _ (by simpa only [xE] using h) F0 ZY I Z H _ R q
 | mtr m i as =>
  simp only [xE] at h;split at h
  ·rename_i d0 h0;split at h
   ·rename_i hty;obtain ⟨_,a,s,f,t⟩:=R.dC h0;exact ⟨.ref a,s,m.yU K _ H d0 a hty t,sXA as _ _ h F0 ZY I Z H _ R q⟩
   ·cases h
  ·cases h
 | _=>simp only [xE] at h;cases h
theorem sXA:∀ e:XA,SXA K ga gd e:=by
 intro e env p h F0 ZY I Z H Q R q;cases e with
 | nil=>simp only [xA] at h;cases h
 | cons e r =>
  simp only [xA] at h;split at h
  ·rename_i rv e1 h1;exact sE hg e _ _ _ h1 F0 ZY I Z H _ R fun v H1 R1 k1 r1=>sXA r _ _ h F0 ZY I Z H1 _ R1 q
  ·exact sXE e _ _ h F0 ZY I Z H _ R q
end
theorem sXS:∀ s:XS,SXS K ga gd s:=by
 intro s;induction s with
 | seq a b xa xb =>
  intro env p h F0 ZY I Z H D R q;simp only [xS] at h;split at h
  ·rename_i e hs;exact sS hg a _ _ hs F0 ZY I Z H _ R fun Z' H' R' k'=>xb _ _ h F0 ZY I Z' H' D R' q
  ·cases h
  ·exact xa _ _ h F0 ZY I Z H _ R q
 | aY i e=>intro env p h F0 ZY I Z H D R q;exact sXE hg e _ _ (by simpa only [xS] using h) F0 ZY I Z H _ R q
 | drop e=>intro env p h F0 ZY I Z H D R q;exact sXE hg e _ _ (by simpa only [xS] using h) F0 ZY I Z H _ R q
 | ret e=>intro env p h F0 ZY I Z H D R q;exact sXE hg e _ _ (by simpa only [xS] using h) F0 ZY I Z H _ R q
 | ifs c a b xa xb =>
  intro env p h F0 ZY I Z H D R q;simp only [xS] at h;split at h
  ·rename_i e1 h1;refine sT hg c _ _ _ h1 F0 ZY I Z H _ R fun H1 R1 k1=>?_;rw [Og rfl];exact xa _ _ h F0 ZY I Z H1 D R1 q
  ·rename_i e1 h1;refine sT hg c _ _ _ h1 F0 ZY I Z H _ R fun H1 R1 k1=>?_;rw [Ot (by decide)];exact xb _ _ h F0 ZY I Z H1 D R1 q
  ·cases h
 | wh n c b xb =>
  intro env p h F0 ZY I Z H D R q;simp only [xS] at h;refine ⟨fun m Z' H'=>∃ env',whX (dT gd c) (dS gd b) (xS gd b) m env'=some p/\Rel K F0 ZY I env' Z' H',⟨n,env,h,R⟩,?_⟩;rintro m Z' H' ⟨env',hw,R'⟩;cases m with
  | zero=>cases hw
  | succ m =>
   unfold whX at hw;split at hw
   ·rename_i e1 h1;refine sT hg c _ _ _ h1 F0 ZY I Z' H' _ R' fun H2 R2 k2=>?_;rw [Og rfl];refine ⟨fun Z3 H3=>∃ env3,whX (dT gd c) (dS gd b) (xS gd b) m env3=some p/\Rel K F0 ZY I env3 Z3 H3,fun Z3 H3 z=>⟨m,Pj _,z⟩,?_⟩;split at hw
    ·rename_i e hb;exact sS hg b _ _ hb F0 ZY I Z' H2 _ R2 fun Z3 H3 R3 k3=>⟨e,hw,R3⟩
    ·cases hw
    ·exact xb _ _ hw F0 ZY I Z' H2 _ R2 q
   ·cases hw
 | rse e =>
  intro env p h F0 ZY I Z H D R q;simp only [xS] at h;split at h
  ·rename_i rv e1 h1;split at h
   ·rename_i i hv;split at h
    ·rename_i hp;cases h;refine sE hg e _ _ _ h1 F0 ZY I Z H _ R fun v H1 R1 k1 r1=>?_;have a1:=r1.av;rw [hv] at a1;cases (show v=.int p from a1);exact ⟨hp,fun dx hd=>q dx H1 R1.gP hd hp⟩
    ·cases h
   ·cases h
  ·cases h
 | _=>intro env p h;simp only [xS] at h;cases h
omit hg in
theorem AG (hg:∀ g d,gd[g]?=some d->∀ F H,Dm K F H d (ga g)) (h:spX (bJ gd ms N.length b) K vs H Q ga.E) (hn:ms.length<=N.length):rS K ga b { nx:=fun _ H'=>Q .non H',rt:=Q } (start N vs) H:=by
 rcases h with h | ⟨G,ds,is,p,hX,ha,hd,post⟩
 ·exact wz hg h hn
 ·have ha:bD K G (·∈is) H ms ds vs is:=ha;simp only [bJ] at hX;rw [Og ha.len.1] at hX;exact sXS hg b _ _ hX G H (·∈is) _ H _ (oA ha hd hn) post
omit hg in
theorem DJ (h:spX f K vs H Q E):vs.length=f.ms.length:=by
 rcases h with h | ⟨G,ds,is,p,_,ha,_⟩
 ·exact rz h
 ·exact ha.len.2
end
end L2
namespace L2
open PySem PySem.Spec PyProof.Rows
section
variable {prog:Program} {w:World} {A:Around} {E:Qz->Qv->Prop} {h:Heap} {g:Array GenState} {d:Drawn} {t:Nat} {os:OsState} {a:Qx} {o:Obj}
 {nm q:Str} {C N:Qx} {bs bm bmB:List Qz} {hdct:Bool} {sn:List Str} {sub:List Qz} {ab:Bool} {col:Option Bool} {dd:Option Qx} {k0 k1 k2 k3 k5:Option Qz} {B newId:String} {K:Fg}
theorem Aa (hC:h.get? C=some (excClassObj nm q C N bs bm hdct sn sub ab col dd k0 k1 k2 k3 k5 newId)) (hb:bm.contains (.type "object")=true)
  (hx:h.get? a=some o) (hc:o.cls=.ref C) (hq:R (.ok (.ret (.ref C))) ⟨h,g,d,t,os⟩) :
  codeAny (model prog w) A (.call (.builtin "getset_descriptor.__get__") ⟨[.builtin "object.__class__", .ref a,.ref C],[]⟩) R ⟨h,g,d,t,os⟩:=by
 have hT5:(⟨h,g,d,t,os⟩:Qv).TypeIs (.builtin "object.__class__") "getset_descriptor" := F.typeOf_object_class;have hcB:(Value.ref C :: bm).contains (.type (".".intercalate ("object.__class__".cutAt '.').dropLast))=true:=by
  rw [F.owner_object_class,P9,hb,Bool.or_true]
 refine P1 F.slot_gs_get.plain F.entry_gs_get (F.slot_gs_get.check _ _ _ _ _ _ _ _ hT5 (F.args_gs_get _ _ _) ?_)
 repeat (any_goals (first | assumption | (with_reducible refine OT hx ?_;rw [hc]) | (with_reducible refine PB hC ?_;rw [hcB]) | wp_step))
 refine ⟨Code.quiet_builtin _ (by decide +kernel),codeAny_builtin F.entry_object_class ?_⟩
 repeat (any_goals (first | assumption | (with_reducible refine OT hx ?_;rw [hc]) | wp_step))
theorem sW (X:K.In h) (hcl:PySem.W.findIn K (.ref C) "__class__" = some (some (.builtin "object.__class__")))
  (hC:h.get? C=some (excClassObj nm q C N bs bm hdct sn sub ab col dd k0 k1 k2 k3 k5 newId)) (hb:bm.contains (.type "object")=true)
  (hx:h.get? a=some o) (hc:o.cls=.ref C) (hq:Q (.done (.ret (.ref C))) ⟨h,g,d,t,os⟩) :
  wpAny (model prog w) A (Builtin.«object.__getattribute__» ⟨[.ref a,.str "__class__" tk],[]⟩) Q E ⟨h,g,d,t,os⟩:=by
 have hT5:(⟨h,g,d,t,os⟩:Qv).TypeIs (.builtin "object.__class__") "getset_descriptor" := F.typeOf_object_class;have f5:=F.typeOf_object_class;have f6:=F.slot_gs_get.lookup;have f7:=F.slot_gs_set.lookup;have L1:=Pp (M:=model prog w) X hcl
 repeat (any_goals (first | assumption | (with_reducible refine OT hx ?_;rw [hc]) | with_reducible refine L1.at ?_ | wp_step))
 refine Aa hC hb hx hc ?_
 repeat (any_goals (first | assumption | wp_step))
theorem kK (hC:h.get? C=some (excClassObj nm q C N bs bm hdct sn sub ab col dd k0 k1 k2 k3 k5 newId)) (hb:bm.contains (.type "BaseException")=true)
  (hx:h.get? a=some o) (hc:o.cls=.ref C) (hq:Q () ⟨h,g,d,t,os⟩):wpAny M A (checkBuiltinCall "BaseException.__getattribute__" ⟨[.ref a,nameV],[]⟩) Q E ⟨h,g,d,t,os⟩:=by
 have hk:builtinKind "BaseException.__getattribute__" = some .slot:=by decide +kernel
 have hsplit:splitId "BaseException.__getattribute__" = some ("BaseException", "__getattribute__"):=by decide +kernel
 have hcB:(Value.ref C :: bm).contains (.type "BaseException")=true:=by rw [P9,hb,Bool.or_true]
 have ha:=F.args_bexc_ga (.ref a) nameV;simp only [checkBuiltinCall,hk,hsplit];refine Oh ?_
 ·unfold isInstance
  repeat (first | (with_reducible refine OT hx ?_;rw [hc]) | (with_reducible refine PB hC ?_;rw [hcB]) | wp_step)
  exact hq
theorem D4 {tk:Tok} {fill expr:Bool} {Q:Qz->Qv->Prop} (X:K.In h) (hcl:PySem.W.findIn K (.ref C) "__class__" = some (some (.builtin "object.__class__")))
  (hga:PySem.W.findIn K (.ref C) "__getattribute__" = some (some (.builtin "BaseException.__getattribute__"))) (hgg:PySem.W.findIn K (.ref C) "__getattr__" = some none)
  (hC:h.get? C=some (excClassObj nm q C N bs bm hdct sn sub ab col dd k0 k1 k2 k3 k5 newId)) (hb:bm.contains (.type "object")=true) (hb2:bm.contains (.type "BaseException")=true)
  (hx:h.get? a=some o) (hc:o.cls=.ref C) (hq:Q (.ref C) ⟨h,g,d,t,os⟩) :
  wpAny (model prog w) A (getAttrBy (.ref a) (.str "__class__" tk) fill expr) Q E ⟨h,g,d,t,os⟩:=by
 have f3:=F.excAttr_ValueError.ga.bind (.ref a);have hx0:(expr&&onTheHeap (Value.builtin "BaseException.__getattribute__"))=false:=by cases expr <;> rfl
 have hx2:(Value.builtin "BaseException.__getattribute__" == Value.builtin "object.__getattribute__")=false:=by decide +kernel
 have hx1:(onTheHeap (Value.ref C)&&Value.builtin "BaseException.__getattribute__" == Value.builtin "object.__getattribute__")=false:=by rw [hx2];rfl
 have L1:=Pp (M:=model prog w) X hga;have L2:=Pp (M:=model prog w) X hgg
 repeat (any_goals (first | assumption | (with_reducible refine OT hx ?_;rw [hc]) | with_reducible refine L1.at ?_ | with_reducible refine L2.at ?_ | wp_step))
 refine P1 F.excAttr_ValueError.ga.plain F.entry_bexc_ga (kK hC hb2 hx hc (sW X hcl hC hb hx hc ?_))
 repeat (any_goals (first | assumption | wp_step))
theorem wF {Q:Option Qz->Qv->Prop} (X:K.In h) (hcl:PySem.W.findIn K (.ref C) "__class__" = some (some (.builtin "object.__class__")))
  (hga:PySem.W.findIn K (.ref C) "__getattribute__" = some (some (.builtin "BaseException.__getattribute__"))) (hgg:PySem.W.findIn K (.ref C) "__getattr__" = some none)
  (hC:h.get? C=some (excClassObj nm q C N bs bm hdct sn sub ab col dd k0 k1 k2 k3 k5 newId)) (hb:bm.contains (.type "object")=true) (hb2:bm.contains (.type "BaseException")=true)
  (hx:h.get? a=some o) (hc:o.cls=.ref C) (hq:Q (some (.ref C)) ⟨h,g,d,t+1,os⟩) :
  wpAny (model prog w) A (getAttr? (.ref a) "__class__") Q E ⟨h,g,d,t,os⟩:=by
 unfold getAttr? getAttrBy?
 repeat (any_goals (first | assumption | with_reducible apply D4 X hcl hga hgg hC hb hb2 hx hc | wp_step))
theorem HF
  (hC:h.get? C=some (excClassObj nm q C N bs bm hdct sn sub ab col dd k0 k1 k2 k3 k5 newId)) (hD:h.get? D=some (excClassObj nm' q' D N' bs' bm' hdct' sn' sub' ab' col' dd' k0' k1' k2' k3' k5' newId'))
  (he:h.get? e=some oe) (hcls:oe.cls=.ref C) (hbase:bm'.contains (.type "BaseException")=true) (hm:(Value.ref C :: bm).contains (.ref D)=b)
  (hq:Q b ⟨h,g,d,t,os⟩):wpAny M A (excMatches (.ref e) (.ref D)) Q E ⟨h,g,d,t,os⟩:=by
 have hcB:(Value.ref D :: bm').contains (.type "BaseException")=true:=by rw [P9,hbase,Bool.or_true]
 have f:=tc_notTuple;unfold excMatches
 repeat (first | (with_reducible refine OT he ?_;rw [hcls]) | with_reducible refine OT hD ?_ | (with_reducible refine PB hD ?_;rw [hcB]) | (with_reducible refine PB hC ?_;rw [hm]) | wp_step)
 cases b <;> first | exact hq | (wp_walk;exact hq)
end
abbrev bmV:List Qz:=[.type "ValueError", .type "Exception", .type "BaseException", .type "object"]
theorem cN.got (x:cN P w H h a o):∃ ob,h.get? a=some ob:=by
 cases o with
 | lst xs=>obtain ⟨_,_,_,_,e⟩:=x;exact ⟨_,e⟩
 | tup xs=>obtain ⟨_,_,_,ob,e,_⟩:=x;exact ⟨_,e⟩
 | dK kvs=>obtain ⟨_,_,_,_,o,_,_,e,_⟩:=x;exact ⟨_,e⟩
 | dT kvs=>obtain ⟨_,_,_,_,o,_,_,e,_⟩:=x;exact ⟨_,e⟩
 | dD ep xs=>obtain ⟨_,_,_,o,_,e,_⟩:=x;exact ⟨_,e⟩
 | set S n=>obtain ⟨o,_,_,_,e,_⟩:=x;exact ⟨_,e⟩
 | ins C dx fs=>obtain ⟨_,_,_,e,_⟩:=x;exact ⟨_,e⟩
 | own y=>exact x
 | xd fs=>obtain ⟨_,⟨_,_,_,e,_⟩,_⟩:=x;exact ⟨_,e⟩
 | rng lo hi=>obtain ⟨_,_,_,e⟩:=x;exact ⟨_,e⟩
 | frz ob u=>exact ⟨_,x.1⟩
 | tbl ps=>exact ⟨_,x⟩
 | met f y=>exact ⟨_,x⟩
 | ext φ=>exact x.2.1
theorem gk {h b0 b1:Heap}:∀ {l:List Env},h.FunFrames b0 l->(∀ L∈frs l,b1.get? L=none)->h.FunFrames b1 l
 | [],_,_=>trivial
 | env :: rest,⟨hk,⟨L,o,hf,hn,ho,hd⟩,hr⟩,k=>by
  refine ⟨hk,⟨L,o,hf,k L ?_,ho,hd⟩,gk hr fun L' h'=>k L' ?_⟩
  ·unfold frs;rw [Pu,hf];exact Od
  ·unfold frs at h' ⊢;rw [Pu,hf];exact N8 _ h'
theorem Bw {outer:List Env} {H H':Hp} {h h2 h3 b b0:Heap} (u:Un (frs outer) [] H H' h h2) (k:∀ c o,h.get? c=some o->c ∉ frs outer->∃ o',b.get? c=some o') (st:b.StaysIn h2) (st3:b.StaysIn h3) (sl:h2.UpToSlots h3)
  (ff:h2.FunFrames b0 outer) (fr:∀ c∈frs outer,H c=none):Un (frs outer) [] H H' h h3 where
 keep:=fun c o e n hc hx=>by
  obtain ⟨o',q⟩:=k c o e hc;have z:=u.keep c o e n hc hx;rw [st c o' q] at z;cases z;exact st3 c _ q
 slot:=fun c o e n hc hx=>by
  obtain ⟨s1,z⟩:=u.slot c o e n hc hx;obtain ⟨_,o2,e2,d2⟩:=ff.mem hc;rw [z] at e2;cases e2;obtain ⟨s2,z2⟩:=sl c _ z d2;exact ⟨s2,z2⟩
 free:=u.free
 there:=fun c o e hx=>by
  by_cases hc:c∈frs outer
  ·obtain ⟨s1,z⟩:=u.slot c o e (fr c hc) hc hx;obtain ⟨_,o2,e2,d2⟩:=ff.mem hc;rw [z] at e2;cases e2;obtain ⟨s2,z2⟩:=sl c _ z d2;exact ⟨_,z2⟩
  ·obtain ⟨o',q⟩:=k c o e hc;exact ⟨o',st3 c o' q⟩
 rQ:=u.rQ
 pN:=u.pN
 tU:=u.tU
abbrev Xs (X:Cx) (ea:Qx) (oe:Obj) (n:Str):Cx:={ X with A:=X.A.mark (some (.ref ea)),calm:=false,pn:=(ea,oe) :: X.pn,N:=X.N++[n],xe:=fun _ _=>False }
section
variable {X:Cx} {pins:List (Qx×Obj)} {Z:St} {H H':Hp} {s s2:Qv} {ea:Qx} {oe:Obj} {n:Str}
theorem Cx.Ok.pA (ok:X.Ok):(Xs X ea oe n).Ok :=
 ⟨ok.mod,ok.kind,ok.glob,ok.blt,ok.above,ok.inj,ok.has,ok.cab,fun z=>(by cases z),ok.frames,ok.stk,ok.exf,ok.bs,ok.bsz,ok.Dg,ok.EG,ok.qF,ok.frf⟩
theorem Inv.pA (I:Inv X pins Z H s) (h1:s.heap.get? ea=some oe) (h2:H ea=none) (h3:ea≠X.env.locals) (h4:ea ∉ X.fs) (h5:∀ v,oe.data≠.cell v):Inv (Xs X ea oe n) pins (Z++[none]) H s:=by
 refine ⟨I.ok.pA,I.os,I.bare,I.base,?_,I.cell,I.free,I.fZ,fun p hp=>?_,I.hok,?_⟩
 ·obtain ⟨m,hn,hl⟩:=I.loc;refine ⟨m,hn,fun i x v e1 e2 e3=>?_⟩;by_cases hi:i < Z.length
  ·rw [Oq hi] at e2;have e1:(X.N++[n])[i]?=some x:=e1;rw [Oq (by rw [<- I.len];exact hi)] at e1;exact hl i x v e1 e2 e3
  ·rw [Oa (by omega)] at e2;cases q:i - Z.length with
   | zero=>rw [q] at e2;cases e2
   | succ k=>rw [q] at e2;cases e2
 ·have hp:p∈(ea,oe) :: (X.pn++pins):=hp;rcases Oo.mp hp with z | z
  ·subst z;exact ⟨h1,h2,h3,h4,h5⟩
  ·exact I.pin p z
 ·show (Z++[none]).length=(X.N++[n]).length;rw [N5,N5,I.len];rfl
theorem tF (I:Inv (Xs X ea oe n) pins τ H s) (hl:X.env.kindOf n=some .local) (hn:n ∉ X.N)
  (h:∀ s',Inv X pins (τ.take X.N.length) H s'->Q () s') (ok:X.Ok):wpAny M A (do bindName X.env n .none;unbindBehindTheSuite X.env n pos) Q E s:=by
 obtain ⟨m,hns,hlo⟩:=id I.loc;have hcls:(X.env.scope.kind==.class||(X.env.scope.kind==.module&&X.env.locals != X.env.globals))=false:=by rw [ok.kind];rfl
 refine wpAny_nameGoes_keeps hl hns hcls fun h' v hn' hs=>h _ ?_;have ab:=ok.above;have neL:∀ b o,X.s0.heap.get? b=some o->b≠X.env.locals:=fun b o e=>OQ (Ov (Ou e) ab);have cne:∀ y c,X.env.cells.lookup y=some c->c≠X.env.locals:=I.cne;obtain ⟨oL,_,_,hoL,_⟩:=id hns;refine ⟨ok,I.os,I.bare,⟨fun b o e n hb hx=>?_,fun b o e n hb hx=>?_,I.base.free,fun b o e hx=>?_,I.base.rQ,I.base.pN,I.base.tU⟩,⟨_,hn',fun j y v' e1 e2 e3=>?_⟩,fun y c e=>?_,I.free,I.fZ,fun p hp=>?_,fun b ob e=>?_,?_⟩
 ·exact (hs.2 b (neL b o e)).trans (I.base.keep b o e n hb hx)
 ·obtain ⟨sl,e1⟩:=I.base.slot b o e n hb hx;exact ⟨sl,(hs.2 b (neL b o e)).trans e1⟩
 ·obtain ⟨o',e1⟩:=I.base.there b o e hx;exact ⟨o',(hs.2 b (neL b o e)).trans e1⟩
 ·have hj:j < X.N.length:=(N9.mp e1).1;rw [List.getElem?_take_of_lt hj] at e2;obtain ⟨u',r',q⟩:=hlo j y v' (show (X.N++[n])[j]?=some y by rw [Oq hj];exact e1) e2 e3;have ne:y≠n:=fun z=>hn (z▸OH e1);refine ⟨u',r',?_⟩;rcases q with ⟨k,e⟩ | ⟨k,c,e,z⟩
  ·exact .inl ⟨k,by simp [ne,e]⟩
  ·exact .inr ⟨k,c,e,z.sameBut hs (cne y c e)⟩
 ·obtain ⟨w',z⟩:=I.cell y c e;exact ⟨w',z.sameBut hs (cne y c e)⟩
 ·obtain ⟨e,n,ne,nf,d⟩:=I.pin p (N8 _ hp);exact ⟨(hs.2 p.1 ne).trans e,n,ne,nf,d⟩
 ·refine (I.hok b ob e).nK (fun c w' hc q=>(hs.2 c ?_).trans q) (fun _ q=>q) fun _ _ q=>q;have fr:H X.env.locals=none:=I.free;rintro rfl;rcases hc with rfl | hc
  ·rw [fr] at e;cases e
  ·rw [fr] at hc;cases hc
 ·have q:τ.length=(X.N++[n]).length:=I.len;rw [N5] at q;rw [O2];have:[n].length=1:=rfl;omega
theorem pj (I:Inv X pins Z H1 s1) (ho:s2.os=s1.os) (hb:AllBare s2.gens) (u:Un (frs X.stack) [] H1 H' s1.heap s2.heap)
  (k:∀ c o,s1.heap.get? c=some o->c ∉ frs X.stack->∃ o',b.get? c=some o') (hok:HOk X.prog X.w H' b) (fl:Heap.FlyingW b X.stack ea (.ref C) (.ref t) s2.heap) (st3:b.StaysIn h3) (sl:s2.heap.UpToSlots h3) :
  Inv X pins Z H' { s2 with heap:=h3 } :=
 I.JJ (s':={ s2 with heap:=h3 }) (ch:=[]) ho (Bw u k fl.1 st3 sl fl.2.2.1 I.kY) (hok.kept st3) hb fun b z=>absurd z (by simp)
end
section
variable {prog:Program} {w:World} {A:Around} {E:Qz->Qv->Prop} {s:Qv} {K:Fg} {C e:Qx} {f:Str} {v:Qz} {vs:Array Qz}
noncomputable def AH:List Qz->Bool
 | .ref _ :: l=>AH l
 | l=>l==bmV
def Ja (K:Fg) (C:Qx):Bool:=(PySem.W.clsIn K C).any fun c=>AH c.mro
theorem Aj (a:Qz) (l:List Qz) (h:AH l=true):refuseLoop a "__setattr__" l=pure ()/\l.contains (.type "object")=true:=by
 induction l with
 | nil=>cases Px.mp (show ([]==bmV)=true from h)
 | cons x l ih =>
  unfold AH at h;split at h
  ·rename_i z;cases z;obtain ⟨g1,g2⟩:=ih h;exact ⟨(refuseLoop_ref ..).trans g1,by rw [P9,g2,Bool.or_true]⟩
  ·rw [Px.mp h];exact ⟨F.store_ValueError.passes a,by decide +kernel⟩
theorem NQ (X:K.In s.heap) (J:PySem.W.InstAt s.heap e ob C od) (hp:Ja K C=true) (ht:PySem.W.takerIn K C f=some none)
  (go:∀ b,wpAny (model prog w) A.in1 (Builtin.ObjectAttr.storeInOwnDict (.ref e) (.ref C) (.str f tk) f v b) (fun z s1=>match z with | .done y=>R (.ok y) s1 | .again y=>y.quiet=true/\codeAny (model prog w) A y R s1) (fun y s1=>R (.error y) s1) s) :
  codeAny (model prog w) A (.call (.builtin "object.__setattr__") ⟨[.ref e,.str f tk,v],[]⟩) R s:=by
 have SO:=F.store_object;obtain ⟨c,hc,hv⟩:=PySem.W.any_some hp;obtain ⟨g1,g2⟩:=Aj (.ref e) _ hv;have ty:=J.type (M:=model prog w);have hm:PySem.W.Looks (model prog w) s.heap (mroOf (.ref C)) c.mro:=(PySem.W.looks_clsIn X hc).andThen .now;have isO:PySem.W.mroIn K C (.type "object")=some true:=by
  unfold PySem.W.mroIn;rw [hc];show (if c.mro.isEmpty then none else some (c.mro.contains (.type "object")))=some true;cases z:c.mro with
  | nil=>rw [z] at g2;cases g2
  | cons a l=>rw [z] at g2;rw [g2];rfl
 refine P1 SO.slot.plain SO.entry (@PySem.W.check_slot (model prog w) _ _ s "object.__setattr__" "object" "__setattr__" (.ref e) _ [] _ SO.kind SO.split (ty.andThen (PySem.W.looks_mroIn X isO)) (SO.args ..) ?_);obtain ⟨at',ha,hr⟩:=Option.bind_eq_some_iff.mp ht;have L3:PySem.W.Looks (model prog w) s.heap (Builtin.ObjectAttr.storeTaker? at') none:=by
  cases at' with
  | none=>exact .now
  | some a =>
   obtain ⟨b,hb,hn⟩:=OG.mp hr;refine (PySem.W.looks_takesIn X hb).andThen ?_;cases b with
   | false=>exact .now
   | true=>cases hn
 rw [PySem.W.osa_eq,refuse_eq];refine Oh (Oh (ty.here (Oh (hm.here ?_))));rw [g1];exact OB (Oh (ty.here (Oh ((Pp X ha).here (Oh (L3.here (go _)))))))
theorem NW (X:K.In s.heap) (he:s.heap.get? e=some { cls:=.ref C,data:=.fields vs })
  (hs:PySem.W.findIn K (.ref C) "__setattr__" = some (some (.builtin "object.__setattr__"))) (hp:Ja K C=true) (ht:PySem.W.takerIn K C f=some none) (hh:PySem.W.hasDictIn K C=true)
  (h:∀ h' tk,(∀ b o,b≠e->s.heap.get? b=some o->h'.get? b=some o)->h'.get? e=some { cls:=.ref C,dict:=some s.heap.objs.size,data:=.fields vs }->h'.Ns1 s.heap.objs.size (fun y=>if y=f then some v else none)->Q () { s with heap:=h',toks:=tk }) :
  wpAny (model prog w) A (setAttr (.ref e) f v) Q E s:=by
 have J:PySem.W.InstAt s.heap e { cls:=.ref C,data:=.fields vs } C none:=⟨he,rfl,rfl,trivial⟩;refine PySem.W.set_plain X J hs (NQ (s:={ s with toks:=s.toks+1 }) X J hp ht fun b=>?_);obtain ⟨cd,hc,hd'⟩:=PySem.W.any_some hh;refine Oh (OB (Oh (Oh (wpAny_loadPart he (Oh (PySem.W.Looks.here (s:={ s with toks:=s.toks+1 }) (PySem.W.looks_clsIn X hc) ?_))))));rw [hd'];show wpAny _ _ (alloc { cls:=Value.type "dict", data:=Data.dict #[] }>>=_) _ _ _;refine Oh (wpAny_alloc ?_);have he1:(s.heap.push { cls:=.type "dict", data:=.dict #[] }).get? e=some { cls:=.ref C,data:=.fields vs }:=Of _ he;have ne:e≠s.heap.objs.size:=OQ (Ou he);refine Oh (wpAny_update he1 (OB ?_));have he2:=PZ (fun o:Obj=>{ o with dict:=some s.heap.objs.size }) he1 rfl;have hd2:((s.heap.push { cls:=.type "dict", data:=.dict #[] }).update e (fun o:Obj=>{ o with dict:=some s.heap.objs.size })).get? s.heap.objs.size=some { cls:=.type "dict", data:=.dict #[] }:=(O4 _ _ ne).trans (OK _ rfl);have N0:((s.heap.push { cls:=.type "dict", data:=.dict #[] }).update e (fun o:Obj=>{ o with dict:=some s.heap.objs.size })).Ns1 s.heap.objs.size (fun _=>none):=Heap.Ns1.of_empty ⟨_,#[],_,hd2,rfl,fun e he=>absurd he (by simp),fun _=>rfl⟩;refine Oh (OB (Oh ?_));refine wpAny_nsSet1 (s:={ s with heap:=_,toks:=s.toks+1 }) N0 fun h' hn2 hs2=>?_;obtain ⟨oD,esD,epD,hoD,hdD,hcD⟩:=hn2.count (PySem.Within.cons f v (m:=fun _=>none) (ns:=[]) (fun x hx=>absurd rfl hx));refine Oh (wpAny_lookBehind hoD (by rw [hdD];exact pastItsLine_dict (Oy hcD (by show 1<=sizeLine+1;decide))) ?_);refine OB (h _ _ (fun b o hb q=>?_) ((hs2.2 e ne).trans he2) hn2);have hbn:b≠s.heap.objs.size:=OQ (Ou q);rw [hs2.2 b hbn];exact (O4 _ _ (Ne.symm hb)).trans (Of _ q)
theorem NF {h:Heap} {g:Array GenState} {d:Drawn} {t:Nat} {os:OsState} {ox:Obj} {od:Option Obj} {expr:Bool} {nm q:Str} {N:Qx} {bs bm:List Qz} {hdct:Bool} {sn:List Str} {sub:List Qz} {ab:Bool} {col:Option Bool} {dd:Option Qx} {k0 k1 k2 k3 k5:Option Qz} {newId:String} {Q:Qz->Qv->Prop} (X:K.In h) (J:PySem.W.InstAt h e ox C od)
  (hga:PySem.W.findIn K (.ref C) "__getattribute__" = some (some (.builtin "BaseException.__getattribute__"))) (hgg:PySem.W.findIn K (.ref C) "__getattr__" = some none)
  (hC:h.get? C=some (excClassObj nm q C N bs bm hdct sn sub ab col dd k0 k1 k2 k3 k5 newId)) (hb2:bm.contains (.type "BaseException")=true)
  (hf:PySem.W.findObj K C od f=some (.value v)) (hv:PySem.W.handedIn v=true) (hq:Q v ⟨h,g,d,t+1,os⟩):wpAny (model prog w) A (getAttr (.ref e) f expr) Q E ⟨h,g,d,t,os⟩:=by
 have f3:=F.excAttr_ValueError.ga.bind (.ref e);have hx0:(expr&&onTheHeap (Value.builtin "BaseException.__getattribute__"))=false:=by cases expr <;> rfl
 have hx2:(Value.builtin "BaseException.__getattribute__" == Value.builtin "object.__getattribute__")=false:=by decide +kernel
 have hx1:(onTheHeap (Value.ref C)&&Value.builtin "BaseException.__getattribute__" == Value.builtin "object.__getattribute__")=false:=by rw [hx2];rfl
 have L1:=Pp (M:=model prog w) X hga;have L2:=Pp (M:=model prog w) X hgg;have L3:=PySem.W.looks_find (M:=model prog w) X J hf;have hx:=J.at_;have hc:=J.cls;have ho:=PySem.W.handedOut_of hv;unfold getAttr
 repeat (any_goals (first | assumption | (with_reducible refine OT hx ?_;rw [hc]) | with_reducible refine L1.at ?_ | with_reducible refine L2.at ?_ | wp_step))
 refine P1 F.excAttr_ValueError.ga.plain F.entry_bexc_ga (kK hC hb2 hx hc ?_);refine Oh (OB (Oh (OB (Oh (J.type.at (Oh (L3.at (OB ?_))))))));show wpAny _ _ (handedOut v) _ _ _;rw [ho];exact OB hq
end
section
variable {prog:Program} {w:World} {A:Around} {E:Qz->Qv->Prop} {h:Heap} {g:Array GenState} {d:Drawn} {t:Nat} {os:OsState} {e C N t0:Qx} {nm q:Str} {bs bm:List Qz} {hdct:Bool} {sn:List Str} {sub:List Qz} {ab:Bool} {col:Option Bool} {dd:Option Qx} {k0 k1 k2 k3 k5:Option Qz} {u:Qz}
theorem Kt (T:OwnTail h bmV bm) (hC:h.get? C=some (excClassObj nm q C N bs bm hdct sn sub ab col dd k0 k1 k2 k3 k5 "ValueError.__new__"))
  (he:h.get? e=some { cls:=.ref C,data:=.fields #[.ref t0,.none,.none,.none,.bool false,.none] })
  (hq:∀ h' t1,(∀ b o,b≠e->h.get? b=some o->h'.get? b=some o)->h'.get? e=some { cls:=.ref C,data:=.fields #[.ref t1,.none,.none,.none,.bool false,.none] }->Q .none ⟨h',g,d,t,os⟩) :
  wpAny (model prog w) A (call (.builtin "ValueError.__init__") [.ref e,u]) Q E ⟨h,g,d,t,os⟩:=by
 have F:=PySem.F.excBase_ValueError;refine wpAny_call (P1 F.init.plain F.initEntry (wpAny_check_init_subT F T hC he rfl ?_))
 wp_walk
 refine hq _ h.objs.size (fun b o hb z=>?_) ?_
 ·rw [O4 _ _ (Ne.symm hb)];exact Of _ z
 ·rw [PZ _ (Of _ he) rfl];rfl
theorem K6 {mN:Str->Option Qz} {rest:List Qz} {f:Qx} {o:Obj} {Q:Fin->Qv->Prop} (T:OwnTail h bmV bm) (hC:h.get? C=some (excClassObj nm q C N bs bm hdct sn sub ab col dd k0 k1 k2 k3 k5 "ValueError.__new__"))
  (hn:h.Ns N mN) (hi:mN "__init__" = some (.ref f)) (hf:h.get? f=some o) (hfc:o.cls=.type "function")
  (hq:∀ h' e,h.objs.size<=e->Heap.MadeExcOf h h' e (.ref C) rest->wpAny (model prog w) A (call (.ref f) (.ref e :: rest)) (fun r s'=>r=.none/\Q (.done (.ret (.ref e))) s') E ⟨h',g,d,t,os⟩) (hr:rest.length<=sizeLine) :
  wpAny (model prog w) A (Builtin.«type.__call__» ⟨.ref C :: rest,[]⟩) Q E ⟨h,g,d,t,os⟩:=by
 have F:=PySem.F.excBase_ValueError
 repeat (first | with_reducible refine OT hC ?_ | with_reducible refine wpAny_madeBy_exc hC ?_ | wp_step)
 refine codeAny_call_builtin_code (Code.quiet_builtin _ F.quiet) (wpAny_check_new_subT F T hC (codeAny_exc_new_subT F T hC ?_ hr));show wpAny _ _ _ _ _ _;generalize eh:(h.push { cls:=.type "tuple", data:=.seq rest.toArray }).push { cls:=.ref C,data:=.fields #[.ref h.objs.size,.none,.none,.none,.bool false,.none] }=h1;have kp:∀ b o,h.get? b=some o->h1.get? b=some o:=fun b o z=>by rw [<- eh];exact Of _ (Of _ z)
 have he:h1.get? (h.objs.size+1)=some { cls:=.ref C,data:=.fields #[.ref h.objs.size,.none,.none,.none,.bool false,.none] }:=by rw [<- eh];heap_get
 have ht:h1.get? h.objs.size=some { cls:=.type "tuple", data:=.seq rest.toArray }:=by rw [<- eh];exact Of _ (Heap.get?_push_at rfl rfl)
 have hC1:=kp _ _ hC;have cc:(Value.ref C :: bm).contains (.ref C)=true:=by simp
 unfold isInstance
 repeat (first | with_reducible refine OT he ?_ | (with_reducible refine PB hC1 ?_;rw [cc]) | wp_step)
 show wpAny _ _ (typeLookup (.ref C) _) _ _ _;refine wpAny_typeLookup_tail hC1 (hn.keeps kp) (T.keeps kp) F.mroIs F.init.lookup ?_;rw [hi];refine wpAny_holding (Oh ?_);unfold bindSpecial;refine Oh (wpAny_typeOf (T := "function") ⟨_,kp _ _ hf,hfc⟩ ?_);rw [Og (by decide)];refine OB (Oh (O9 (hq _ (h.objs.size+1) (Qd _) ⟨kp,Heap.get?_none_of_le (Qd _),h.objs.size,he,Heap.get?_none_of_le (Ol _),ht⟩) (fun r s' z=>?_) fun _ _ z=>z));obtain ⟨rfl,z⟩:=z
 wp_walk
 exact z
theorem JM {mN:Str->Option Qz} {rest:List Qz} {f:Qx} {o:Obj} {Q:Qz->Qv->Prop} (T:OwnTail h bmV bm) (hC:h.get? C=some (excClassObj nm q C N bs bm hdct sn sub ab col dd k0 k1 k2 k3 k5 "ValueError.__new__"))
  (hn:h.Ns N mN) (hi:mN "__init__" = some (.ref f)) (hf:h.get? f=some o) (hfc:o.cls=.type "function")
  (hq:∀ h' e,h.objs.size<=e->Heap.MadeExcOf h h' e (.ref C) rest->wpAny (model prog w) (A.under (.builtin "type.__call__" ⟨.ref C :: rest,[]⟩)) (call (.ref f) (.ref e :: rest)) (fun r s'=>r=.none/\Q (.ref e) s') E ⟨h',g,d,t,os⟩) (hr:rest.length<=sizeLine) :
  wpAny (model prog w) A (call (.ref C) rest) Q E ⟨h,g,d,t,os⟩:=by
 have f1:=tc_lookup;have f2:=tc_bind (.ref C);have hT:(⟨h,g,d,t,os⟩:Qv).TypeIs (.ref C) "type" := ⟨_,hC,rfl⟩;refine wpAny_call (codeAny_of_tree ?_);show wpAny _ _ (callAny (.ref C) _) _ _ _
 repeat (any_goals (first | assumption | with_reducible refine OT hC ?_ | wp_step))
 exact ⟨rfl,codeAny_call_builtin_at (Code.quiet_builtin _ (by decide +kernel)) entry_typeCall (wpAny_check_type_call_sub hC (K6 T hC hn hi hf hfc hq hr))⟩
theorem Ik (hb:bm.contains (.type "BaseException")=true) (hh:A.handled=none)
  (hx:wpAny (model prog w) A x (fun v s1=>∃ e oe vs,v=.ref e/\s1.heap.get? C=some (excClassObj nm q C N bs bm hdct sn sub ab col dd k0 k1 k2 k3 k5 "ValueError.__new__")/\s1.heap.get? e=some oe/\oe.cls=.ref C/\oe.data=.fields vs/\vs[1]?=some .none/\E (.ref e) s1) E s) :
  wpAny (model prog w) A (raiseStmt env (some x) none) Q E s:=by
 have hcB:(Value.ref C :: bm).contains (.type "BaseException")=true:=by rw [P9,hb,Bool.or_true]
 unfold raiseStmt;refine Oh (O9 hx (fun v s1 z=>?_) fun _ _ z=>z);obtain ⟨e,⟨cls,dct,dat,sl⟩,vs,rfl,hC,he,hc,hd,h1,hE⟩:=z;obtain ⟨hp,g,d,tk,os⟩:=s1;simp only at hc hd;subst hc hd
 repeat (first | with_reducible refine OT he ?_ | with_reducible refine OT hC ?_ | (with_reducible refine PB hC ?_;rw [hcB]) | wp_step)
 rw [h1];refine OB ?_;rw [Ot (by decide)];exact OB (wpAny_raiseNew_none hh hE)
end
def TrD (h base:Heap) (e:Qx) (cls a0:Qz) (dx:Option Qx) (fl:Qz):Prop :=
 ∃ oe vs T oT ts,h.get? e=some oe/\((oe.cls=cls/\vs[0]?=some a0)/\oe.dict=dx)/\oe.data=.fields vs/\vs[1]?=some (.ref T)/\base.get? T=none/\T≠e/\h.get? T=some oT/\oT.data=.fields ts/\ts[3]?=some fl
def FlD (base:Heap) (l:List Env) (e:Qx) (cls a0:Qz) (dx:Option Qx) (fl:Qz) (h:Heap):Prop:=base.StaysIn h/\base.get? e=none/\h.FunFrames base l/\TrD h base e cls a0 dx fl
theorem FlD.fly (x:FlD base l e cls a0 dx .none h):Heap.FlyingW base l e cls a0 h:=by
 obtain ⟨x1,x2,x3,oe,vs,T,oT,ts,h1,h2,r⟩:=x;exact ⟨x1,x2,x3,oe,vs,T,oT,ts,h1,h2.1,r⟩
section
variable {M:Model} {A:Around} {E:Qz->Qv->Prop} {s:Qv} {base:Heap} {env:Env} {l outer:List Env} {L e:Qx} {cls a0 fl:Qz} {dx:Option Qx} {Q:Unit->Qv->Prop}
theorem k7 (x:FlD base l e cls a0 dx fl s.heap) (q:∀ h',FlD base l e cls a0 dx .none h'->s.heap.UpToSlots h'->Q () { s with heap:=h' }):wpAny M A (setFlight (.ref e) none) Q E s:=by
 obtain ⟨k1,k2,k3,oe,vs,T,oT,ts,he,hc,hd,h1,hn,hne,hT,hdT,h3⟩:=x;have z3:3 < ts.size:=(Qa.mp h3).1;have oth:∀ b,b≠T->(s.heap.update T (Obj.mapFields (·.setIfInBounds 3 ((none:Option Qx).elim Value.none fun f=>rawInt f)))).get? b=s.heap.get? b:=fun b hb=>O4 _ _ (Ne.symm hb);have nr:∀ b o,s.heap.get? b=some o->(∀ vs,o.data≠.fields vs)->b≠T:=fun b o hb nf z=>by
  subst z;rw [hT] at hb;cases hb;exact nf ts hdT
 unfold setFlight;refine Oh (Qc he hd h1 ?_);rw [Og (show (Value.ref T != Value.none)=true by simp)];refine wpAny_setField hT hdT z3 (q _ ⟨fun b o z=>(oth b fun y=>by rw [y,hn] at z;cases z).trans (k1 b o z),k2,k3.of_keeps fun b o hb nf=>⟨o,(oth b (nr b o hb nf)).trans hb,rfl⟩,oe,vs,T,_,_,(oth e (Ne.symm hne)).trans he,hc,hd,h1,hn,hne,PZ _ hT (Obj.isFreed_of_fields (Obj.data_mapFields hdT _)),Obj.data_mapFields hdT _,by simp [z3]⟩ fun b o hb nf=>⟨o.slots,(oth b (nr b o hb nf)).trans hb⟩)
theorem Au:(Obj.mapFields f o).dict=o.dict:=by
 obtain ⟨c,d,dt,sl⟩:=o;cases dt <;> rfl
theorem rh (hfr:A.frames=some (env :: outer)) (hl:s.heap.FunFrames base (env :: outer)) (hf:env.frame=some L) (he:s.heap.get? e=some oe) (kb:base.StaysIn s.heap) (hen:base.get? e=none) (hd:oe.data=.fields vs) (hz:1 < vs.size) (h0:vs[0]?=some a0)
  (q:∀ h',FlD base (env :: outer) e oe.cls a0 oe.dict (rawInt L) h'->s.heap.UpToSlots h'->Q () { s with heap:=h' }) :
  wpAny M A (do let a<-frameOf env;let pl<-entryPlaceOf L had;let b<-EntryCells.newEntry head a .none (rawInt L) .none pl;setField (.ref e) 1 b) Q E s:=by
 have nfr:e ∉ (env :: outer).filterMap (·.frame):=fun z=>by
  obtain ⟨_,o,ho,nf⟩:=hl.mem z;rw [he] at ho;cases ho;exact nf vs hd
 refine Oh (wpAny_frameOf_fun hfr hl hf fun h1 hs=>Oh (wpAny_entryPlaceOf fun pl hpl=>?_));unfold EntryCells.newEntry newFields;refine Oh (PQ ?_ (hpl.sizeOk5 _ _ _ _ _));have he1:h1.get? e=some oe:=(hs.2.1 e nfr).trans he;have kb1:base.StaysIn h1:=fun b o z=>(hs.2.1 b fun y=>by rw [(hl.mem y).1] at z;cases z).trans (kb b o z);have hTe:h1.objs.size≠e:=Nat.ne_of_gt (Ou he1);have hd3:=Obj.data_mapFields hd (·.setIfInBounds 1 (Value.ref h1.objs.size));generalize eo:({ cls:=.type "traceback", dict:=none,data:=.fields ([head,.ref L,.none,rawInt L,.none]++(if pl.isEmpty then List.replicate 6 Value.none else pl)).toArray }:Obj)=oT;have he2:=Of (h:=h1) oT he1;have he3:=PZ (Obj.mapFields (·.setIfInBounds 1 (Value.ref h1.objs.size))) he2 (Obj.isFreed_of_fields hd3);have hT3:((h1.push oT).update e (Obj.mapFields (·.setIfInBounds 1 (Value.ref h1.objs.size)))).get? h1.objs.size=some oT:=(O4 _ _ (Ne.symm hTe)).trans (OK h1 (by rw [<- eo];rfl));have keep:∀ b o,b≠e->h1.get? b=some o->((h1.push oT).update e (Obj.mapFields (·.setIfInBounds 1 (Value.ref h1.objs.size)))).get? b=some o:=fun b o hb z=>(O4 _ _ (Ne.symm hb)).trans (Of _ z);have nr:∀ b o,s.heap.get? b=some o->(∀ vs,o.data≠.fields vs)->b≠e:=fun b o hb nf z=>by
  subst z;rw [he] at hb;cases hb;exact nf vs hd
 have dd:(Obj.mapFields (·.setIfInBounds 1 (Value.ref h1.objs.size)) oe).dict=oe.dict:=Au;refine wpAny_setField he2 hd hz (q _ ⟨fun b o z=>keep b o (fun y=>by rw [y,hen] at z;cases z) (kb1 b o z),hen,hl.of_keeps fun b o hb nf=>?_,_,_,h1.objs.size,oT,_,he3,⟨⟨Obj.cls_mapFields _ _,by rw [Array.getElem?_setIfInBounds_ne (by decide)];exact h0⟩,dd⟩,hd3,by simp [hz],kb1.fresh,hTe,hT3,by rw [<- eo],?_⟩ fun b o hb nf=>?_)
 ·obtain ⟨sl,z⟩:=hs.2.2 b o hb;exact ⟨_,keep b _ (nr b o hb nf) z,rfl⟩
 ·first | (simp;done) | (rcases hpl with rfl | ⟨_,_,_,_,_,_,_,rfl⟩ <;> simp)
 ·obtain ⟨sl,z⟩:=hs.2.2 b o hb;exact ⟨sl,keep b _ (nr b o hb nf) z⟩
theorem A1 (hfr:A.frames=some (env :: outer)) (hl:s.heap.FunFrames base (env :: outer)) (hf:env.frame=some L) (he:s.heap.get? e=some oe) (kb:base.StaysIn s.heap) (hen:base.get? e=none) (hd:oe.data=.fields vs) (h1:vs[1]?=some .none) (h0:vs[0]?=some a0)
  (q:∀ h',FlD base outer e oe.cls a0 oe.dict .none h'->s.heap.UpToSlots h'->Q () { s with heap:=h' }):wpAny M A (leaving env (.ref e)) Q E s:=by
 unfold leaving noteFrame;simp only [hf];refine Oh (Oh (Qc he hd h1 ?_));rw [Ot (by decide)];refine rh hfr hl hf he kb hen hd (Qa.mp h1).1 h0 fun h2 x u=>k7 (s:={ s with heap:=h2 }) x fun h3 y u2=>q h3 ?_ (u.trans u2);obtain ⟨y1,y2,⟨_,_,y3⟩,y4⟩:=y;exact ⟨y1,y2,y3,y4⟩
theorem xM (hfr:A.frames=some (env :: outer)) (hf:env.frame=some L) (x:FlD base (env :: outer) e cls a0 dx .none s.heap) (q:∀ h',FlD base (env :: outer) e cls a0 dx (rawInt L) h'->s.heap.UpToSlots h'->Q () { s with heap:=h' }):wpAny M A (noteFrame (.ref e) env) Q E s:=by
 obtain ⟨k1,k2,k3,oe,vs,T,oT,ts,he,⟨⟨hc,h0⟩,hdx⟩,hd,h1,hn,hne,hT,hdT,h3⟩:=x;subst hc hdx;unfold noteFrame;simp only [hf];refine Oh (Qc he hd h1 ?_);rw [Og (show (Value.ref T != Value.none)=true by simp)];refine Oh (Qc hT hdT h3 ?_);rw [Ot (show ¬((Value.none==rawInt L)=true) by simp [rawInt])];refine Oh (wpAny_setField hT hdT (Qa.mp h3).1 ?_);have oth:∀ b,b≠T->(s.heap.update T (Obj.mapFields (·.setIfInBounds 3 Value.none))).get? b=s.heap.get? b:=fun b hb=>O4 _ _ (Ne.symm hb);have nr:∀ b o,s.heap.get? b=some o->(∀ vs,o.data≠.fields vs)->b≠T:=fun b o hb nf z=>by
  subst z;rw [hT] at hb;cases hb;exact nf ts hdT
 exact rh (s:={ s with heap:=_ }) hfr (k3.of_keeps fun b o hb nf=>⟨o,(oth b (nr b o hb nf)).trans hb,rfl⟩) hf ((oth e (Ne.symm hne)).trans he) (fun b o z=>(oth b fun y=>by rw [y,hn] at z;cases z).trans (k1 b o z)) k2 hd (Qa.mp h1).1 h0 fun h' y u=>q h' y fun b o hb nf=>u b o ((oth b (nr b o hb nf)).trans hb) nf
end
theorem nsHas {K:Fg} {h:Heap} {N:Qx} {m:Str->Option Qz} {x:Str} {v:Qz} (X:K.In h) (G:h.Ns N m) (e:PySem.W.nsIn K N x=some (some v)):m x=some v:=by
 obtain ⟨oN,eN,nN,atN,isD,_,found⟩:=G;have f:=found x;unfold nsFind findBy at f;unfold PySem.W.nsIn at e;split at e
 ·next lk =>
  cases atN.symm.trans (X _ _ lk);cases isD;split at e
  ·next ff =>
   cases e;rw [<- f,<-Array.find?_toList,ff];rfl
  ·split at e <;> cases e
 ·cases e
structure mR (K:Fg) (C:Qx) (i:Option Qz):Prop where
 ex:∃ dd cd bm k0 k1 k2 k3 k5,K.lookup C=some ⟨.type "type", dd,.cls cd,#[k0,k1,k2,k3,some (.builtin "ValueError.__new__"),k5]⟩/\cd.mro=.ref C :: bm/\cd.hasDel=false/\PySem.W.tailIn K bmV bm=true/\PySem.W.nsOkIn K cd.ns=true/\PySem.W.nsIn K cd.ns "__init__" = some i
 cl:PySem.W.findIn K (.ref C) "__class__" = some (some (.builtin "object.__class__"))
 ga:PySem.W.findIn K (.ref C) "__getattribute__" = some (some (.builtin "BaseException.__getattribute__"))
 gg:PySem.W.findIn K (.ref C) "__getattr__" = some none
theorem mR.own {K:Fg} {C:Qx} {h:Heap} {i:Option Qz} (x:mR K C i) (X:K.In h):∃ bm N nm q bs hdct sn sub ab col dd k0 k1 k2 k3 k5 mN,h.get? C=some (excClassObj nm q C N bs bm hdct sn sub ab col dd k0 k1 k2 k3 k5 "ValueError.__new__")/\h.Ns N mN/\mN "__init__" = i/\OwnTail h bmV bm /\
  ∃ cd,PySem.W.clsIn K C=some cd/\cd.mro=.ref C :: bm:=by
 obtain ⟨dd,⟨nm,bs,mro,ns,qn,hd,sn,sub,ab,col,del⟩,bm,k0,k1,k2,k3,k5,lk,em,ed,tl,nk,ni⟩:=x.ex;dsimp only at em ed nk ni;subst em ed;have G:=Heap.Ns.of_isNs (PySem.W.isNs_of_in X nk);refine ⟨bm,ns,nm,qn,bs,hd,sn,sub,ab,col,dd,k0,k1,k2,k3,k5,_,X _ _ lk,G,?_,PySem.W.tail_of_in X tl,_,by unfold PySem.W.clsIn;rw [lk],rfl⟩;cases i with
 | none=>exact PySem.W.ns_none_of X G ni
 | some v=>exact nsHas X G ni
theorem FN {K:Fg} {C a:Qx} {i:Option Qz} (x:mR K C i):PySem.W.KitX K (.ref a) (.ref C) (fun h=>∃ o,h.get? a=some o/\o.cls=.ref C) where
 ty:=fun M h _ p=>by
  obtain ⟨o,h1,h2⟩:=p;exact h2▸(PySem.W.Looks.ld h1).andThen .now
 it:=fun M h X _=>by
  obtain ⟨bm,N,nm,q,bs,hdct,sn,sub,ab,col,dd,k0,k1,k2,k3,k5,mN,hC,_⟩:=x.own X;intro A' Q' E' s' k q;unfold isType loadHead;exact Oh (wpAny_loadPart (k _ _ hC) (OB q))
 ne:=fun h tp dd its n sl X htp=>by
  refine Bool.eq_false_iff.mpr fun q=>?_;have e:C=tp:=Value.ref.inj (Px.mp q);subst e;obtain ⟨bm,N,nm,q,bs,hdct,sn,sub,ab,col,dd,k0,k1,k2,k3,k5,mN,hC,_⟩:=x.own X;have z:=congrArg Obj.data (OS (hC.symm.trans htp));cases z
 ca:=fun {prog w A E Q s} X p k=>by
  obtain ⟨h,g,d,t,os⟩:=s;obtain ⟨o,h1,h2⟩:=p;obtain ⟨bm,N,nm,q,bs,hdct,sn,sub,ab,col,dd,k0,k1,k2,k3,k5,mN,hC,_,_,T,_⟩:=x.own X;exact wF X x.cl x.ga x.gg hC (T.hasType rfl) (T.hasType rfl) h1 h2 k
noncomputable def iP (C e:Qx) (dx:Option Qx):HO:=.ext fun h=>∃ t,h.get? e=some { cls:=.ref C,dict:=dx,data:=.fields #[.ref t,.none,.none,.none,.bool false,.none] }
theorem qx (z:h.get? e=some { cls:=.ref C,dict:=dx,data:=.fields #[.ref t,.none,.none,.none,.bool false,.none] }):cN P w H h e (iP C e dx) :=
 ⟨⟨t,z⟩,⟨_,z⟩,fun h1 h2 ⟨t,q⟩ k=>⟨t,k _ q⟩⟩
theorem Inv.Na (I:Inv X pins Z H s) (he:H e=some (iP C e none)) (r:RelV v u)
  (k:∀ b o,b≠e->s.heap.get? b=some o->h'.get? b=some o) (h1:h'.get? e=some { cls:=.ref C,dict:=some s.heap.objs.size,data:=.fields #[.ref t,.none,.none,.none,.bool false,.none] })
  (h2:h'.Ns1 s.heap.objs.size (fun y=>if y=fld then some u else none)) :
  Inv X pins Z (upd (upd H e (iP C e (some s.heap.objs.size))) s.heap.objs.size (.xd [(fld,v)])) { s with heap:=h',toks:=tk }:=by
 have fr:H s.heap.objs.size=none:=I.hok.fresh (Ol _);have ne:e≠s.heap.objs.size:=fun z=>by rw [z,fr] at he;cases he
 have oth:∀ b,b≠e->b≠s.heap.objs.size->upd (upd H e (iP C e (some s.heap.objs.size))) s.heap.objs.size (.xd [(fld,v)]) b=H b:=fun b n1 n2=>by
  unfold upd;rw [Ot n2,Ot n1]
 have nn:∀ b o,H b=some o->b≠s.heap.objs.size:=fun b o q z=>by rw [z,fr] at q;cases q
 have n0:∀ b,H b=none->b≠e:=fun b q z=>by rw [z,he] at q;cases q
 have nx:∀ b o,s.heap.get? b=some o->b≠s.heap.objs.size:=fun b o q=>OQ (Ou q);refine I.un ⟨fun b o q n _ _=>k b o (n0 b n) q,fun b o q n _ _=>⟨o.slots,k b o (n0 b n) q⟩,fun b o q n _=>(oth b (n0 b n) (nx b o q)).trans n,fun b o q _=>?_,fun b xs q=>?_,fun b o u q=>?_,fun b ps q=>?_⟩ fun b o q=>?_
 ·by_cases z:b=e
  ·rw [z];exact ⟨_,h1⟩
  ·exact ⟨o,k b o z q⟩
 ·rw [oth b (fun z=>by rw [z,he] at q;cases q) (nn _ _ q)];exact q
 ·rw [oth b (fun z=>by rw [z,he] at q;cases q) (nn _ _ q)];exact q
 ·exact ⟨#[],by rw [oth b (fun z=>by rw [z,he] at q;cases q) (nn _ _ q),q];simp⟩
 ·by_cases z1:b=s.heap.objs.size
  ·subst z1;rw [aE] at q;cases q;refine ⟨_,h2,fun y=>?_⟩;by_cases e1:y=fld
   ·subst e1;show uI (List.lookup y [(y,v)]) _;rw [Og rfl,O7,Qg];exact r
   ·rw [Ot e1];show uI (List.lookup y [(fld,v)]) _;have:(y==fld)=false:=by simpa using e1
    rw [O7,this];trivial
  ·by_cases z2:b=e
   ·subst z2;unfold upd at q;rw [Ot z1,Og rfl] at q;cases q;exact qx h1
   ·rw [oth b z2 z1] at q;refine (I.hok b o q).nK (fun c w hc g=>k c w ?_ g) (fun c g=>?_) fun c xs g=>?_
    ·rcases hc with rfl | hc
     ·exact z2
     ·rintro rfl;rw [he] at hc;cases hc
    ·rw [oth c (fun z=>by rw [z,he] at g;cases g) (nn _ _ g)];exact g
    ·rw [oth c (fun z=>by rw [z,he] at g;cases g) (nn _ _ g)];exact g
section
variable {X:Cx}
theorem F4 {i:Nat} {x tx:Str} {j:Nat} {p1 p2 p3 p4:Pos} (hi:X.N[i]?=some x) (hv:Vis X.env.scope x) (hd:(x==("__debug__" : Str))=false) (hcd:(x==("__classdict__" : Str))=false) (ht:tx.length<=100) :
  PE X (.JoinedStr [.Constant (.str tx) j p1,.FormattedValue (.Name x p2) (-1) none p3] p4) (fun Z H Q=>∃ v,Z[i]?=some (some v)/\fJ v=true/\∀ y,Q (.str y) H):=by
 intro pins s Z H Q I h;obtain ⟨v,ev,hp,q⟩:=h;refine JoinedStr_many ?_;refine joinParts_cons (Calls.Constant_str ⟨?_,?_⟩)
 ·show (Str.empty++tx).length<=sizeLine;rw [strLen_append];exact Oy (Nat.add_le_add_left ht _) (by decide)
 have I1:Inv X pins Z H { s with toks:=s.toks+1 }:=I.tok _;refine joinParts_cons (FormattedValue_plain (thn (jJ hi hv hd hcd pins _ Z H (fun v' H'=>v'=v/\H'=H) I1 ⟨v,ev,rfl,rfl⟩) fun u s1 z=>?_));obtain ⟨v',H',I2,r,rfl,rfl⟩:=z;have fin:∀ (y:Str) (tk:Nat),y.length<=1000->(((Str.empty++tx)++y).length<=sizeLine/\wpAny (model X.prog X.w) X.A (joinParts ((Str.empty++tx)++y) (evalEach [] X.env)) (EP X pins Z Q) X.xe { s1 with toks:=tk }):=fun y tk hy=>by
  have hz:((Str.empty++tx)++y).length<=sizeLine:=by
   rw [strLen_append,strLen_append];exact Oy (Nat.add_le_add (Nat.add_le_add_left ht _) hy) (by decide)
  exact ⟨hz,joinParts_nil (out:=(Str.empty++tx)++y) (show EP X pins Z Q _ _ from ⟨.str _,H',I2.tok _,⟨_,rfl⟩,q _⟩) hz⟩
 cases v' with
 | int n =>
  obtain ⟨t,rfl⟩:=(show ∃ t,u=Value.int n t from r);have hn:n.natAbs.log2 < 1920/\(Str.ofString (toString n)).length<=1000:=OO hp;exact formatField_int_small hn.1 (fin _ _ hn.2)
 | _=>cases hp
end
structure IE (K:Fg) (C D:Qx) (fld:Str):Prop where
 sa:PySem.W.findIn K (.ref C) "__setattr__" = some (some (.builtin "object.__setattr__"))
 po:Ja K C=true
 tk:PySem.W.takerIn K C fld=some none
 hd:PySem.W.hasDictIn K C=true
 sp:PySem.W.specialIn K (.ref D) "__getattribute__" = some (some (.builtin "type.__getattribute__"))
 rd:PySem.W.readsIn K D (.type "type")=true
 na:PySem.W.findIn K (.ref C) fld=some none
 fc:PySem.W.findCls K (.ref D) (.type "type") "__init__" = some (.val (.builtin "ValueError.__init__"))
def EN (C:Qx) (fld:Str):TS:=fun D Z H=>∃ e v,Z[0]?=some (some (.ref e))/\Z[1]?=some (some v)/\fJ v=true/\H e=some (iP C e none)/\∀ dx,H dx=none->D.nx Z (upd (upd H e (iP C e (some dx))) dx (.xd [(fld,v)]))
section
variable {X:Cx}
theorem ql {C D:Qx} {i:Option Qz} {fld Dn sf nm tx:Str} {j:Nat} {p1 p2 p3 p4 p5 p6 p7 p8 p9 q1 q2 q3 q4:Pos} (xC:mR X.K C i) (xF:IE X.K C D fld) (hg:Gl X Dn) (hm:X.mg Dn=some (.ref D)) (hdn:(Dn==("__debug__" : Str))=false)
  (h0:X.N[0]?=some sf) (h1:X.N[1]?=some nm) (v0:Vis X.env.scope sf) (v1:Vis X.env.scope nm) (d0:(sf==("__debug__" : Str))=false) (c0:(sf==("__classdict__" : Str))=false) (d1:(nm==("__debug__" : Str))=false) (c1:(nm==("__classdict__" : Str))=false) (ht:tx.length<=100)
  (hw1:swapsWith (.Call (.Attribute (.Name Dn p1) "__init__" p2) [.Name sf p3,.JoinedStr [.Constant (.str tx) j p4,.FormattedValue (.Name nm p5) (-1) none p6] p7] [] p8) none p9.line X.env=pure false)
  (hee:∃ pl,eval (.Call (.Attribute (.Name Dn p1) "__init__" p2) [.Name sf p3,.JoinedStr [.Constant (.str tx) j p4,.FormattedValue (.Name nm p5) (-1) none p6] p7] [] p8) X.env=(do
   let o<-eval (.Name Dn p1) X.env
   standAt p2.atName
   let (g,us)<-holding [o] (getMethod o "__init__" pl)
   callWith p8 g us (backTo p8 (starEach [.Name sf p3,.JoinedStr [.Constant (.str tx) j p4,.FormattedValue (.Name nm p5) (-1) none p6] p7] X.env)) (backToKw p8 (keywordEach [] X.env))))
  (hw2:swapsWith (.Name nm q3) (some (.Attribute (.Name sf q1) fld q2)) q4.line X.env=pure false) :
  PSs X [.Expr (.Call (.Attribute (.Name Dn p1) "__init__" p2) [.Name sf p3,.JoinedStr [.Constant (.str tx) j p4,.FormattedValue (.Name nm p5) (-1) none p6] p7] [] p8) p9,.Assign [.Attribute (.Name sf q1) fld q2] (.Name nm q3) q4] (EN C fld):=by
 intro pins s Z H D' I h;obtain ⟨e,v,e0,e1,hp,he,q⟩:=h;refine Pz (wpAny_Expr_any ?_ I.quiet hw1);obtain ⟨pl,hee⟩:=hee;refine Ql (pl:=pl) (gS I hg hm ?_ hdn) hee;refine PySem.W.method_cls I.kIn xF.sp (PySem.W.cls_value I.kIn xF.rd xF.fc (by decide +kernel) ?_);refine Calls.callWith_builtin rfl (Calls.evalArgs_plain ?_);have I0:Inv X pins Z H { s with toks:=s.toks+1 }:=I.tok _;have ha:PA X [.Name sf p3,.JoinedStr [.Constant (.str tx) j p4,.FormattedValue (.Name nm p5) (-1) none p6] p7] _:=lx (jJ h0 v0 d0 c0) (lx (F4 h1 v1 d1 c1 ht) vV rfl) rfl;refine thn (ha p8 pins _ Z H (fun vs H'=>H'=H/\∃ y,vs=[.ref e,.str y]) I0 ⟨_,e0,v,e1,hp,fun y=>⟨rfl,y,rfl⟩⟩) fun us s1 z=>?_;obtain ⟨vs,H',I1,r,rfl,y,rfl⟩:=z;obtain ⟨u1,u2,rfl,r1,r2⟩:=vals2 r;cases (show u1=Value.ref e from r1);obtain ⟨bm,N,nm',q',bs,hdct,sn,sub,ab,col,dd,k0,k1,k2,k3,k5,mN,hC,hN,hi,T,_⟩:=xC.own I1.kIn;obtain ⟨⟨t,et⟩,_⟩:=(show cN X.prog X.w H' s1.heap e (iP C e none) from I1.hok e _ he);obtain ⟨hp1,gn,dr,tk,os⟩:=s1;refine Kt T hC et fun h' t1 kp g1=>?_;have up:upd H' e (iP C e none)=H':=by
  funext b;unfold upd;split
  ·next z=>rw [z,he]
  ·rfl
 have I2:Inv X pins Z H' ⟨h',gn,dr,tk,os⟩:=by
  have z:=I1.write (t':=tk) (x:=e) (e:=e) (o:=iP C e none) (by rw [he];trivial) (.inl rfl) kp ⟨_,g1⟩ (qx g1)
  rwa [up] at z
 refine Pz (plainObj_wpAny_Assign_Attribute (thn (jJ h1 v1 d1 c1 pins _ Z H' (fun v' H2=>v'=v/\H2=H') I2 ⟨v,e1,rfl,rfl⟩) fun u s2 z=>?_) hw2);obtain ⟨v',H2,I3,ru,rfl,rfl⟩:=z;refine thn (jJ h0 v0 d0 c0 pins _ Z H2 (fun v' H3=>v'=.ref e/\H3=H2) I3 ⟨_,e0,rfl,rfl⟩) fun ov s3 z=>?_;obtain ⟨_,H3,I4,ro,rfl,rfl⟩:=z;cases (show ov=Value.ref e from ro);obtain ⟨⟨t2,et2⟩,_⟩:=(show cN X.prog X.w H3 s3.heap e (iP C e none) from I4.hok e _ he);refine NW I4.kIn et2 xF.sa xF.po xF.tk xF.hd fun h4 tk4 kp4 g4 n4=>?_;exact PK ⟨Z,_,I4.Na he ru kp4 g4 n4,q _ (I4.hok.fresh (Ol _))⟩
end
def CX2 (P:Program) (w:World):CXT:=fun outer H s E e s2=>∃ (ea C t dx:Qx) (H':Hp) (b:Heap),e=.ref ea/\s2.os=s.os/\AllBare s2.gens/\Un (frs outer) [] H H' s.heap s2.heap /\
 (∀ c o,s.heap.get? c=some o->c ∉ frs outer->∃ o',b.get? c=some o')/\HOk P w H' b/\FlD b outer ea (.ref C) (.ref t) (some dx) .none s2.heap/\E (.ref C) (some dx) H'
def FG (X:Cx) (E:XK) (C:Qx) (fld:Str):Prop:=∀ (pins:List (Qx×Obj)) (Z:St) (H1:Hp) (s:Qv) (e dx:Qx) (v:V),Inv X pins Z (upd (upd H1 e (iP C e (some dx))) dx (.xd [(fld,v)])) s->H1 e=none->H1 dx=none->e≠dx->X.s0.heap.get? e=none ->
 E (.ref C) (some dx) (upd H1 dx (.xd [(fld,v)]))->X.xe (.ref e) s
theorem Hm {P:Program} {w:World} {K:Fg} {mg:Str->Option Qz} {base:Heap} {N:List Str} {qual:Str} {scope:Scope} {f:Qx} {cd:Qz} {A:Around} {outer:List Env} {s:Qv} {H:Hp} {E:XK} {C:Qx} {fld:Str} :
  FG (tS (CX2 P w) P w K mg base N qual scope f cd A outer s H E) E C fld:=by
 intro pins Z H1 s1 e dx v I h1 h2 ne fr ew;generalize hL:e :: frs (envOfC qual scope s.heap.objs.size f cd :: outer)=L;have hst:(PySem.W.hideAll s1.heap L).StaysIn s1.heap:=fun b o q=>PySem.W.of_hideAll _ q;have ff:s1.heap.FunFrames (PySem.W.hideAll s1.heap L) (envOfC qual scope s.heap.objs.size f cd :: outer) :=
  gk I.stack fun c hc=>PySem.W.hideAll_none _ (by rw [<- hL];exact N8 _ hc)
 have nfr:∀ c,c∈frs (envOfC qual scope s.heap.objs.size f cd :: outer)->c=s.heap.objs.size\/c∈frs outer:=fun c hc=>Oo.mp (I.nT c hc);have U:Un (frs outer) [] H _ s.heap s1.heap:=I.base;have frf:∀ c∈frs outer,H c=none:=I.ok.frf;have he2:upd (upd H1 e (iP C e (some dx))) dx (.xd [(fld,v)]) e=some (iP C e (some dx)):=by unfold upd;rw [Ot ne,Og rfl]
 have oth:∀ c,c≠e->upd (upd H1 e (iP C e (some dx))) dx (.xd [(fld,v)]) c=upd H1 dx (.xd [(fld,v)]) c:=fun c hc=>by unfold upd;rw [Ot hc]
 have he3:upd H1 dx (.xd [(fld,v)]) e=none:=by unfold upd;rw [Ot ne];exact h1
 obtain ⟨⟨t,et⟩,_⟩:=(show cN P w _ s1.heap e (iP C e (some dx)) from I.hok e _ he2);have inB:∀ c o,s.heap.get? c=some o->c ∉ frs outer->∃ o',(PySem.W.hideAll s1.heap L).get? c=some o':=fun c o q hc=>by
  obtain ⟨o',q'⟩:=U.there c o q (by simp);refine ⟨o',PySem.W.hideAll_get _ q' fun z=>?_⟩;rw [<- hL] at z;rcases Oo.mp z with z | z
  ·subst z;have fr:s.heap.get? c=none:=fr;rw [fr] at q;cases q
  ·rcases nfr c z with z | z
   ·exact absurd (Ou q) (by rw [z];exact OV _)
   ·exact hc z
 have U2:Un (frs outer) [] H (upd H1 dx (.xd [(fld,v)])) s.heap s1.heap:=⟨U.keep,U.slot,fun b o q n hx=>by
   have z:=U.free b o q n hx
   rwa [oth b fun y=>by subst y;rw [he2] at z;cases z] at z,U.there,fun b xs q=>by
   have z:=U.rQ b xs q
   rwa [oth b fun y=>by subst y;rw [he2] at z;cases z] at z,fun b o u q=>by
   have z:=U.pN b o u q
   rwa [oth b fun y=>by subst y;rw [he2] at z;cases z] at z,fun b ps q=>by
   obtain ⟨m,z⟩:=U.tU b ps q
   exact ⟨m,by rwa [oth b fun y=>by subst y;rw [he2] at z;cases z] at z⟩⟩
 refine A1 (base:=PySem.W.hideAll s1.heap L) I.ok.frames ff rfl et hst (PySem.W.hideAll_none _ (by rw [<- hL];exact Od)) rfl rfl rfl fun h2 fl sl=>?_;refine ⟨e,C,t,dx,upd H1 dx (.xd [(fld,v)]),_,rfl,I.os,I.bare,?_,inB,fun c o q=>?_,fl,ew⟩
 ·exact Bw U2 inB hst fl.1 sl I.qF frf
 ·have nc:c≠e:=fun z=>by rw [z,he3] at q;cases q
  have q':upd (upd H1 e (iP C e (some dx))) dx (.xd [(fld,v)]) c=some o:=(oth c nc).trans q;refine (I.hok c o q').nK (fun b u hb r=>PySem.W.hideAll_get _ r fun z=>?_) (fun b r=>?_) fun b xs r=>?_
  ·rw [<- hL] at z;rcases Oo.mp z with z | z
   ·subst z;rcases hb with hb | hb
    ·exact nc hb.symm
    ·rw [he2] at hb;cases hb
   ·have fr:=I.kY b z;rcases hb with rfl | hb
    ·rw [q'] at fr;cases fr
    ·rw [hb] at fr;cases fr
  ·rwa [oth b fun y=>by subst y;rw [he2] at r;cases r] at r
  ·rwa [oth b fun y=>by subst y;rw [he2] at r;cases r] at r
def BG (C:Qx) (fld:Str):Sp:=fun vs H Q _=>∃ e v,vs=[.ref e,v]/\fJ v=true/\H e=some (iP C e none)/\∀ dx,H dx=none->Q .non (upd (upd H e (iP C e (some dx))) dx (.xd [(fld,v)]))
structure XMk (P:Program) (w:World) (K:Fg) (mg:Str->Option Qz) (base:Heap) (C f:Qx) (fld:Str) (fd:FuncData) (ps:List Str):Prop where
 cls:mR K C (some (.ref f))
 fn:∃ o,K.lookup f=some o/\o.cls=.type "function"
 kp:PySem.W.keepIn K (.ref C)=true
 ok:c8 P w K mg base CX0 1 f fd ps (BG C fld)
 bd:Binds K fd ps []
section
variable {X:Cx} {pins:List (Qx×Obj)} {Z:St} {H:Hp} {s:Qv}
theorem NK {C f:Qx} {fld x:Str} {fd:FuncData} {ps:List Str} {a:Expr} {te:TE} {RN QN:VK} {p pos:Pos} (M:XMk X.prog X.w X.K X.mg X.base C f fld fd ps) (hr:dg 2 X.A) (hg:Gl X x) (hm:X.mg x=some (.ref C)) (hd:(x==("__debug__" : Str))=false) (ha:PE X a te) (hs:PySem.W.isStarred a=false)
  (hex:X.ex=[]) (I:Inv X pins Z H s) (h:te Z H RN) (hR:∀ v H1,RN v H1->fJ v=true/\QN v H1) :
  wpAny (model X.prog X.w) X.A (eval (.Call (.Name x p) [a] [] pos) X.env) (fun u s2=>∃ e dx v H1,u=.ref e/\X.s0.heap.get? e=none/\H1 e=none/\H1 dx=none/\e≠dx/\Inv X pins Z (upd (upd H1 e (iP C e (some dx))) dx (.xd [(fld,v)])) s2/\fJ v=true/\QN v H1) X.xe s:=by
 refine PN (gS I hg hm ?_ hd);have ha':PA X [a] (iS te rY):=lx ha vV (aV hs);refine P7 (h₀:=X.base) I.ok.mod.kin M.kp (thn (ha' pos pins s Z H (fun vs H1=>match vs with | [v]=>RN v H1 | _=>False) I h) fun us s1 z=>?_) (aV hs) (bG rfl);obtain ⟨vs,H1,I1,r,z⟩:=z
 match vs,z with
 | [v],z =>
 obtain ⟨hp,q⟩:=hR v H1 z;obtain ⟨u,rfl,r1⟩:=vals1 r;refine ⟨I1.kIn,?_⟩;obtain ⟨bm,N,nm,q',bs,hdct,sn,sub,ab,col,dd,k0,k1,k2,k3,k5,mN,hC,hN,hi,T,_⟩:=M.cls.own I1.kIn;obtain ⟨o,ho,hoc⟩:=M.fn;have ho:=I1.kIn _ _ ho;obtain ⟨hp1,gn,dr,tk,os⟩:=s1;refine JM T hC hN hi ho hoc (fun h' e le hx=>?_) (by decide:1<=sizeLine);obtain ⟨t,et,_⟩:=hx.there;have fr:H1 e=none:=I1.hok.fresh le;have I2:Inv X pins Z (upd H1 e (iP C e none)) ⟨h',gn,dr,tk,os⟩:=I1.laid (t':=tk) hx.keeps le (qx et);have hq:BG C fld [.ref e,v] (upd H1 e (iP C e none)) (fun v' H2=>v'=.non/\∃ dx,H1 dx=none/\e≠dx/\H2=upd (upd H1 e (iP C e (some dx))) dx (.xd [(fld,v)])) (fun _ _ _=>False):=by
  refine ⟨e,v,rfl,hp,aE,fun dx hdx=>⟨rfl,dx,?_,?_,?_⟩⟩
  ·unfold upd at hdx;split at hdx
   ·cases hdx
   ·exact hdx
  ·rintro rfl;rw [aE] at hdx;cases hdx
  ·rw [Ea]
 have r2:Vals [V.ref e,v] [Value.ref e,u]:=.cons rfl (.cons r1 .nil);have hl:([Value.ref e,u]++[]).length=ps.length:=by have z:=M.ok.len _ _ _ _ hq;exact z
 refine wpAny_call (Qi (M.ok.run _ X.stack _ _ ⟨[Value.ref e,u],[]⟩ [Value.ref e,u] _ _ _ (hr.make C [u] []) (I2.EF.make C [u] []) (by have z:=M.bd _ [Value.ref e,u] I2.kIn hl;rwa [OC] at z) r2 hq) fun r s' hq'=>?_);cases r with
 | error e=>exact hq'.elim
 | ok fl =>
  cases fl with
  | ret u' =>
   obtain ⟨v',H',I3,rv,rfl,dx,d1,d2,rfl⟩:=I2.after hq';cases rv;refine ⟨rfl,e,dx,v,H1,rfl,?_,fr,d1,d2,I3,hp,q⟩;cases z:X.s0.heap.get? e with
   | none=>rfl
   | some o =>
    obtain ⟨o',g⟩:=I1.base.there e o z (by rw [hex];simp);exact absurd (Ou g) (Nat.not_lt.mpr le)
  | next=>exact False.elim hq'
  | brk=>exact False.elim hq'
  | cont=>exact False.elim hq'
end
section
variable {X:Cx} {pins:List (Qx×Obj)} {Z:St} {H1 H':Hp} {s1 s2:Qv} {ea C D t dx:Qx} {iC iD:Option Qz} {n dn:Str} {b:Heap} {E:Qz->Qv->Prop} {Q:Flow->Qv->Prop} {b0:Stmt} {pA:List Stmt} {np hp:Pos} {rest:List ExceptHandler} {env:Env}
theorem tN (he:X.env=env) (I:Inv X pins Z H1 s1) (ho:s2.os=s1.os) (hb:AllBare s2.gens) (u:Un (frs X.stack) [] H1 H' s1.heap s2.heap)
  (k:∀ c o,s1.heap.get? c=some o->c ∉ frs X.stack->∃ o',b.get? c=some o') (hok:HOk X.prog X.w H' b) (fl:FlD b X.stack ea (.ref C) (.ref t) (some dx) .none s2.heap)
  (hst:X.stack=X.env :: X.outer) (hf:X.env.frame=some X.env.locals) (xC:mR X.K C iC) (xD:mR X.K D iD) (hm:PySem.W.mroIn X.K C (.ref D)=some true) (hg:Gl X dn) (hmg:X.mg dn=some (.ref D)) (hl:X.env.kindOf n=some .local) (hn:n ∉ X.N) (nd:X.N.Nodup)
  (hdb:(dn==("__debug__" : Str))=false)
  (go:∀ oe vs s3,oe.cls=.ref C->oe.dict=some dx->oe.data=.fields vs->Inv (Xs X ea oe n) pins (Z++[some (.ref ea)]) H' s3->wpAny (model X.prog X.w) (X.A.mark (some (.ref ea))) (execs (b0 :: pA) env) (fun f s4=>f=.next/\∃ H4 τ pins4,Inv (Xs X ea oe n) pins4 τ H4 s4/\∀ s5,Inv X pins4 (τ.take X.N.length) H4 s5->Q .next s5) (fun _ _=>False) s3) :
  wpAny (model X.prog X.w) X.A (noteFrame (.ref ea) env) (fun _ s3=>wpAny (model X.prog X.w) X.A (setFlight (.ref ea) none) (fun _ s4 =>
   wpAny (model X.prog X.w) X.A (handleBy (.ref ea) env (.ExceptHandler (some (.Name dn np)) (some n) (b0 :: pA) hp :: rest)) Q E s4) E s3) E s2:=by
 subst he;have hfr:X.A.frames=some (X.env :: X.outer):=by rw [<- hst];exact I.ok.frames
 have fl':FlD b (X.env :: X.outer) ea (.ref C) (.ref t) (some dx) .none s2.heap:=by rw [<- hst];exact fl
 refine xM hfr hf fl' fun h3 hd3 sl3=>?_;refine k7 (s:={ s2 with heap:=h3 }) hd3 fun h4 fl4 sl4=>?_;have I4:=pj I ho hb u k hok fl.fly fl4.1 (sl3.trans sl4);refine wpAny_handleBy_cons (codeAny_handlers_test ?_) (by intro q;cases q);have g4:∀ {Q':Qz->Qv->Prop} {E':Qz->Qv->Prop},Q' (.ref D) { s2 with heap:=h4 }->wpAny (model X.prog X.w) (X.A.mark (some (.ref ea))) (eval (.Name dn np) X.env) Q' E' { s2 with heap:=h4 }:=fun {Q' E'} z =>
  Calls.Name_function_global I4.ok.kind hg (Calls.loadGlobal_global (by rw [I4.ok.glob];exact I4.mod.glob.keeps I4.bk) hmg z) hdb
 refine g4 ?_;obtain ⟨ob,hob,hobc⟩:=fl4.fly.there;have KX:X.K.In h4:=I4.kIn;obtain ⟨bm,N,nm,q,bs,hdct,sn,sub,ab,col,dd,k0,k1,k2,k3,k5,mN,hC,hN,hni,T,cd,hci,hmr⟩:=xC.own KX;obtain ⟨bm',N',nm',q',bs',hdct',sn',sub',ab',col',dd',k0',k1',k2',k3',k5',mN',hD,hN',hni',T',_⟩:=xD.own KX;have hct:(Value.ref C :: bm).contains (.ref D)=true:=by
  unfold PySem.W.mroIn at hm;rw [hci] at hm;have hm:(if cd.mro.isEmpty then none else some (cd.mro.contains (.ref D)))=some true:=hm;rw [hmr] at hm;exact OS hm
 refine HF hC hD hob hobc (T'.hasType rfl) hct (codeAny_handlers_suite_as ?_);refine k7 (s:={ s2 with heap:=h4 }) fl4 fun h6 fl6 sl6=>?_;have I6:=pj I ho hb u k hok fl.fly fl6.1 ((sl3.trans sl4).trans sl6);obtain ⟨oe,ws,_,_,_,hoe,⟨⟨hoec,_⟩,hodx⟩,hoed,_⟩:=fl6.2.2.2;have hH:H' ea=none:=by
  cases z:H' ea with
  | none=>rfl
  | some o =>
   obtain ⟨ob,z⟩:=(hok ea o z).got;rw [fl6.2.1] at z;cases z
 have nfr:ea ∉ frs X.stack:=fun z=>by
  have fl6':Heap.FlyingW b X.stack ea (.ref C) (.ref t) h6:=by rw [hst];exact fl6.fly
  obtain ⟨_,o2,e2,d2⟩:=fl6'.2.2.1.mem z;rw [hoe] at e2;cases e2;exact d2 _ hoed
 have nlo:ea≠X.env.locals:=fun z=>nfr (by
  rw [hst];unfold frs;rw [Pu,hf,z];exact Od)
 have nfs:ea ∉ X.fs:=fun z=>nfr (by
  rw [hst];unfold frs;rw [Pu,hf];exact N8 _ z)
 have IS:Inv (Xs X ea oe n) pins (Z++[none]) H' { s2 with heap:=h6 }:=I6.pA hoe hH nlo nfs fun v z=>by rw [hoed] at z;cases z
 have hnN:(X.N++[n])[X.N.length]?=some n:=by simp
 have len:Z.length=X.N.length:=I.len;have set1:(Z++[none]).set X.N.length (some (V.ref ea))=Z++[some (.ref ea)]:=by
  rw [<- len,List.set_append_right _ _ (Ol _)];simp
 have ndN:(X.N++[n]).Nodup:=by
  rw [Qe]
  exact ⟨nd,by simp,fun a ha c hc z=>hn (by
   have hc:c=n:=by simpa using hc
   rw [<- hc,<-z]
   exact ha)⟩
 refine mf (X:=Xs X ea oe n) IS ndN hnN (.inl hl) (v:=V.ref ea) rfl (fun s7 I7=>?_) (.inr hl);rw [set1] at I7;refine O9 (go oe ws s7 hoec hodx hoed I7) (fun f s8 z=>?_) fun _ _ z=>z.elim;obtain ⟨rfl,H4,τ,pins4,I8,fin⟩:=z;exact tF I8 hl hn (fun s9 I9=>fin s9 I9) I6.ok
end
abbrev Xp (X:Cx) (ea:Qx) (oe:Obj):Cx:={ X with pn:=(ea,oe) :: X.pn }
def rX (K:Fg) (ea C:Qx):List V->Hp->VK->Prop:=fun vs H Q=>∃ c cv b,vs=[.ref ea,c]/\(∀ u,RelV c u->u=cv)/\PySem.W.kitOne K (.ref C) cv=some b/\Q (.bl b) H
section
variable {X:Cx} {pins:List (Qx×Obj)} {Z:St} {H:Hp} {s:Qv} {ea C:Qx} {oe:Obj}
theorem Cx.Ok.JQ (ok:X.Ok):(Xp X ea oe).Ok :=
 ⟨ok.mod,ok.kind,ok.glob,ok.blt,ok.above,ok.inj,ok.has,ok.cab,ok.hd,ok.frames,ok.stk,ok.exf,ok.bs,ok.bsz,ok.Dg,ok.EG,ok.qF,ok.frf⟩
theorem Inv.JQ (I:Inv X ((ea,oe) :: pins) Z H s):Inv (Xp X ea oe) pins Z H s :=
 ⟨I.ok.JQ,I.os,I.bare,I.base,I.loc,I.cell,I.free,I.fZ,fun p hp=>I.pin p (by
  have hp:p∈(ea,oe) :: (X.pn++pins):=hp;rcases Oo.mp hp with z | z
  ·rw [z];exact OD _ Od
  ·rcases Po.mp z with z | z
   ·exact Ph _ z
   ·exact OD _ (N8 _ z)),I.hok,I.len⟩
theorem Inv.sP (ok:X.Ok) (I:Inv (Xp X ea oe) pins Z H s):Inv X pins Z H s :=
 ⟨ok,I.os,I.bare,I.base,I.loc,I.cell,I.free,I.fZ,fun p hp=>I.pin p (N8 _ hp),I.hok,I.len⟩
theorem SP.sP (ok:X.Ok) (h:SP (Xp X ea oe) pins D f s):SP X pins D f s:=by
 cases f with
 | next=>obtain ⟨Z',H',I',q⟩:=h;exact ⟨Z',H',I'.sP ok,q⟩
 | brk=>obtain ⟨Z',H',I',q⟩:=h;exact ⟨Z',H',I'.sP ok,q⟩
 | cont=>obtain ⟨Z',H',I',q⟩:=h;exact ⟨Z',H',I'.sP ok,q⟩
 | ret u=>obtain ⟨v,Z',H',I',q⟩:=h;exact ⟨v,Z',H',I'.sP ok,q⟩
def rXt (K:Fg) (ea C:Qx):List V->Hp->VK->Prop:=fun vs H Q=>∃ (tp:Qx) (Bs:List Qx) (b:Bool),vs=[.ref ea,.ref tp]/\H tp=some (.tup (Bs.map V.ref))/\PySem.W.kitAny K (.ref C) (Bs.map Value.ref)=some b/\Q (.bl b) H
theorem nu:∀ {Bs:List Qx} {its:List Qz},Vals (Bs.map V.ref) its->its=Bs.map Value.ref
 | [],_,.nil=>rfl
 | B :: Bs,_,.cons r1 r2=>by rw [nu r2,show _=Value.ref B from r1];rfl
theorem nB {K:Fg} {v:Qz}:∀ {Bs:List Qx},(∀ B∈Bs,PySem.W.kitOne K v (.ref B)=some false)->PySem.W.kitAny K v (Bs.map Value.ref)=some false
 | [],_=>rfl
 | B :: Bs,h=>by
  rw [List.map_cons];unfold PySem.W.kitAny;rw [h B Od];exact nB fun b hb=>h b (N8 _ hb)
end
section
variable {X:Cx} {ea C D dx:Qx} {oe:Obj} {vs:Array Qz} {iC:Option Qz} {fld:Str}
theorem Ex {i:Nat} {cx:Str} {p pos:Pos} (xC:mR X.K C iC) (xF:IE X.K C D fld) (oc:oe.cls=.ref C) (od:oe.dict=some dx) (of:oe.data=.fields vs) (hi:X.N[i]?=some cx) (hv:Vis X.env.scope cx) (hd:(cx==("__debug__" : Str))=false) (hc:(cx==("__classdict__" : Str))=false)
  (hb:attributeBase (.Name cx p) fld X.env (eval (.Name cx p) X.env)=eval (.Name cx p) X.env) :
  PE (Xp X ea oe) (.Attribute (.Name cx p) fld pos) (fun Z H Q=>Z[i]?=some (some (.ref ea))/\∃ v,fJ v=true/\H dx=some (.xd [(fld,v)])/\Q v H):=by
 intro pins s Z H Q I h;obtain ⟨ei,v,hp,ed,q⟩:=h;refine vP hb (thn (jJ (X:=Xp X ea oe) hi hv hd hc pins s Z H (fun v' H'=>v'=.ref ea/\H'=H) I ⟨_,ei,rfl,rfl⟩) fun u s1 z=>?_);obtain ⟨_,H',I1,r,rfl,rfl⟩:=z;cases (show u=Value.ref ea from r);have hpin:=I1.pin (ea,oe) Od;obtain ⟨mA,⟨oD,es,ep,g1,g2,g3,g4,g5⟩,hrel⟩:=(show cN X.prog X.w H' s1.heap dx (.xd [(fld,v)]) from I1.hok dx _ ed);have hr:=hrel fld;have hl:([(fld,v)]:List (Str×V)).lookup fld=some v:=by rw [O7,Qg]
 rw [hl,<-g5 fld] at hr;obtain ⟨u,eu,ru⟩:∃ u,nsFind es fld=some u/\RelV v u:=by
  cases z:nsFind es fld with
  | none=>rw [z] at hr;exact hr.elim
  | some u=>rw [z] at hr;exact ⟨u,rfl,hr⟩
 obtain ⟨bm,N,nm,q',bs,hdct,sn,sub,ab,col,dd,k0,k1,k2,k3,k5,mN,hC,_,_,T,_⟩:=xC.own I1.kIn;have J:PySem.W.InstAt s1.heap ea oe C (some oD):=⟨hpin.1,oc,by unfold PySem.W.notCls;rw [of],by rw [od];exact g1⟩;have hf:PySem.W.findObj X.K C (some oD) fld=some (.value u):=by
  obtain ⟨cd,hcd,hdd⟩:=PySem.W.any_some xF.hd;unfold PySem.W.findObj;rw [hcd,xF.na];show (PySem.W.ownOf cd (some oD) fld).bind _=_;unfold PySem.W.ownOf;rw [Og hdd];show (PySem.W.lookIn fld oD).bind _=_;unfold PySem.W.lookIn;rw [g2];unfold nsFind findBy at eu;rw [<- Array.find?_toList] at eu;obtain ⟨en,e1,e2⟩:=OG.mp eu;dsimp only;rw [e1,<-e2];rfl
 have hh:PySem.W.handedIn u=true:=by
  cases v with
  | int n=>obtain ⟨t,rfl⟩:=(show ∃ t,u=Value.int n t from ru);rfl
  | _=>cases hp
 obtain ⟨hp1,gn,dr,tk,os⟩:=s1;exact NF I1.kIn J xC.ga xC.gg hC (T.hasType rfl) hf hh ⟨v,H',I1.tok _,ru,q⟩
theorem uN (xC:mR X.K C iC) (oc:oe.cls=.ref C):bN (Xp X ea oe) (.builtin "isinstance") (rX X.K ea C):=by
 intro pins s Z H xs us Q I r h;obtain ⟨c,cv,b,rfl,hc,hk,hq⟩:=h;obtain ⟨u,w',rfl,r1,r2⟩:=vals2 r;cases (show u=Value.ref ea from r1);cases hc _ r2;exact PL (FN xC) I.kIn ⟨oe,(I.pin (ea,oe) Od).1,oc⟩ hk (fun z=>nomatch z) fun tk=>⟨.bl b,H,I.tok tk,rfl,hq⟩
theorem C8 (xC:mR X.K C iC) (oc:oe.cls=.ref C):bN (Xp X ea oe) (.builtin "isinstance") (rXt X.K ea C):=by
 intro pins s Z H xs us Q I r h;obtain ⟨tp,Bs,b,rfl,ht,hk,hq⟩:=h;obtain ⟨u,w',rfl,r1,r2⟩:=vals2 r;cases (show u=Value.ref ea from r1);cases (show w'=Value.ref tp from r2);obtain ⟨_,its,rv,⟨o,g1,g2,n,g3⟩⟩:=(show cN X.prog X.w H s.heap tp (.tup (Bs.map V.ref)) from I.hok tp _ ht);have e:=nu rv;subst e;have htp:s.heap.get? tp=some ⟨.type "tuple", o.dict,.seq (Bs.map Value.ref).toArray n,o.slots⟩:=by
  rw [g1];obtain ⟨c,dd,da,sl⟩:=o;have g2:c=.type "tuple" := g2;have g3:da=_:=g3;subst g2 g3;rfl
 exact PySem.W.kia_tup (FN xC) I.kIn ⟨oe,(I.pin (ea,oe) Od).1,oc⟩ htp hk (fun z=>nomatch z) fun tk=>⟨.bl b,H,I.tok tk,rfl,hq⟩
end
theorem dw {P:Program} {w:World} {K:Fg} {mg:Str->Option Qz} {base:Heap} {N:List Str} {qual:Str} {scope:Scope} {f:Qx} {cd:Qz} {A:Around} {outer:List Env} {s:Qv} {H:Hp} {E:XK} :
  Passes (CX2 P w) (tS (CX2 P w) P w K mg base N qual scope f cd A outer s H E) E:=by
 intro pins Z H1 s1 e s2 I hcx;obtain ⟨ea,C,t,dx,H',b,rfl,ho,hb,u,k,hok,fl,ew⟩:=hcx;have nfr:∀ c,c∈frs (envOfC qual scope s.heap.objs.size f cd :: outer)->c=s.heap.objs.size\/c∈frs outer:=fun c hc=>Oo.mp (I.nT c hc);show wpAny _ _ (leaving _ _) _ _ _;unfold leaving;refine Oh (xM I.ok.frames rfl fl fun h3 hd3 sl3=>k7 (s:={ s2 with heap:=h3 }) hd3 fun h4 fl4 sl4=>?_);have I2:=pj I ho hb u k hok fl.fly fl4.1 (sl3.trans sl4);have U:Un (frs outer) [] H H' s.heap h4:=I2.base;have U1:Un (frs outer) [] H H1 s.heap s1.heap:=I.base;refine ⟨ea,C,t,dx,H',b,rfl,ho.trans I.os,hb,U,fun c o q hc=>?_,hok,⟨fl4.1,fl4.2.1,fl4.2.2.1.2.2,fl4.2.2.2⟩,ew⟩;obtain ⟨o1,q1⟩:=U1.there c o q (by simp);refine k c o1 q1 fun z=>?_;rcases nfr c z with z | z
 ·exact absurd (Ou q) (by rw [z];exact OV _)
 ·exact hc z
theorem Io:Passes (CX2 P w) X NoE:=fun _ _ _ _ _ _ _ h=>by
 obtain ⟨ea,C,t,dx,H',b,rfl,ho,hb,u,k,hok,fl,ew⟩:=h;exact ew.elim
section
variable {X:Cx} {x m f:Str} {p p2 pos apos:Pos} {e a b o:Expr} {es:List Expr} {t:TA} {te:TE} {ps:List Str} {k n i:Nat} {st:Stmt} {q:Qx×FuncData} {ad:Qx} {fd:FuncData} {fn:Fn} {E:XK} {pl:Sem Bool}
theorem eCX (F:c8 X.prog X.w X.K X.mg X.base (CX2 X.prog X.w) k q.1 q.2 ps (spX fn X.K)) (hr:dg n X.A) (D:Fa X.K X.mg x st ps q) (hp:Passes (CX2 X.prog X.w) X E) (ha:JA X (e :: es) t)
  (a:k<=n:=by omega) (b:Gl X x:=by exact rfl) (h1:PySem.W.isStarred e=false:=by exact rfl) (h2:es.all (fun e=>!PySem.W.isStarred e)=true:=by exact rfl) (c:(x==("__debug__" : Str))=false:=by exact rfl):JE X (.Call (.Name x p) (e :: es) [] pos) (uB (spX fn X.K) [] E t) :=
 Fx F (hr.mono a) b D.m D.F.kp D.b .nil hp ha h1 h2 c
theorem eMX (c:Cls X.K clsAt) (hm:Meth X.K clsAt m ad) (F:c8 X.prog X.w X.K X.mg X.base (CX2 X.prog X.w) k ad fd ps (spX fn X.K)) (hr:dg n X.A) (hb:Binds X.K fd ps []) (hp:Passes (CX2 X.prog X.w) X E) (he:JE X o (gu i)) (ha:JA X (e :: es) t)
  (hk:k<=n:=by omega) (hst:PySem.W.isStarred e=false:=by exact rfl) (hpl:es.all (fun e=>!PySem.W.isStarred e)=true:=by exact rfl)
  (ht:eval (.Call (.Attribute o m apos) (e :: es) [] pos) X.env=(do
   let ov<-eval o X.env
   standAt apos.atName
   let (f,first)<-holding [ov] (getMethod ov m pl)
   callWith pos f first (backTo pos (starEach (e :: es) X.env)) (backToKw pos (keywordEach [] X.env))):=by exact rfl) :
  JE X (.Call (.Attribute o m apos) (e :: es) [] pos) (fun Z H Q=>gu i Z H fun x H1=>(∃ a dx fs,x=.ref a/\H1 a=some (.ins clsAt dx fs)/\fs.lookup m=none)/\t Z H1 fun xs H2=>spX fn X.K (x :: xs) H2 Q E):=⟨fun pins s Z H Q I h=>by
 refine xo (pl:=pl) he.h c hm F (hr.mono hk) hb .nil hp ha.h (aV hst) (bG hpl) ht pins s Z H Q I ?_;obtain ⟨v,hv,⟨a,dx,fs,e1,e2,e3⟩,q⟩:=h;refine ⟨v,hv,a,dx,fs,e1,e2,e3,?_⟩;simp only [OC]
 exact q⟩
theorem Mu {f:Qx} {nm:Str} {np cpos:Pos} (M:XMk X.prog X.w X.K X.mg X.base excAt f cH fd ps) (hrm:dg n X.A) (hm:X.mg nm=some (.ref excAt)) (hex:X.ex=[]) (hL:FG X E excAt cH) (ha:JE X a te)
  (hk:2<=n:=by omega) (hg:Gl X nm:=by exact rfl) (hd:(nm==("__debug__" : Str))=false:=by exact rfl) (hs:PySem.W.isStarred a=false:=by exact rfl) :
  JS X (.Raise (some (.Call (.Name nm np) [a] [] cpos)) none pos) (fun _ Z H=>te Z H fun v H1=>fJ v=true/\∀ dx,H1 dx=none->E (.ref excAt) (some dx) (upd H1 dx (.xd [(cH,v)]))):=by
 refine ⟨fun pins s Z H D I h=>?_⟩;rw [arm_exec_Raise];refine Oh (wpAny_standAt ?_);obtain ⟨bm,N,nm',q',bs,hdct,sn,sub,ab,col,dd,k0,k1,k2,k3,k5,mN,hC,hN,hi,T,_⟩:=M.cls.own I.ok.mod.kin;refine Ik (C:=excAt) (N:=N) (nm:=nm') (q:=q') (bs:=bs) (bm:=bm) (hdct:=hdct) (sn:=sn) (sub:=sub) (ab:=ab) (col:=col) (dd:=dd) (k0:=k0) (k1:=k1) (k2:=k2) (k3:=k3) (k5:=k5) (T.hasType rfl) (hrm.mono hk).hd
  (Oh (O9 (NK (QN:=fun v H1=>∀ dx,H1 dx=none->E (.ref excAt) (some dx) (upd H1 dx (.xd [(cH,v)]))) M (hrm.mono hk) hg hm hd ha.h hs hex I h fun v H1 z=>z) (fun u s2 z=>Oh (wpAny_standAt (OB ?_))) fun _ _ z=>z))
 obtain ⟨e,dx,v,H1,rfl,fr,h1,h2,ne,I2,hp,q⟩:=z;have he2:upd (upd H1 e (iP excAt e (some dx))) dx (.xd [(cH,v)]) e=some (iP excAt e (some dx)):=by unfold upd;rw [Ot ne,Og rfl]
 obtain ⟨⟨t,et⟩,_⟩:=(show cN X.prog X.w _ s2.heap e (iP excAt e (some dx)) from I2.hok e _ he2);exact ⟨e,_,_,rfl,I2.bk _ _ hC,et,rfl,rfl,rfl,hL pins Z H1 s2 e dx v I2 h1 h2 ne fr (q dx h2)⟩
end
theorem Fa.okM {P:Program} {w:World} {K:Fg} {mg:Str->Option Qz} {base:Heap} {x qual:Str} {st:Stmt} {f:Qx} {fd:FuncData} {ps:List Str} {k:Nat} {b:XS} {gd:List Qq} {ga:Nat->V} {ms:List PM}
  (F:Fun K x qual st f fd) (N:List Str) (hg:∀ g d,gd[g]?=some d->∀ F H,Dm K F H d (ga g))
  (j:∀ {cdv:Qz} {A:Around} {outer:List Env} {s:Qv} {H:Hp} {E:XK},b7 N ps (ag st)->dg k (A.deeper (envOfC qual (ag st) s.heap.objs.size f cdv))->JSs (tS CX0 P w K mg base N qual (ag st) f cdv A outer s H E).nox (aU st) (rS K ⟨ga,NoE⟩ b))
  (hl:ms.length<=N.length:=by decide) (hp:ms.length=ps.length:=by exact rfl) (S:b7 N ps (ag st):=by exact scm):c8 P w K mg base CX0 (k+1) f fd ps (jY (bJ gd ms N.length b) K) :=
 F.okX S hg rfl (fun hr=>j S hr) hl hp
theorem Fa.okN {P:Program} {w:World} {K:Fg} {mg:Str->Option Qz} {base:Heap} {x:Str} {st:Stmt} {a:Qx×FuncData} {ps:List Str} {k:Nat} {b:XS} {gd:List Qq} {ga:Nat->V} {ms:List PM}
  (D:Fa K mg x st ps a) (N:List Str) (hg:∀ g d,gd[g]?=some d->∀ F H,Dm K F H d (ga g))
  (j:∀ {cdv:Qz} {A:Around} {outer:List Env} {s:Qv} {H:Hp} {E:XK},b7 N ps (ag st)->dg k (A.deeper (envOfC x (ag st) s.heap.objs.size a.1 cdv))->JSs (tS CX0 P w K mg base N x (ag st) a.1 cdv A outer s H E).nox (aU st) (rS K ⟨ga,NoE⟩ b))
  (hl:ms.length<=N.length:=by decide) (hp:ms.length=ps.length:=by exact rfl) (S:b7 N ps (ag st):=by exact scm):c8 P w K mg base CX0 (k+1) a.1 a.2 ps (jY (bJ gd ms N.length b) K) :=
 Fa.okM D.F N hg j hl hp S
theorem Fa.okX {P:Program} {w:World} {K:Fg} {mg:Str->Option Qz} {base:Heap} {x qual:Str} {st:Stmt} {f:Qx} {fd:FuncData} {ps:List Str} {k:Nat} {b:XS} {gd:List Qq} {ga:Nat->V} {ms:List PM}
  (F:Fun K x qual st f fd) (N:List Str) (hg:∀ g d,gd[g]?=some d->∀ F H,Dm K F H d (ga g))
  (j:∀ {cdv:Qz} {A:Around} {outer:List Env} {s:Qv} {H:Hp} {E:XK},b7 N ps (ag st)->dg k (A.deeper (envOfC qual (ag st) s.heap.objs.size f cdv))->JSs (tS (CX2 P w) P w K mg base N qual (ag st) f cdv A outer s H E) (aU st) (rS K ⟨ga,E⟩ b))
  (hl:ms.length<=N.length:=by decide) (hp:ms.length=ps.length:=by exact rfl) (S:b7 N ps (ag st):=by exact scm):c8 P w K mg base (CX2 P w) (k+1) f fd ps (spX (bJ gd ms N.length b) K):=by
 obtain ⟨oc,od,kV,doc,pm,an,cdv,ct,osl,rfl,lk,hcd⟩:=F.ex;refine Fe lk hcd S (fun vs H Q E h=>(DJ h).trans hp) fun A outer s H vs Q E hr hsp=>?_;exact ⟨_,(j S hr).h,AG (ga:=⟨ga,E⟩) hg hsp hl⟩
theorem c8.noX {P:Program} {w:World} {K:Fg} {mg:Str->Option Qz} {base:Heap} {k:Nat} {f:Qx} {fd:FuncData} {ps:List Str} {ms:List PM} {x q:Str} {st:Stmt} {N:List Str} (F:Fun K x q st f fd) (S:b7 N ps (ag st)):c8 P w K mg base (CX2 P w) (k+1) f fd ps (spX (Fn.no ms) K) :=
 have no:∀ vs H Q E,¬spX (Fn.no ms) K vs H Q E:=fun vs H Q E h=>by
  rcases h with ⟨G,ds,is,pr,outs,hF,_⟩ | ⟨G,ds,is,p,hX,_⟩
  ·cases hF
  ·cases hX
 ⟨fun vs H Q E h=>(no _ _ _ _ h).elim,fun A outer s H args us vs Q E _ _ _ _ h=>(no _ _ _ _ h).elim⟩
def HP (fn:Fn) (K:Fg) (vs:List V) (H:Hp) (Q:VK):Prop:=spX fn K vs H (fun _ H'=>∀ H'',aZ H' H''->Q .non H'') fun c o H'=>∃ dx H0 p,c=.ref excAt/\o=some dx/\fJ (.int p)=true/\H0 dx=none/\H'=upd H0 dx (.xd [(cH,.int p)])/\∀ H'',aZ H' H''->Q (.int p) H''
def EY (fn:Fn) (hm:fn.ms=[.dat]):Prm where
 r:=HP fn
 f:=fun ds=>match ds with
  | [.str x]=>match fn.F [.str x] with
   | some (_,[])=>some (.dat .none)
   | some _=>none
   | none=>(fn.X [.str x]).map fun p=>.dat (.int p)
  | _=>none
 ok:=fun K F H ds vs pr Q hf hv hd q=>by
  split at hf
  ·rename_i x;obtain ⟨v,r,rfl,hv,rfl⟩:=hv;have ha:bD K F (·∈([]:List Qx)) H fn.ms [.str x] [v] []:=by rw [hm];exact ⟨hv,rfl⟩
   split at hf
   ·rename_i pr' e;cases hf;exact .inl ⟨F,_,[],pr',[],e,ha,hd,fun v' H' hk _ H'' sm=>q .non H'' (fun b o z=>sm b o (hk b o z (by simp))) rfl⟩
   ·cases hf
   ·obtain ⟨p,e,rfl⟩:=OG.mp hf;exact .inr ⟨F,_,[],p,e,ha,hd,fun dx H' hk h0 hp=>⟨dx,H',p,rfl,rfl,hp,h0,rfl,fun H'' sm=>q (.int p) H'' (fun b o z=>sm b o (aZ.nw _ h0 b o (hk b o z (by simp)))) rfl⟩⟩
  ·cases hf
section
variable {X:Cx}
theorem KR {rs:List Stmt} {k i j:Nat} {f Dc Db:Qx} {iC iD:Option Qz} {B1 B2 B3:List Qx} {fd:FuncData} {ps:List Str} {fn:Fn} {hm1:fn.ms=[.dat]} {g cx th n dn An:Str} {es1 es2 es3:List Expr} {ta1 ta2 ta3:TA} {b1 b2 b3 b4:List Stmt} {j1 j2 j3:Nat} {x1 x2 x3}
  {p1 p2 p3 p4 p5 p6 p7 p8 p9 p10 p11 np hp q1 q2 q3 q4 q5 q6 q7 q8 q9 q10 q11 q12 q13 q14 r1 r2 r3 r4 r7 s1 s2 s3 s4 s7 u1 u2 u3 u4 w1 w2 w3 w4 w5 w6 w7 w8 w9 w10 w11 w12 w13 t1 t2 t4 c1 c3 c4 q0:Pos}
  (er:rs=[.If (.Compare (.Name cx c1) [.Is] [.Constant .none j2 c3] c4) [.Return (some (.Constant .none j3 q12)) q13] [] q14,
    .If (.Call (.Name "isinstance" r1) [.Name cx r2,.Tuple es1 x1 r3] [] r4) b1 [] r7,
    .If (.Call (.Name "isinstance" s1) [.Name cx s2,.Tuple es2 x2 s3] [] s4) b2 [] s7,
    .If (.BoolOp .Or [.UnaryOp .Not (.Call (.Name "isinstance" q1) [.Name cx q2,.Name An q3] [] q4) q5,.UnaryOp .Not (.Call (.Name "isinstance" q6) [.Name cx q7,.Name "ValueError" q8] [] q9) q10,.Call (.Name "isinstance" u1) [.Name cx u2,.Tuple es3 x3 u3] [] u4] q11) b3 [] q0,
    .If (.BoolOp .Or [.UnaryOp .Not (.Call (.Name "isinstance" w1) [.Attribute (.Name cx w2) cH w3,.Name "int" w4] [] w5) w6,.Call (.Name "isinstance" w7) [.Attribute (.Name cx w8) cH w9,.Name "bool" w10] [] w11] w12) b4 [] w13,
    .Return (some (.Attribute (.Name cx t1) cH t2)) t4])
  (F:c8 X.prog X.w X.K X.mg X.base (CX2 X.prog X.w) k f fd ps (spX fn X.K)) (hr:dg k X.A) (hgf:Gl X g) (hmf:X.mg g=some (.ref f)) (hk:PySem.W.keepIn X.K (.ref f)=true) (hb:Binds X.K fd ps []) (hdg:(g==("__debug__" : Str))=false)
  (nd:X.N.Nodup) (hi:X.N[i]?=some cx) (hx:Loc X.env.scope cx) (hfn:X.fn cx=true\/X.env.scope.names.lookup cx=some .local) (hcv:Vis X.env.scope cx) (hcd:(cx==("__debug__" : Str))=false) (hcc:(cx==("__classdict__" : Str))=false)
  (hj:X.N[j]?=some th) (hv:Vis X.env.scope th) (hdt:(th==("__debug__" : Str))=false) (hct:(th==("__classdict__" : Str))=false) (hij:i≠j)
  (hw0:swapsWith (.Constant .none j1 p2) (some (.Name cx p1)) p3.line X.env=pure false) (hw1:swapsWith (.Call (.Name g p4) [.Name th p5] [] p6) none p7.line X.env=pure false) (hw2:swapsWith (.Name n p9) (some (.Name cx p8)) p10.line X.env=pure false)
  (hl:X.env.kindOf n=some .local) (hdn:(n==("__debug__" : Str))=false) (hcn:(n==("__classdict__" : Str))=false) (hn:n ∉ X.N) (xC:mR X.K excAt iC) (xF:IE X.K excAt Db cH) (xD:mR X.K Dc iD) (hm:PySem.W.mroIn X.K excAt (.ref Dc)=some true) (hgD:Gl X dn) (hmD:X.mg dn=some (.ref Dc)) (hdd:(dn==("__debug__" : Str))=false)
  (hst:X.stack=X.env :: X.outer) (hfr:X.env.frame=some X.env.locals) (hxe:∀ e s,¬X.xe e s)
  (hgi:Gl X "isinstance") (hmi:X.mg "isinstance" = none) (hgA:Gl X An) (hmA:X.mg An=some (.ref excAt)) (hdA:(An==("__debug__" : Str))=false) (hgV:Gl X "ValueError") (hmV:X.mg "ValueError" = none) (hV:PySem.W.mroIn X.K excAt (.type "ValueError")=some true)
  (hgI:Gl X "int") (hmI:X.mg "int" = none) (hgB:Gl X "bool") (hmB:X.mg "bool" = none)
  (hB1:∀ ea oe,JA (Xp X ea oe) es1 ta1) (ht1:ta1=fun Z H Q=>Q (B1.map V.ref) H) (hB2:∀ ea oe,JA (Xp X ea oe) es2 ta2) (ht2:ta2=fun Z H Q=>Q (B2.map V.ref) H) (hB3:∀ ea oe,JA (Xp X ea oe) es3 ta3) (ht3:ta3=fun Z H Q=>Q (B3.map V.ref) H) (hBl:B1.length<=20/\B2.length<=20/\B3.length<=20)
  (hBk:∀ B∈B1++B2++B3,PySem.W.kitOne X.K (.ref excAt) (.ref B)=some false)
  (hba:∀ p,attributeBase (.Name cx p) cH X.env (eval (.Name cx p) X.env)=eval (.Name cx p) X.env) (hmk:behindInMarks .Is (.Constant .none j2 c3)=false) :
  JSs X (.Assign [.Name cx p1] (.Constant .none j1 p2) p3 :: .Try [.Expr (.Call (.Name g p4) [.Name th p5] [] p6) p7] [.ExceptHandler (some (.Name dn np)) (some n) [.Assign [.Name cx p8] (.Name n p9) p10] hp] [] [] p11 :: rs)
   (GL (tCB ((EY fn hm1).r X.K) (iS (gu j) rY))):=by
 subst ht1 ht2 ht3;have kA:PySem.W.kitOne X.K (.ref excAt) (.ref excAt)=some true:=by unfold PySem.W.kitOne;rw [Og (by simp)]
 have kV:PySem.W.kitOne X.K (.ref excAt) (.type "ValueError")=some true:=by
  unfold PySem.W.kitOne;rw [Ot (by simp)];unfold PySem.W.kitCls;show (if PySem.W.kitMeta "ValueError" = true then PySem.W.subIn X.K (.ref excAt) (.type "ValueError") else none)=some true;rw [Og (by decide +kernel)];exact hV
 have nv:∀ {Y:Cx} (b:List Stmt),JSs Y b uS:=fun b=>⟨fun _ _ _ _ _ _ h=>absurd h id⟩;have z1:JSs X rs (IG (IK (uE (tOp LO (gu i) (tC .non))) (GL (tC .non)) zY) uS):=er ▸
  aq (bU (fM qH (ER i hi hcv hcd hcc) ph hmk) (aI (aT ph)) cf) (nv _)
 have vt:∀ {Y:Cx} {e:Expr} {t:TE},JE Y e t->(∀ whole,isTrue e Y.env whole=(do let v<-whole;standAt e.pos;holding [v] (truthy v)))->JT Y e (tB t):=fun h e=>zG h e;have z2:∀ ea oe dx vs,oe.cls=.ref excAt->oe.dict=some dx->oe.data=.fields vs->JSs (Xp X ea oe) rs _:=fun ea oe dx vs oc od of =>
  have vr:∀ {p:Pos},JE (Xp X ea oe) (.Name cx p) (gu i):=fun {p}=>ER i hi hcv hcd hcc;have at':∀ {p p':Pos},JE (Xp X ea oe) (.Attribute (.Name cx p) cH p') _:=fun {p p'}=>⟨Ex xC xF oc od of hi hcv hcd hcc (hba p)⟩;have tp:∀ {es:List Expr} {Bs:List Qx} {x p p2 p3 p4},JA (Xp X ea oe) es (fun Z H Q=>Q (Bs.map V.ref) H)->JE (Xp X ea oe) (.Call (.Name "isinstance" p) [.Name cx p2,.Tuple es x p3] [] p4) _:=fun h=>eB (C8 xC oc) hgi hmi (by decide +kernel) (eA vr (eA (dR h) aa rfl) rfl) rfl rfl (by decide) rfl
  er▸(aq (bU (fM qH vr ph hmk) (nv _) cf) <| aq (bU (zG (tp (hB1 ea oe)) fun _=>rfl) (nv b1) cf) <| aq (bU (zG (tp (hB2 ea oe)) fun _=>rfl) (nv b2) cf) <|
   aq (bU (eW (wg (gR (zG (eB (uN xC oc) hgi hmi (by decide +kernel) (eA vr (eA (bf (v:=.ref excAt) hgA hmA rfl hdA) aa rfl) rfl) rfl rfl (by decide) rfl) fun _=>rfl))
    (wg (gR (zG (eB (uN xC oc) hgi hmi (by decide +kernel) (eA vr (eA (Im (v:=.ty "ValueError") hgV hmV PyProof.Rows.Boot.«ValueError» rfl (by decide) rfl) aa rfl) rfl) rfl rfl (by decide) rfl) fun _=>rfl)) (jU (zG (tp (hB3 ea oe)) fun _=>rfl))))) (nv b3) cf) <|
   aq (bU (eW (wg (gR (zG (LB (T := "int") hgi hmi at' rfl (Im hgI hmI (by decide +kernel) rfl (by decide) rfl)) fun _=>rfl)) (jU (zG (LB (T := "bool") hgi hmi at' rfl (Im hgB hmB (by decide +kernel) rfl (by decide) rfl)) fun _=>rfl)))) (nv b4) cf) <|
   aI (aT at'))
 refine ⟨fun pins s Z H D I h=>?_⟩;have il:i < Z.length:=by rw [I.len];exact (N9.mp hi).1
 obtain ⟨y,ej,h⟩:=(show (gu j) Z H (fun x H3=>HP fn X.K [x] H3 D.rt) from h);refine Pz (thn ((Kz (i:=i) ph nd hi hx hw0 hfn).h pins s Z H { nx:=fun Z' H'=>Z'=Z.set i (some .non)/\H'=H,rt:=fun _ _=>False } I ⟨rfl,rfl⟩) fun fl s1 q=>?_);cases fl with
 | ret v=>obtain ⟨_,_,_,_,_,q⟩:=q;exact q.elim
 | brk=>obtain ⟨_,_,_,q⟩:=q;exact q.elim
 | cont=>obtain ⟨_,_,_,q⟩:=q;exact q.elim
 | next =>
 obtain ⟨Z1,H1,I1,rfl,rfl⟩:=q;have ej1:(Z.set i (some V.non))[j]?=some (some y):=by rw [N7 hij];exact ej
 have ha:JA X [.Name th p5] (iS (gu j) rY):=eA (ER j hj hv hdt hct) aa rfl;refine Pz (wpAny_Try_except ?_);refine Pz (wpAny_Expr_any ?_ I1.quiet hw1);refine PN (gS I1 hgf hmf ?_ hdg);refine P7 (h₀:=X.base) I1.ok.mod.kin hk (O9 (ha.h p6 pins _ _ H1 (fun vs H'=>vs=[y]/\H'=H1) I1 ⟨y,ej1,rfl,rfl⟩) (fun us s3 z=>?_) fun e s z=>(hxe e s z).elim) (aV rfl) (bG rfl);obtain ⟨vs,H3,I3,r3,rfl,rfl⟩:=z;refine ⟨I3.kIn,?_⟩;have hlen:us.length=ps.length:=by rw [<- r3.length];exact F.len _ _ _ _ h
 have hb':BindsTo s3 fd ⟨us,[]⟩ (ps.zip us):=by
  have z:=hb s3 us I3.kIn (by rw [OC];exact hlen);rw [OC] at z;exact z
 refine wpAny_call (Qi (F.run X.A X.stack s3 H3 ⟨us,[]⟩ us _ _ _ hr I3.EF hb' r3 h) fun r s' hq=>?_);cases r with
 | ok fl =>
  cases fl with
  | next=>exact False.elim hq
  | brk=>exact False.elim hq
  | cont=>exact False.elim hq
  | ret u =>
   obtain ⟨v,H4,I4,r4,q4⟩:=I3.after hq;refine PK (PK ?_);have ei:(Z.set i (some V.non))[i]?=some (some V.non):=Oj il;exact z1.h pins s' _ H4 D I4 ⟨_,ei,rfl,true,rfl,q4 H4 (aZ.rf _)⟩
 | error e =>
  obtain ⟨ea,C',t,dx,H',b,rfl,ho,hbr,u,kk,hok,fl,dx',H0,p,ec,ed,hpay,h0,rfl,q⟩:=hq;cases ec;cases ed;refine tN (D:=Dc) rfl I3 ho hbr u kk hok fl hst hfr xC xD hm hgD hmD hl hn nd hdd fun oe ws s5 oc od of I5=>?_;have ndN:(X.N++[n]).Nodup:=by
   rw [Qe]
   exact ⟨nd,by simp,fun a ha c hc z=>hn (by
    have hc:c=n:=by simpa using hc
    rw [<- hc,<-z];exact ha)⟩
  have iN:i < X.N.length:=(N9.mp hi).1;have len:(Z.set i (some V.non)).length=X.N.length:=I1.len;have ps:PS (Xs X ea oe n) (.Assign [.Name cx p8] (.Name n p9) p10) (yX (gu X.N.length) (fX i)) :=
   BX (X:=Xs X ea oe n) (i:=i) ndN (by show (X.N++[n])[i]?=some cx;rw [Oq iN];exact hi) hx (jJ (by show (X.N++[n])[X.N.length]?=some n;simp) (.inl hl) hdn hcn) hw2 hfn
  have run:=wm ps pins s5 _ _ { nx:=fun τ H4=>τ=(Z.set i (some V.non)++[some (V.ref ea)]).set i (some (V.ref ea))/\H4=upd H0 dx (.xd [(cH,.int p)]),rt:=fun _ _=>False } I5 ⟨_,by rw [<- len];simp,rfl,rfl⟩;refine O9 run (fun fl s6 z=>?_) fun _ _ z=>z.elim;cases fl with
  | ret v=>obtain ⟨_,_,_,_,_,q⟩:=z;exact q.elim
  | brk=>obtain ⟨_,_,_,q⟩:=z;exact q.elim
  | cont=>obtain ⟨_,_,_,q⟩:=z;exact q.elim
  | next =>
   obtain ⟨τ,H4,I6,rfl,rfl⟩:=z;have I6':Inv (Xs X ea oe n) ((ea,oe) :: pins) ((Z.set i (some V.non)++[some (V.ref ea)]).set i (some (V.ref ea))) (upd H0 dx (.xd [(cH,.int p)])) s6:=I6.gE fun p hp=>by
    rcases Oo.mp hp with z | z
    ·rw [z];exact I6.pin (ea,oe) Od
    ·exact I6.pin p (OD _ z)
   refine ⟨rfl,_,_,_,I6',fun s7 I7=>?_⟩;rw [List.set_append_left _ _ (by rw [len];exact iN),List.take_append_of_le_length (by rw [OJ,len];exact Ol _),PY (by rw [OJ,len];exact Ol _),P6] at I7;have ei:(Z.set i (some (V.ref ea)))[i]?=some (some (V.ref ea)):=Oj il;refine O9 ((z2 ea oe dx ws oc od of).h pins s7 _ _ D I7.JQ ?_) (fun f s z=>z.sP I.ok) fun _ _ z=>z;have kB:∀ {Bs:List Qx},(∀ B∈Bs,B∈B1++B2++B3)->PySem.W.kitAny X.K (.ref excAt) (Bs.map Value.ref)=some false:=fun h=>nB fun B hB=>hBk B (h B hB);have sz:20<=sizeLine:=by decide
   have gx:∀ {H':Hp},aZ (upd H0 dx (.xd [(cH,.int p)])) H'->H' dx=some (.xd [(cH,.int p)]):=fun sm=>sm _ _ aE;refine ⟨_,ei,rfl,false,rfl,?_⟩;refine ⟨_,ei,by rw [N6];exact Oy hBl.1 sz,fun tp htp=>⟨tp,B1,false,rfl,aE,kB fun B h=>by simp [h],false,rfl,?_⟩⟩;have S1:=aZ.nw (.tup (B1.map V.ref)) htp;refine ⟨_,ei,by rw [N6];exact Oy hBl.2.1 sz,fun tp htp=>⟨tp,B2,false,rfl,aE,kB fun B h=>by simp [h],false,rfl,?_⟩⟩;have S2:=aZ.tr S1 (aZ.nw (.tup (B2.map V.ref)) htp);refine ⟨_,ei,.ref excAt,.ref excAt,true,rfl,(fun u z=>z),kA,true,rfl,?_⟩;dsimp only;rw [Ot (by decide)];refine ⟨_,ei,.ty "ValueError", .type "ValueError", true,rfl,(fun u z=>z),kV,true,rfl,?_⟩;dsimp only;rw [Ot (by decide)];refine ⟨_,ei,by rw [N6];exact Oy hBl.2.2 sz,fun tp htp=>⟨tp,B3,false,rfl,aE,kB fun B h=>by simp [h],false,rfl,?_⟩⟩;have S3:=aZ.tr S2 (aZ.nw (.tup (B3.map V.ref)) htp);refine ⟨ei,_,hpay,gx S3,fun _=>False,.int p,true,rfl,rfl,true,rfl,?_⟩;dsimp only;rw [Ot (by decide)];exact ⟨ei,_,hpay,gx S3,fun _=>False,.int p,false,rfl,rfl,false,rfl,ei,_,hpay,gx S3,q _ S3⟩
end
theorem mR.lk {K:Fg} {C:Qx} {i:Option Qz} (x:mR K C i):∃ cd bm,PySem.W.clsIn K C=some cd/\cd.mro=.ref C :: bm/\PySem.W.typeIn K (.ref C)=some (.type "type"):=by
 obtain ⟨dd,cd,bm,k0,k1,k2,k3,k5,lk,em,_⟩:=x.ex;exact ⟨cd,bm,by unfold PySem.W.clsIn;rw [lk],em,by show Option.map (fun x=>x.cls) (K.lookup C)=_;rw [lk];rfl⟩
theorem zL {K:Fg} {C B:Qx} {i:Option Qz} {dd:Option Qx} {cd:ClassData} {sl:Array (Option Qz)} (x:mR K C i) (y:K.lookup B=some ⟨.type "type", dd,.cls cd,sl⟩) (h:PySem.W.mroIn K C (.ref B)=some false):PySem.W.kitOne K (.ref C) (.ref B)=some false:=by
 obtain ⟨c1,b1,e1,m1,t1⟩:=x.lk;unfold PySem.W.kitOne;rw [Ot]
 ·unfold PySem.W.kitCls;show (if ((PySem.W.clsIn K B).isSome&&PySem.W.typeIn K (.ref B)==some (.type "type"))=true then PySem.W.subIn K (.ref C) (.ref B) else none)=some false;have k1:PySem.W.clsIn K B=some cd:=by unfold PySem.W.clsIn;rw [y]
  have k2:PySem.W.typeIn K (.ref B)=some (.type "type"):=by show Option.map (fun x=>x.cls) (K.lookup B)=_;rw [y];rfl
  rw [k1,k2,Og (by simp)];exact h
 ·intro q;have q:C=B:=Value.ref.inj (Px.mp q);subst q;unfold PySem.W.mroIn at h;rw [e1] at h;have h:(if c1.mro.isEmpty then none else some (c1.mro.contains (.ref C)))=some false:=h;rw [m1] at h;simp at h
noncomputable def yY (s:Stmt):Stmt:=match s with
 | .ClassDef _ _ _ b _ _ _ _ _ _ _=>b.getD 0 (.Pass ⟨0,0,0,0⟩)
 | _=>.Pass ⟨0,0,0,0⟩
theorem iOp (ho:OpR X (binaryOp op) (fun x y=>p.r X.K [x,y])) (ha:JE X a (rE X.K ga a')) (hb:JE X b (rE X.K ga b')):JE X (.BinOp a op b pos) (rE X.K ga (p2 p a' b')):=eOp ho ha hb
def Ya (K:Fg) (mg:Str->Option Qz) (x:Str) (a:Qx):Prop:=mg x=some (.ref a)/\PySem.W.kitOne K (.ref excAt) (.ref a)=some false
def HB (K:Fg) (mg:Str->Option Qz):List Str->Prop
 | []=>True
 | x :: r=>(∃ a,Ya K mg x a)/\HB K mg r
theorem Le {K:Fg} {mg:Str->Option Qz} {h:Heap} {x:Str} {a:Qx} {i:Option Qz} {r:List Str} {dd:Option Qx} {cd:ClassData} {sl:Array (Option Qz)} (X:K.In h) (G:h.Ns mainGlobals mg) (xC:mR K excAt i) (n:PySem.W.nsIn K mainGlobals x=some (some (.ref a))) (l:K.lookup a=some ⟨.type "type", dd,.cls cd,sl⟩) (m:PySem.W.mroIn K excAt (.ref a)=some false) (hr:HB K mg r):HB K mg (x :: r) :=
 ⟨⟨a,OR X G n,zL xC l m⟩,hr⟩
theorem Ml {K:Fg} {mg:Str->Option Qz}:∀ {l:List Str},HB K mg l->∃ y:Nat->Qx,∀ i {x},l[i]?=some x->Ya K mg x (y i)
 | [],_=>⟨fun _=>0,fun i x h=>by cases h⟩
 | z :: r,⟨⟨a,ha⟩,hr⟩=>by
  obtain ⟨f,hf⟩:=Ml hr;refine ⟨fun i=>i.casesOn a f,fun i x h=>?_⟩;cases i with
  | zero=>cases h;exact ha
  | succ i=>exact hf i h
section
variable {gd:List Qq} {env e1:En} {E:Kn} {P:Option Int} {Q:RV->En->Prop} {QA:List AV->En->Prop} {i:Nat} {a b:XE} {as:XA} {s t:XS} {f:Fn} {avs:List AV}
def WX (gd:List Qq) (s:XS) (env:En) (E:Kn) (P:Option Int):Prop:=WS gd s env E\/∃ p,P=some p/\dS gd s env=none/\xS gd s env=some p
def WY (gd:List Qq) (e:XE) (env:En) (Q:RV->En->Prop) (P:Option Int):Prop:=WE gd e env Q\/∃ p,P=some p/\dE gd e env=none/\xE gd e env=some p
def WZ (gd:List Qq) (e:XA) (env:En) (Q:List AV->En->Prop) (P:Option Int):Prop:=WA gd e env Q\/∃ p,P=some p/\dA gd e env=none/\xA gd e env=some p
def WU (f:Fn) (ds:List Qq) (Q:PR->List Qq->Prop) (P:Option Int):Prop:=WF f ds Q\/∃ p,P=some p/\f.F ds=none/\f.X ds=some p
def WCx (f:Fn) (avs:List AV) (e:En) (Q:RV->En->Prop) (P:Option Int):Prop:=mB f avs e Q\/∃ p,P=some p/\kU f avs e=none/\tZ f avs e=some p
theorem pf (hl:ds.length=ms.length) (h:WX gd s (aB ms ds n) ⟨sC ms QF,EJ ms QF,fun _=>False,fun _=>False⟩ P):WU (bJ gd ms n s) ds QF P:=by
 rcases h with h | ⟨p,ep,h1,h2⟩
 ·exact .inl (dY hl h)
 ·refine .inr ⟨p,ep,?_⟩;simp only [bJ];rw [Og hl,Og hl,h1,h2];exact ⟨rfl,rfl⟩
theorem D2 (h:WX gd s env { E with nx:=fun e=>WX gd t e E P } P):WX gd (.seq s t) env E P:=by
 rcases h with ⟨o,ho,q⟩ | ⟨p,ep,h1,h2⟩
 ·cases o with
  | nx e =>
   rcases q with ⟨o2,h3,q⟩ | ⟨p,ep,h3,h4⟩
   ·exact .inl ⟨o2,by simp only [dS,ho,h3],q⟩
   ·exact .inr ⟨p,ep,by simp only [dS,ho,h3,h4],by simp only [xS,ho,h3,h4]⟩
  | rt r e=>exact .inl ⟨.rt r e,by simp only [dS,ho],q⟩
  | bk e=>exact .inl ⟨.bk e,by simp only [dS,ho],q⟩
  | ct e=>exact .inl ⟨.ct e,by simp only [dS,ho],q⟩
 ·exact .inr ⟨p,ep,by simp only [dS,h1,h2],by simp only [xS,h1,h2]⟩
theorem Gx (h:WY gd a env (fun r e=>Ec i r e E.nx) P):WX gd (.aY i a) env E P:=by
 rcases h with h | ⟨p,ep,h1,h2⟩
 ·exact .inl (BN h)
 ·exact .inr ⟨p,ep,by simp only [dS,h1,h2],by simp only [xS,h1,h2]⟩
theorem HL (h:WY gd a env (fun _ e=>E.nx e) P):WX gd (.drop a) env E P:=by
 rcases h with h | ⟨p,ep,h1,h2⟩
 ·exact .inl (B4 h)
 ·exact .inr ⟨p,ep,by simp only [dS,h1,h2],by simp only [xS,h1,h2]⟩
theorem Jg (h:WY gd a env E.rt P):WX gd (.ret a) env E P:=by
 rcases h with h | ⟨p,ep,h1,h2⟩
 ·exact .inl (Hi h)
 ·exact .inr ⟨p,ep,by simp only [dS,h1,h2],by simp only [xS,h1,h2]⟩
theorem KU {x:XT} (h:WT gd x env fun b e=>if b=true then WX gd s e E P else WX gd t e E P):WX gd (.ifs x s t) env E P:=by
 obtain ⟨b,e',h1,h2⟩:=h;cases b with
 | true =>
  rcases (show WX gd s e' E P from h2) with ⟨o,h3,q⟩ | ⟨p,ep,h3,h4⟩
  ·exact .inl ⟨o,by simp only [dS,h1,h3],q⟩
  ·exact .inr ⟨p,ep,by simp only [dS,h1,h3,h4],by simp only [xS,h1,h3,h4]⟩
 | false =>
  rcases (show WX gd t e' E P from h2) with ⟨o,h3,q⟩ | ⟨p,ep,h3,h4⟩
  ·exact .inl ⟨o,by simp only [dS,h1,h3],q⟩
  ·exact .inr ⟨p,ep,by simp only [dS,h1,h3,h4],by simp only [xS,h1,h3,h4]⟩
theorem LX (h:WE gd a env fun r _=>∃ p,r.av=.dat (.int p)/\P=some p/\fJ (.int p)=true):WX gd (.rse a) env E P:=by
 obtain ⟨r,e',h1,p,h2,ep,h3⟩:=h;exact .inr ⟨p,ep,by simp only [dS],by simp only [xS,h1,h2];exact Og h3⟩
theorem MS {N:Nat} {c:XT} (Inv:Nat->En->Prop) (m:Nat) (hm:m < N) (h0:Inv m env)
  (hs:∀ k e,k<=m->Inv k e->WT gd c e fun b e2=>if b=true then WX gd s e2 ⟨fun e3=>∃ j,j < k/\Inv j e3,E.rt,fun _=>False,fun _=>False⟩ P else E.nx e2):WX gd (.wh N c s) env E P:=by
 have key:∀ (n k:Nat) (e:En),k < n->k<=m->Inv k e->(∃ o,whL (dT gd c) (dS gd s) n e=some o/\E.at o)\/∃ p,P=some p/\whL (dT gd c) (dS gd s) n e=none/\whX (dT gd c) (dS gd s) (xS gd s) n e=some p:=by
  intro n;induction n with
  | zero=>intro k e h;omega
  | succ n ih =>
   intro k e h hN hI;obtain ⟨b,e2,h1,h2⟩:=hs k e hN hI;unfold whL whX;cases b with
   | false=>exact .inl ⟨.nx e2,by simp only [h1],h2⟩
   | true =>
    rcases (show WX gd s e2 _ P from h2) with ⟨o,h3,q⟩ | ⟨p,ep,h3,h4⟩
    ·cases o with
     | nx e3 =>
      obtain ⟨j,hj,hI3⟩:=q;simp only [h1,h3];exact ih j e3 (by omega) (by omega) hI3
     | rt r e3=>exact .inl ⟨.rt r e3,by simp only [h1,h3],q⟩
     | bk e3=>exact q.elim
     | ct e3=>exact q.elim
    ·exact .inr ⟨p,ep,by simp only [h1,h3],by simp only [h1,h3,h4]⟩
 rcases key N m env hm (Ol _) h0 with ⟨o,h1,q⟩ | ⟨p,ep,h1,h2⟩
 ·exact .inl ⟨o,by simp only [dS];exact h1,q⟩
 ·exact .inr ⟨p,ep,by simp only [dS];exact h1,by simp only [xS];exact h2⟩
theorem CQ (h:WA gd as env fun avs e=>WCx f avs e Q P):WY gd (.bT f as) env Q P:=by
 obtain ⟨avs,e',h1,⟨rv,e2,h2,q⟩ | ⟨p,ep,h2,h3⟩⟩:=h
 ·exact .inl ⟨_,_,by simp only [dE,h1];exact h2,q⟩
 ·exact .inr ⟨p,ep,by simp only [dE,h1];exact h2,by simp only [xE,h1];exact h3⟩
theorem aj (h1:gQ e1 f.ms avs=some ds) (h2:cT f.ms avs=is) (hc:ckA is (qY f.ms avs) is.length=true) (h:WU f ds (fun pr outs=>outs.length=is.length/\Q pr.rv (dH e1 is outs)) P):WCx f avs e1 Q P:=by
 rcases h with ⟨pr,outs,h3,h4,h5⟩ | ⟨p,ep,h3,h4⟩
 ·exact .inl (ae h1 h2 ⟨pr,outs,h3,by rw [h4];exact hc,h5⟩)
 ·subst h2;refine .inr ⟨p,ep,by unfold kU;simp only [h1,h3],?_⟩;unfold tZ;simp only [h1];rw [Og hc];exact h4
theorem Ma {m:Str} (h0:aR env i=some (.dict kvs)) (h1:B6 m kvs=true) (h:WA gd as env fun avs e=>WCx f (.bor i :: avs) e Q P):WY gd (.mtx m f i as) env Q P:=by
 obtain ⟨avs,e',h2,⟨rv,e2,h3,q⟩ | ⟨p,ep,h3,h4⟩⟩:=h
 ·exact .inl ⟨_,_,by simp only [dE,h0];rw [Og h1];simp only [h2];exact h3,q⟩
 ·refine .inr ⟨p,ep,?_,?_⟩
  ·simp only [dE,h0];rw [Og h1];simp only [h2];exact h3
  ·simp only [xE,h0];rw [Og h1];simp only [h2];exact h4
theorem Kw {p:Prm} (h:WZ gd as env (fun avs e=>WPr p avs e Q) P):WY gd (.prm p as) env Q P:=by
 rcases h with h | ⟨p,ep,h1,h2⟩
 ·exact .inl (AS h)
 ·exact .inr ⟨p,ep,by simp only [dE,h1,h2],by simp only [xE,h1,h2]⟩
theorem Mg (h:WZ gd as env (fun avs e=>WTp (fun ds=>.dat (.tuple ds)) avs e Q) P):WY gd (.tup as) env Q P:=by
 rcases h with h | ⟨p,ep,h1,h2⟩
 ·exact .inl (Be h)
 ·exact .inr ⟨p,ep,by simp only [dE,h1,h2],by simp only [xE,h1,h2]⟩
theorem KQ (h0:aR env i=some d) (h1:m.ty d=true) (h:WZ gd as env (fun avs e2=>WMr m i avs e2 Q) P):WY gd (.mtr m i as) env Q P:=by
 rcases h with h | ⟨p,ep,h2,h3⟩
 ·exact .inl (Ge h0 h1 h)
 ·refine .inr ⟨p,ep,?_,?_⟩
  ·simp only [dE,h0];rw [Og h1];simp only [h2]
  ·simp only [xE,h0];rw [Og h1];exact h3
theorem FY (h:WY gd a env (fun r e=>WZ gd as e (fun avs e2=>QA (r.av :: avs) e2) P) P):WZ gd (.cons a as) env QA P:=by
 rcases h with ⟨r,e',h1,⟨avs,e2,h2,q⟩ | ⟨p,ep,h2,h3⟩⟩ | ⟨p,ep,h1,h2⟩
 ·exact .inl ⟨_,_,by simp only [dA,h1,h2],q⟩
 ·exact .inr ⟨p,ep,by simp only [dA,h1,h2,h3],by simp only [xA,h1,h2,h3]⟩
 ·exact .inr ⟨p,ep,by simp only [dA,h1,h2],by simp only [xA,h1,h2]⟩
theorem NU (h:e=e') (q:WX gd s e' E P):WX gd s e E P:=h▸q
theorem Nk (h:e=e') (q:WY gd a e' Q P):WY gd a e Q P:=h▸q
theorem Nt (h:e=e') (q:WZ gd as e' QA P):WZ gd as e QA P:=h▸q
theorem JH (h:e=e') (q:WCx f avs e' Q P):WCx f avs e Q P:=h▸q
theorem KL (h:WS gd s env E):WX gd s env E P:=.inl h
theorem J0 (h:WE gd a env Q):WY gd a env Q P:=.inl h
theorem Lc (h:WA gd as env QA):WZ gd as env QA P:=.inl h
end
end L2
end
set_option bootstrap.genMatcherCode true
section
namespace K21
open PySem PySem.Spec PyProof.Rows L2
noncomputable def top (i:Nat):Stmt:=PySem.Challenge.pw_webshapes_k21_texts_at_the_bounds.main.body.getD i (.Pass ⟨0,0,0,0⟩)
def topC (i j:Nat):Stmt:=match top i with | .ClassDef _ _ _ b _ _ _ _ _ _ _=>b.getD j (.Pass ⟨0,0,0,0⟩) | _=>.Pass ⟨0,0,0,0⟩
abbrev eJ:Stmt:=top 20
abbrev pV:Stmt:=top 21
abbrev oI:Stmt:=top 22
abbrev qE:Stmt:=top 23
abbrev qy:Stmt:=top 24
abbrev l9:Stmt:=top 25
abbrev gh:Stmt:=top 26
abbrev qJ:Stmt:=top 27
abbrev lC:Stmt:=top 37
abbrev jX:Stmt:=top 38
abbrev gc:Stmt:=top 39
abbrev oH:Stmt:=top 40
abbrev nW:Stmt:=top 41
abbrev qt:Stmt:=top 46
abbrev lu:Stmt:=top 47
abbrev lr:Stmt:=top 48
abbrev lO:Stmt:=top 50
abbrev eZ:Stmt:=top 51
abbrev kX:Stmt:=top 52
abbrev lD:Stmt:=top 54
abbrev j5:Stmt:=top 55
abbrev jl:Stmt:=top 56
abbrev m6:Stmt:=top 57
abbrev mn:Stmt:=top 58
abbrev k6:Stmt:=top 59
abbrev j9:Stmt:=top 60
abbrev jO:Stmt:=top 61
abbrev ot:Stmt:=top 62
abbrev mK:Stmt:=top 63
abbrev lp:Stmt:=top 64
abbrev me:Stmt:=top 65
abbrev mE:Stmt:=top 66
abbrev l3:Stmt:=top 67
abbrev Er:Stmt:=top 69
abbrev A0:Stmt:=top 70
abbrev oU:Stmt:=top 71
abbrev sL:Stmt:=top 72
abbrev zX:Stmt:=top 73
abbrev A8:Stmt:=top 74
abbrev qI:Stmt:=top 75
abbrev CT:Stmt:=top 76
abbrev mh:Stmt:=top 77
abbrev nJ:Stmt:=top 78
abbrev As:Stmt:=top 79
abbrev A3:Stmt:=top 80
abbrev Al:Stmt:=top 81
abbrev Ck:Stmt:=top 82
abbrev bC:Stmt:=topC 53 0
abbrev ba:Stmt:=topC 53 1
abbrev bc:Stmt:=topC 53 2
abbrev bx:Stmt:=topC 53 3
abbrev dU:Stmt:=yY (top 7)
def Mh:Str×Stmt×List Str:=("", top 0,[])
def dfs:List (Str×Stmt×List Str):=("are_letters", eJ,["thing", "fewest"]) :: ("is_name", pV,["thing"]) :: ("is_whole", oI,["thing"]) :: ("is_said", qE,["thing"]) :: ("kind_of", qy,["node"]) :: ("show_node", l9,["node"]) :: ("number_in", gh,["text"]) :: ("node_in", qJ,["text"]) :: ("length_of", lC,["word"]) :: ("are_bounds", jX,["low", "high"]) :: ("straight_parts", gc,["form"]) :: ("forms_in", oH,["form"]) :: ("parts_in", nW,["form"]) :: ("run_end", qt,["text", "at", "signs"]) :: ("token_end", lu,["text", "at"]) :: ("tokens_of", lr,["text"]) :: ("show_high", lO,["high"]) :: ("show_inside", eZ,["form"]) :: ("show_form", kX,["form"]) :: ("read_word", lD,["reader"]) :: ("read_value", j5,["reader"]) :: ("read_number", jl,["reader"]) :: ("read_low", m6,["reader"]) :: ("read_high", mn,["reader", "low"]) :: ("read_step", k6,["reader"]) :: ("read_comma", j9,["reader", "has_room"]) :: ("read_closed", jO,["reader"]) :: ("read_not", ot,["reader", "depth", "walked"]) :: ("read_list", mK,["reader", "head", "depth", "walked"]) :: ("read_walk", lp,["reader", "head", "depth"]) :: ("may_begin", me,["head", "forms", "depth", "walked"]) :: ("read_part", mE,["reader", "depth", "walked"]) :: ("read_form", l3,["text"]) :: ("_law_pen", Er,["_law_script"]) :: ("_law_take", A0,["_law_pen_here", "_law_most"]) :: ("_law_names", oU,["_law_pen_here", "_law_many"]) :: ("_law_commas", sL,["_law_rows"]) :: ("_law_grow", zX,["_law_one", "_law_other"]) :: ("_law_laid", A8,["_law_pen_here", "_law_tokens"]) :: ("_law_refused", qI,["_law_text"]) :: ("_law_tip", CT,["_law_pen_here"]) :: ("_law_list", mh,["_law_pen_here", "_law_names_here"]) :: ("_law_forty", nJ,["_law_pen_here"]) :: ("_law_deep", As,["_law_pen_here"]) :: ("_law_word", A3,["_law_pen_here"]) :: ("_law_case", Al,["_law_pen_here", "_law_names_here"]) :: ("law", Ck,["_law_script"]) :: []
noncomputable def ycs:List Str:=["NoText", "NoRow", "NoNode", "NoMay", "NoFact", "NoBook", "Missing", "Clash", "Unknown", "Twice", "NotSimple", "NoWeb", "Mixed", "Against"]
structure Adr where
 f:Nat->Qx×FuncData
 fu:Qx×FuncData
 ak:Qx×FuncData
 az:Qx×FuncData
 aG:Qx×FuncData
 i:Qx×FuncData
 xd:Qx
 y:Nat->Qx
 jE:Qx
 eU:Qx
 jr:Qx
 vN:Tok
 LW:Tok
 xJ:Tok
 xP:Tok
 nY:Tok
 pE:Tok
 jZ:Tok
 nO:Tok
 j4:Tok
 mI:Tok
noncomputable def a8:List (Str×Cst):=[("any", (.i 1)),("thing", (.i 1)),("number", (.i 1)),("said", (.i 1)),("from", (.i 2)),("upto", (.i 2)),("is", (.i 2)),("keeps", (.i 2)),("not", (.i 2)),("all", (.i 2)),("some", (.i 2)),("one", (.i 2)),("none", (.i 2)),("many", (.i 5)),("each", (.i 5)),("closed", (.i 2))]
structure Txt (w:World) (K:Fg) (mg:Str->Option Qz) (t:Adr):Prop where
 d:∀ i {x st ps},dfs[i]?=some (x,st,ps)->Fa K mg x st ps (t.f i)
 zW:Fun K "__init__" "FormReader.__init__" bC t.fu.1 t.fu.2
 AJ:Binds K t.fu.2 ["self", "text"] []
 x4:Fun K "shown" "FormReader.shown" ba t.ak.1 t.ak.2
 a7:Binds K t.ak.2 ["self"] []
 ak:Meth K clsAt "shown" t.ak.1
 vJ:Fun K "taken" "FormReader.taken" bc t.az.1 t.az.2
 bI:Binds K t.az.2 ["self", "value", "fits"] []
 az:Meth K clsAt "taken" t.az.1
 Ai:Fun K "skip" "FormReader.skip" bx t.aG.1 t.aG.2
 bz:Binds K t.aG.2 ["self", "token"] []
 aG:Meth K clsAt "skip" t.aG.1
 cl:Cls K clsAt
 cmk:Mk K clsAt t.fu.1
 cg:mg "FormReader" = some (.ref clsAt)
 fY:eE K clsAt "forms"
 gs:eE K clsAt "place"
 i8:eE K clsAt "tokens"
 oJ:mg "ValueError" = none
 D0:mg "abs" = none
 GS:mg "all" = none
 B8:mg "bool" = none
 wO:mg "int" = none
 aW:mg "isinstance" = none
 fP:mg "len" = none
 dO:mg "range" = none
 zH:mg "sorted" = none
 jj:mg "str" = none
 mx:mg "tuple" = none
 wq:mg "DEEPEST" = some (Value.int 8 t.vN)
 FC:mg "END" = some (Value.str "" t.LW)
 n8:mg "FIGURES" = some (Value.str "0123456789" t.xJ)
 uM:mg "LENGTHS" = some (.ref t.jr)
 jo:mg "LETTERS" = some (Value.str "abcdefghijklmnopqrstuvwxyz" t.xP)
 vM:mg "LISTS" = some (.ref t.jE)
 nq:mg "MOST_BONDS" = some (Value.int 8 t.nY)
 jC:mg "MOST_ENDS" = some (Value.int 60 t.pE)
 jT:mg "MOST_FIGURES" = some (Value.int 30 t.jZ)
 ig:mg "MOST_FORMS" = some (Value.int 40 t.nO)
 jS:mg "MOST_LETTERS" = some (Value.int 8 t.j4)
 lQ:mg "MOST_LISTED" = some (Value.int 6 t.mI)
 jz:mg "WALKS" = some (.ref t.eU)
 wZ:KG w K t.jr a8
 C4:∀ H,SqT K H t.jE [.str "all", .str "some", .str "one", .str "none"]
 Cr:∀ H,SqT K H t.eU [.str "many", .str "each"]
 xc:mR K excAt (some (.ref t.i.1))
 xf:IE K excAt t.xd cH
 xm:mg "NoForm" = some (.ref excAt)
 kp:PySem.W.keepIn K (.ref excAt)=true
 Fi:Fun K "__init__" "NoForm.__init__" dU t.i.1 t.i.2
 bi:Binds K t.i.2 ["self", "at"] []
 fo:∃ o,K.lookup t.i.1=some o/\o.cls=.type "function"
 xd:mR K t.xd none
 xdm:mg "ShapeError" = some (.ref t.xd)
 mr:PySem.W.mroIn K excAt (.ref t.xd)=some true
 mv:PySem.W.mroIn K excAt (.type "ValueError")=some true
 y:∀ i {x},ycs[i]?=some x->Ya K mg x (t.y i)
noncomputable def gds:List Qq:=[.tuple [PyData.str "all", PyData.str "some", PyData.str "one", PyData.str "none"],.tuple [PyData.str "many", PyData.str "each"]]
noncomputable def gav (t:Adr):Nat->V:=fun g=>([.ref t.jE,.ref t.eU]:List V)[g]?.getD .non
theorem aN {w:World} {K:Fg} {mg:Str->Option Qz} {t:Adr} (T:Txt w K mg t):∀ g d,gds[g]?=some d->∀ F H,Dm K F H d (gav t g):=by
 intro g d h F H;rcases g with _ | g
 ·cases h;exact ⟨_,_,rfl,T.C4 H,by decide,⟨_,_,rfl,⟨rfl,by decide +kernel,cy _⟩,⟨_,_,rfl,⟨rfl,by decide +kernel,cy _⟩,⟨_,_,rfl,⟨rfl,by decide +kernel,cy _⟩,⟨_,_,rfl,⟨rfl,by decide +kernel,cy _⟩,rfl⟩⟩⟩⟩⟩
 rcases g with _ | g
 ·cases h;exact ⟨_,_,rfl,T.Cr H,by decide,⟨_,_,rfl,⟨rfl,by decide +kernel,cy _⟩,⟨_,_,rfl,⟨rfl,by decide +kernel,cy _⟩,rfl⟩⟩⟩
 cases h
theorem BB {P:Program} {w:World} {K:Fg} {mg:Str->Option Qz} {base:Heap} {t:Adr} (T:Txt w K mg t):XMk P w K mg base excAt t.i.1 cH t.i.2 ["self", "at"] :=
 ⟨T.xc,T.fo,T.kp,T.Fi.ok (scm (N:=["self", "at"])) (fun vs H Q E ⟨e,v,h,_⟩=>by rw [h];rfl) (fun cdv A outer s H vs Q E hr h=>⟨EN excAt cH,ql T.xc T.xf rfl T.xdm rfl rfl rfl (Or.inl rfl) (Or.inl rfl) rfl rfl rfl rfl (by decide) rfl ⟨_,rfl⟩ rfl,by obtain ⟨e,v,rfl,hp,he,q⟩:=h;exact ⟨e,v,rfl,rfl,hp,he,q⟩⟩),T.bi⟩
abbrev vr0:XE:=vr 0
abbrev vr1:XE:=vr 1
abbrev vr2:XE:=vr 2
abbrev vr3:XE:=vr 3
abbrev vr4:XE:=vr 4
abbrev vr5:XE:=vr 5
abbrev vr6:XE:=vr 6
abbrev vr7:XE:=vr 7
abbrev vr8:XE:=vr 8
abbrev IL:XE:=vr 10
abbrev Mn:XE:=vr 11
abbrev ci0:XE:=ci 0
abbrev ci1:XE:=ci 1
abbrev ci2:XE:=ci 2
abbrev xa1 (a:XE):XA:=.cons a .nil
abbrev xa2 (a b:XE):XA:=.cons a (.cons b .nil)
abbrev xa3 (a b c:XE):XA:=.cons a (.cons b (.cons c .nil))
abbrev xa4 (a b c d:XE):XA:=.cons a (.cons b (.cons c (.cons d .nil)))
def fv:XS :=
 (.seq (.ifs (.or (.not (.tst (p1 (wj "str") vr0))) (.not (.tst (.chn leP leP vr1 (p1 pe vr0) (ci 8))))) (.ret (.cst (.b false))) .skip)
  (.ret (p1 Ip (.cmp [] (.str vr0) .yes (.chn leP leP (cs "a") vr0 (cs "z"))))))
def bo:Fn:=bJ gds [.dat,.dat] 2 fv
def kP:XS :=
 (.ret (.call bo (xa2 vr0 ci1)))
def bP:Fn:=bJ gds [.dat] 1 kP
def jw:XS :=
 (.ret (.oa (p1 (wj "int") vr0) (.ED (p1 (wj "bool") vr0))))
def bL:Fn:=bJ gds [.dat] 1 jw
def ko:XS :=
 (.ret (.oa (p1 (wj "tuple") vr0) (.oa (p2 eqP (p1 pe vr0) ci1) (.call bo (xa2 (p2 ixP vr0 ci0) ci0)))))
def fb:Fn:=bJ gds [.dat] 1 ko
def sM:XS :=
 (.seq (.ifs (.tst (p1 (wj "str") vr0)) (.ret (cs "thing")) .skip)
  (.seq (.ifs (.tst (p1 (wj "tuple") vr0)) (.ret (cs "said")) .skip)
  (.ret (cs "number"))))
def gU:Fn:=bJ gds [.dat] 1 sM
def iF:XS :=
 (.seq (.aY 1 (.call gU (xa1 vr0)))
  (.seq (.ifs (.tst (p2 eqP vr1 (cs "number"))) (.ret (p1 AR vr0)) .skip)
  (.seq (.ifs (.tst (p2 eqP vr1 (cs "said"))) (.ret (p2 bq (cs "'") (p2 ixP vr0 ci0))) .skip)
  (.ret vr0))))
def c7:Fn:=bJ gds [.dat] 2 iF
def eQ:XS :=
 (.seq (.aY 1 (.ifx (.tst (.met yT vr0 (xa1 (cs "-")))) (p2 MW vr0 ci1) vr0))
  (.seq (.ifs (.or (.not (.tst (.chn leP leP ci1 (p1 pe vr1) (ci 30)))) (.not (.tst (p1 Ip (.cmp [] (.str vr1) .yes (.chn leP leP (cs "0") vr0 (cs "9"))))))) (.ret (.cst .n)) .skip)
  (.seq (.aY 2 (p1 ow vr0))
  (.ret (.ifx (.tst (p2 eqP (p1 AR vr2) vr0)) vr2 (.cst .n))))))
def c5:Fn:=bJ gds [.dat] 3 eQ
def kG:XS :=
 (.seq (.ifs (.not (.tst (p1 (wj "str") vr0))) (.ret (.cst .n)) .skip)
  (.seq (.ifs (.tst (.met yT vr0 (xa1 (cs "'")))) (.seq (.aY 1 (.tup (xa1 (p2 MW vr0 ci1))))
  (.ret (.ifx (.tst (.call fb (xa1 vr1))) vr1 (.cst .n)))) .skip)
  (.ret (.ifx (.tst (.call bP (xa1 vr0))) vr0 (.call c5 (xa1 vr0))))))
def bj:Fn:=bJ gds [.dat] 2 kG
def ix:XS :=
 (.ret (p1 (Fm a8) vr0))
def bR:Fn:=bJ gds [.dat] 1 ix
def gm:XS :=
 (.seq (.ifs (.or (.not (.tst (.call bL (xa1 vr0)))) (.not (.tst (.chn leP leP ci0 vr0 (ci 60))))) (.ret (.cst (.b false))) .skip)
  (.ret (.orv (p2 isP vr1 (.cst .n)) (.oa (.call bL (xa1 vr1)) (.chn leP leP vr0 vr1 (ci 60))))))
def bA:Fn:=bJ gds [.dat,.dat] 2 gm
def gC:XS :=
 (.seq (.aY 1 (p2 ixP vr0 ci0))
  (.seq (.ifs (.tst (p2 eqP vr1 (cs "not"))) (.ret (.tup (xa1 (p2 ixP vr0 ci1)))) .skip)
  (.seq (.ifs (.tst (p2 inP vr1 (.glb 0))) (.ret (p2 ixP vr0 ci1)) .skip)
  (.seq (.ifs (.tst (p2 inP vr1 (.glb 1))) (.ret (.tup (xa1 (p2 ixP vr0 (ci 4))))) .skip)
  (.ret (.tup .nil))))))
def aQ:Fn:=bJ gds [.dat] 2 gC
def ja (F_forms_in:Fn):XS :=
 (.seq (.pB 1 (.lst (xa1 vr0)))
  (.seq (.fr 2 (.tup (.call aQ (xa1 vr0))) (.drop (.mtr K0 1 (xa1 (.call F_forms_in (xa1 vr2))))))
  (.ret (.tke 1))))
def aX:Nat->Fn
 | 0=>Fn.no [.dat]
 | n+1=>bJ gds [.dat] 3 (ja (aX n))
def i6:XS :=
 (.ret (p1 pe (.call (aX 9) (xa1 vr0))))
def dP:Fn:=bJ gds [.dat] 1 i6
def kJ:XS :=
 (.seq (.wh 100000 (.and (.tst (p2 ltP vr1 (p1 pe vr0))) (.tst (p2 inP (p2 ixP vr0 vr1) vr2))) (.aY 1 (p2 bq vr1 ci1)))
  (.ret vr1))
def cK:Fn:=bJ gds [.dat,.dat,.dat] 3 kJ
def iE:XS :=
 (.seq (.ifs (.tst (p2 inP (p2 ixP vr0 vr1) (cs "abcdefghijklmnopqrstuvwxyz"))) (.ret (.call cK (xa3 vr0 vr1 (cs "abcdefghijklmnopqrstuvwxyz")))) .skip)
  (.seq (.ifs (.tst (p2 eqP (p2 ixP vr0 vr1) (cs "'"))) (.ret (.call cK (xa3 vr0 (p2 bq vr1 ci1) (cs "abcdefghijklmnopqrstuvwxyz")))) .skip)
  (.seq (.ifs (.or (.tst (p2 eqP (p2 ixP vr0 vr1) (cs "-"))) (.tst (p2 inP (p2 ixP vr0 vr1) (cs "0123456789")))) (.ret (.call cK (xa3 vr0 (p2 bq vr1 ci1) (cs "0123456789")))) .skip)
  (.ret (p2 bq vr1 ci1)))))
def cX:Fn:=bJ gds [.dat,.dat] 2 iE
def gZ:XS :=
 (.seq (.pB 1 (.lst .nil))
  (.seq (.aY 2 ci0)
  (.seq (.wh 100000 (.tst (p2 ltP vr2 (p1 pe vr0))) (.seq (.aY 3 (.call cX (xa2 vr0 vr2)))
  (.seq (.ifs (.tst (p2 neP (p2 ixP vr0 vr2) (cs " "))) (.drop (.mtr uF 1 (xa1 (.tup (xa2 (.sl2 MG vr0 vr2 vr3) vr2))))) .skip)
  (.aY 2 vr3))))
  (.seq (.drop (.mtr uF 1 (xa1 (.tup (xa2 (cs "") (p1 pe vr0))))))
  (.ret (.tke 1))))))
def c6:Fn:=bJ gds [.dat] 4 gZ
def g6:XS :=
 (.ret (.ifx (.tst (p2 isP vr0 (.cst .n))) (cs "*") (p1 AR vr0)))
def cW:Fn:=bJ gds [.dat] 1 g6
def bH (F_show_form:Fn):XS :=
 (.seq (.ifs (.tst (p2 eqP (p2 ixP vr0 ci0) (cs "closed"))) (.ret (.met joinM (cs ", ") (xa1 (p2 ixP vr0 ci1)))) .skip)
  (.seq (.aY 1 (.ifx (.tst (p2 inP (p2 ixP vr0 ci0) (.glb 1))) (.lst (xa3 (p1 AR (p2 ixP vr0 ci1)) (.call cW (xa1 (p2 ixP vr0 ci2))) (p2 ixP vr0 (ci 3)))) (.lst .nil)))
  (.ret (.met joinM (cs ", ") (xa1 (p2 bq vr1 (.cmp [] (.tup (.call aQ (xa1 vr0))) .yes (.call F_show_form (xa1 vr0)))))))))
def ij (F_show_inside:Fn):XS :=
 (.seq (.aY 1 (p2 ixP vr0 ci0))
  (.seq (.ifs (.tst (p2 eqP (.call bR (xa1 vr1)) ci1)) (.ret vr1) .skip)
  (.seq (.ifs (.tst (p2 eqP vr1 (cs "keeps"))) (.ret (p2 bq (p2 bq vr1 (cs " ")) (p2 ixP vr0 ci1))) .skip)
  (.seq (.ifs (.tst (p2 inP vr1 (.tup (xa3 (cs "from") (cs "upto") (cs "is"))))) (.ret (p2 bq (p2 bq vr1 (cs " ")) (.call c7 (xa1 (p2 ixP vr0 ci1))))) .skip)
  (.seq (.aY 2 (.call F_show_inside (xa1 vr0)))
  (.ret (.fst (xa4 (p1 fvP vr1) (cs "(") (p1 fvP vr2) (cs ")")))))))))
def bp (F_show_form:Fn):Fn:=bJ gds [.dat] 2 (bH F_show_form)
def aD:Nat->Fn
 | 0=>Fn.no [.dat]
 | n+1=>bJ gds [.dat] 3 (ij (bp (aD n)))
def dh (n:Nat):Fn:=bp (aD n)
def kH:XS :=
 (.ret (p2 ixP (p2 ixP (p1 (tL "tokens") vr0) (p1 (tL "place") vr0)) ci0))
def ai:Fn:=bJ gds [.ino] 1 kH
def kD:XS :=
 (.seq (.ifs (.not (.tst vr2)) (.rse (p2 ixP (p2 ixP (p1 (tL "tokens") vr0) (p1 (tL "place") vr0)) ci1)) .skip)
  (.seq (.sto (BE "place") 0 (.cst .n) (p2 bq (p1 (tL "place") vr0) ci1))
  (.ret vr1)))
def aA:Fn:=bJ gds [.ino,.dat,.dat] 3 kD
def ip:XS :=
 (.seq (.aY 1 (.mtr (cC "shown" ai) 0 .nil))
  (.ret (.mtx "taken" aA 0 (xa2 vr1 (.call bP (xa1 vr1))))))
def bw:Fn:=bJ gds [.ino] 2 ip
def fV:XS :=
 (.seq (.aY 1 (.call bj (xa1 (.mtr (cC "shown" ai) 0 .nil))))
  (.ret (.mtx "taken" aA 0 (xa2 vr1 (p2 sd vr1 (.cst .n))))))
def cJ:Fn:=bJ gds [.ino] 2 fV
def fw:XS :=
 (.seq (.aY 1 (.call bj (xa1 (.mtr (cC "shown" ai) 0 .nil))))
  (.ret (.mtx "taken" aA 0 (xa2 vr1 (.call bL (xa1 vr1))))))
def cu:Fn:=bJ gds [.ino] 2 fw
def i0:XS :=
 (.seq (.aY 1 (.call bj (xa1 (.mtr (cC "shown" ai) 0 .nil))))
  (.ret (.mtx "taken" aA 0 (xa2 vr1 (.call bA (xa2 vr1 (.cst .n)))))))
def dW:Fn:=bJ gds [.ino] 2 i0
def g9:XS :=
 (.seq (.ifs (.tst (p2 eqP (.mtr (cC "shown" ai) 0 .nil) (cs "*"))) (.ret (.mtx "taken" aA 0 (xa2 (.cst .n) (.cst (.b true))))) .skip)
  (.seq (.aY 2 (.call bj (xa1 (.mtr (cC "shown" ai) 0 .nil))))
  (.ret (.mtx "taken" aA 0 (xa2 vr2 (.oa (p2 sd vr2 (.cst .n)) (.call bA (xa2 vr1 vr2))))))))
def cY:Fn:=bJ gds [.ino,.dat] 3 g9
def nC:XS :=
 (.drop (.mtx "taken" aA 0 (xa2 vr1 (p2 eqP (.mtr (cC "shown" ai) 0 .nil) vr1))))
def aF:Fn:=bJ gds [.ino,.dat] 2 nC
def d7:XS :=
 (.seq (.ifs (.tst (p2 neP (.mtr (cC "shown" ai) 0 .nil) (cs "^"))) (.ret (.bT bw (xa1 vr0))) .skip)
  (.seq (.drop (.mtx "skip" aF 0 (xa1 (cs "^"))))
  (.ret (p2 bq (cs "^") (.bT bw (xa1 vr0))))))
def bQ:Fn:=bJ gds [.ino] 1 d7
def gf:XS :=
 (.drop (.mtx "taken" aA 0 (xa2 (cs ",") (.oa (p2 eqP (.mtr (cC "shown" ai) 0 .nil) (cs ",")) vr1))))
def bg:Fn:=bJ gds [.ino,.dat] 2 gf
def fz:XS :=
 (.seq (.pB 1 (.lst .nil))
  (.seq (.drop (.mtx "skip" aF 0 (xa1 (cs "("))))
  (.seq (.wh 100000 (.tst (p2 neP (.mtr (cC "shown" ai) 0 .nil) (cs ")"))) (.seq (.ifs (.tru vr1) (.drop (.bT bg (xa2 vr0 (p2 ltP (p1 pe vr1) (ci 8))))) .skip)
  (.seq (.aY 2 (.mtr (cC "shown" ai) 0 .nil))
  (.drop (.mtr uF 1 (xa1 (.mtx "taken" aA 0 (xa2 vr2 (.oa (.call bP (xa1 vr2)) (p2 wc vr2 vr1))))))))))
  (.seq (.drop (.mtx "skip" aF 0 (xa1 (cs ")"))))
  (.ret (.tup (xa2 (cs "closed") (p1 xV (p1 pJ vr1)))))))))
def cw:Fn:=bJ gds [.ino] 3 fz
def iq:XS :=
 (.seq (.ifs (.or (.tst (p2 isP (.call bR (xa1 vr0)) (.cst .n))) (.and (.tst vr3) (.or (.tst (p2 inP vr0 (.glb 1))) (.tst (p2 eqP vr0 (cs "closed")))))) (.ret (.cst (.b false))) .skip)
  (.seq (.aY 4 (.ifx (.or (.tst (p2 inP vr0 (.glb 1))) (.tst (p2 eqP vr0 (cs "not")))) ci1 ci0))
  (.ret (.oa (p2 leP (p2 bq (p2 bq vr1 ci1) vr4) (ci 40)) (p2 leP (p2 bq vr2 vr4) (ci 8))))))
def cU:Fn:=bJ gds [.dat,.dat,.dat,.dat] 5 iq
def ju (F_read_part:Fn):XS :=
 (.seq (.drop (.mtx "skip" aF 0 (xa1 (cs "("))))
  (.seq (.aY 3 (.bT F_read_part (xa3 vr0 (p2 bq vr1 ci1) vr2)))
  (.seq (.drop (.mtx "skip" aF 0 (xa1 (cs ")"))))
  (.ret (.tup (xa2 (cs "not") vr3))))))
def iH (F_read_part:Fn):XS :=
 (.seq (.pB 4 (.lst .nil))
  (.seq (.drop (.mtx "skip" aF 0 (xa1 (cs "("))))
  (.seq (.wh 100000 (.tst (p2 neP (.mtr (cC "shown" ai) 0 .nil) (cs ")"))) (.seq (.ifs (.tru vr4) (.drop (.bT bg (xa2 vr0 (.oa (p2 ltP (p1 pe vr4) (ci 6)) (p2 ltP (p1 (tL "forms") vr0) (ci 40)))))) .skip)
  (.drop (.mtr uF 4 (xa1 (.bT F_read_part (xa3 vr0 (p2 bq vr2 ci1) vr3)))))))
  (.seq (.drop (.mtx "skip" aF 0 (xa1 (cs ")"))))
  (.ret (.tup (xa2 vr1 (p1 xV vr4))))))))
def gY (F_read_part:Fn):XS :=
 (.seq (.drop (.mtx "skip" aF 0 (xa1 (cs "("))))
  (.seq (.aY 3 (.bT dW (xa1 vr0)))
  (.seq (.drop (.mtx "skip" aF 0 (xa1 (cs ","))))
  (.seq (.aY 4 (.bT cY (xa2 vr0 vr3)))
  (.seq (.drop (.mtx "skip" aF 0 (xa1 (cs ","))))
  (.seq (.aY 5 (.bT bQ (xa1 vr0)))
  (.seq (.drop (.mtx "skip" aF 0 (xa1 (cs ","))))
  (.seq (.aY 6 (.bT F_read_part (xa3 vr0 (p2 bq vr2 ci1) (.cst (.b true)))))
  (.seq (.drop (.mtx "skip" aF 0 (xa1 (cs ")"))))
  (.ret (.tup (.cons vr1 (xa4 vr3 vr4 vr5 vr6)))))))))))))
def iz (F_read_not:Fn) (F_read_list:Fn) (F_read_walk:Fn):XS :=
 (.seq (.aY 3 (.mtr (cC "shown" ai) 0 .nil))
  (.seq (.drop (.mtx "taken" aA 0 (xa2 vr3 (.call cU (xa4 vr3 (p1 (tL "forms") vr0) vr1 vr2)))))
  (.seq (.sto (BE "forms") 0 (.cst .n) (p2 bq (p1 (tL "forms") vr0) ci1))
  (.seq (.ifs (.tst (p2 inP vr3 (.tup (xa2 (cs "from") (cs "upto"))))) (.ret (.tup (xa2 vr3 (.bT cu (xa1 vr0))))) .skip)
  (.seq (.ifs (.tst (p2 eqP vr3 (cs "is"))) (.ret (.tup (xa2 vr3 (.bT cJ (xa1 vr0))))) .skip)
  (.seq (.ifs (.tst (p2 eqP vr3 (cs "keeps"))) (.ret (.tup (xa2 vr3 (.bT bw (xa1 vr0))))) .skip)
  (.seq (.ifs (.tst (p2 eqP vr3 (cs "closed"))) (.ret (.bT cw (xa1 vr0))) .skip)
  (.seq (.ifs (.tst (p2 eqP vr3 (cs "not"))) (.ret (.bT F_read_not (xa3 vr0 vr1 vr2))) .skip)
  (.seq (.ifs (.tst (p2 inP vr3 (.glb 0))) (.ret (.bT F_read_list (xa4 vr0 vr3 vr1 vr2))) .skip)
  (.seq (.ifs (.tst (p2 inP vr3 (.glb 1))) (.ret (.bT F_read_walk (xa3 vr0 vr3 vr1))) .skip)
  (.ret (.tup (xa1 vr3)))))))))))))
def fK (F_read_part:Fn):Fn:=bJ gds [.ino,.dat,.dat] 4 (ju F_read_part)
def d6 (F_read_part:Fn):Fn:=bJ gds [.ino,.dat,.dat,.dat] 5 (iH F_read_part)
def eK (F_read_part:Fn):Fn:=bJ gds [.ino,.dat,.dat] 7 (gY F_read_part)
def ao:Nat->Fn
 | 0=>Fn.no [.ino,.dat,.dat]
 | n+1=>bJ gds [.ino,.dat,.dat] 4 (iz (fK (ao n)) (d6 (ao n)) (eK (ao n)))
def fO (n:Nat):Fn:=fK (ao n)
def eV (n:Nat):Fn:=d6 (ao n)
def eg (n:Nat):Fn:=eK (ao n)
def m4:XS :=
 (.seq (.sto (BE "tokens") 0 (.cst .n) (.call c6 (xa1 vr1)))
  (.seq (.sto (BE "place") 0 (.cst .n) ci0)
  (.sto (BE "forms") 0 (.cst .n) ci0)))
def gq:Fn:=bJ gds [.ino,.dat] 2 m4
def iL:XS :=
 (.seq (.ifs (.not (.tst (p1 (wj "str") vr0))) (.rse ci0) .skip)
  (.seq (.pB 1 (p1 (ID gq) vr0))
  (.seq (.aY 2 (.bT (ao 9) (xa3 vr1 ci1 (.cst (.b false)))))
  (.seq (.drop (.mtx "skip" aF 1 (xa1 (cs ""))))
  (.ret vr2)))))
def ar:Fn:=bJ gds [.dat] 3 iL
noncomputable def GB:XS :=
 (.ret (.lst (xa3 vr0 ci0 ci0)))
def rG:Fn:=bJ gds [.dat] 1 GB
def yQ:XS :=
 (.seq (.ifs (.tst (p2 gtP (p2 ixP vr0 ci2) ci0)) (.seq (.aY 2 (p2 rL (p2 ixP vr0 ci2) vr1))
  (.seq (.sto DR 0 ci2 (p2 Ao (p2 ixP vr0 ci2) vr1))
  (.ret vr2))) .skip)
  (.seq (.aY 3 (p2 ixP vr0 ci1))
  (.seq (.sto DR 0 ci1 (p2 bq vr3 ci1))
  (.seq (.aY 4 ci0)
  (.seq (.ifs (.tst (p2 gtP (p1 pe (p2 ixP vr0 ci0)) ci0)) (.aY 4 (p2 ixP (p2 ixP vr0 ci0) (p2 rL vr3 (p1 pe (p2 ixP vr0 ci0))))) .skip)
  (.seq (.ifs (.and (.tst (p2 ltP vr3 (p1 pe (p2 ixP vr0 ci0)))) (.tst (p2 geP (p1 IC vr4) (p2 Mw (ci 10) (ci 18))))) (.seq (.sto DR 0 ci2 (p2 Ao (p1 IC vr4) vr1))
  (.ret (p2 rL (p1 IC vr4) vr1))) .skip)
  (.seq (.aY 5 (p2 rL (p2 vU (p2 bq (p2 bq (p2 bq (p2 rL vr4 (ci 2147483629)) (p2 vU (p2 vU (ci 7919) vr3) vr3)) (p2 vU (ci 41) vr3)) (ci 17)) (ci 48271)) (ci 2147483647)))
  (.seq (.aY 5 (p2 rL (p2 bq (p2 bq (p2 vU vr5 vr5) (p2 vU (ci 69621) vr5)) vr3) (ci 2147483587)))
  (.ret (p2 rL (p2 Ao vr5 (ci 7)) vr1))))))))))
def ay:Fn:=bJ gds [.ino,.dat] 6 yQ
def rP:XS :=
 (.seq (.aY 2 (cs "abcdefghijklmnopqrstuvwxyz"))
  (.seq (.aY 3 (.met joinM (cs "") (xa1 (.cmp [2,0] (.rng1 (xa1 (ci 8))) .yes (p2 ixP vr1 (.call ay (xa2 vr2 (ci 26))))))))
  (.seq (.aY 4 (.lst (.cons (cs "any") (.cons (cs "all") (.cons (cs "keeps") (.cons (cs "is") (xa4 (cs "many") (cs "each") (cs "not") (cs "closed"))))))))
  (.seq (.aY 5 (.call ay (xa2 vr0 (ci 4))))
  (.seq (.aY 6 (p2 bq ci1 (.call ay (xa2 vr0 (ci 8)))))
  (.seq (.aY 7 (.call ay (xa2 vr0 vr6)))
  (.seq (.aY 8 (.call ay (xa2 vr0 (ci 26))))
  (.seq (.pB 9 (.lst .nil))
  (.seq (.fr 10 (.rng1 (xa1 vr1)) (.seq (.aY 11 (p2 ixP vr2 (p2 rL (p2 bq vr8 (p2 vU (ci 5) IL)) (ci 26))))
  (.ifs (.and (.tst (p2 eqP vr5 ci0)) (.tst (p2 ltP vr1 (ci 9)))) (.drop (.mtr uF 9 (xa1 (p2 Ll vr3 (p2 bq (p2 rL (p2 bq vr8 (p2 vU (ci 3) IL)) (ci 8)) ci1))))) (.ifs (.and (.tst (p2 eqP vr5 ci1)) (.tst (p2 ltP vr1 (ci 9)))) (.drop (.mtr uF 9 (xa1 (p2 ixP vr4 (p2 rL (p2 bq vr8 IL) (ci 8)))))) (.ifs (.tst (p2 eqP vr5 ci2)) (.drop (.mtr uF 9 (xa1 (p2 bq (p2 ixP vr4 (p2 rL IL (ci 8))) Mn)))) (.drop (.mtr uF 9 (xa1 (p2 bq (p2 bq (p2 Ll vr3 vr7) Mn) (.sl2 MG vr3 (p2 bq vr7 ci1) vr6))))))))))
  (.ret (.tke 9)))))))))))
def iV:Fn:=bJ gds [.ino,.dat] 12 rP
def nt:XS :=
 (.seq (.pB 1 (.lst .nil))
  (.seq (.fr 2 (.lst vr0) (.seq (.ifs (.tst (p2 neP vr1 (.lst .nil))) (.drop (.mtr uF 1 (xa1 (cs ",")))) .skip)
  (.drop (.mtr K0 1 (xa1 vr2)))))
  (.ret (.tke 1))))
def bX:Fn:=bJ gds [.dat] 3 nt
def uW:XS :=
 (.seq (.aY 2 (cs "abcdefghijklmnopqrstuvwxyz"))
  (.seq (.aY 3 (cs "0123456789"))
  (.ret (.orv (.oa (p2 inP (p2 ixP vr0 (p1 IY ci1)) (p2 bq vr2 (cs "'"))) (p2 inP (p2 ixP vr1 ci0) vr2)) (.oa (p2 inP (p2 ixP vr0 (p1 IY ci1)) (p2 bq vr3 (cs "-"))) (p2 inP (p2 ixP vr1 ci0) vr3))))))
def mQ:Fn:=bJ gds [.dat,.dat] 4 uW
def vH:XS :=
 (.seq (.aY 2 (p2 ixP (.lst (xa3 ci1 ci2 (ci 4))) (.call ay (xa2 vr0 (ci 3)))))
  (.seq (.aY 3 (p2 sG (cs " ") (.call ay (xa2 vr0 vr2))))
  (.seq (.pB 4 (.lst .nil))
  (.seq (.fr 5 (.rng1 (xa1 (p1 pe vr1))) (.seq (.aY 6 (.call ay (xa2 vr0 vr2)))
  (.seq (.ifs (.and (.tst (p2 gtP vr5 ci0)) (.and (.tst (p2 eqP vr6 ci0)) (.tst (.call mQ (xa2 (p2 ixP vr1 (p2 Iw vr5 ci1)) (p2 ixP vr1 vr5)))))) (.aY 6 ci1) .skip)
  (.seq (.aY 3 (p2 bq vr3 (p2 sG (cs " ") (p2 vU vr6 (p1 ow (p2 gtP vr5 ci0))))))
  (.seq (.drop (.mtr uF 4 (xa1 (p1 pe vr3))))
  (.aY 3 (p2 bq vr3 (p2 ixP vr1 vr5))))))))
  (.ret (.tup (xa2 vr3 (.tke 4))))))))
def jv:Fn:=bJ gds [.ino,.dat] 7 vH
def gy:XS :=
 (.ret (.prm (EY ar rfl) (xa1 vr0)))
def cm:Fn:=bJ gds [.dat] 2 gy
def Bv:XS :=
 (.ret (p2 ixP (.lst (.cons (.lst (xa1 (cs "any"))) (xa4 (.lst (xa2 (cs "is") (cs "5"))) (.lst (xa2 (cs "from") (cs "-3"))) (.lst (xa3 (cs "none") (cs "(") (cs ")"))) (.lst (xa2 (cs "is") (cs "'")))))) (.call ay (xa2 vr0 (ci 5)))))
def d3:Fn:=bJ gds [.ino] 1 Bv
def xu:XS :=
 (.seq (.aY 2 (.call ay (xa2 vr0 (ci 3))))
  (.seq (.ifs (.tst (p2 eqP vr2 ci0)) (.seq (.aY 3 (.lst (xa2 (p2 ixP (.lst (xa4 (cs "all") (cs "some") (cs "one") (cs "none"))) (.call ay (xa2 vr0 (ci 4)))) (cs "("))))
  (.seq (.aY 3 (p2 bq vr3 (.call bX (xa1 (.cmp [0] (.rng1 (xa1 (ci 6))) .yes (.call d3 (xa1 vr1)))))))
  (.ret (.tup (xa3 vr3 (cs ",") (.lst (xa1 (cs ")")))))))) .skip)
  (.seq (.aY 4 (ci 8))
  (.seq (.ifs (.tst (p2 eqP vr2 ci2)) (.aY 4 (p2 bq ci1 (.call ay (xa2 vr0 (ci 7))))) .skip)
  (.seq (.aY 3 (p2 bq (.lst (xa2 (cs "closed") (cs "("))) (.call bX (xa1 (.cmp [] (.lst (p2 Ll vr1 vr4)) .yes (.lst (xa1 vr0)))))))
  (.seq (.ifs (.tst (p2 eqP vr2 ci1)) (.ret (.tup (xa3 vr3 (cs ",") (.lst (xa1 (cs ")")))))) .skip)
  (.ret (.tup (xa3 (p2 bq vr3 (.lst (xa1 (cs ",")))) (p2 ixP vr1 (.call ay (xa2 vr0 vr4))) (.lst (xa2 (p2 ixP vr1 (ci 7)) (cs ")"))))))))))))
def kZ:Fn:=bJ gds [.ino,.dat] 5 xu
def qU:XS :=
 (.seq (.aY 1 (.call ay (xa2 vr0 (ci 3))))
  (.seq (.pB 2 (.lst .nil))
  (.seq (.fr 3 (.rng1 (xa1 (ci 5))) (.seq (.aY 4 (.lst (.cons (.lst (xa1 (cs "any"))) (.cons (.call d3 (xa1 vr0)) (xa4 (.lst (xa1 (cs "any"))) (.lst (xa1 (cs "said"))) (.call d3 (xa1 vr0)) (.lst (xa1 (cs "any"))))))))
  (.drop (.mtr uF 2 (xa1 (p2 bq (p2 bq (.lst (xa2 (cs "all") (cs "("))) (.call bX (xa1 vr4))) (.lst (xa1 (cs ")")))))))))
  (.seq (.aY 5 (p2 bq (.lst (xa2 (cs "some") (cs "("))) (.call bX (xa1 (.cmp [0] (.rng1 (xa1 (p2 Iw (ci 3) (p1 ow (p2 gtP vr1 ci0))))) .yes (.call d3 (xa1 vr1)))))))
  (.seq (.aY 6 (p2 bq (.lst (xa2 (cs "one") (cs "("))) (.call bX (xa1 (p2 bq vr2 (.lst (xa1 vr5)))))))
  (.seq (.ifs (.tst (p2 eqP vr1 ci0)) (.ret (.tup (xa3 vr6 (cs ",") (.lst (xa2 (cs ")") (cs ")")))))) .skip)
  (.seq (.ifs (.tst (p2 eqP vr1 ci1)) (.seq (.aY 7 (p2 ixP (.lst (xa4 (cs "all") (cs "some") (cs "one") (cs "none"))) (.call ay (xa2 vr0 (ci 4)))))
  (.ret (.tup (xa3 (p2 bq vr6 (.lst (xa3 (cs ",") vr7 (cs "(")))) (p2 ixP (.call d3 (xa1 vr0)) ci0) (.lst (xa3 (cs ")") (cs ")") (cs ")"))))))) .skip)
  (.ret (.tup (xa3 (p2 bq vr6 (.lst (xa1 (cs ",")))) (p2 ixP (.lst (xa3 (cs "not") (cs "many") (cs "each"))) (.call ay (xa2 vr0 (ci 3)))) (.lst (xa3 (cs "any") (cs ")") (cs ")")))))))))))))
def iY:Fn:=bJ gds [.ino] 8 qU
def wd:XS :=
 (.seq (.ifs (.tst (p2 eqP (.call ay (xa2 vr0 ci2)) ci0)) (.seq (.aY 1 (.lst .nil))
  (.seq (.fr 2 (.rng1 (xa1 (ci 8))) (.aY 1 (p2 bq vr1 (.lst (xa2 (p2 ixP (.lst (xa4 (cs "all") (cs "some") (cs "one") (cs "none"))) (.call ay (xa2 vr0 (ci 4)))) (cs "("))))))
  (.ret (.tup (xa3 vr1 (p2 ixP (.call d3 (xa1 vr0)) ci0) (p2 Ju (.lst (xa1 (cs ")"))) (ci 8))))))) .skip)
  (.seq (.aY 1 (.lst .nil))
  (.seq (.fr 2 (.rng1 (xa1 (ci 7))) (.aY 1 (p2 bq vr1 (.lst (xa2 (p2 ixP (.lst (xa4 (cs "all") (cs "not") (cs "one") (cs "some"))) (.call ay (xa2 vr0 (ci 4)))) (cs "("))))))
  (.ret (.tup (xa3 vr1 (p2 ixP (.lst (xa3 (cs "not") (cs "many") (cs "each"))) (.call ay (xa2 vr0 (ci 3)))) (p2 bq (.lst (xa1 (cs "any"))) (p2 Ju (.lst (xa1 (cs ")"))) (ci 7)))))))))
def l0:Fn:=bJ gds [.ino] 3 wd
def yH:XS :=
 (.seq (.aY 1 (.lst (xa2 (.tup (xa3 (.lst (xa1 (cs "keeps"))) (cs "abcdefghi") (.lst (xa1 (cs "abcdefgh"))))) (.tup (xa3 (.lst (xa1 (cs "is"))) (cs "'abcdefghi") (.lst (xa1 (cs "'abcdefgh"))))))))
  (.seq (.aY 1 (p2 bq vr1 (.lst (xa3 (.tup (xa3 (.lst (xa1 (cs "is"))) (p2 sG (cs "9") (ci 31)) (.lst (xa1 (p2 sG (cs "9") (ci 30)))))) (.tup (xa3 (.lst (xa1 (cs "from"))) (cs "00") (.lst (xa1 (cs "0"))))) (.tup (xa3 (.lst (xa1 (cs "upto"))) (cs "-0") (.lst (xa1 (cs "-1")))))))))
  (.seq (.aY 1 (p2 bq vr1 (.lst (xa2 (.tup (xa3 (.lst (xa1 (cs "is"))) (cs "-07") (.lst (xa1 (cs "-7"))))) (.tup (xa3 (.lst (xa1 (cs "from"))) (cs "ab") (.lst (xa1 (cs "7")))))))))
  (.seq (.aY 2 (.lst (.cons (cs ",") (xa4 (cs "ab") (cs ",") (cs "any") (cs ")")))))
  (.seq (.aY 3 (.call ay (xa2 vr0 (ci 61))))
  (.seq (.aY 4 (.lst (xa2 (p2 ixP (.lst (xa2 (cs "many") (cs "each"))) (.call ay (xa2 vr0 ci2))) (cs "("))))
  (.seq (.aY 1 (p2 bq vr1 (.lst (xa2 (.tup (xa3 vr4 (cs "61") (p2 bq (.lst (xa3 (cs "60") (cs ",") (cs "*"))) vr2))) (.tup (xa3 vr4 (cs "-1") (p2 bq (.lst (xa3 (cs "0") (cs ",") (cs "60"))) vr2)))))))
  (.seq (.aY 1 (p2 bq vr1 (.lst (xa2 (.tup (xa3 (p2 bq vr4 (.lst (xa2 (p1 AR vr3) (cs ",")))) (p1 AR (p2 Iw vr3 ci1)) (p2 bq (.lst (xa1 (p1 AR vr3))) vr2))) (.tup (xa3 (p2 bq vr4 (.lst (xa2 (cs "2") (cs ",")))) (cs "61") (p2 bq (.lst (xa1 (cs "60"))) vr2)))))))
  (.seq (.aY 1 (p2 bq vr1 (.lst (xa1 (.tup (xa3 (p2 bq vr4 (.lst (xa4 (cs "2") (cs ",") (cs "*") (cs ",")))) (cs "abcdefghi") (.lst (.cons (cs "^") (xa4 (cs "a") (cs ",") (cs "said") (cs ")"))))))))))
  (.seq (.aY 5 (p2 bq (p2 bq vr4 (.lst (.cons (cs "0") (.cons (cs ",") (.cons (cs "*") (xa4 (cs ",") (cs "^") (cs "any") (cs ","))))))) (p2 ixP (.lst (xa3 (.lst .nil) (.lst (xa2 (cs "not") (cs "("))) (.lst (xa4 (cs "all") (cs "(") (cs "any") (cs ","))))) (p2 rL vr3 (ci 3)))))
  (.seq (.aY 6 (p2 ixP (.lst (xa3 (.lst (xa1 (cs ")"))) (.lst (xa2 (cs ")") (cs ")"))) (.lst (xa2 (cs ")") (cs ")"))))) (p2 rL vr3 (ci 3))))
  (.seq (.aY 1 (p2 bq vr1 (.lst (xa1 (.tup (xa3 vr5 (p2 ixP (.lst (xa3 (cs "many") (cs "each") (cs "closed"))) (.call ay (xa2 vr0 (ci 3)))) (p2 bq (.lst (xa1 (cs "any"))) vr6)))))))
  (.ret (p2 ixP vr1 (.call ay (xa2 vr0 (ci 13)))))))))))))))))
def lW:Fn:=bJ gds [.ino] 7 yH
def yL:XS :=
 (.seq (.aY 2 (.call ay (xa2 vr0 (ci 4))))
  (.seq (.ifs (.tst (p2 eqP vr2 ci0)) (.ret (.call kZ (xa2 vr0 vr1))) .skip)
  (.seq (.ifs (.tst (p2 eqP vr2 ci1)) (.ret (.call iY (xa1 vr0))) .skip)
  (.seq (.ifs (.tst (p2 eqP vr2 ci2)) (.ret (.call l0 (xa1 vr0))) .skip)
  (.ret (.call lW (xa1 vr0)))))))
def kR:Fn:=bJ gds [.ino,.dat] 3 yL
def BS:XS :=
 (.seq (.pB 1 (.call rG (xa1 vr0)))
  (.seq (.fr 2 (.rng1 (xa1 (ci 8))) (.seq (.Cs [3,4,5] (.call kR (xa2 vr1 (.call iV (xa2 vr1 (ci 8))))))
  (.seq (.aY 6 (p2 ixP (.lst (xa4 vr5 (.lst .nil) (.lst (xa2 (cs "any") (cs ")"))) (.lst (xa1 (cs ","))))) (.call ay (xa2 vr1 (ci 4)))))
  (.seq (.Cs [7,8] (.call jv (xa2 vr1 (p2 bq (p2 bq vr3 (.lst (xa1 vr4))) vr6))))
  (.seq (.ifs (.tst (p2 neP (.call cm (xa1 vr7)) (p2 ixP vr8 (p1 pe vr3)))) (.ret (.cst (.b false))) .skip)
  (.seq (.aY 7 (p2 ixP (.call jv (xa2 vr1 (p2 bq vr3 vr5))) ci0))
  (.seq (.ifs (.or (.tst (p2 sd (.call cm (xa1 vr7)) (.cst .n))) (.tst (p2 neP (.bT ar (xa1 (.call (aD 8) (xa1 (.bT ar (xa1 vr7)))))) (.bT ar (xa1 vr7))))) (.ret (.cst (.b false))) .skip)
  (.ifs (.not (.tst (.chn leP leP ci1 (.call dP (xa1 (.bT ar (xa1 vr7)))) (ci 40)))) (.ret (.cst (.b false))) .skip))))))))
  (.ret (.cst (.b true)))))
def vL:Fn:=bJ gds [.dat] 9 BS
def Cb (K:Fg):Sp:=jY vL K
section
variable (P:Program) (w:World) (K:Fg) (mg:Str->Option Qz) (base:Heap) (t:Adr)
abbrev O (i l:Nat) (f:Fn):=c8 P w K mg base CX0 l (t.f i).1 (t.f i).2 (dfs.getD i Mh).2.2 (jY f K)
abbrev OX (i l:Nat) (f:Fn):=c8 P w K mg base (CX2 P w) l (t.f i).1 (t.f i).2 (dfs.getD i Mh).2.2 (spX f K)
abbrev OM (q:Qx×FuncData) (ps:List Str) (l:Nat) (f:Fn):=c8 P w K mg base CX0 l q.1 q.2 ps (jY f K)
abbrev OY (q:Qx×FuncData) (ps:List Str) (l:Nat) (f:Fn):=c8 P w K mg base (CX2 P w) l q.1 q.2 ps (spX f K)
end
section
variable {P:Program} {w:World} {K:Fg} {mg:Str->Option Qz} {base:Heap} {t:Adr} {n:Nat} {cdv:Qz} {A:Around} {outer:List Env} {s:Qv} {H:Hp} {E:XK}
theorem kd (T:Txt w K mg t):O P w K mg base t 0 1 bo :=
 (T.d 0 rfl).okN ["thing", "fewest"] (aN T) fun S hr=>aq (bU (eW (wg (gR (eUx (eIz T.aW (eVx 0) T.jj))) (jU (gR (mJ cD cD (eVx 1) (eBs bK T.fP (eAx (eVx 0) aa)) (bf (v:=.int 8) rfl T.jS ⟨_,rfl⟩ rfl) (by with_unfolding_all rfl)))))) (aI (aT eBl)) cf) (aI (aT (eBs (vB rfl) T.GS (eAx (eKx [] (eIS (eVx 0)) eT0 (eC fun _ _ _ _=>(wL cD cD ah (eVx 0) ah (by with_unfolding_all rfl))) (bsc (sc:=ag eJ) rfl (by decide +kernel)) trivial) aa))))
theorem sV (T:Txt w K mg t) (G0:O P w K mg base t 0 1 bo):O P w K mg base t 1 2 bP :=
 (T.d 1 rfl).okN ["thing"] (aN T) fun S hr=>aI (aT (eCx G0 hr (T.d 0 rfl) (eAx (eVx 0) (eAx aC aa))))
theorem qq (T:Txt w K mg t):O P w K mg base t 2 1 bL :=
 (T.d 2 rfl).okN ["thing"] (aN T) fun S hr=>aI (aT (uU (eIz T.aW (eVx 0) T.wO) (uH (NN (eIz T.aW (eVx 0) T.B8)))))
theorem t8 (T:Txt w K mg t) (G0:O P w K mg base t 0 1 bo):O P w K mg base t 3 2 fb :=
 (T.d 3 rfl).okN ["thing"] (aN T) fun S hr=>aI (aT (uU (eIz T.aW (eVx 0) T.mx) (uU (mX (aP hr.units) (eBs bK T.fP (eAx (eVx 0) aa)) aC (cR _)) (uH (eCx G0 hr (T.d 0 rfl) (eAx (eIy (eVx 0) aC) (eAx aC aa)))))))
theorem su (T:Txt w K mg t):O P w K mg base t 4 1 gU :=
 (T.d 4 rfl).okN ["node"] (aN T) fun S hr=>aq (bU (eUx (eIz T.aW (eVx 0) T.jj)) (aI (aT ah)) cf) (aq (bU (eUx (eIz T.aW (eVx 0) T.mx)) (aI (aT ah)) cf) (aI (aT ah)))
theorem nU (T:Txt w K mg t) (G4:O P w K mg base t 4 1 gU):O P w K mg base t 5 2 c7 :=
 (T.d 5 rfl).okN ["node", "kind"] (aN T) fun S hr=>aq (eSx S.nd 1 (eCx G4 hr (T.d 4 rfl) (eAx (eVx 0) aa))) (aq (bU (eTx (aP hr.units) (eVx 1) ah) (aI (aT (eTs fI T.jj (eAx (eVx 0) aa)))) cf) (aq (bU (eTx (aP hr.units) (eVx 1) ah) (aI (aT (eOp af ah (eIy (eVx 0) aC)))) cf) (aI (aT (eVx 0)))))
theorem o5 (T:Txt w K mg t):O P w K mg base t 6 1 c5 :=
 (T.d 6 rfl).okN ["text", "figures", "number"] (aN T) fun S hr=>aq (eSx S.nd 1 (eIf (eUx (eBM (eVx 0) (eAx ah aa) oF PU PySem.F.slot_str_startswith PySem.F.type_str_startswith rfl rfl rfl rfl rfl)) (eSl (orS jt (orS fF jb)) (eVx 0) (eP aC) Gz) (eVx 0))) (aq (bU (eW (wg (gR (mJ cD cD aC (eBs bK T.fP (eAx (eVx 1) aa)) (bf (v:=.int 30) rfl T.jT ⟨_,rfl⟩ rfl) (by with_unfolding_all rfl))) (jU (gR (eUx (eBs (vB rfl) T.GS (eAx (eKx [] (eIS (eVx 1)) eT0 (eC fun _ _ _ _=>(wL cD cD ah (eVx 0) ah (by with_unfolding_all rfl))) (bsc (sc:=ag gh) rfl (by decide +kernel)) trivial) aa))))))) (aI (aT ph)) cf) (aq (eSx S.nd 2 (eTs lK T.wO (eAx (eVx 0) aa))) (aI (aT (eIf (eTx (aP hr.units) (eTs fI T.jj (eAx (eVx 2) aa)) (eVx 0)) (eVx 2) ph)))))
theorem tH (T:Txt w K mg t) (G3:O P w K mg base t 3 2 fb) (G1:O P w K mg base t 1 2 bP) (G6:O P w K mg base t 6 1 c5):O P w K mg base t 7 3 bj :=
 (T.d 7 rfl).okN ["text", "said"] (aN T) fun S hr=>aq (bU (gR (eUx (eIz T.aW (eVx 0) T.jj))) (aI (aT ph)) cf) (aq (bU (eUx (eBM (eVx 0) (eAx ah aa) oF PU PySem.F.slot_str_startswith PySem.F.type_str_startswith rfl rfl rfl rfl rfl)) (aq (eSx S.nd 1 (dR (eAx (eSl (orS jt (orS fF jb)) (eVx 0) (eP aC) Gz) aa))) (aI (aT (eIf (eUx (eCx G3 hr (T.d 3 rfl) (eAx (eVx 1) aa))) (eVx 1) ph)))) cf) (aI (aT (eIf (eUx (eCx G1 hr (T.d 1 rfl) (eAx (eVx 0) aa))) (eVx 0) (eCx G6 hr (T.d 6 rfl) (eAx (eVx 0) aa))))))
theorem om (T:Txt w K mg t):O P w K mg base t 8 1 bR :=
 (T.d 8 rfl).okN ["word"] (aN T) fun S hr=>aI (aT (eKG (bf (v:=.ref t.jr) rfl T.uM rfl rfl) T.wZ (eVx 0) rfl rfl rfl rfl))
theorem lz (T:Txt w K mg t) (G2:O P w K mg base t 2 1 bL):O P w K mg base t 9 2 bA :=
 (T.d 9 rfl).okN ["low", "high"] (aN T) fun S hr=>aq (bU (eW (wg (gR (eUx (eCx G2 hr (T.d 2 rfl) (eAx (eVx 0) aa)))) (jU (gR (mJ cD cD aC (eVx 0) (bf (v:=.int 60) rfl T.jC ⟨_,rfl⟩ rfl) (by with_unfolding_all rfl)))))) (aI (aT eBl)) cf) (aI (aT (eOr (mX yP (eVx 1) ph (cR _)) (uH (uU (eCx G2 hr (T.d 2 rfl) (eAx (eVx 1) aa)) (uH (wL cD cD (eVx 0) (eVx 1) (bf (v:=.int 60) rfl T.jC ⟨_,rfl⟩ rfl) (by with_unfolding_all rfl))))))))
theorem gA (T:Txt w K mg t):O P w K mg base t 10 1 aQ :=
 (T.d 10 rfl).okN ["form", "head"] (aN T) fun S hr=>aq (eSx S.nd 1 (eIy (eVx 0) aC)) (aq (bU (eTx (aP hr.units) (eVx 1) ah) (aI (aT (dR (eAx (eIy (eVx 0) aC) aa)))) cf) (aq (bU (fM (cE hr.units) (eVx 1) (bf (v:=.ref t.jE) rfl T.vM rfl rfl) (by with_unfolding_all rfl)) (aI (aT (eIy (eVx 0) aC))) cf) (aq (bU (fM (cE hr.units) (eVx 1) (bf (v:=.ref t.eU) rfl T.jz rfl rfl) (by with_unfolding_all rfl)) (aI (aT (dR (eAx (eIy (eVx 0) aC) aa)))) cf) (aI (aT (dR aa))))))
theorem pS (T:Txt w K mg t) (G10:O P w K mg base t 10 1 aQ) (G11:O P w K mg base t 11 (2+n) (aX n)):O P w K mg base t 11 (2+(n+1)) (aX (n+1)) :=
 ((T.d 11 rfl).okN ["form", "found", "part"] (aN T) fun S hr=>aq (eSx S.nd 1 (aM (eAx (eVx 0) aa))) (aq (eFx (eIT (eCx G10 hr (T.d 10 rfl) (eAx (eVx 0) aa))) (eGx S.nd 2) (aI (bM (eBM (eVx 1) (eAx (eCx G11 hr (T.d 11 rfl) (eAx (eVx 2) aa)) aa) kF OI PySem.F.slot_list_extend PySem.F.type_list_extend rfl rfl rfl rfl rfl) rfl))) (aI (aT (eVx 1)))):O P w K mg base t 11 ((2+n)+1) (aX (n+1))).mono (by omega)
theorem tT (T:Txt w K mg t):O P w K mg base t 11 (1+1) (aX 0):=c8.no (k:=1) (T.d 11 rfl).F (scm (N:=["form", "found", "part"])) fun vs H Q E h=>by obtain ⟨G,ds,is,pr,outs,hF,_⟩:=h;cases hF
theorem qD (T:Txt w K mg t) (G11:O P w K mg base t 11 11 (aX 9)):O P w K mg base t 12 12 dP :=
 (T.d 12 rfl).okN ["form"] (aN T) fun S hr=>aI (aT (eBs bK T.fP (eAx (eCx G11 hr (T.d 11 rfl) (eAx (eVx 0) aa)) aa)))
theorem sR (T:Txt w K mg t):O P w K mg base t 13 1 cK :=
 (T.d 13 rfl).okN ["text", "at", "signs"] (aN T) fun S hr=>aq (rV (eW (qv (eTx iI (eVx 1) (eBs bK T.fP (eAx (eVx 0) aa))) (kq (fM (cE hr.units) (eIy (eVx 0) (eVx 1)) (eVx 2) (by with_unfolding_all rfl))))) (aI (eSx S.nd 1 (eOp af (eVx 1) aC))) PassesOwn.never) (aI (aT (eVx 1)))
theorem oO (T:Txt w K mg t) (G13:O P w K mg base t 13 1 cK):O P w K mg base t 14 2 cX :=
 (T.d 14 rfl).okN ["text", "at"] (aN T) fun S hr=>aq (bU (fM (cE hr.units) (eIy (eVx 0) (eVx 1)) (bf (v:=.str "abcdefghijklmnopqrstuvwxyz") rfl T.jo ⟨_,rfl⟩ rfl) (by with_unfolding_all rfl)) (aI (aT (eCx G13 hr (T.d 13 rfl) (eAx (eVx 0) (eAx (eVx 1) (eAx (bf (v:=.str "abcdefghijklmnopqrstuvwxyz") rfl T.jo ⟨_,rfl⟩ rfl) aa)))))) cf) (aq (bU (eTx (aP hr.units) (eIy (eVx 0) (eVx 1)) ah) (aI (aT (eCx G13 hr (T.d 13 rfl) (eAx (eVx 0) (eAx (eOp af (eVx 1) aC) (eAx (bf (v:=.str "abcdefghijklmnopqrstuvwxyz") rfl T.jo ⟨_,rfl⟩ rfl) aa)))))) cf) (aq (bU (eW (wg (eTx (aP hr.units) (eIy (eVx 0) (eVx 1)) ah) (jU (fM (cE hr.units) (eIy (eVx 0) (eVx 1)) (bf (v:=.str "0123456789") rfl T.n8 ⟨_,rfl⟩ rfl) (by with_unfolding_all rfl))))) (aI (aT (eCx G13 hr (T.d 13 rfl) (eAx (eVx 0) (eAx (eOp af (eVx 1) aC) (eAx (bf (v:=.str "0123456789") rfl T.n8 ⟨_,rfl⟩ rfl) aa)))))) cf) (aI (aT (eOp af (eVx 1) aC)))))
theorem og (T:Txt w K mg t) (G14:O P w K mg base t 14 2 cX):O P w K mg base t 15 3 c6 :=
 (T.d 15 rfl).okN ["text", "found", "at", "behind"] (aN T) fun S hr=>aq (eSx S.nd 1 (aM aa)) (aq (eSx S.nd 2 aC) (aq (rV (eTx iI (eVx 2) (eBs bK T.fP (eAx (eVx 0) aa))) (aq (eSx S.nd 3 (eCx G14 hr (T.d 14 rfl) (eAx (eVx 0) (eAx (eVx 2) aa)))) (aq (bU (eTx (iZ hr.units) (eIy (eVx 0) (eVx 2)) ah) (aI (bM (eBM (eVx 1) (eAx (dR (eAx (eSl (orS jt (orS fF jb)) (eVx 0) (eP (eVx 2)) (eP (eVx 3))) (eAx (eVx 2) aa))) aa) bt OI ON OL rfl rfl rfl rfl rfl) rfl)) cf) (aI (eSx S.nd 2 (eVx 3))))) PassesOwn.never) (aq (bM (eBM (eVx 1) (eAx (dR (eAx (bf (v:=.str "") rfl T.FC ⟨_,rfl⟩ rfl) (eAx (eBs bK T.fP (eAx (eVx 0) aa)) aa))) aa) bt OI ON OL rfl rfl rfl rfl rfl) rfl) (aI (aT (eVx 1))))))
theorem o8 (T:Txt w K mg t):O P w K mg base t 16 1 cW :=
 (T.d 16 rfl).okN ["high"] (aN T) fun S hr=>aI (aT (eIf (eTx yP (eVx 0) ph) ah (eTs fI T.jj (eAx (eVx 0) aa))))
theorem fx (T:Txt w K mg t) (G16:O P w K mg base t 16 1 cW) (G10:O P w K mg base t 10 1 aQ) (G18:O P w K mg base t 18 (4+2*n) (aD n)):O P w K mg base t 17 (5+2*n) (dh n) :=
 ((T.d 17 rfl).okN ["form", "ahead"] (aN T) fun S hr=>aq (bU (eTx (aP hr.units) (eIy (eVx 0) aC) ah) (aI (aT (eBM ah (eAx (eIy (eVx 0) aC) aa) mH PU PySem.F.slot_str_join PySem.F.type_str_join rfl rfl rfl rfl rfl))) cf) (aq (eSx S.nd 1 (eIf (fM (cE hr.units) (eIy (eVx 0) aC) (bf (v:=.ref t.eU) rfl T.jz rfl rfl) (by with_unfolding_all rfl)) (aM (eAx (eTs fI T.jj (eAx (eIy (eVx 0) aC) aa)) (eAx (eCx G16 hr (T.d 16 rfl) (eAx (eIy (eVx 0) aC) aa)) (eAx (eIy (eVx 0) aC) aa)))) (aM aa))) (aI (aT (eBM ah (eAx (eOp af (eVx 1) (eKx [] (eIT (eCx G10 hr (T.d 10 rfl) (eAx (eVx 0) aa))) eT0 (eC fun _ _ _ _=>(eCx G18 hr (T.d 18 rfl) (eAx (eVx 0) aa))) (bsc (sc:=ag eZ) rfl (by decide +kernel)) trivial)) aa) mH PU PySem.F.slot_str_join PySem.F.type_str_join rfl rfl rfl rfl rfl)))):O P w K mg base t 17 ((4+2*n)+1) (dh n)).mono (by omega)
theorem oz (T:Txt w K mg t) (G8:O P w K mg base t 8 1 bR) (G5:O P w K mg base t 5 2 c7) (G17:O P w K mg base t 17 (5+2*n) (dh n)):O P w K mg base t 18 (4+2*(n+1)) (aD (n+1)) :=
 ((T.d 18 rfl).okN ["form", "head", "inside"] (aN T) fun S hr=>aq (eSx S.nd 1 (eIy (eVx 0) aC)) (aq (bU (eTx (aP hr.units) (eCx G8 hr (T.d 8 rfl) (eAx (eVx 1) aa)) aC) (aI (aT (eVx 1))) cf) (aq (bU (eTx (aP hr.units) (eVx 1) ah) (aI (aT (eOp af (eOp af (eVx 1) ah) (eIy (eVx 0) aC)))) cf) (aq (bU (fM (cE hr.units) (eVx 1) (dR (eAx ah (eAx ah (eAx ah aa)))) (by with_unfolding_all rfl)) (aI (aT (eOp af (eOp af (eVx 1) ah) (eCx G5 hr (T.d 5 rfl) (eAx (eIy (eVx 0) aC) aa))))) cf) (aq (eSx S.nd 2 (eCx G17 hr (T.d 17 rfl) (eAx (eVx 0) aa))) (aI (aT (eFs (eFc (eFv (eVx 1)) (eFc ah (eFc (eFv (eVx 2)) (eFc ah eF0))))))))))):O P w K mg base t 18 ((5+2*n)+1) (aD (n+1))).mono (by omega)
theorem pC (T:Txt w K mg t):O P w K mg base t 18 (3+1) (aD 0):=c8.no (k:=3) (T.d 18 rfl).F (scm (N:=["form", "head", "inside"])) fun vs H Q E h=>by obtain ⟨G,ds,is,pr,outs,hF,_⟩:=h;cases hF
theorem nG (T:Txt w K mg t) (G48:OM P w K mg base t.ak ["self"] 1 ai) (G49:OY P w K mg base t.az ["self", "value", "fits"] 3 aA) (G1:O P w K mg base t 1 2 bP):OX P w K mg base t 19 4 bw :=
 Fa.okX (T.d 19 rfl).F ["reader", "word"] (aN T) fun S hr=>aq (eSx S.nd 1 (tD T.cl T.ak G48 hr T.a7 (eVx 0))) (aI (aT (eMX T.cl T.az G49 hr T.bI dw (eVx 0) (eAx (eVx 1) (eAx (eCx G1 hr (T.d 1 rfl) (eAx (eVx 1) aa)) aa)))))
theorem mC (T:Txt w K mg t) (G7:O P w K mg base t 7 3 bj) (G48:OM P w K mg base t.ak ["self"] 1 ai) (G49:OY P w K mg base t.az ["self", "value", "fits"] 3 aA):OX P w K mg base t 20 4 cJ :=
 Fa.okX (T.d 20 rfl).F ["reader", "node"] (aN T) fun S hr=>aq (eSx S.nd 1 (eCx G7 hr (T.d 7 rfl) (eAx (tD T.cl T.ak G48 hr T.a7 (eVx 0)) aa))) (aI (aT (eMX T.cl T.az G49 hr T.bI dw (eVx 0) (eAx (eVx 1) (eAx (mX i5 (eVx 1) ph (cR _)) aa)))))
theorem j6 (T:Txt w K mg t) (G7:O P w K mg base t 7 3 bj) (G48:OM P w K mg base t.ak ["self"] 1 ai) (G49:OY P w K mg base t.az ["self", "value", "fits"] 3 aA) (G2:O P w K mg base t 2 1 bL):OX P w K mg base t 21 4 cu :=
 Fa.okX (T.d 21 rfl).F ["reader", "number"] (aN T) fun S hr=>aq (eSx S.nd 1 (eCx G7 hr (T.d 7 rfl) (eAx (tD T.cl T.ak G48 hr T.a7 (eVx 0)) aa))) (aI (aT (eMX T.cl T.az G49 hr T.bI dw (eVx 0) (eAx (eVx 1) (eAx (eCx G2 hr (T.d 2 rfl) (eAx (eVx 1) aa)) aa)))))
theorem qL (T:Txt w K mg t) (G7:O P w K mg base t 7 3 bj) (G48:OM P w K mg base t.ak ["self"] 1 ai) (G49:OY P w K mg base t.az ["self", "value", "fits"] 3 aA) (G9:O P w K mg base t 9 2 bA):OX P w K mg base t 22 4 dW :=
 Fa.okX (T.d 22 rfl).F ["reader", "low"] (aN T) fun S hr=>aq (eSx S.nd 1 (eCx G7 hr (T.d 7 rfl) (eAx (tD T.cl T.ak G48 hr T.a7 (eVx 0)) aa))) (aI (aT (eMX T.cl T.az G49 hr T.bI dw (eVx 0) (eAx (eVx 1) (eAx (eCx G9 hr (T.d 9 rfl) (eAx (eVx 1) (eAx ph aa))) aa)))))
theorem nP (T:Txt w K mg t) (G48:OM P w K mg base t.ak ["self"] 1 ai) (G49:OY P w K mg base t.az ["self", "value", "fits"] 3 aA) (G7:O P w K mg base t 7 3 bj) (G9:O P w K mg base t 9 2 bA):OX P w K mg base t 23 4 cY :=
 Fa.okX (T.d 23 rfl).F ["reader", "low", "high"] (aN T) fun S hr=>aq (bU (eTx (aP hr.units) (tD T.cl T.ak G48 hr T.a7 (eVx 0)) ah) (aI (aT (eMX T.cl T.az G49 hr T.bI dw (eVx 0) (eAx ph (eAx eBl aa))))) cf) (aq (eSx S.nd 2 (eCx G7 hr (T.d 7 rfl) (eAx (tD T.cl T.ak G48 hr T.a7 (eVx 0)) aa))) (aI (aT (eMX T.cl T.az G49 hr T.bI dw (eVx 0) (eAx (eVx 2) (eAx (uU (mX i5 (eVx 2) ph (cR _)) (uH (eCx G9 hr (T.d 9 rfl) (eAx (eVx 1) (eAx (eVx 2) aa))))) aa))))))
theorem oW (T:Txt w K mg t) (G48:OM P w K mg base t.ak ["self"] 1 ai) (G19:OX P w K mg base t 19 4 bw) (G50:OY P w K mg base t.aG ["self", "token"] 4 aF):OX P w K mg base t 24 5 bQ :=
 Fa.okX (T.d 24 rfl).F ["reader"] (aN T) fun S hr=>aq (bU (eTx (iZ hr.units) (tD T.cl T.ak G48 hr T.a7 (eVx 0)) ah) (aI (aT (eCX G19 hr (T.d 19 rfl) dw (eAx (eVx 0) aa)))) cf) (aq (bM (eMX T.cl T.aG G50 hr T.bz dw (eVx 0) (eAx ah aa)) rfl) (aI (aT (eOp af ah (eCX G19 hr (T.d 19 rfl) dw (eAx (eVx 0) aa))))))
theorem mz (T:Txt w K mg t) (G49:OY P w K mg base t.az ["self", "value", "fits"] 3 aA) (G48:OM P w K mg base t.ak ["self"] 1 ai):OX P w K mg base t 25 4 bg :=
 Fa.okX (T.d 25 rfl).F ["reader", "has_room"] (aN T) fun S hr=>aI (bM (eMX T.cl T.az G49 hr T.bI dw (eVx 0) (eAx ah (eAx (uU (mX (aP hr.units) (tD T.cl T.ak G48 hr T.a7 (eVx 0)) ah (cR _)) (uH (eVx 1))) aa))) rfl)
theorem j8 (T:Txt w K mg t) (G50:OY P w K mg base t.aG ["self", "token"] 4 aF) (G48:OM P w K mg base t.ak ["self"] 1 ai) (G25:OX P w K mg base t 25 4 bg) (G49:OY P w K mg base t.az ["self", "value", "fits"] 3 aA) (G1:O P w K mg base t 1 2 bP):OX P w K mg base t 26 5 cw :=
 Fa.okX (T.d 26 rfl).F ["reader", "bonds", "bond"] (aN T) fun S hr=>aq (eSx S.nd 1 (aM aa)) (aq (bM (eMX T.cl T.aG G50 hr T.bz dw (eVx 0) (eAx ah aa)) rfl) (aq (rV (eTx (iZ hr.units) (tD T.cl T.ak G48 hr T.a7 (eVx 0)) ah) (aq (bU (MD (eVx 1) (fun _=>rfl)) (aI (bM (eCX G25 hr (T.d 25 rfl) dw (eAx (eVx 0) (eAx (mX iI (eBs bK T.fP (eAx (eVx 1) aa)) (bf (v:=.int 8) rfl T.nq ⟨_,rfl⟩ rfl) (cR _)) aa))) rfl)) cf) (aq (eSx S.nd 2 (tD T.cl T.ak G48 hr T.a7 (eVx 0))) (aI (bM (eBM (eVx 1) (eAx (eMX T.cl T.az G49 hr T.bI dw (eVx 0) (eAx (eVx 2) (eAx (uU (eCx G1 hr (T.d 1 rfl) (eAx (eVx 2) aa)) (uH (mX (uX hr.units) (eVx 2) (eVx 1) (by with_unfolding_all rfl)))) aa))) aa) bt OI ON OL rfl rfl rfl rfl rfl) rfl)))) PassesOwn.leaving) (aq (bM (eMX T.cl T.aG G50 hr T.bz dw (eVx 0) (eAx ah aa)) rfl) (aI (aT (dR (eAx ah (eAx (eTs oB T.mx (eAx (eBs sZ T.zH (eAx (eVx 1) aa)) aa)) aa))))))))
theorem i9 (T:Txt w K mg t) (G50:OY P w K mg base t.aG ["self", "token"] 4 aF) (G31:OX P w K mg base t 31 (9+2*n) (ao n)):OX P w K mg base t 27 (10+2*n) (fO n) :=
 (Fa.okX (T.d 27 rfl).F ["reader", "depth", "walked", "part"] (aN T) fun S hr=>aq (bM (eMX T.cl T.aG G50 hr T.bz dw (eVx 0) (eAx ah aa)) rfl) (aq (eSx S.nd 3 (eCX G31 hr (T.d 31 rfl) dw (eAx (eVx 0) (eAx (eOp af (eVx 1) aC) (eAx (eVx 2) aa))))) (aq (bM (eMX T.cl T.aG G50 hr T.bz dw (eVx 0) (eAx ah aa)) rfl) (aI (aT (dR (eAx ah (eAx (eVx 3) aa))))))):OX P w K mg base t 27 ((9+2*n)+1) (fO n)).mono (by omega)
theorem hG (T:Txt w K mg t) (G50:OY P w K mg base t.aG ["self", "token"] 4 aF) (G48:OM P w K mg base t.ak ["self"] 1 ai) (G25:OX P w K mg base t 25 4 bg) (G31:OX P w K mg base t 31 (9+2*n) (ao n)):OX P w K mg base t 28 (10+2*n) (eV n) :=
 (Fa.okX (T.d 28 rfl).F ["reader", "head", "depth", "walked", "parts"] (aN T) fun S hr=>aq (eSx S.nd 4 (aM aa)) (aq (bM (eMX T.cl T.aG G50 hr T.bz dw (eVx 0) (eAx ah aa)) rfl) (aq (rV (eTx (iZ hr.units) (tD T.cl T.ak G48 hr T.a7 (eVx 0)) ah) (aq (bU (MD (eVx 4) (fun _=>rfl)) (aI (bM (eCX G25 hr (T.d 25 rfl) dw (eAx (eVx 0) (eAx (uU (mX iI (eBs bK T.fP (eAx (eVx 4) aa)) (bf (v:=.int 6) rfl T.lQ ⟨_,rfl⟩ rfl) (cR _)) (uH (mX iI (eFl T.cl T.fY (eVx 0)) (bf (v:=.int 40) rfl T.ig ⟨_,rfl⟩ rfl) (cR _)))) aa))) rfl)) cf) (aI (bM (eBM (eVx 4) (eAx (eCX G31 hr (T.d 31 rfl) dw (eAx (eVx 0) (eAx (eOp af (eVx 2) aC) (eAx (eVx 3) aa)))) aa) bt OI ON OL rfl rfl rfl rfl rfl) rfl))) PassesOwn.leaving) (aq (bM (eMX T.cl T.aG G50 hr T.bz dw (eVx 0) (eAx ah aa)) rfl) (aI (aT (dR (eAx (eVx 1) (eAx (eTs oB T.mx (eAx (eVx 4) aa)) aa)))))))):OX P w K mg base t 28 ((9+2*n)+1) (eV n)).mono (by omega)
theorem iB (T:Txt w K mg t) (G50:OY P w K mg base t.aG ["self", "token"] 4 aF) (G22:OX P w K mg base t 22 4 dW) (G23:OX P w K mg base t 23 4 cY) (G24:OX P w K mg base t 24 5 bQ) (G31:OX P w K mg base t 31 (9+2*n) (ao n)):OX P w K mg base t 29 (10+2*n) (eg n) :=
 (Fa.okX (T.d 29 rfl).F ["reader", "head", "depth", "low", "high", "step", "part"] (aN T) fun S hr=>aq (bM (eMX T.cl T.aG G50 hr T.bz dw (eVx 0) (eAx ah aa)) rfl) (aq (eSx S.nd 3 (eCX G22 hr (T.d 22 rfl) dw (eAx (eVx 0) aa))) (aq (bM (eMX T.cl T.aG G50 hr T.bz dw (eVx 0) (eAx ah aa)) rfl) (aq (eSx S.nd 4 (eCX G23 hr (T.d 23 rfl) dw (eAx (eVx 0) (eAx (eVx 3) aa)))) (aq (bM (eMX T.cl T.aG G50 hr T.bz dw (eVx 0) (eAx ah aa)) rfl) (aq (eSx S.nd 5 (eCX G24 hr (T.d 24 rfl) dw (eAx (eVx 0) aa))) (aq (bM (eMX T.cl T.aG G50 hr T.bz dw (eVx 0) (eAx ah aa)) rfl) (aq (eSx S.nd 6 (eCX G31 hr (T.d 31 rfl) dw (eAx (eVx 0) (eAx (eOp af (eVx 2) aC) (eAx eBl aa))))) (aq (bM (eMX T.cl T.aG G50 hr T.bz dw (eVx 0) (eAx ah aa)) rfl) (aI (aT (dR (eAx (eVx 1) (eAx (eVx 3) (eAx (eVx 4) (eAx (eVx 5) (eAx (eVx 6) aa)))))))))))))))):OX P w K mg base t 29 ((9+2*n)+1) (eg n)).mono (by omega)
theorem oP (T:Txt w K mg t) (G8:O P w K mg base t 8 1 bR):O P w K mg base t 30 2 cU :=
 (T.d 30 rfl).okN ["head", "forms", "depth", "walked", "within"] (aN T) fun S hr=>aq (bU (eW (wg (eTx yP (eCx G8 hr (T.d 8 rfl) (eAx (eVx 0) aa)) ph) (jU (eW (qv (eUx (eVx 3)) (kq (eW (wg (fM (cE hr.units) (eVx 0) (bf (v:=.ref t.eU) rfl T.jz rfl rfl) (by with_unfolding_all rfl)) (jU (eTx (aP hr.units) (eVx 0) ah)))))))))) (aI (aT eBl)) cf) (aq (eSx S.nd 4 (eIf (eW (wg (fM (cE hr.units) (eVx 0) (bf (v:=.ref t.eU) rfl T.jz rfl rfl) (by with_unfolding_all rfl)) (jU (eTx (aP hr.units) (eVx 0) ah)))) aC aC)) (aI (aT (uU (mX cD (eOp af (eOp af (eVx 1) aC) (eVx 4)) (bf (v:=.int 40) rfl T.ig ⟨_,rfl⟩ rfl) (cR _)) (uH (mX cD (eOp af (eVx 2) (eVx 4)) (bf (v:=.int 8) rfl T.wq ⟨_,rfl⟩ rfl) (cR _)))))))
theorem oZ (T:Txt w K mg t) (G48:OM P w K mg base t.ak ["self"] 1 ai) (G49:OY P w K mg base t.az ["self", "value", "fits"] 3 aA) (G30:O P w K mg base t 30 2 cU) (G21:OX P w K mg base t 21 4 cu) (G20:OX P w K mg base t 20 4 cJ) (G19:OX P w K mg base t 19 4 bw) (G26:OX P w K mg base t 26 5 cw) (G27:OX P w K mg base t 27 (10+2*n) (fO n)) (G28:OX P w K mg base t 28 (10+2*n) (eV n)) (G29:OX P w K mg base t 29 (10+2*n) (eg n)):OX P w K mg base t 31 (9+2*(n+1)) (ao (n+1)) :=
 (Fa.okX (T.d 31 rfl).F ["reader", "depth", "walked", "head"] (aN T) fun S hr=>aq (eSx S.nd 3 (tD T.cl T.ak G48 hr T.a7 (eVx 0))) (aq (bM (eMX T.cl T.az G49 hr T.bI dw (eVx 0) (eAx (eVx 3) (eAx (eCx G30 hr (T.d 30 rfl) (eAx (eVx 3) (eAx (eFl T.cl T.fY (eVx 0)) (eAx (eVx 1) (eAx (eVx 2) aa))))) aa))) rfl) (aq (eSF T.cl T.fY (eVx 0) (eOp af (eFl T.cl T.fY (eVx 0)) aC)) (aq (bU (fM (cE hr.units) (eVx 3) (dR (eAx ah (eAx ah aa))) (by with_unfolding_all rfl)) (aI (aT (dR (eAx (eVx 3) (eAx (eCX G21 hr (T.d 21 rfl) dw (eAx (eVx 0) aa)) aa))))) cf) (aq (bU (eTx (aP hr.units) (eVx 3) ah) (aI (aT (dR (eAx (eVx 3) (eAx (eCX G20 hr (T.d 20 rfl) dw (eAx (eVx 0) aa)) aa))))) cf) (aq (bU (eTx (aP hr.units) (eVx 3) ah) (aI (aT (dR (eAx (eVx 3) (eAx (eCX G19 hr (T.d 19 rfl) dw (eAx (eVx 0) aa)) aa))))) cf) (aq (bU (eTx (aP hr.units) (eVx 3) ah) (aI (aT (eCX G26 hr (T.d 26 rfl) dw (eAx (eVx 0) aa)))) cf) (aq (bU (eTx (aP hr.units) (eVx 3) ah) (aI (aT (eCX G27 hr (T.d 27 rfl) dw (eAx (eVx 0) (eAx (eVx 1) (eAx (eVx 2) aa)))))) cf) (aq (bU (fM (cE hr.units) (eVx 3) (bf (v:=.ref t.jE) rfl T.vM rfl rfl) (by with_unfolding_all rfl)) (aI (aT (eCX G28 hr (T.d 28 rfl) dw (eAx (eVx 0) (eAx (eVx 3) (eAx (eVx 1) (eAx (eVx 2) aa))))))) cf) (aq (bU (fM (cE hr.units) (eVx 3) (bf (v:=.ref t.eU) rfl T.jz rfl rfl) (by with_unfolding_all rfl)) (aI (aT (eCX G29 hr (T.d 29 rfl) dw (eAx (eVx 0) (eAx (eVx 3) (eAx (eVx 1) aa)))))) cf) (aI (aT (dR (eAx (eVx 3) aa))))))))))))):OX P w K mg base t 31 ((10+2*n)+1) (ao (n+1))).mono (by omega)
theorem qw (T:Txt w K mg t):OX P w K mg base t 31 (8+1) (ao 0):=c8.noX (k:=8) (T.d 31 rfl).F (scm (N:=["reader", "depth", "walked", "head"]))
theorem oG (T:Txt w K mg t) (G47:OM P w K mg base t.fu ["self", "text"] 4 gq) (G31:OX P w K mg base t 31 27 (ao 9)) (G50:OY P w K mg base t.aG ["self", "token"] 4 aF):OX P w K mg base t 32 28 ar :=
 Fa.okX (T.d 32 rfl).F ["text", "reader", "form"] (aN T) fun S hr=>aq (bU (gR (eUx (eIz T.aW (eVx 0) T.jj))) (aI (Mu (BB T) hr T.xm rfl Hm aC)) cf) (aq (eSx S.nd 1 (eNw T.cmk G47 hr T.cg T.AJ (eAx (eVx 0) aa))) (aq (eSx S.nd 2 (eCX G31 hr (T.d 31 rfl) dw (eAx (eVx 1) (eAx aC (eAx eBl aa))))) (aq (bM (eMX T.cl T.aG G50 hr T.bz dw (eVx 1) (eAx (bf (v:=.str "") rfl T.FC ⟨_,rfl⟩ rfl) aa)) rfl) (aI (aT (eVx 2))))))
theorem Ic (T:Txt w K mg t):O P w K mg base t 33 1 rG :=
 (T.d 33 rfl).okN ["_law_script"] (aN T) fun S hr=>aI (aT (aM (eAx (eVx 0) (eAx aC (eAx aC aa)))))
theorem Ej (T:Txt w K mg t):O P w K mg base t 34 1 ay :=
 (T.d 34 rfl).okN ["_law_pen_here", "_law_most", "_law_found", "_law_at", "_law_cell", "_law_number"] (aN T) fun S hr=>aq (bU (eTx oX (eIy (eVx 0) aC) aC) (aq (eSx S.nd 2 (eOp cq (eIy (eVx 0) aC) (eVx 1))) (aq (GR (eOp mT (eIy (eVx 0) aC) (eVx 1)) (Ke (eVx 0) aC set_list (fun _=>rfl)) rfl rfl rfl) (aI (aT (eVx 2))))) cf) (aq (eSx S.nd 3 (eIy (eVx 0) aC)) (aq (GR (eOp af (eVx 3) aC) (Ke (eVx 0) aC set_list (fun _=>rfl)) rfl rfl rfl) (aq (eSx S.nd 4 aC) (aq (bU (eTx oX (eBs bK T.fP (eAx (eIy (eVx 0) aC) aa)) aC) (aI (eSx S.nd 4 (eIy (eIy (eVx 0) aC) (eOp cq (eVx 3) (eBs bK T.fP (eAx (eIy (eVx 0) aC) aa)))))) cf) (aq (bU (eW (qv (eTx iI (eVx 3) (eBs bK T.fP (eAx (eIy (eVx 0) aC) aa))) (kq (eTx Fh (eBs qr T.D0 (eAx (eVx 4) aa)) (eOp Ct aC aC))))) (aq (GR (eOp mT (eBs qr T.D0 (eAx (eVx 4) aa)) (eVx 1)) (Ke (eVx 0) aC set_list (fun _=>rfl)) rfl rfl rfl) (aI (aT (eOp cq (eBs qr T.D0 (eAx (eVx 4) aa)) (eVx 1))))) cf) (aq (eSx S.nd 5 (eOp cq (eOp dX (eOp af (eOp af (eOp af (eOp cq (eVx 4) aC) (eOp dX (eOp dX aC (eVx 3)) (eVx 3))) (eOp dX aC (eVx 3))) aC) aC) aC)) (aq (eSx S.nd 5 (eOp cq (eOp af (eOp af (eOp dX (eVx 5) (eVx 5)) (eOp dX aC (eVx 5))) (eVx 3)) aC)) (aI (aT (eOp cq (eOp mT (eVx 5) aC) (eVx 1)))))))))))
theorem yZ (T:Txt w K mg t) (G34:O P w K mg base t 34 1 ay):O P w K mg base t 35 2 iV :=
 (T.d 35 rfl).okN ["_law_pen_here", "_law_many", "_law_letters", "_law_base", "_law_words", "_law_way", "_law_size", "_law_at", "_law_turn", "_law_found", "_law_k", "_law_sign"] (aN T) fun S hr=>aq (eSy S.nd 2 ah) (aq (eSx S.nd 3 (eBM ah (eAx (eKx ["_law_letters", "_law_pen_here"] (eR1 rfl T.dO (eAx aC aa) rfl) eT0 (eC fun _ _ _ _=>(eIy (eVy 1) (eCx G34 hr (T.d 34 rfl) (eAx (eVy 2) (eAx aC aa))))) (bsc (sc:=ag oU) rfl (by decide +kernel)) ⟨rfl,⟨rfl,rfl⟩,⟨rfl,⟨rfl,rfl⟩,trivial⟩⟩) aa) mH PU PySem.F.slot_str_join PySem.F.type_str_join rfl rfl rfl rfl rfl)) (aq (eSx S.nd 4 (aM (eAx ah (eAx ah (eAx ah (eAx ah (eAx ah (eAx ah (eAx ah (eAx ah aa)))))))))) (aq (eSx S.nd 5 (eCx G34 hr (T.d 34 rfl) (eAx (eVy 0) (eAx aC aa)))) (aq (eSx S.nd 6 (eOp af aC (eCx G34 hr (T.d 34 rfl) (eAx (eVy 0) (eAx aC aa))))) (aq (eSx S.nd 7 (eCx G34 hr (T.d 34 rfl) (eAx (eVy 0) (eAx (eVx 6) aa)))) (aq (eSx S.nd 8 (eCx G34 hr (T.d 34 rfl) (eAx (eVy 0) (eAx aC aa)))) (aq (eSx S.nd 9 (aM aa)) (aq (eFx (eR1 rfl T.dO (eAx (eVx 1) aa) rfl) (eGx S.nd 10) (aq (eSx S.nd 11 (eIy (eVy 2) (eOp cq (eOp af (eVx 8) (eOp dX aC (eVx 10))) aC))) (aI (bU (eW (qv (eTx (aP hr.units) (eVx 5) aC) (kq (eTx iI (eVx 1) aC)))) (aI (bM (eBM (eVx 9) (eAx (eSl (orS jt (orS fF jb)) (eVx 3) Gz (eP (eOp af (eOp cq (eOp af (eVx 8) (eOp dX aC (eVx 10))) aC) aC))) aa) bt OI ON OL rfl rfl rfl rfl rfl) rfl)) (aI (bU (eW (qv (eTx (aP hr.units) (eVx 5) aC) (kq (eTx iI (eVx 1) aC)))) (aI (bM (eBM (eVx 9) (eAx (eIy (eVx 4) (eOp cq (eOp af (eVx 8) (eVx 10)) aC)) aa) bt OI ON OL rfl rfl rfl rfl rfl) rfl)) (aI (bU (eTx (aP hr.units) (eVx 5) aC) (aI (bM (eBM (eVx 9) (eAx (eOp af (eIy (eVx 4) (eOp cq (eVx 10) aC)) (eVx 11)) aa) bt OI ON OL rfl rfl rfl rfl rfl) rfl)) (aI (bM (eBM (eVx 9) (eAx (eOp af (eOp af (eSl (orS jt (orS fF jb)) (eVx 3) Gz (eP (eVx 7))) (eVx 11)) (eSl (orS jt (orS fF jb)) (eVx 3) (eP (eOp af (eVx 7) aC)) (eP (eVx 6)))) aa) bt OI ON OL rfl rfl rfl rfl rfl) rfl)))))))))) (aI (aT (eVx 9)))))))))))
theorem x9 (T:Txt w K mg t):O P w K mg base t 36 1 bX :=
 (T.d 36 rfl).okN ["_law_rows", "_law_found", "_law_row"] (aN T) fun S hr=>aq (eSx S.nd 1 (aM aa)) (aq (eFx (eIL (eVx 0)) (eGx S.nd 2) (aq (bU (eTx (iZ hr.units) (eVx 1) (aM aa)) (aI (bM (eBM (eVx 1) (eAx ah aa) bt OI ON OL rfl rfl rfl rfl rfl) rfl)) cf) (aI (bM (eBM (eVx 1) (eAx (eVx 2) aa) kF OI PySem.F.slot_list_extend PySem.F.type_list_extend rfl rfl rfl rfl rfl) rfl)))) (aI (aT (eVx 1))))
theorem DD (T:Txt w K mg t):O P w K mg base t 37 1 mQ :=
 (T.d 37 rfl).okN ["_law_one", "_law_other", "_law_letters", "_law_figures"] (aN T) fun S hr=>aq (eSx S.nd 2 ah) (aq (eSx S.nd 3 ah) (aI (aT (eOr (uU (mX (cE hr.units) (eIy (eVx 0) (eUy aC)) (eOp af (eVx 2) ah) (by with_unfolding_all rfl)) (uH (mX (cE hr.units) (eIy (eVx 1) aC) (eVx 2) (by with_unfolding_all rfl)))) (uH (uU (mX (cE hr.units) (eIy (eVx 0) (eUy aC)) (eOp af (eVx 3) ah) (by with_unfolding_all rfl)) (uH (mX (cE hr.units) (eIy (eVx 1) aC) (eVx 3) (by with_unfolding_all rfl)))))))))
theorem D7 (T:Txt w K mg t) (G34:O P w K mg base t 34 1 ay) (G37:O P w K mg base t 37 1 mQ):O P w K mg base t 38 2 jv :=
 (T.d 38 rfl).okN ["_law_pen_here", "_law_tokens", "_law_most", "_law_text", "_law_places", "_law_k", "_law_blanks"] (aN T) fun S hr=>aq (eSx S.nd 2 (eIy (aM (eAx aC (eAx aC (eAx aC aa)))) (eCx G34 hr (T.d 34 rfl) (eAx (eVx 0) (eAx aC aa))))) (aq (eSx S.nd 3 (eOp iX ah (eCx G34 hr (T.d 34 rfl) (eAx (eVx 0) (eAx (eVx 2) aa))))) (aq (eSx S.nd 4 (aM aa)) (aq (eFx (eR1 rfl T.dO (eAx (eBs bK T.fP (eAx (eVx 1) aa)) aa) rfl) (eGx S.nd 5) (aq (eSx S.nd 6 (eCx G34 hr (T.d 34 rfl) (eAx (eVx 0) (eAx (eVx 2) aa)))) (aq (bU (eW (qv (eTx oX (eVx 5) aC) (qv (eTx (aP hr.units) (eVx 6) aC) (kq (eUx (eCx G37 hr (T.d 37 rfl) (eAx (eIy (eVx 1) (eOp qM (eVx 5) aC)) (eAx (eIy (eVx 1) (eVx 5)) aa)))))))) (aI (eSx S.nd 6 aC)) cf) (aq (eSx S.nd 3 (eOp af (eVx 3) (eOp iX ah (eOp dX (eVx 6) (eTs lK T.wO (eAx (mX oX (eVx 5) aC (cR _)) aa)))))) (aq (bM (eBM (eVx 4) (eAx (eBs bK T.fP (eAx (eVx 3) aa)) aa) bt OI ON OL rfl rfl rfl rfl rfl) rfl) (aI (eSx S.nd 3 (eOp af (eVx 3) (eIy (eVx 1) (eVx 5)))))))))) (aI (aT (dR (eAx (eVx 3) (eAx (eVx 4) aa))))))))
theorem sO (T:Txt w K mg t) (G32:OX P w K mg base t 32 28 ar):O P w K mg base t 39 29 cm :=
 (T.d 39 rfl).okN ["_law_text", "_law_caught"] (aN T) fun S hr=>KR (i:=1) (j:=0) (B1:=[t.y 7,t.y 6,t.y 5,t.y 4,t.y 3,t.y 2,t.y 1,t.y 0]) (B2:=[t.y 11,t.y 10,t.y 9,t.y 8]) (B3:=[t.y 13,t.y 12]) (hm1:=rfl) rfl G32 (hr.mono (by omega)) rfl (T.d 32 rfl).m (T.d 32 rfl).F.kp (T.d 32 rfl).b rfl S.nd rfl (.inl rfl) (.inl rfl) (.inl rfl) rfl rfl rfl (.inl rfl) rfl rfl (by decide) rfl rfl rfl rfl rfl rfl (by show ¬("e" : Str)∈(["_law_text", "_law_caught"]:List Str);decide +kernel) T.xc T.xf T.xd T.mr rfl T.xdm rfl rfl rfl (fun _ _ z=>z) rfl T.aW rfl T.xm rfl rfl T.oJ T.mv rfl T.wO rfl T.B8 (fun _ _=>(eAx (bf (v:=.ref (t.y 7)) rfl (T.y 7 rfl).1 rfl rfl) (eAx (bf (v:=.ref (t.y 6)) rfl (T.y 6 rfl).1 rfl rfl) (eAx (bf (v:=.ref (t.y 5)) rfl (T.y 5 rfl).1 rfl rfl) (eAx (bf (v:=.ref (t.y 4)) rfl (T.y 4 rfl).1 rfl rfl) (eAx (bf (v:=.ref (t.y 3)) rfl (T.y 3 rfl).1 rfl rfl) (eAx (bf (v:=.ref (t.y 2)) rfl (T.y 2 rfl).1 rfl rfl) (eAx (bf (v:=.ref (t.y 1)) rfl (T.y 1 rfl).1 rfl rfl) (eAx (bf (v:=.ref (t.y 0)) rfl (T.y 0 rfl).1 rfl rfl) aa))))))))) rfl (fun _ _=>(eAx (bf (v:=.ref (t.y 11)) rfl (T.y 11 rfl).1 rfl rfl) (eAx (bf (v:=.ref (t.y 10)) rfl (T.y 10 rfl).1 rfl rfl) (eAx (bf (v:=.ref (t.y 9)) rfl (T.y 9 rfl).1 rfl rfl) (eAx (bf (v:=.ref (t.y 8)) rfl (T.y 8 rfl).1 rfl rfl) aa))))) rfl (fun _ _=>(eAx (bf (v:=.ref (t.y 13)) rfl (T.y 13 rfl).1 rfl rfl) (eAx (bf (v:=.ref (t.y 12)) rfl (T.y 12 rfl).1 rfl rfl) aa))) rfl ⟨OW rfl,OW rfl,OW rfl⟩ (fun B h=>by simp only [List.cons_append,O0,Oo,Pk,Qf] at h;rcases h with rfl | rfl | rfl | rfl | rfl | rfl | rfl | rfl | rfl | rfl | rfl | rfl | rfl | rfl <;> exact (T.y _ rfl).2) (fun _=>rfl) (cR _)
theorem Hx (T:Txt w K mg t) (G34:O P w K mg base t 34 1 ay):O P w K mg base t 40 2 d3 :=
 (T.d 40 rfl).okN ["_law_pen_here"] (aN T) fun S hr=>aI (aT (eIy (aM (eAx (aM (eAx ah aa)) (eAx (aM (eAx ah (eAx ah aa))) (eAx (aM (eAx ah (eAx ah aa))) (eAx (aM (eAx ah (eAx ah (eAx ah aa)))) (eAx (aM (eAx ah (eAx ah aa))) aa)))))) (eCx G34 hr (T.d 34 rfl) (eAx (eVx 0) (eAx aC aa)))))
theorem CF (T:Txt w K mg t) (G34:O P w K mg base t 34 1 ay) (G36:O P w K mg base t 36 1 bX) (G40:O P w K mg base t 40 2 d3):O P w K mg base t 41 3 kZ :=
 (T.d 41 rfl).okN ["_law_pen_here", "_law_names_here", "_law_way", "_law_ahead", "_law_many"] (aN T) fun S hr=>aq (eSx S.nd 2 (eCx G34 hr (T.d 34 rfl) (eAx (eVy 0) (eAx aC aa)))) (aq (bU (eTx (aP hr.units) (eVx 2) aC) (aq (eSx S.nd 3 (aM (eAx (eIy (aM (eAx ah (eAx ah (eAx ah (eAx ah aa))))) (eCx G34 hr (T.d 34 rfl) (eAx (eVy 0) (eAx aC aa)))) (eAx ah aa)))) (aq (eSx S.nd 3 (eOp af (eVx 3) (eCx G36 hr (T.d 36 rfl) (eAx (eKx ["_law_pen_here"] (eR1 rfl T.dO (eAx aC aa) rfl) eT0 (eC fun _ _ _ _=>(eCx G40 hr (T.d 40 rfl) (eAx (eVy 1) aa))) (bsc (sc:=ag mh) rfl (by decide +kernel)) ⟨rfl,⟨rfl,rfl⟩,trivial⟩) aa)))) (aI (aT (dR (eAx (eVx 3) (eAx ah (eAx (aM (eAx ah aa)) aa)))))))) cf) (aq (eSx S.nd 4 aC) (aq (bU (eTx (aP hr.units) (eVx 2) aC) (aI (eSx S.nd 4 (eOp af aC (eCx G34 hr (T.d 34 rfl) (eAx (eVy 0) (eAx aC aa)))))) cf) (aq (eSx S.nd 3 (eOp af (aM (eAx ah (eAx ah aa))) (eCx G36 hr (T.d 36 rfl) (eAx (eKx [] (eIL (eSl (orS jt (orS fF jb)) (eVx 1) Gz (eP (eVx 4)))) eT0 (eC fun _ _ _ _=>(aM (eAx (eVx 0) aa))) (bsc (sc:=ag mh) rfl (by decide +kernel)) trivial) aa)))) (aq (bU (eTx (aP hr.units) (eVx 2) aC) (aI (aT (dR (eAx (eVx 3) (eAx ah (eAx (aM (eAx ah aa)) aa)))))) cf) (aI (aT (dR (eAx (eOp af (eVx 3) (aM (eAx ah aa))) (eAx (eIy (eVx 1) (eCx G34 hr (T.d 34 rfl) (eAx (eVy 0) (eAx (eVx 4) aa)))) (eAx (aM (eAx (eIy (eVx 1) aC) (eAx ah aa))) aa)))))))))))
theorem Ad (T:Txt w K mg t) (G34:O P w K mg base t 34 1 ay) (G40:O P w K mg base t 40 2 d3) (G36:O P w K mg base t 36 1 bX):O P w K mg base t 42 3 iY :=
 (T.d 42 rfl).okN ["_law_pen_here", "_law_one", "_law_rows", "_law_k", "_law_six", "_law_last", "_law_ahead", "_law_word_here"] (aN T) fun S hr=>aq (eSx S.nd 1 (eCx G34 hr (T.d 34 rfl) (eAx (eVy 0) (eAx aC aa)))) (aq (eSx S.nd 2 (aM aa)) (aq (eFx (eR1 rfl T.dO (eAx aC aa) rfl) (eGx S.nd 3) (aq (eSx S.nd 4 (aM (eAx (aM (eAx ah aa)) (eAx (eCx G40 hr (T.d 40 rfl) (eAx (eVy 0) aa)) (eAx (aM (eAx ah aa)) (eAx (aM (eAx ah aa)) (eAx (eCx G40 hr (T.d 40 rfl) (eAx (eVy 0) aa)) (eAx (aM (eAx ah aa)) aa)))))))) (aI (bM (eBM (eVx 2) (eAx (eOp af (eOp af (aM (eAx ah (eAx ah aa))) (eCx G36 hr (T.d 36 rfl) (eAx (eVx 4) aa))) (aM (eAx ah aa))) aa) bt OI ON OL rfl rfl rfl rfl rfl) rfl)))) (aq (eSx S.nd 5 (eOp af (aM (eAx ah (eAx ah aa))) (eCx G36 hr (T.d 36 rfl) (eAx (eKx ["_law_pen_here"] (eR1 rfl T.dO (eAx (eOp qM aC (eTs lK T.wO (eAx (mX oX (eVx 1) aC (cR _)) aa))) aa) rfl) eT0 (eC fun _ _ _ _=>(eCx G40 hr (T.d 40 rfl) (eAx (eVy 1) aa))) (bsc (sc:=ag nJ) rfl (by decide +kernel)) ⟨rfl,⟨rfl,rfl⟩,trivial⟩) aa)))) (aq (eSx S.nd 6 (eOp af (aM (eAx ah (eAx ah aa))) (eCx G36 hr (T.d 36 rfl) (eAx (eOp af (eVx 2) (aM (eAx (eVx 5) aa))) aa)))) (aq (bU (eTx (aP hr.units) (eVx 1) aC) (aI (aT (dR (eAx (eVx 6) (eAx ah (eAx (aM (eAx ah (eAx ah aa))) aa)))))) cf) (aq (bU (eTx (aP hr.units) (eVx 1) aC) (aq (eSx S.nd 7 (eIy (aM (eAx ah (eAx ah (eAx ah (eAx ah aa))))) (eCx G34 hr (T.d 34 rfl) (eAx (eVy 0) (eAx aC aa))))) (aI (aT (dR (eAx (eOp af (eVx 6) (aM (eAx ah (eAx (eVx 7) (eAx ah aa))))) (eAx (eIy (eCx G40 hr (T.d 40 rfl) (eAx (eVy 0) aa)) aC) (eAx (aM (eAx ah (eAx ah (eAx ah aa)))) aa))))))) cf) (aI (aT (dR (eAx (eOp af (eVx 6) (aM (eAx ah aa))) (eAx (eIy (aM (eAx ah (eAx ah (eAx ah aa)))) (eCx G34 hr (T.d 34 rfl) (eAx (eVy 0) (eAx aC aa)))) (eAx (aM (eAx ah (eAx ah (eAx ah aa)))) aa))))))))))))
theorem Eh (T:Txt w K mg t) (G34:O P w K mg base t 34 1 ay) (G40:O P w K mg base t 40 2 d3):O P w K mg base t 43 3 l0 :=
 (T.d 43 rfl).okN ["_law_pen_here", "_law_ahead", "_law_k"] (aN T) fun S hr=>aq (bU (eTx (aP hr.units) (eCx G34 hr (T.d 34 rfl) (eAx (eVx 0) (eAx aC aa))) aC) (aq (eSx S.nd 1 (aM aa)) (aq (eFx (eR1 rfl T.dO (eAx aC aa) rfl) (eGx S.nd 2) (aI (eSx S.nd 1 (eOp af (eVx 1) (aM (eAx (eIy (aM (eAx ah (eAx ah (eAx ah (eAx ah aa))))) (eCx G34 hr (T.d 34 rfl) (eAx (eVx 0) (eAx aC aa)))) (eAx ah aa))))))) (aI (aT (dR (eAx (eVx 1) (eAx (eIy (eCx G40 hr (T.d 40 rfl) (eAx (eVx 0) aa)) aC) (eAx (eOp xR (aM (eAx ah aa)) aC) aa)))))))) cf) (aq (eSx S.nd 1 (aM aa)) (aq (eFx (eR1 rfl T.dO (eAx aC aa) rfl) (eGx S.nd 2) (aI (eSx S.nd 1 (eOp af (eVx 1) (aM (eAx (eIy (aM (eAx ah (eAx ah (eAx ah (eAx ah aa))))) (eCx G34 hr (T.d 34 rfl) (eAx (eVx 0) (eAx aC aa)))) (eAx ah aa))))))) (aI (aT (dR (eAx (eVx 1) (eAx (eIy (aM (eAx ah (eAx ah (eAx ah aa)))) (eCx G34 hr (T.d 34 rfl) (eAx (eVx 0) (eAx aC aa)))) (eAx (eOp af (aM (eAx ah aa)) (eOp xR (aM (eAx ah aa)) aC)) aa))))))))
theorem DL (T:Txt w K mg t) (G34:O P w K mg base t 34 1 ay):O P w K mg base t 44 2 lW :=
 (T.d 44 rfl).okN ["_law_pen_here", "_law_some", "_law_end", "_law_low", "_law_count", "_law_ahead", "_law_shut"] (aN T) fun S hr=>aq (eSx S.nd 1 (aM (eAx (dR (eAx (aM (eAx ah aa)) (eAx ah (eAx (aM (eAx ah aa)) aa)))) (eAx (dR (eAx (aM (eAx ah aa)) (eAx ah (eAx (aM (eAx ah aa)) aa)))) aa)))) (aq (eSx S.nd 1 (iOp af (eVx 1) (aM (eAx (dR (eAx (aM (eAx ah aa)) (eAx (iOp iX ah aC) (eAx (aM (eAx (iOp iX ah aC) aa)) aa)))) (eAx (dR (eAx (aM (eAx ah aa)) (eAx ah (eAx (aM (eAx ah aa)) aa)))) (eAx (dR (eAx (aM (eAx ah aa)) (eAx ah (eAx (aM (eAx ah aa)) aa)))) aa)))))) (aq (eSx S.nd 1 (iOp af (eVx 1) (aM (eAx (dR (eAx (aM (eAx ah aa)) (eAx ah (eAx (aM (eAx ah aa)) aa)))) (eAx (dR (eAx (aM (eAx ah aa)) (eAx ah (eAx (aM (eAx ah aa)) aa)))) aa))))) (aq (eSx S.nd 2 (aM (eAx ah (eAx ah (eAx ah (eAx ah (eAx ah aa))))))) (aq (eSx S.nd 3 (eCx G34 hr (T.d 34 rfl) (eAx (eVx 0) (eAx aC aa)))) (aq (eSx S.nd 4 (aM (eAx (eIy (aM (eAx ah (eAx ah aa))) (eCx G34 hr (T.d 34 rfl) (eAx (eVx 0) (eAx aC aa)))) (eAx ah aa)))) (aq (eSx S.nd 1 (iOp af (eVx 1) (aM (eAx (dR (eAx (eVx 4) (eAx ah (eAx (iOp af (aM (eAx ah (eAx ah (eAx ah aa)))) (eVx 2)) aa)))) (eAx (dR (eAx (eVx 4) (eAx ah (eAx (iOp af (aM (eAx ah (eAx ah (eAx ah aa)))) (eVx 2)) aa)))) aa))))) (aq (eSx S.nd 1 (iOp af (eVx 1) (aM (eAx (dR (eAx (iOp af (eVx 4) (aM (eAx (eTs fI T.jj (eAx (eVx 3) aa)) (eAx ah aa)))) (eAx (eTs fI T.jj (eAx (iOp qM (eVx 3) aC) aa)) (eAx (iOp af (aM (eAx (eTs fI T.jj (eAx (eVx 3) aa)) aa)) (eVx 2)) aa)))) (eAx (dR (eAx (iOp af (eVx 4) (aM (eAx ah (eAx ah aa)))) (eAx ah (eAx (iOp af (aM (eAx ah aa)) (eVx 2)) aa)))) aa))))) (aq (eSx S.nd 1 (iOp af (eVx 1) (aM (eAx (dR (eAx (iOp af (eVx 4) (aM (eAx ah (eAx ah (eAx ah (eAx ah aa)))))) (eAx ah (eAx (aM (eAx ah (eAx ah (eAx ah (eAx ah (eAx ah aa)))))) aa)))) aa)))) (aq (eSx S.nd 5 (iOp af (iOp af (eVx 4) (aM (eAx ah (eAx ah (eAx ah (eAx ah (eAx ah (eAx ah (eAx ah aa))))))))) (eIy (aM (eAx (aM aa) (eAx (aM (eAx ah (eAx ah aa))) (eAx (aM (eAx ah (eAx ah (eAx ah (eAx ah aa))))) aa)))) (iOp cq (eVx 3) aC)))) (aq (eSx S.nd 6 (eIy (aM (eAx (aM (eAx ah aa)) (eAx (aM (eAx ah (eAx ah aa))) (eAx (aM (eAx ah (eAx ah aa))) aa)))) (iOp cq (eVx 3) aC))) (aq (eSx S.nd 1 (iOp af (eVx 1) (aM (eAx (dR (eAx (eVx 5) (eAx (eIy (aM (eAx ah (eAx ah (eAx ah aa)))) (eCx G34 hr (T.d 34 rfl) (eAx (eVx 0) (eAx aC aa)))) (eAx (iOp af (aM (eAx ah aa)) (eVx 6)) aa)))) aa)))) (aI (aT (eIy (eVx 1) (eCx G34 hr (T.d 34 rfl) (eAx (eVx 0) (eAx aC aa)))))))))))))))))
theorem El (T:Txt w K mg t) (G34:O P w K mg base t 34 1 ay) (G41:O P w K mg base t 41 3 kZ) (G42:O P w K mg base t 42 3 iY) (G43:O P w K mg base t 43 3 l0) (G44:O P w K mg base t 44 2 lW):O P w K mg base t 45 4 kR :=
 (T.d 45 rfl).okN ["_law_pen_here", "_law_names_here", "_law_way"] (aN T) fun S hr=>aq (eSx S.nd 2 (eCx G34 hr (T.d 34 rfl) (eAx (eVx 0) (eAx aC aa)))) (aq (bU (eTx (aP hr.units) (eVx 2) aC) (aI (aT (eCx G41 hr (T.d 41 rfl) (eAx (eVx 0) (eAx (eVx 1) aa))))) cf) (aq (bU (eTx (aP hr.units) (eVx 2) aC) (aI (aT (eCx G42 hr (T.d 42 rfl) (eAx (eVx 0) aa)))) cf) (aq (bU (eTx (aP hr.units) (eVx 2) aC) (aI (aT (eCx G43 hr (T.d 43 rfl) (eAx (eVx 0) aa)))) cf) (aI (aT (eCx G44 hr (T.d 44 rfl) (eAx (eVx 0) aa)))))))
theorem He (T:Txt w K mg t) (G33:O P w K mg base t 33 1 rG) (G45:O P w K mg base t 45 4 kR) (G35:O P w K mg base t 35 2 iV) (G34:O P w K mg base t 34 1 ay) (G38:O P w K mg base t 38 2 jv) (G39:O P w K mg base t 39 29 cm) (G32:OX P w K mg base t 32 28 ar) (G18:O P w K mg base t 18 20 (aD 8)) (G12:O P w K mg base t 12 12 dP):O P w K mg base t 46 30 vL :=
 (T.d 46 rfl).okN ["_law_script", "_law_pen_here", "_law_turn", "_law_ahead", "_law_bad", "_law_end", "_law_behind", "_law_text", "_law_places"] (aN T) fun S hr=>aq (eSx S.nd 1 (eCx G33 hr (T.d 33 rfl) (eAx (eVx 0) aa))) (aq (eFx (eR1 rfl T.dO (eAx aC aa) rfl) (eGx S.nd 2) (aq (GR (eCx G45 hr (T.d 45 rfl) (eAx (eVx 1) (eAx (eCx G35 hr (T.d 35 rfl) (eAx (eVx 1) (eAx aC aa))) aa))) (eGT (n:=3) rfl (F9 (i:=3) S.nd rfl (Or.inl rfl) (Or.inl rfl) (F9 (i:=4) S.nd rfl (Or.inl rfl) (Or.inl rfl) (F9 (i:=5) S.nd rfl (Or.inl rfl) (Or.inl rfl) ME))) rfl rfl) rfl rfl rfl) (aq (eSx S.nd 6 (eIy (aM (eAx (eVx 5) (eAx (aM aa) (eAx (aM (eAx ah (eAx ah aa))) (eAx (aM (eAx ah aa)) aa))))) (eCx G34 hr (T.d 34 rfl) (eAx (eVx 1) (eAx aC aa))))) (aq (GR (eCx G38 hr (T.d 38 rfl) (eAx (eVx 1) (eAx (eOp af (eOp af (eVx 3) (aM (eAx (eVx 4) aa))) (eVx 6)) aa))) (eGT (n:=2) rfl (F9 (i:=7) S.nd rfl (Or.inl rfl) (Or.inl rfl) (F9 (i:=8) S.nd rfl (Or.inl rfl) (Or.inl rfl) ME)) rfl rfl) rfl rfl rfl) (aq (bU (eTx (iZ hr.units) (eCx G39 hr (T.d 39 rfl) (eAx (eVx 7) aa)) (eIy (eVx 8) (eBs bK T.fP (eAx (eVx 3) aa)))) (aI (aT eBl)) cf) (aq (eSx S.nd 7 (eIy (eCx G38 hr (T.d 38 rfl) (eAx (eVx 1) (eAx (eOp af (eVx 3) (eVx 5)) aa))) aC)) (aq (bU (eW (wg (eTx i5 (eCx G39 hr (T.d 39 rfl) (eAx (eVx 7) aa)) ph) (jU (eTx (iZ hr.units) (eCX G32 hr (T.d 32 rfl) Io (eAx (eCx G18 hr (T.d 18 rfl) (eAx (eCX G32 hr (T.d 32 rfl) Io (eAx (eVx 7) aa)) aa)) aa)) (eCX G32 hr (T.d 32 rfl) Io (eAx (eVx 7) aa)))))) (aI (aT eBl)) cf) (aI (bU (gR (mJ cD cD aC (eCx G12 hr (T.d 12 rfl) (eAx (eCX G32 hr (T.d 32 rfl) Io (eAx (eVx 7) aa)) aa)) aC (by with_unfolding_all rfl))) (aI (aT eBl)) cf))))))))) (aI (aT eBl)))
theorem uR (T:Txt w K mg t) (G15:O P w K mg base t 15 3 c6):OM P w K mg base t.fu ["self", "text"] 4 gq :=
 Fa.okM T.zW ["self", "text"] (aN T) fun S hr=>aq (eSF T.cl T.i8 (eVx 0) (eCx G15 hr (T.d 15 rfl) (eAx (eVx 1) aa))) (aq (eSF T.cl T.gs (eVx 0) aC) (aI (eSF T.cl T.fY (eVx 0) aC)))
theorem sD (T:Txt w K mg t):OM P w K mg base t.ak ["self"] 1 ai :=
 Fa.okM T.x4 ["self"] (aN T) fun S hr=>aI (aT (eIy (eIy (eFl T.cl T.i8 (eVx 0)) (eFl T.cl T.gs (eVx 0))) aC))
theorem sN (T:Txt w K mg t):OY P w K mg base t.az ["self", "value", "fits"] 3 aA :=
 Fa.okX T.vJ ["self", "value", "fits"] (aN T) fun S hr=>aq (bU (gR (eUx (eVx 2))) (aI (Mu (BB T) hr T.xm rfl Hm (eIy (eIy (eFl T.cl T.i8 (eVx 0)) (eFl T.cl T.gs (eVx 0))) aC))) cf) (aq (eSF T.cl T.gs (eVx 0) (eOp af (eFl T.cl T.gs (eVx 0)) aC)) (aI (aT (eVx 1))))
theorem xG (T:Txt w K mg t) (G49:OY P w K mg base t.az ["self", "value", "fits"] 3 aA) (G48:OM P w K mg base t.ak ["self"] 1 ai):OY P w K mg base t.aG ["self", "token"] 4 aF :=
 Fa.okX T.Ai ["self", "token"] (aN T) fun S hr=>aI (bM (eMX T.cl T.az G49 hr T.bI dw (eVx 0) (eAx (eVx 1) (eAx (mX (aP hr.units) (tD T.cl T.ak G48 hr T.a7 (eVx 0)) (eVx 1) (cR _)) aa))) rfl)
end
theorem FL {P:Program} {w:World} {K:Fg} {mg:Str->Option Qz} {base:Heap} {t:Adr} (T:Txt w K mg t):c8 P w K mg base CX0 30 (t.f 46).1 (t.f 46).2 ["_law_script"] (Cb K):=by
 have h0:=Ic (P:=P) (w:=w) (base:=base) T;have h1:=Ej (P:=P) (w:=w) (base:=base) T;have h2:=x9 (P:=P) (w:=w) (base:=base) T;have h3:=Hx T h1;have h4:=CF T h1 h2 h3;have h5:=Ad T h1 h3 h2;have h6:=Eh T h1 h3;have h7:=DL T h1;have h8:=El T h1 h4 h5 h6 h7;have h9:=yZ T h1;have h10:=DD (P:=P) (w:=w) (base:=base) T;have h11:=D7 T h1 h10;have h12:=sR (P:=P) (w:=w) (base:=base) T;have h13:=oO T h12;have h14:=og T h13;have h15:=uR T h14;have h16:=sN (P:=P) (w:=w) (base:=base) T;have h17:=sD (P:=P) (w:=w) (base:=base) T;have h18:=xG T h16 h17;have h19:=mz T h16 h17;have h20:=kd (P:=P) (w:=w) (base:=base) T;have h21:=t8 T h20;have h22:=sV T h20;have h23:=o5 (P:=P) (w:=w) (base:=base) T;have h24:=tH T h21 h22 h23;have h25:=qq (P:=P) (w:=w) (base:=base) T;have h26:=lz T h25;have h27:=qL T h24 h17 h16 h26;have h28:=nP T h17 h16 h24 h26;have h29:=nG T h17 h16 h22;have h30:=oW T h17 h29 h18;have h31:=om (P:=P) (w:=w) (base:=base) T;have h32:=oP T h31;have h33:=j6 T h24 h17 h16 h25;have h34:=mC T h24 h17 h16;have h35:=j8 T h18 h17 h19 h16 h22;have m_read_part:∀ n,OX P w K mg base t 31 (9+2*n) (ao n):=by
  intro n;induction n with
  | zero=>exact (qw T).mono (by omega)
  | succ n h36 =>
   have h37:=i9 (n:=n) T h18 h36;have h38:=hG (n:=n) T h18 h17 h19 h36;have h39:=iB (n:=n) T h18 h27 h28 h30 h36;exact (oZ (n:=n) T h17 h16 h32 h33 h34 h29 h35 h37 h38 h39).mono (by omega)
 have h36:=m_read_part 9;have h37:=i9 (n:=9) T h18 h36;have h38:=hG (n:=9) T h18 h17 h19 h36;have h39:=iB (n:=9) T h18 h27 h28 h30 h36;have h40:=oG T h15 h36 h18;have h41:=sO T h40;have h42:=o8 (P:=P) (w:=w) (base:=base) T;have h43:=gA (P:=P) (w:=w) (base:=base) T;have h44:=su (P:=P) (w:=w) (base:=base) T;have h45:=nU T h44;have m_show_form:∀ n,O P w K mg base t 18 (4+2*n) (aD n):=by
  intro n;induction n with
  | zero=>exact (pC T).mono (by omega)
  | succ n h46 =>
   have h47:=fx (n:=n) T h42 h43 h46;exact (oz (n:=n) T h31 h45 h47).mono (by omega)
 have h46:=m_show_form 8;have h47:=fx (n:=8) T h42 h43 h46;have m_forms_in:∀ n,O P w K mg base t 11 (2+n) (aX n):=by
  intro n;induction n with
  | zero=>exact (tT T).mono (by omega)
  | succ n h48 =>
   exact (pS (n:=n) T h43 h48).mono (by omega)
 have h48:=m_forms_in 9;have h49:=qD T h48;have h50:=He T h0 h8 h9 h1 h11 h41 h40 h46 h49;exact h50
theorem Ib {w:World} {K:Fg} {h:Heap} {mg:Str->Option Qz} (X:K.In h) (G:h.Ns mainGlobals mg) (D:EL K mg dfs)
  {fm0:Qx} {va vb:Option Qx} {vc:Array (Option Qz)} {vd ve vf vg vh vi:Qz}
  (am0:PySem.W.findIn K (.ref clsAt) "__init__" = some (some (.ref fm0))) (lm0:K.lookup fm0=some ⟨vd,va,.func (PySem.W.fnOf "__init__" "FormReader.__init__" (bE bC) (aU bC) (ag bC) .none ve vf vg vb vh vi),vc⟩) (cm0:PySem.W.codeIn K vh "FormReader.__init__" = true) (km0:PySem.W.keepIn K (.ref fm0)=true) (im0:PySem.W.isFn K (.ref fm0)=true)
  {fm1:Qx} {vj vk:Option Qx} {vl:Array (Option Qz)} {vm vn vo vp vq vr:Qz}
  (am1:PySem.W.findIn K (.ref clsAt) "shown" = some (some (.ref fm1))) (lm1:K.lookup fm1=some ⟨vm,vj,.func (PySem.W.fnOf "shown" "FormReader.shown" (bE ba) (aU ba) (ag ba) .none vn vo vp vk vq vr),vl⟩) (cm1:PySem.W.codeIn K vq "FormReader.shown" = true) (km1:PySem.W.keepIn K (.ref fm1)=true) (im1:PySem.W.isFn K (.ref fm1)=true)
  {fm2:Qx} {vs vt:Option Qx} {vu:Array (Option Qz)} {vv vw vx vy vz v0:Qz}
  (am2:PySem.W.findIn K (.ref clsAt) "taken" = some (some (.ref fm2))) (lm2:K.lookup fm2=some ⟨vv,vs,.func (PySem.W.fnOf "taken" "FormReader.taken" (bE bc) (aU bc) (ag bc) .none vw vx vy vt vz v0),vu⟩) (cm2:PySem.W.codeIn K vz "FormReader.taken" = true) (km2:PySem.W.keepIn K (.ref fm2)=true) (im2:PySem.W.isFn K (.ref fm2)=true)
  {fm3:Qx} {v1 v2:Option Qx} {v3:Array (Option Qz)} {v4 v5 v6 v7 v8 v9:Qz}
  (am3:PySem.W.findIn K (.ref clsAt) "skip" = some (some (.ref fm3))) (lm3:K.lookup fm3=some ⟨v4,v1,.func (PySem.W.fnOf "skip" "FormReader.skip" (bE bx) (aU bx) (ag bx) .none v5 v6 v7 v2 v8 v9),v3⟩) (cm3:PySem.W.codeIn K v8 "FormReader.skip" = true) (km3:PySem.W.keepIn K (.ref fm3)=true) (im3:PySem.W.isFn K (.ref fm3)=true)
  (C_g:PySem.W.nsIn K mainGlobals "FormReader" = some (some (.ref clsAt))) (ua:PySem.W.plainGet K clsAt Str.empty=true) (ub:PySem.W.hasDictIn K clsAt=true) (uc:PySem.W.plainOver K clsAt=true) (ud:PySem.W.findIn K (.ref clsAt) "__setattr__" = some (some (.builtin "object.__setattr__"))) (ue:PySem.W.makesIn K clsAt=true) (uf:PySem.W.keepIn K (.ref clsAt)=true)
  (ug:PySem.W.findIn K (.ref clsAt) "forms" = some none)
  (uh:PySem.W.findIn K (.ref clsAt) "place" = some none)
  (ui:PySem.W.findIn K (.ref clsAt) "tokens" = some none)
  (uj:PySem.W.nsIn K mainGlobals "ValueError" = some none)
  (uk:PySem.W.nsIn K mainGlobals "abs" = some none)
  (ul:PySem.W.nsIn K mainGlobals "all" = some none)
  (um:PySem.W.nsIn K mainGlobals "bool" = some none)
  (un:PySem.W.nsIn K mainGlobals "int" = some none)
  (uo:PySem.W.nsIn K mainGlobals "isinstance" = some none)
  (up:PySem.W.nsIn K mainGlobals "len" = some none)
  (uq:PySem.W.nsIn K mainGlobals "range" = some none)
  (ur:PySem.W.nsIn K mainGlobals "sorted" = some none)
  (ut:PySem.W.nsIn K mainGlobals "str" = some none)
  (uu:PySem.W.nsIn K mainGlobals "tuple" = some none)
  {uv:Tok} (uw:PySem.W.nsIn K mainGlobals "DEEPEST" = some (some (Value.int 8 uv)))
  {ux:Tok} (uy:PySem.W.nsIn K mainGlobals "END" = some (some (Value.str "" ux)))
  {uz:Tok} (u0:PySem.W.nsIn K mainGlobals "FIGURES" = some (some (Value.str "0123456789" uz)))
  {u1:Tok} (u2:PySem.W.nsIn K mainGlobals "LETTERS" = some (some (Value.str "abcdefghijklmnopqrstuvwxyz" u1)))
  {u3:Tok} (u4:PySem.W.nsIn K mainGlobals "MOST_BONDS" = some (some (Value.int 8 u3)))
  {u5:Tok} (u6:PySem.W.nsIn K mainGlobals "MOST_ENDS" = some (some (Value.int 60 u5)))
  {u7:Tok} (u8:PySem.W.nsIn K mainGlobals "MOST_FIGURES" = some (some (Value.int 30 u7)))
  {u9:Tok} (za:PySem.W.nsIn K mainGlobals "MOST_FORMS" = some (some (Value.int 40 u9)))
  {zb:Tok} (zc:PySem.W.nsIn K mainGlobals "MOST_LETTERS" = some (some (Value.int 8 zb)))
  {zd:Tok} (ze:PySem.W.nsIn K mainGlobals "MOST_LISTED" = some (some (Value.int 6 zd)))
  {zf:Qx} (zg:PySem.W.nsIn K mainGlobals "LISTS" = some (some (.ref zf)))
  {zh:Option Qx} {zi:Array (Option Qz)} {zj:Nat} {zk:Tok} {zl:Tok} {zm:Tok} {zn:Tok} (zo:K.lookup zf=some ⟨.type "tuple", zh,.seq #[.str "all" zk,.str "some" zl,.str "one" zm,.str "none" zn] zj,zi⟩)
  {zp:Qx} (zq:PySem.W.nsIn K mainGlobals "WALKS" = some (some (.ref zp)))
  {zr:Option Qx} {zs:Array (Option Qz)} {zt:Nat} {zu:Tok} {zv:Tok} (zw:K.lookup zp=some ⟨.type "tuple", zr,.seq #[.str "many" zu,.str "each" zv] zt,zs⟩)
  {zx:Qx} (zy:PySem.W.nsIn K mainGlobals "LENGTHS" = some (some (.ref zx)))
  {zz:Array DictEntry} {z0:Nat} {z1:Tok} {z2:Tok} {z3:Tok} {z4:Tok} {z5:Tok} {z6:Tok} {z7:Tok} {z8:Tok} {z9:Tok} {ya:Tok} {yb:Tok} {yc:Tok} {yd:Tok} {ye:Tok} {yf:Tok} {yg:Tok} (yh:K.lookup zx=some ⟨.type "dict", none,.dict zz z0,#[]⟩) (yi:PySem.W.KeysLit w.params zz.toList) (yj:(zx==sysModules)=false) (yk:zz.toList.map EC=a8.map fun p=>some p.1) (yl:PySem.W.nsIn K zx "any" = some (some (Value.int 1 z1))) (ym:PySem.W.nsIn K zx "thing" = some (some (Value.int 1 z2))) (yn:PySem.W.nsIn K zx "number" = some (some (Value.int 1 z3))) (yo:PySem.W.nsIn K zx "said" = some (some (Value.int 1 z4))) (yp:PySem.W.nsIn K zx "from" = some (some (Value.int 2 z5))) (yq:PySem.W.nsIn K zx "upto" = some (some (Value.int 2 z6))) (yr:PySem.W.nsIn K zx "is" = some (some (Value.int 2 z7))) (ys:PySem.W.nsIn K zx "keeps" = some (some (Value.int 2 z8))) (yt:PySem.W.nsIn K zx "not" = some (some (Value.int 2 z9))) (yu:PySem.W.nsIn K zx "all" = some (some (Value.int 2 ya))) (yv:PySem.W.nsIn K zx "some" = some (some (Value.int 2 yb))) (yw:PySem.W.nsIn K zx "one" = some (some (Value.int 2 yc))) (yx:PySem.W.nsIn K zx "none" = some (some (Value.int 2 yd))) (yy:PySem.W.nsIn K zx "many" = some (some (Value.int 5 ye))) (yz:PySem.W.nsIn K zx "each" = some (some (Value.int 5 yf))) (y0:PySem.W.nsIn K zx "closed" = some (some (Value.int 2 yg)))
  {xi xda:Qx}
  {y1:Option Qx} {y2:ClassData} {y3 y4 y5 y6 y7:Option Qz} (xal:K.lookup excAt=some ⟨.type "type", y1,.cls y2,#[y3,y4,y5,y6,some (.builtin "ValueError.__new__"),y7]⟩) {xab:List Qz} (xam:y2.mro=.ref excAt :: xab) (xah:y2.hasDel=false) (xat:PySem.W.tailIn K bmV xab=true) (xan:PySem.W.nsOkIn K y2.ns=true) (xaj:PySem.W.nsIn K y2.ns "__init__" = some (some (.ref xi)))
  (y8:PySem.W.findIn K (.ref excAt) "__class__" = some (some (.builtin "object.__class__"))) (y9:PySem.W.findIn K (.ref excAt) "__getattribute__" = some (some (.builtin "BaseException.__getattribute__"))) (qa:PySem.W.findIn K (.ref excAt) "__getattr__" = some none)
  {qb:Option Qx} {qc:ClassData} {qd qe qf qg qh:Option Qz} (xbl:K.lookup xda=some ⟨.type "type", qb,.cls qc,#[qd,qe,qf,qg,some (.builtin "ValueError.__new__"),qh]⟩) {xbb:List Qz} (xbm:qc.mro=.ref xda :: xbb) (xbh:qc.hasDel=false) (xbt:PySem.W.tailIn K bmV xbb=true) (xbn:PySem.W.nsOkIn K qc.ns=true) (xbj:PySem.W.nsIn K qc.ns "__init__" = some none)
  (qi:PySem.W.findIn K (.ref xda) "__class__" = some (some (.builtin "object.__class__"))) (qj:PySem.W.findIn K (.ref xda) "__getattribute__" = some (some (.builtin "BaseException.__getattribute__"))) (qk:PySem.W.findIn K (.ref xda) "__getattr__" = some none)
  (gxa:PySem.W.nsIn K mainGlobals "NoForm" = some (some (.ref excAt))) (gxb:PySem.W.nsIn K mainGlobals "ShapeError" = some (some (.ref xda)))
  (sa:PySem.W.findIn K (.ref excAt) "__setattr__" = some (some (.builtin "object.__setattr__"))) (po:Ja K excAt=true) (tk:PySem.W.takerIn K excAt cH=some none) (hd:PySem.W.hasDictIn K excAt=true) (sp:PySem.W.specialIn K (.ref xda) "__getattribute__" = some (some (.builtin "type.__getattribute__"))) (rd:PySem.W.readsIn K xda (.type "type")=true) (na:PySem.W.findIn K (.ref excAt) cH=some none) (fc:PySem.W.findCls K (.ref xda) (.type "type") "__init__" = some (.val (.builtin "ValueError.__init__"))) (kpx:PySem.W.keepIn K (.ref excAt)=true)
  {odI anI:Option Qx} {slI:Array (Option Qz)} {kVI dcI pmI cdI ctI:Qz} (lI:K.lookup xi=some ⟨.type "function", odI,.func (PySem.W.fnOf "__init__" "NoForm.__init__" (bE dU) (aU dU) (ag dU) .none kVI dcI pmI anI cdI ctI),slI⟩) (cI:PySem.W.codeIn K cdI "NoForm.__init__" = true) (kI:PySem.W.keepIn K (.ref xi)=true)
  (mr:PySem.W.mroIn K excAt (.ref xda)=some true) (mv:PySem.W.mroIn K excAt (.type "ValueError")=some true)
  (Y:mR K excAt (some (.ref xi))->HB K mg ycs)
  : ∃ t:Adr,(∀ (s:Qv) (u:Qz),BindsTo s (t.f 46).2 ⟨[u],[]⟩ [("_law_script", u)])/\Txt w K mg t:=by
 obtain ⟨f,hf⟩:=Nr D;obtain ⟨y,hy⟩:=Ml (Y ⟨⟨_,_,_,_,_,_,_,_,xal,xam,xah,xat,xan,xaj⟩,y8,y9,qa⟩)
 exact ⟨⟨f,(fm0,PySem.W.fnOf "__init__" "FormReader.__init__" (bE bC) (aU bC) (ag bC) .none ve vf vg vb vh vi),(fm1,PySem.W.fnOf "shown" "FormReader.shown" (bE ba) (aU ba) (ag ba) .none vn vo vp vk vq vr),(fm2,PySem.W.fnOf "taken" "FormReader.taken" (bE bc) (aU bc) (ag bc) .none vw vx vy vt vz v0),(fm3,PySem.W.fnOf "skip" "FormReader.skip" (bE bx) (aU bx) (ag bx) .none v5 v6 v7 v2 v8 v9),(xi,PySem.W.fnOf "__init__" "NoForm.__init__" (bE dU) (aU dU) (ag dU) .none kVI dcI pmI anI cdI ctI),xda,y,zf,zp,zx,uv,ux,uz,u1,u3,u5,u7,u9,zb,zd⟩,fun s u=>.of_eq ((hf 46 rfl).c [u] rfl),⟨hf,
  eR (st:=bC) lm0 cm0 km0,
  (eR (st:=bC) lm0 cm0 km0).binds (ps:=["self", "text"]) fun _ _ _ _ _ _ us hl=>match us,hl with | [_,_],_=>rfl,
  eR (st:=ba) lm1 cm1 km1,
  (eR (st:=ba) lm1 cm1 km1).binds (ps:=["self"]) fun _ _ _ _ _ _ us hl=>match us,hl with | [_],_=>rfl,
  ⟨am1,im1,km1⟩,
  eR (st:=bc) lm2 cm2 km2,
  (eR (st:=bc) lm2 cm2 km2).binds (ps:=["self", "value", "fits"]) fun _ _ _ _ _ _ us hl=>match us,hl with | [_,_,_],_=>rfl,
  ⟨am2,im2,km2⟩,
  eR (st:=bx) lm3 cm3 km3,
  (eR (st:=bx) lm3 cm3 km3).binds (ps:=["self", "token"]) fun _ _ _ _ _ _ us hl=>match us,hl with | [_,_],_=>rfl,
  ⟨am3,im3,km3⟩,
  ⟨ua,ub,uc,ud⟩,
  ⟨ue,am0,im0,uf⟩,
  OR X G C_g,
  ug,
  uh,
  ui,
  OZ X G uj,
  OZ X G uk,
  OZ X G ul,
  OZ X G um,
  OZ X G un,
  OZ X G uo,
  OZ X G up,
  OZ X G uq,
  OZ X G ur,
  OZ X G ut,
  OZ X G uu,
  OR X G uw,
  OR X G uy,
  OR X G u0,
  OR X G zy,
  OR X G u2,
  OR X G zg,
  OR X G u4,
  OR X G u6,
  OR X G u8,
  OR X G za,
  OR X G zc,
  OR X G ze,
  OR X G zq,
  ⟨_,_,yh,yi,yj,L5 yk (fun p hp=>by unfold a8 at hp;simp only [Oo,Pk,Qf] at hp;rcases hp with rfl | rfl | rfl | rfl | rfl | rfl | rfl | rfl | rfl | rfl | rfl | rfl | rfl | rfl | rfl | rfl <;> exact ⟨_,PySem.W.find_K yh (by assumption),_,rfl⟩)⟩,
  fun H=>Or.inr ⟨_,_,_,zo,rfl,rfl,(by show 4<=sizeLine;decide),(.cons ⟨_,rfl⟩ (.cons ⟨_,rfl⟩ (.cons ⟨_,rfl⟩ (.cons ⟨_,rfl⟩ .nil))))⟩,
  fun H=>Or.inr ⟨_,_,_,zw,rfl,rfl,(by show 2<=sizeLine;decide),(.cons ⟨_,rfl⟩ (.cons ⟨_,rfl⟩ .nil))⟩,
  ⟨⟨_,_,_,_,_,_,_,_,xal,xam,xah,xat,xan,xaj⟩,y8,y9,qa⟩,
  ⟨sa,po,tk,hd,sp,rd,na,fc⟩,
  OR X G gxa,
  kpx,
  eR (st:=dU) lI cI kI,
  (eR (st:=dU) lI cI kI).binds (ps:=["self", "at"]) fun _ _ _ _ _ _ us hl=>match us,hl with | [_,_],_=>rfl,
  ⟨_,lI,rfl⟩,
  ⟨⟨_,_,_,_,_,_,_,_,xbl,xbm,xbh,xbt,xbn,xbj⟩,qi,qj,qk⟩,
  OR X G gxb,
  mr,
  mv,
  hy⟩⟩
local macro_rules | `(tactic| walk_at "e")=>`(tactic| (case e9=>exact rfl))
local macro_rules | `(tactic| walk_at "p")=>`(tactic| first | with_reducible refine mY ?_ | walk_at "p0")
local macro_rules | `(tactic| walk_at "p0")=>`(tactic| first
 | (with_reducible first | refine BI ?_ | refine BN ?_ | refine Bq ?_ | refine GK ?_ | refine B4 ?_ | refine Hi ?_ | refine BR ?_ | refine Jr ?_ | refine Np ?_ | refine E7 ?_ | refine CJ ?_ | refine xB ?_ | refine Cj ?_)
 | ((with_reducible refine w_var (d:=?d9) ?e9 ?_);walk_at "e") | ((with_reducible refine Gm (d:=?d9) ?e9 ?_);walk_at "e") | ((with_reducible refine GQ (d:=?d9) ?e9 ?_);walk_at "e") | ((with_reducible refine HC (d:=?d9) ?e9 ?_);walk_at "e")
 | ((with_reducible refine Lg (d:=?d9) ?e9 ?_);walk_at "e") | ((with_reducible refine Lr (d:=?d9) ?e9 ?_);walk_at "e") | ((with_reducible refine Ly (d:=?d9) ?e9 ?_);walk_at "e")
 | (with_reducible first | refine AS ?_ | refine Gp ?_ | refine LG ?_) | ((with_reducible refine Ge (d:=?d9) ?e9 ?f9 ?_);walk_at "e"; (case f9=>exact rfl))
 | (with_reducible first | refine Be ?_ | refine F5 ?_ | refine LU ?_ | refine GI ?_ | refine Jj ?_ | refine HU ?_ | refine Hq ?_ | refine Kb ?_ | refine JY rfl ?_ | refine JZ ?_ | refine Kx ?_ | refine w_and ?_ | refine w_or ?_ | refine w_not ?_ | refine Lm ?_ | refine Nw ?_ | refine NG ?_ | refine NC ?_ | refine Nd ?_)
 | walk_at "q")
local macro_rules | `(tactic| walk_at "q0")=>`(tactic| first
 | ((with_reducible refine d5 ?e9 ?_);walk_at "e") | ((with_reducible refine cO ?e9 ?_);walk_at "e")
 | ((show WPr _ _ _ _);refine kPr rfl rfl ?_) | ((show WPr _ _ _ _);(refine kPr rfl (Og ?c9) ?_);(case c9=>walk_at "c")) | ((show EJ _ _ _ _);refine kFi rfl rfl ?_) | ((show sC _ _ _);refine kFN rfl ?_) | ((show E5 _ _ _ _ _ _ _);refine kS1 rfl rfl ?_) | ((show Ce _ _ _ _ _ _);refine kS2 rfl rfl rfl ?_) | ((show FZ _ _ _ _ _ _);refine kM1 rfl rfl ?_) | ((show Ae _ _ _ _ _);refine kM2 rfl rfl rfl ?_) | ((show WMr _ _ _ _ _);refine kMr rfl rfl rfl ?_) | ((show WTp _ _ _ _);refine kTp rfl (OW rfl) ?_) | ((show C6 _ _ _ _);refine kAT rfl rfl ?_) | ((show Ec _ _ _ _);refine kAs rfl rfl ?_) | ((show tw _ _ _ _);refine kAO rfl rfl ?_)
 | ((show WBo _ _);refine kBo ?_) | ((with_reducible refine ⟨_,rfl,?_⟩)))
local macro_rules | `(tactic| walk_at "pp")=>`(tactic| repeat walk_at "p")
local macro_rules | `(tactic| walk_at "c")=>`(tactic| first | exact rfl | assumption | (simp only [mulC,Qk,OF,OU] <;> omega))
local macro_rules | `(tactic| walk_at "pz")=>`(tactic| repeat walk_at "p0")
local macro_rules | `(tactic| walk_at "n=")=>`(tactic| ((try dsimp only [Cst.i,Cst.s,Cst.b,Cst.n,RV.av,aB,List.replicate_succ,List.replicate_zero,dH,fR,CI,Jv,br,fQ,qm,List.set_cons_zero,List.set_cons_succ,List.getElem?_cons_zero,List.getElem?_cons_succ,List.map_cons,List.map_nil,List.tail_cons,Option.getD_some,decide_true,decide_false,List.drop_succ_cons,List.drop_zero]);exact rfl))
local macro_rules | `(tactic| walk_at "n")=>`(tactic| ((with_reducible first | refine Gw (e':=?e9) ?h9 ?_ | refine Dy (e':=?e9) ?h9 ?_ | refine Ia (e':=?e9) ?h9 ?_ | refine NA (e':=?e9) ?h9 ?_ | refine M3 (e':=?e9) ?h9 ?_ | refine Nh (e':=?e9) ?h9 ?_ | refine NL (e':=?e9) ?h9 ?_ | refine Nn (e':=?e9) ?h9 ?_ | refine LC (e':=?e9) ?h9 ?_ | refine DY (e':=?e9) ?h9 ?_ | refine Lv (e':=?e9) ?h9 ?_ | refine K9 (e':=?e9) ?h9 ?_ | refine JV (e':=?e9) ?h9 ?_ | refine FT (e':=?e9) ?h9 ?_ | refine HN (e':=?e9) ?h9 ?_ | refine CU (e':=?e9) ?h9 ?_ | refine Hj (e':=?e9) ?h9 ?_ | refine FP (e':=?e9) ?h9 ?_ | refine FK (e':=?e9) ?h9 ?_);(case h9=>walk_at "n=")))
local macro_rules | `(tactic| walk_at "P") => `(tactic| repeat walk_at "p")
local macro_rules | `(tactic| walk_at "N") => `(tactic| (walk_at "n";walk_at "P"))
local macro_rules | `(tactic| walk_at "soft")=>`(tactic| first | exact gO | exact gj | exact Md | assumption)
local macro_rules | `(tactic| walk_at "l")=>`(tactic| (rename_i h9;apply uG.out h9;clear h9;dsimp only [Az];intros))
local macro_rules | `(tactic| walk_at "L1")=>`(tactic| first | exact (rfl:uG [] []) | refine ⟨_,?_,rfl⟩ | ((refine ⟨_,_,?s9,?_,rfl⟩);(case s9=>walk_at "soft")))
local macro_rules | `(tactic| walk_at "L")=>`(tactic| repeat walk_at "L1")
local macro_rules | `(tactic| walk_at "q")=>`(tactic| first | walk_at "q0" | ((show Li _ _ _ _);refine kC1 rfl rfl rfl ?_) | ((show Jw _ _ _ _ _);refine kC2 rfl rfl ?_) | ((show Ec _ _ _ _);(refine kAs rfl (i7 rfl ?s9) ?_);(case s9=>walk_at "soft")) | ((show tw _ _ _ _);(refine kAO rfl (i7 rfl ?s9) ?_);(case s9=>walk_at "soft")))
local macro_rules | `(tactic| walk_at "f")=>`(tactic| ((refine Ag ?h9 ?_);(case h9=>((refine i7 rfl ?s9);(case s9=>walk_at "soft")));walk_at "n"))
local macro_rules | `(tactic| walk_at "ps1")=>`(tactic| ((fail_if_success (with_reducible refine isEq ?_));walk_at "p"))
local macro_rules | `(tactic| walk_at "ps")=>`(tactic| repeat walk_at "ps1")
variable {Q:PR->List Qq->Prop} {x w Z s t z y:Str} {d pn u:Qq} {n j k B fm a i dep c pl b:Nat} {TK T ns bs:List Str} {e e1:En} {fr up wk:Bool} {cs:List Int} {Ts:List (List Str)} {ts:List (List Nat)} {L r W:List Nat} {us ds:List Qq} {avs:List AV} {lo:Int} {f:Fn} {P hi:Option Int}
noncomputable def chB (c:Nat):Bool:=decide (97<=c)&&decide (c<=122)
def gw (d:Qq) (k:Int):Bool:=match d with
 | .str x=>decide (k<=(x.length:Int))&&(decide ((x.length:Int)<=8)&&x.cps.toList.all chB)
 | _=>false
theorem M8 (c:Nat):leS (Str.ofString "a") ⟨#[c]⟩=decide (97<=c):=by
 have e:(Str.ofString "a").cps.toList=[97]:=by decide +kernel
 unfold leS;rw [e];by_cases h:97<=c
 ·rw [Oe h,Ob]
  ·rfl
  ·intro z;have:c < 97:=by simpa [Pb] using z
   omega
 ·rw [Ob h,Oe]
  ·rfl
  ·simp [Pb];omega
theorem ND (c:Nat):leS ⟨#[c]⟩ (Str.ofString "z")=decide (c<=122):=by
 have e:(Str.ofString "z").cps.toList=[122]:=by decide +kernel
 unfold leS;rw [e];by_cases h:c<=122
 ·rw [Oe h,Ob]
  ·rfl
  ·intro z;have:122 < c:=by simpa [Pb] using z
   omega
 ·rw [Ob h,Oe]
  ·rfl
  ·simp [Pb];omega
theorem fA {k:Int} (q:Q (.dat (.bool (gw (.str x) k))) []):WF bo [.str x,.int k] Q:=by
 refine dY rfl ?_;unfold fv;replace q:Q (.dat (.bool (decide (k<=(x.length:Int))&&(decide ((x.length:Int)<=8)&&x.cps.toList.all chB)))) []:=q;walk_at "P";refine iM (fun c1=>?_) (fun c1=>?_)
 ·have c1:decide (k<=(x.length:Int))=true:=c1;walk_at "P";rw [c1,Pe] at q;refine iM (fun c2=>?_) (fun c2=>?_)
  ·have c2:(!decide ((x.length:Int)<=8))=true:=c2;have c2:decide ((x.length:Int)<=8)=false:=by simpa using c2
   walk_at "P";rw [c2] at q;exact q
  ·have c2:(!decide ((x.length:Int)<=8))=false:=c2;have c2:decide ((x.length:Int)<=8)=true:=by simpa using c2
   rw [c2,Pe] at q;walk_at "P";refine gK (fun i ys ec=>ys=((x.cps.toList.take i).map chB).map .bool/\ec=[]) ⟨rfl,rfl⟩ ?_ ?_
   ·rintro i d ys ec hd ⟨rfl,rfl⟩;rw [OA] at hd;obtain ⟨c,hc,rfl⟩:=OG.mp hd;have e0:((x.cps.toList.take (i+1)).map chB).map PyData.bool=((x.cps.toList.take i).map chB).map PyData.bool++[.bool (chB c)]:=by rw [<- take_snoc hc,Ox,Ox];rfl
    refine kr ?_;walk_at "P";have e1:=M8 c;have e2:=ND c;refine iM (fun d1=>?_) (fun d1=>?_)
    ·have d1:leS (Str.ofString "a") ⟨#[c]⟩=true:=d1;walk_at "P";refine ⟨?_,rfl⟩;rw [e0];unfold chB;rw [<- e1,d1,<-e2];rfl
    ·have d1:leS (Str.ofString "a") ⟨#[c]⟩=false:=d1;walk_at "P";refine ⟨?_,rfl⟩;rw [e0];unfold chB;rw [<- e1,d1];rfl
   ·rintro ys ec ⟨rfl,rfl⟩;rw [N6,Qh];walk_at "N";refine w_all (bs:=x.cps.toList.map chB) rfl ?_;have e3:(x.cps.toList.map chB).all id=x.cps.toList.all chB:=by rw [List.all_map];rfl
    rw [e3];walk_at "P";exact q
 ·have c1:decide (k<=(x.length:Int))=false:=c1;walk_at "P";rw [c1] at q;exact q
theorem gB (q:Q (.dat (.bool (gw (.str x) 1))) []):WF bP [.str x] Q:=by
 refine dY rfl ?_;unfold kP;walk_at "P";refine ae (is:=[]) rfl rfl (fA ⟨rfl,?_⟩);walk_at "P";exact q
noncomputable def whB:Qq->Bool
 | .int _=>true
 | _=>false
theorem fH (hd:BZ d=false) (q:Q (.dat (.bool (whB d))) []):WF bL [d] Q:=by
 refine dY rfl ?_;unfold jw;cases d <;> first | (cases hd;done) | (walk_at "P"; exact q)
def C5:Qq->Bool
 | .tuple [x]=>gw x 0
 | _=>false
theorem tI (q:Q (.dat (.bool (C5 (.tuple [.str x])))) []):WF fb [.tuple [.str x]] Q:=by
 refine dY rfl ?_;unfold ko;walk_at "P";refine ae (is:=[]) rfl rfl (fA ⟨rfl,?_⟩);walk_at "P";exact q
open PySem.NumText in
theorem ML:∀ {l:List Nat},AllDigits l->(l.map Char.ofNat).map Char.toNat=l
 | [],_=>rfl
 | c :: l,h=>by
  have hc:=h.head;have e:(Char.ofNat c).toNat=c:=by
   have:∀ c,c < 58->(Char.ofNat c).toNat=c:=by decide
   exact this c (by omega)
  rw [List.map_cons,List.map_cons,e,ML h.tail]
noncomputable def codes (m:Nat):List Nat:=(Nat.toDigits 10 m).map Char.toNat
theorem dch:∀ d,d < 10->(Nat.digitChar d).toNat=48+d:=by decide
theorem cQ (q:Nat):codes q=(if 9 < q then codes (q / 10) else [])++[48+q % 10]:=by
 by_cases h:9 < q
 ·rw [Og h];have hm:q % 10 < 10:=Nat.mod_lt q (by decide);have t:Nat.toDigits 10 (q / 10)++Nat.toDigits 10 (q % 10)=Nat.toDigits 10 (10*(q / 10)+q % 10):=Nat.toDigits_append_toDigits (by decide) (by omega) hm;rw [Nat.div_add_mod] at t;unfold codes;rw [<- t,Ox,Nat.toDigits_of_lt_base hm];show _++[(Nat.digitChar (q % 10)).toNat]=_;rw [dch _ hm]
 ·rw [Ot h];have hq:q < 10:=by omega
  unfold codes;rw [Nat.toDigits_of_lt_base hq];show [(Nat.digitChar q).toNat]=[48+q % 10];rw [dch _ hq,Nat.mod_eq_of_lt hq]
theorem nA:∀ (k m:Nat),m < 10 ^ (k+1)->(codes m).length<=k+1
 | 0,m,h=>by
  have h:m < 10:=h;rw [cQ,Ot (by omega)];exact Ol 1
 | k+1,m,h=>by
  rw [cQ];by_cases h9:9 < m
  ·rw [Og h9,N5];have hp:10 ^ (k+1+1)=10*10 ^ (k+1):=by rw [Nat.pow_succ,Nat.mul_comm]
   have:=nA k (m / 10) (by rw [hp] at h;omega);have:[48+m % 10].length=1:=rfl;omega
  ·rw [Ot h9];show 1<=_;omega
theorem zR (m:Nat):codes m≠[]:=by rw [cQ];simp
open PySem.NumText in
theorem jf (m:Nat):AllDigits (codes m):=by
 induction m using Nat.strongRecOn with
 | _ m ih =>
  intro c hc;rw [cQ] at hc;rcases Po.mp hc with h | h
  ·split at h
   ·exact ih (m / 10) (by omega) c h
   ·simp at h
  ·have:c=48+m % 10:=by simpa using h
   omega
open PySem.NumText in
theorem xN (m:Nat):digitsVal (codes m)=m:=PySem.W.KIN.val_back m
open PySem.NumText in
theorem xK {f:List Nat} (h:AllDigits f):codes (digitsVal f)=(match f.dropWhile (·==48) with | []=>[48] | c :: r=>c :: r):=by
 unfold codes;rw [toDigits_all f h];have hs:AllDigits (f.dropWhile (·==48)):=fun c hc=>h c ((List.dropWhile_sublist _).mem hc);cases e:f.dropWhile (·==48) with
 | nil=>rfl
 | cons c r =>
  rw [e] at hs;exact ML hs
open PySem.NumText in
theorem sX {f:List Nat} (h:AllDigits f) (hne:f≠[]):codes (digitsVal f)=f↔(f.head?=some 48->f=[48]):=by
 rw [xK h];cases f with
 | nil=>exact absurd rfl hne
 | cons c r =>
  by_cases hc:c=48
  ·subst hc;rw [List.dropWhile_cons,Og (show ((48:Nat)==48)=true from rfl)];constructor
   ·intro z _;have hl:=congrArg List.length z;have:=(List.dropWhile_sublist (l:=r) (·==48)).length_le;cases e:r.dropWhile (·==48) with
    | nil =>
     rw [e] at z;exact z.symm
    | cons c2 r2 =>
     rw [e] at hl this;have hl:(c2 :: r2).length=(48 :: r).length:=hl;rw [Oc (a:=48)] at hl;omega
   ·intro z;have z:=z rfl;injection z with _ z;rw [z];rfl
  ·rw [List.dropWhile_cons,Ot (by simpa using hc)];exact ⟨fun _ z=>absurd (by simpa using z) hc,fun _=>rfl⟩
theorem fh (m:Nat):(aw (m:Int)).cps.toList=codes m:=PySem.W.KIN.signs_num m
theorem gL {m:Nat} (h:0 < m):(aw (-(m:Int))).cps.toList=45 :: codes m:=by
 obtain ⟨k,rfl⟩:∃ k,m=k+1:=⟨m - 1,by omega⟩;unfold aw;rw [PyProof.Rows.signs_ofString];show ("-" ++ Nat.repr (k+1)).toList.map Char.toNat=_;rw [String.toList_append,Ox,Nat.toList_repr];rfl
theorem jx (h:x.cps.toList=y.cps.toList):x=y:=by
 obtain ⟨⟨a⟩⟩:=x;obtain ⟨⟨b⟩⟩:=y;have h:a=b:=h;rw [h]
noncomputable def gv (x:Str):List Nat:=match x.cps.toList with | 45 :: r=>r | l=>l
noncomputable def isNeg (x:Str):Bool:=decide (x.cps.toList.head?=some 45)
noncomputable def cL (c:Nat):Bool:=decide (48<=c)&&decide (c<=57)
open PySem.NumText in
def xr (x:Str):Int:=if isNeg x=true then -(digitsVal (gv x):Int) else (digitsVal (gv x):Int)
def eX (x:Str):Bool:=decide (1<=(gv x).length)&&(decide ((gv x).length<=30)&&(gv x).all cL)
def tJ (x:Str):Qq:=if eX x=true/\((gv x).head?=some 48->x.cps.toList=[48]) then .int (xr x) else .none
theorem lE (h:x.cps.toList=45 :: r):gv x=r:=by unfold gv;rw [h];rfl
theorem oQ (h:x.cps.toList=45 :: r):isNeg x=true:=by unfold isNeg;rw [h];rfl
theorem dN (x:Str):(∃ r,x.cps.toList=45 :: r/\gv x=r/\isNeg x=true)\/(gv x=x.cps.toList/\isNeg x=false):=by
 cases e:x.cps.toList with
 | nil=>exact .inr ⟨by unfold gv;rw [e],by unfold isNeg;rw [e];rfl⟩
 | cons c r =>
  by_cases hc:c=45
  ·subst hc;exact .inl ⟨r,rfl,lE e,oQ e⟩
  ·refine .inr ⟨?_,?_⟩
   ·unfold gv;rw [e];split
    ·rename_i r2 z;injection z with z _;exact absurd z hc
    ·rfl
   ·unfold isNeg;rw [e];exact Ob (by simpa using hc)
open PySem.NumText in
theorem gr (h:eX x=true):AllDigits (gv x)/\gv x≠[]/\(gv x).length<=30:=by
 unfold eX at h;simp only [OF,OU,O8] at h;refine ⟨fun c hc=>?_,fun z=>by rw [z] at h;simp at h,h.2.1⟩;have:=h.2.2 c hc;unfold cL at this;simpa using this
theorem Hb (h:(gv x).length<=30):x.length<=31:=by
 rw [<- ax];rcases dN x with ⟨r,e,f,_⟩ | ⟨f,_⟩
 ·rw [e,Oc,<-f];omega
 ·rw [<- f];omega
open PySem.NumText in
theorem wN (h:eX x=true):PySem.intText? x=some (xr x):=by
 obtain ⟨h1,h2,h3⟩:=gr h;have hl:=Hb h3;unfold xr;rcases dN x with ⟨r,e,f,g⟩ | ⟨f,g⟩
 ·rw [g,Og rfl,f];rw [f] at h1 h2;exact intText_neg e h1 h2 (by omega)
 ·rw [g,Ot (by decide),f];rw [f] at h1 h2;exact intText_digits h1 h2 (by omega)
open PySem.NumText in
theorem Bm:∀ (n:Nat) (f:List Nat),f.length=n->AllDigits f->digitsVal f < 10 ^ n
 | 0,[],_,_=>by decide
 | n+1,f,hl,h=>by
  have hne:f≠[]:=by intro e;rw [e] at hl;simp at hl
  have e:=List.dropLast_concat_getLast hne;generalize f.dropLast=l at e;generalize f.getLast hne=c at e;subst e;have h1:AllDigits l:=fun d hd=>h d (Ph _ hd);have hc:48<=c/\c<=57:=h c (OD _ (Oz.mpr rfl));have:=Bm n l (by rw [N5,Ow] at hl;omega) h1;rw [digitsVal_snoc,Nat.pow_succ];omega
theorem Cf (h:eX x=true):(xr x).natAbs < 10 ^ 30:=by
 obtain ⟨h1,h2,h3⟩:=gr h;have h4:=Ov (Bm _ _ rfl h1) (Nat.pow_le_pow_right (by decide) h3);unfold xr;split <;> omega
open PySem.NumText in
theorem lb (h:eX x=true):aw (xr x)=x↔((gv x).head?=some 48->x.cps.toList=[48]):=by
 obtain ⟨h1,h2,h3⟩:=gr h;have cb:=sX h1 h2;unfold xr;rcases dN x with ⟨r,e,f,g⟩ | ⟨f,g⟩
 ·rw [g,Og rfl];rw [f] at cb ⊢;by_cases h0:digitsVal r=0
  ·rw [h0];constructor
   ·intro z;have z:=congrArg (fun z:Str=>z.cps.toList) z;have z:(aw ((0:Nat):Int)).cps.toList=x.cps.toList:=z;rw [fh,e,cQ] at z;injection z with z _;exact absurd z (by decide)
   ·intro z;have hh:r.head?=some 48:=by
     rw [f] at h2 h1;cases r with
     | nil=>exact absurd rfl h2
     | cons c r =>
      have hc:=h1.head;by_cases h49:49<=c
      ·have:=digitsVal_pos (cs:=r) h49;omega
      ·rw [List.head?_cons,show c=48 by omega]
    rw [e] at z;exact absurd (z hh) (by simp)
  ·constructor
   ·intro z;have z:=congrArg (fun z:Str=>z.cps.toList) z;have z:(aw (-(digitsVal r:Int))).cps.toList=x.cps.toList:=z;rw [gL (by omega),e] at z;injection z with _ z;intro hh;have z2:=cb.mp z hh;rw [z2] at h0;exact absurd rfl h0
   ·intro z;refine jx ?_;rw [gL (by omega),e];congr 1;refine cb.mpr fun hh=>?_;rw [e] at z;exact absurd (z hh) (by simp)
 ·rw [g,Ot (by decide)];rw [f] at cb ⊢;constructor
  ·intro z;have z:=congrArg (fun z:Str=>z.cps.toList) z;have z:(aw (digitsVal x.cps.toList:Int)).cps.toList=x.cps.toList:=z;rw [fh] at z;exact cb.mp z
  ·intro z;refine jx ?_;rw [fh];exact cb.mpr z
def bh (x:Str):Qq:=match x.cps.toList with
 | []=>.none
 | c :: r=>if c=39 then (if r.length<=8/\r.all chB=true then .tuple [.str ⟨r.toArray⟩] else .none)
  else if chB c=true then (if r.length<=7/\r.all chB=true then .str x else .none) else tJ x
theorem md (x y:Str) (c:Nat) (hy:y.cps=#[c]):(decide (y.length<=x.length)&&Builtin.Str.subAt x y 0)=decide (x.cps.toList.head?=some c):=by
 obtain ⟨⟨l⟩⟩:=x;obtain ⟨yc⟩:=y;have hy:yc=#[c]:=hy;subst hy;cases l with
 | nil=>rfl
 | cons a l =>
  unfold Builtin.Str.subAt;have e1:decide ((⟨#[c]⟩:Str).length<=(⟨⟨a :: l⟩⟩:Str).length)=true:=Oe (by show 1<=(a :: l).length;simp);rw [e1,Pe];have e2:((⟨⟨a :: l⟩⟩:Str).cps.extract 0 (0+(⟨#[c]⟩:Str).length))=#[a]:=by
   show (⟨a :: l⟩:Array Nat).extract 0 1=#[a];simp
  rw [e2];show ((#[a]:Array Nat)==#[c])=decide (some a=some c);by_cases h:a=c
  ·subst h;simp
  ·rw [Ob (by simpa using h)];simp [h]
theorem Fv {k:Int} (h:0<=k):(iW x (some k) none).cps.toList=x.cps.toList.drop k.toNat:=by
 unfold iW;show List.take (x.length - HT.sIx x.length 0 (some k)) (List.drop (HT.sIx x.length 0 (some k)) x.cps.toList)=_;have e:HT.sIx x.length 0 (some k)=min k.toNat x.length:=by
  show (if k < 0 then (k+(x.length:Int)).toNat else min k.toNat x.length)=_;rw [Ot (by omega)]
 rw [e,PY (by rw [Pm,ax];exact Ol _)];by_cases hk:k.toNat<=x.length
 ·rw [Nat.min_eq_left hk]
 ·rw [Nat.min_eq_right (by omega),List.drop_of_length_le (by rw [ax];exact Ol _),List.drop_of_length_le (by rw [ax];omega)]
theorem le_0 (c:Nat):leS (Str.ofString "0") ⟨#[c]⟩=decide (48<=c):=by
 have e:(Str.ofString "0").cps.toList=[48]:=by decide +kernel
 unfold leS;rw [e];by_cases h:48<=c
 ·rw [Oe h,Ob]
  ·rfl
  ·intro z;have:c < 48:=by simpa [Pb] using z
   omega
 ·rw [Ob h,Oe]
  ·rfl
  ·simp [Pb];omega
theorem NV (c:Nat):leS ⟨#[c]⟩ (Str.ofString "9")=decide (c<=57):=by
 have e:(Str.ofString "9").cps.toList=[57]:=by decide +kernel
 unfold leS;rw [e];by_cases h:c<=57
 ·rw [Oe h,Ob]
  ·rfl
  ·intro z;have:57 < c:=by simpa [Pb] using z
   omega
 ·rw [Ob h,Oe]
  ·rfl
  ·simp [Pb];omega
theorem GH {a:AV} {n:Int} {Q:RV->En->Prop} (h1:aK e [a]=some [.str x]) (h2:x.length<=640) (h3:PySem.intText? x=some n) (q:Q (.dat (.int n)) e):WPr ow [a] e Q :=
 ⟨_,.dat (.int n),h1,by show zB (.str x)=_;unfold zB;simp only [h2,P5,h3,Option.map_some],q⟩
theorem nR (hx:x.length<=100) (q:Q (.dat (tJ x)) []):WF c5 [.str x] Q:=by
 refine dY rfl ?_;unfold eQ;walk_at "pz";with_reducible refine iJ fun N eN=>?_
 have rest:∀ f:Str,f.cps.toList=gv x->N ([.dat (.str x),.dat (.str f),.un]:En):=by
  intro f hf;rw [eN];have hfl:(f.length:Int)=((gv x).length:Nat):=by rw [<- hf,ax]
  have no:eX x=false->Q (.dat .none) []:=fun z=>by
   have:tJ x=.none:=by unfold tJ;rw [Ot (by rw [z];simp)]
   rw [this] at q;exact q
  walk_at "P";refine iM (fun c1=>?_) (fun c1=>?_)
  ·have c1:(1:Int)<=(f.length:Int):=OO c1;walk_at "P";refine iM (fun c2=>?_) (fun c2=>?_)
   ·have c2:(!decide ((f.length:Int)<=30))=true:=c2;have c2:¬(f.length:Int)<=30:=by simpa using c2
    walk_at "P";refine no ?_;unfold eX;rw [Ob (p:=(gv x).length<=30) (by omega)];simp
   ·have c2:(!decide ((f.length:Int)<=30))=false:=c2;have c2:(f.length:Int)<=30:=by simpa using c2
    walk_at "P";refine gK (fun i ys ec=>ys=((f.cps.toList.take i).map cL).map .bool/\ec=[]) ⟨rfl,rfl⟩ ?_ ?_
    ·rintro i d ys ec hd ⟨rfl,rfl⟩;rw [OA] at hd;obtain ⟨c,hc,rfl⟩:=OG.mp hd;have e0:((f.cps.toList.take (i+1)).map cL).map PyData.bool=((f.cps.toList.take i).map cL).map PyData.bool++[.bool (cL c)]:=by rw [<- take_snoc hc,Ox,Ox];rfl
     refine kr ?_;walk_at "P";have e1:=le_0 c;have e2:=NV c;refine iM (fun d1=>?_) (fun d1=>?_)
     ·have d1:leS (Str.ofString "0") ⟨#[c]⟩=true:=d1;walk_at "P";refine ⟨?_,rfl⟩;rw [e0];unfold cL;rw [<- e1,d1,<-e2];rfl
     ·have d1:leS (Str.ofString "0") ⟨#[c]⟩=false:=d1;walk_at "P";refine ⟨?_,rfl⟩;rw [e0];unfold cL;rw [<- e1,d1];rfl
    ·rintro ys ec ⟨rfl,rfl⟩;rw [N6,Qh];walk_at "N";refine w_all (bs:=f.cps.toList.map cL) rfl ?_;have e3:(f.cps.toList.map cL).all id=(gv x).all cL:=by rw [List.all_map,hf];rfl
     rw [e3];have fk:eX x=(gv x).all cL:=by
      unfold eX;rw [Oe (p:=1<=(gv x).length) (by omega),Oe (p:=(gv x).length<=30) (by omega),Pe,Pe]
     rw [<- fk];walk_at "P";refine iM (fun c3=>?_) (fun c3=>?_)
     ·have c3:(!eX x)=true:=c3;walk_at "P";exact no (by simpa using c3)
     ·have c3:(!eX x)=false:=c3;have c3:eX x=true:=by simpa using c3
      walk_at "P";refine GH rfl (by omega) (wN c3) ?_;walk_at "P";refine jy rfl (Ov (Cf c3) (Nat.pow_le_pow_right (by decide) (by decide))) ?_;walk_at "P";rw [Ei];by_cases hs:aw (xr x)=x
      ·refine d5 (Oe hs) ?_;walk_at "P";have:tJ x=.int (xr x):=by unfold tJ;rw [Og ⟨c3,(lb c3).mp hs⟩]
       rw [this] at q;exact q
      ·refine cO (Ob hs) ?_;walk_at "P";have:tJ x=.none:=by unfold tJ;rw [Ot fun z=>hs ((lb c3).mpr z.2)]
       rw [this] at q;exact q
  ·have c1:¬(1:Int)<=(f.length:Int):=Pn c1;walk_at "P";refine no ?_;unfold eX;rw [Ob (p:=1<=(gv x).length) (by omega)];rfl
 walk_at "P";refine iM (fun c1=>?_) (fun c1=>?_)
 ·have c1:=(md x (Str.ofString "-") 45 rfl).symm.trans c1;have c1:x.cps.toList.head?=some 45:=OO c1;walk_at "P";refine rest _ ?_;rw [Fv (by decide)];cases e:x.cps.toList with
  | nil=>rw [e] at c1;cases c1
  | cons a r =>
   rw [e] at c1;cases c1;rw [lE e];rfl
 ·have c1:=(md x (Str.ofString "-") 45 rfl).symm.trans c1;have c1:¬x.cps.toList.head?=some 45:=Pn c1;walk_at "P";refine rest _ ?_;rcases dN x with ⟨r,e,_⟩ | ⟨f,_⟩
  ·rw [e] at c1;exact absurd rfl c1
  ·exact f.symm
theorem kn (h:x.cps.toList=39 :: r):bh x=if r.length<=8/\r.all chB=true then .tuple [.str ⟨r.toArray⟩] else .none:=by
 unfold bh;rw [h];show (if (39:Nat)=39 then _ else _)=_;rw [Og rfl]
theorem DN (h:x.cps.toList=c :: r) (hc:chB c=true):tJ x=.none:=by
 have hc:97<=c/\c<=122:=by unfold chB at hc;simpa using hc
 unfold tJ;refine Ot fun z=>?_;obtain ⟨h1,_,_⟩:=gr z.1;rcases dN x with ⟨r2,e,_⟩ | ⟨f,_⟩
 ·rw [h] at e;injection e with e _;omega
 ·have:=h1 c (by rw [f,h];exact Od);omega
theorem oj (h:gw (.str x) 1=true):bh x=.str x:=by
 have h:(decide ((1:Int)<=(x.length:Int))&&(decide ((x.length:Int)<=8)&&x.cps.toList.all chB))=true:=h;simp only [OF,OU] at h;obtain ⟨h1,h2,h3⟩:=h;have hl:=ax x;cases e:x.cps.toList with
 | nil=>rw [e] at hl;simp at hl;omega
 | cons c r =>
  rw [e] at hl h3;rw [List.all_cons,OF] at h3;rw [Oc] at hl;have hc:97<=c/\c<=122:=by have:=h3.1;unfold chB at this;simpa using this
  unfold bh;rw [e];show (if c=39 then _ else if chB c=true then _ else _)=_;rw [Ot (by omega),Og h3.1,Og ⟨by omega,h3.2⟩]
theorem m7 (h0:x.cps.toList.head?≠some 39) (h:gw (.str x) 1=false):bh x=tJ x:=by
 have h:(decide ((1:Int)<=(x.length:Int))&&(decide ((x.length:Int)<=8)&&x.cps.toList.all chB))=false:=h;have hl:=ax x;cases e:x.cps.toList with
 | nil =>
  have f0:gv x=[]:=by unfold gv;rw [e]
  unfold bh tJ eX;rw [e,f0];rfl
 | cons c r =>
  rw [e] at hl h h0;rw [Oc] at hl;have hne:c≠39:=fun z=>h0 (by rw [z];rfl);by_cases hc:chB c=true
  ·rw [DN e hc];unfold bh;rw [e];show (if c=39 then _ else if chB c=true then _ else _)=_;rw [Ot hne,Og hc];refine Ot fun z=>?_;rw [List.all_cons,hc,z.2,Oe (by omega),Oe (by omega)] at h;exact absurd h (by decide)
  ·unfold bh;rw [e];show (if c=39 then _ else if chB c=true then _ else _)=_;rw [Ot hne,Ot hc]
theorem e8 (hx:x.length<=100) (q:Q (.dat (bh x)) []):WF bj [.str x] Q:=by
 refine dY rfl ?_;unfold kG;walk_at "P";refine iM (fun c1=>?_) (fun c1=>?_)
 ·have c1:=(md x (Str.ofString "'") 39 rfl).symm.trans c1;have c1:x.cps.toList.head?=some 39:=OO c1;obtain ⟨r,e⟩:∃ r,x.cps.toList=39 :: r:=by
   cases e:x.cps.toList with
   | nil=>rw [e] at c1;cases c1
   | cons a r=>rw [e] at c1;cases c1;exact ⟨r,rfl⟩
  have ec:(iW x (some 1) none).cps.toList=r:=by
   rw [Fv (by decide),e];rfl
  have ec2:iW x (some 1) none=⟨r.toArray⟩:=jx ec;rw [kn e] at q;walk_at "P";rw [ec2];refine ae (ds:=[.tuple [.str ⟨r.toArray⟩]]) (is:=[]) rfl rfl (tI ⟨rfl,?_⟩);have eb:C5 (.tuple [.str ⟨r.toArray⟩])=decide (r.length<=8/\r.all chB=true):=by
   have e0:C5 (.tuple [.str ⟨r.toArray⟩])=(decide ((0:Int)<=((⟨r.toArray⟩:Str).length:Int))&&(decide (((⟨r.toArray⟩:Str).length:Int)<=8)&&(⟨r.toArray⟩:Str).cps.toList.all chB)):=rfl;have l1:(⟨r.toArray⟩:Str).length=r.length:=by rw [<- ax]
   rw [e0,l1,Oe (p:=(0:Int)<=(r.length:Int)) (by omega),Pe];show (decide ((r.length:Int)<=8)&&r.all chB)=_;by_cases h8:r.length<=8
   ·rw [Oe (by omega),Pe];cases h9:r.all chB <;> simp [h8]
   ·rw [Ob (by omega),Ob (fun z=>h8 z.1)];rfl
  rw [eb];walk_at "P";refine iM (fun c2=>?_) (fun c2=>?_)
  ·walk_at "P";rw [Og (OO c2)] at q;exact q
  ·walk_at "P";rw [Ot (Pn c2)] at q;exact q
 ·have c1:=(md x (Str.ofString "'") 39 rfl).symm.trans c1;have c1:¬x.cps.toList.head?=some 39:=Pn c1;walk_at "P";refine ae (ds:=[.str x]) (is:=[]) rfl rfl (gB ⟨rfl,?_⟩);walk_at "P";refine iM (fun c2=>?_) (fun c2=>?_)
  ·walk_at "P";rw [oj c2] at q;exact q
  ·walk_at "P";rw [m7 c1 c2] at q;refine ae (ds:=[.str x]) (is:=[]) rfl rfl (nR hx ⟨rfl,?_⟩);walk_at "P";exact q
theorem kQ {a b:Int} (h:PyData.eqv (.int a) (.int b)=true):a=b:=by simpa [PyData.eqv] using h
noncomputable def Ed (cs:List Int) (p l:Int):Qq:=.list [.list (cs.map .int),.int p,.int l]
theorem NB {p:Int} (h:0 < cs.length):∃ c,atI (cs.map PyData.int) (p % (((cs.map PyData.int).length:Nat):Int))=some (.int c):=by
 have hn:(((cs.map PyData.int).length:Nat):Int)=cs.length:=by rw [N6]
 rw [hn];have hj0:=Int.emod_nonneg p (by omega:(cs.length:Int)≠0);have hj1:=Int.emod_lt_of_pos p (by omega:(0:Int) < cs.length);obtain ⟨v,hv,ev⟩:=atV (xs:=cs.map PyData.int) hj0 (by rw [N6];exact hj1);obtain ⟨c,_,rfl⟩:=O1.mp hv;exact ⟨c,ev⟩
theorem Gr {ns:List Int} (q:Q (.frs (Ed ns 0 0)) []):WF rG [.list (ns.map .int)] Q:=⟨_,_,rfl,q⟩
theorem Ez {p l m:Int} (hp:0<=p) (hb:p < 2 ^ 60) (hl:0<=l) (h0:0 < m) (hm:m < 2 ^ 200) (q:∀ v p' l',0<=v->v < m->0<=p'->p'<=p+1->0<=l'->Q (.dat (.int v)) [Ed cs p' l']):WF ay [Ed cs p l,.int m] Q:=by
 refine dY rfl ?_;have m0:∀ x:Int,0<=x % m/\x % m < m:=fun x=>⟨Int.emod_nonneg _ (by omega),Int.emod_lt_of_pos _ h0⟩;have d0:∀ x:Int,0<=x->0<=x / m:=fun x h=>Int.ediv_nonneg h (Int.le_of_lt h0);have fin:∀ c:Int,0<=(if c < 0 then -c else c):=fun c=>by split <;> omega
 unfold yQ;walk_at "P";refine iM (fun e0=>?_) (fun e0=>?_)
 ·walk_at "P";exact q _ _ _ (m0 l).1 (m0 l).2 hp (by omega) (d0 l hl)
 ·walk_at "P";refine iM (fun e1=>?_) (fun e1=>?_)
  ·have h1:(0:Int) < (((cs.map PyData.int).length:Nat):Int):=OO e1;obtain ⟨c,hc⟩:=NB (cs:=cs) (p:=p) (by rw [N6] at h1;omega);walk_at "P";refine iu rfl hc ?_;clear hc;walk_at "P";refine iM (fun e2=>?_) (fun e2=>?_)
   ·walk_at "P";refine iM (fun e3=>?_) (fun e3=>?_)
    ·walk_at "P";exact q _ _ _ (m0 _).1 (m0 _).2 (by omega) (by omega) (d0 _ (fin c))
    ·walk_at "P";exact q _ _ _ (m0 _).1 (m0 _).2 (by omega) (by omega) hl
   ·walk_at "P";exact q _ _ _ (m0 _).1 (m0 _).2 (by omega) (by omega) hl
  ·walk_at "P";refine iM (fun e2=>?_) (fun e2=>?_)
   ·walk_at "P";exact q _ _ _ (m0 _).1 (m0 _).2 (by omega) (by omega) hl
   ·walk_at "P";exact q _ _ _ (m0 _).1 (m0 _).2 (by omega) (by omega) hl
def aO (cs:List Int) (k:Nat) (d:Qq):Prop:=∃ p l:Int,d=Ed cs p l/\0<=p/\p+k<=2 ^ 59/\0<=l
theorem aO.dn {R:Nat} (h:aO cs (R+k) d):aO cs R d:=by
 obtain ⟨p,l,e,a,b,c⟩:=h;exact ⟨p,l,e,a,by omega,c⟩
theorem E9 {m:Int} {Q:RV->En->Prop} (hi:aR e1 i=some pn) (hP:aO cs (k+1) pn) (h0:0 < m) (hm:m < 2 ^ 200) (q:∀ v pn',aO cs k pn'->0<=v->v < m->Q (.dat (.int v)) (fR e1 i pn')):mB ay [.bor i,.dat (.int m)] e1 Q:=by
 obtain ⟨p,l,rfl,hp,hb',hl⟩:=hP;refine ae (ds:=[Ed cs p l,.int m]) (is:=[i]) ?_ rfl (Ez hp (by omega) hl h0 hm fun v p' l' a b c d e=>⟨?_,q v _ ⟨p',l',rfl,c,by omega,e⟩ a b⟩)
 ·show gQ e1 [.ino,.dat] _=_;simp only [gQ,K4,hi]
 ·rfl
local macro_rules | `(tactic| walk_at "d")=>`(tactic| ((repeat walk_at "p");(refine E9 (cs:=?c9) (k:=?b9) (pn:=?n9) (m:=?m9) (hi:=?hi9) (hP:=?hP9) ?h09 ?hm9 ?_);(case hi9=>exact rfl);(case hP9=>assumption);(case h09=>first | decide | omega);(case hm9=>first | decide | omega)))
abbrev abc:Str := "abcdefghijklmnopqrstuvwxyz"
abbrev wds:List Qq:=[.str "any", .str "all", .str "keeps", .str "is", .str "many", .str "each", .str "not", .str "closed"]
abbrev wdS:List Str:=["any", "all", "keeps", "is", "many", "each", "not", "closed"]
def Ltr (x:Str):Prop:=∀ c∈x.cps.toList,97<=c/\c<=122
theorem aJ (x y:Str):(x++y).length=x.length+y.length:=jD x y
theorem bF (x y:Str):(x++y).cps.toList=x.cps.toList++y.cps.toList:=by
 show (x.cps++y.cps).toList=_;simp
theorem fE (c:Nat):(⟨#[c]⟩:Str).length=1:=rfl
theorem pR (hx:Ltr x) (hy:Ltr y):Ltr (x++y):=fun c hc=>by
 rw [bF] at hc;rcases Po.mp hc with h | h
 ·exact hx c h
 ·exact hy c h
theorem F8:∀ n < 26,abc.cps.toList[n]?=some (97+n):=by decide +kernel
theorem BF {r:Int} (h0:0<=r) (h1:r < 26):atI abc.cps.toList r=some (97+r.toNat):=by
 have:=bZ (xs:=abc.cps.toList) (j:=r.toNat) (F8 r.toNat (by omega))
 rwa [Pw h0] at this
theorem J3 {r:Int} (h0:0<=r) (h1:r < 26):Ltr ⟨#[97+r.toNat]⟩:=fun c hc=>by
 have:c=97+r.toNat:=by simpa using hc
 omega
theorem BM {k:Int} (h:Ltr x) (h1:k<=x.length) (h2:x.length<=8):gw (.str x) k=true:=by
 show (decide (k<=(x.length:Int))&&(decide ((x.length:Int)<=8)&&x.cps.toList.all chB))=true;rw [Oe h1,Oe (by omega),Pe,Pe,O8];intro c hc;have:=h c hc;unfold chB;rw [Oe this.1,Oe this.2];rfl
theorem zQ {k:Int} (h:0<=k):(iW x none (some k)).cps.toList=x.cps.toList.take k.toNat:=by
 have:=rW (xs:=x.cps.toList) h;unfold L2.cutD at this;rw [ax] at this;unfold iW;simpa using this
theorem Fy {j k:Int} (hj:0<=j) (hk:0<=k):(iW x (some j) (some k)).cps.toList=(x.cps.toList.take k.toNat).drop j.toNat:=by
 unfold iW;have e1:HT.sIx x.length 0 (some j)=min j.toNat x.length:=by
  simp only [HT.sIx];rw [Ot (by omega)]
 have e2:HT.sIx x.length x.length (some k)=min k.toNat x.length:=by
  simp only [HT.sIx];rw [Ot (by omega)]
 rw [e1,e2];show (((x.cps.toList.drop (min j.toNat x.length)).take (min k.toNat x.length - min j.toNat x.length)).toArray).toList=_;apply List.ext_getElem?;intro i;have hn:=ax x;simp only [List.getElem?_take,List.getElem?_drop];by_cases h1:i < min k.toNat x.length - min j.toNat x.length
 ·rw [Og h1,Og (by omega)];congr 1;omega
 ·rw [Ot h1];by_cases h2:j.toNat+i < k.toNat
  ·rw [Og h2,List.getElem?_eq_none (by rw [hn];omega)]
  ·rw [Ot h2]
theorem pz (h:Ltr x) (hs:∀ c∈y.cps.toList,c∈x.cps.toList):Ltr y:=fun c hc=>h c (hs c hc)
theorem vI:∀ w∈wdS,2<=w.length/\w.length<=6/\Ltr w:=by unfold Ltr;decide +kernel
theorem E4 {k:Int} (h0:0<=k) (h1:k < 8):∃ w,wdS[k.toNat]?=some w/\atI wds k=some (.str w):=by
 have hk:k.toNat < wdS.length:=by show k.toNat < 8;omega
 refine ⟨wdS[k.toNat],Oi hk,?_⟩;have:wds[k.toNat]?=some (.str wdS[k.toNat]):=by
  show (wdS.map PyData.str)[k.toNat]?=_;rw [OA,Oi hk];rfl
 have:=bZ this
 rwa [Pw h0] at this
theorem BA:∀ i < 8,∀ j < 8,wdS[i]?=wdS[j]?->i=j:=by decide +kernel
def NmK (bs:Str) (wy tn at_ sz:Int) (k:Nat) (x:Str):Prop :=
 (wy=0/\x=iW bs none (some ((tn+3*k) % 8+1)))\/(wy=1/\wdS[((tn+k) % 8).toNat]?=some x) \/
 (wy=2/\∃ w,wdS[k % 8]?=some w/\x=w++⟨#[97+((tn+5*k) % 26).toNat]⟩) \/
 (x=iW bs none (some at_)++⟨#[97+((tn+5*k) % 26).toNat]⟩++iW bs (some (at_+1)) (some sz)/\wy≠0/\wy≠1/\wy≠2)
theorem Ef {bs:Str} {wy tn at_ sz:Int} (h:NmK bs wy tn at_ sz k x) (hb:Ltr bs) (hl:bs.length=8) (ha:0<=at_) (has:at_ < sz) (hz:sz<=8):Ltr x/\1<=x.length/\x.length<=8:=by
 have hn:=ax bs;rcases h with ⟨_,rfl⟩ | ⟨_,h⟩ | ⟨_,w,h,rfl⟩ | ⟨rfl,_⟩
 ·have e:=zQ (x:=bs) (k:=(tn+3*k) % 8+1) (by omega);have el:(iW bs none (some ((tn+3*k) % 8+1))).length=min ((tn+3*k) % 8+1).toNat 8:=by rw [<- ax,e,O2,hn,hl]
  exact ⟨pz hb fun c hc=>by rw [e] at hc;exact Pq hc,by rw [el];omega,by rw [el];omega⟩
 ·obtain ⟨a,b,c⟩:=vI x (OH h);exact ⟨c,by omega,by omega⟩
 ·obtain ⟨a,b,c⟩:=vI w (OH h);exact ⟨pR c (J3 (by omega) (by omega)),by rw [aJ,fE];omega,by rw [aJ,fE];omega⟩
 ·have e1:=zQ (x:=bs) ha;have e2:=Fy (x:=bs) (j:=at_+1) (k:=sz) (by omega) (by omega);have l1:(iW bs none (some at_)).length=at_.toNat:=by rw [<- ax,e1,O2,hn,hl];omega
  have l2:(iW bs (some (at_+1)) (some sz)).length=sz.toNat - (at_+1).toNat:=by rw [<- ax,e2,Pm,O2,hn,hl,Nat.min_eq_left (by omega)]
  refine ⟨pR (pR (pz hb fun c hc=>?_) (J3 (by omega) (by omega))) (pz hb fun c hc=>?_),?_,?_⟩
  ·rw [e1] at hc;exact Pq hc
  ·rw [e2] at hc;exact Pq (List.mem_of_mem_drop hc)
  ·rw [aJ,aJ,fE];omega
  ·rw [aJ,aJ,fE,l1,l2];omega
theorem pO {a b:Str} (h:x++a=y++b) (hl:a.length=b.length):x=y/\a=b:=by
 have e:x.cps.toList++a.cps.toList=y.cps.toList++b.cps.toList:=by rw [<- bF,<-bF,h]
 have hll:a.cps.toList.length=b.cps.toList.length:=by rw [ax,ax,hl]
 obtain ⟨e1,e2⟩:=List.append_inj' e hll;constructor
 ·cases x;cases y;simp only [Str.mk.injEq];exact Array.toList_inj.mp e1
 ·cases a;cases b;simp only [Str.mk.injEq];exact Array.toList_inj.mp e2
theorem one_inj (h:(⟨#[a]⟩:Str)=⟨#[b]⟩):a=b:=by
 injection h with h;simpa using h
theorem CG {bs:Str} {wy tn at_ sz:Int} (h:NmK bs wy tn at_ sz i x) (h':NmK bs wy tn at_ sz j x) (hl:bs.length=8) (hi:i < 12) (hj:j < 12) (hs:wy=0\/wy=1->i < 8/\j < 8):i=j:=by
 have hn:=ax bs;rcases h with ⟨z1,rfl⟩ | ⟨z1,h⟩ | ⟨z1,w,h,rfl⟩ | ⟨rfl,y0,y1,y2⟩
 ·rcases h' with ⟨_,h'⟩ | ⟨z,_⟩ | ⟨z,_⟩ | ⟨_,z,_⟩
  ·have e:=congrArg (fun s:Str=>s.cps.toList.length) h';rw [zQ (by omega),zQ (by omega),O2,O2,hn,hl] at e;have:=hs (.inl z1);omega
  ·omega
  ·omega
  ·exact absurd z1 z
 ·rcases h' with ⟨z,_⟩ | ⟨_,h'⟩ | ⟨z,_⟩ | ⟨_,_,z,_⟩
  ·omega
  ·have:=BA _ (by omega) _ (by omega) (h.trans h'.symm);have:=hs (.inr z1);omega
  ·omega
  ·exact absurd z1 z
 ·rcases h' with ⟨z,_⟩ | ⟨z,_⟩ | ⟨_,w',h',e⟩ | ⟨_,_,_,z⟩
  ·omega
  ·omega
  ·obtain ⟨e1,e2⟩:=pO e rfl;subst e1;have a1:=BA _ (by omega) _ (by omega) (h.trans h'.symm);have a2:=one_inj e2;omega
  ·exact absurd z1 z
 ·rcases h' with ⟨z,_⟩ | ⟨z,_⟩ | ⟨z,_⟩ | ⟨e,_⟩
  ·exact absurd z y0
  ·exact absurd z y1
  ·exact absurd z y2
  ·obtain ⟨e1,_⟩:=pO e rfl;obtain ⟨_,e2⟩:=pO e1 rfl;have a2:=one_inj e2;omega
theorem foldl_nil:∀ (ps:List Str) (acc:Array Nat),(ps.foldl (fun acc p=>acc++(Str.ofString "").cps++p.cps) acc).toList=acc.toList++ps.flatMap fun s=>s.cps.toList
 | [],acc=>by simp
 | p :: ps,acc=>by
  rw [P4,foldl_nil ps,List.flatMap_cons];have e:(Str.ofString "").cps=#[]:=by decide +kernel
  rw [e];simp
theorem o4 (ss:List Str):(PySem.Txt.join "" ss).cps.toList=ss.flatMap fun s=>s.cps.toList:=by
 cases ss with
 | nil=>rfl
 | cons x r =>
  show (r.foldl (fun acc p=>acc++(Str.ofString "").cps++p.cps) x.cps).toList=_;rw [foldl_nil,List.flatMap_cons]
def Nm (x:Str):Prop:=gw (.str x) 1=true/\x.length<=8
theorem Ac {R:Nat} (hP:aO cs (R+12) pn) (q:∀ (xs:List Str) pn',aO cs R pn'->xs.length=8->xs.Nodup->(∀ x∈xs,Nm x)->Q (.frs (.list (xs.map .str))) [pn']):WF iV [pn,.int 8] Q:=by
 refine dY rfl ?_;unfold rP;walk_at "P";refine ⟨⟨by omega,by omega⟩,?_⟩;refine gK (fun i ys ec=>∃ (ss:List Str) (pn':Qq),ys=ss.map .str/\ss.length=i/\(∀ s∈ss,s.length=1/\Ltr s)/\aO cs (R+4+(8 - i)) pn'/\ec=[.dat (.str abc),.ino pn']) ⟨[],pn,rfl,rfl,fun s h=>(by cases h),hP,rfl⟩ ?_ ?_
 ·rintro i d ys ec hd ⟨ss,pn',rfl,hsl,h1,hP',rfl⟩;obtain ⟨rfl,hi⟩:=fD hd;have hi:i < 8:=hi;obtain ⟨j,ej⟩:∃ j,8 - i=j+1:=⟨7 - i,by omega⟩;rw [ej] at hP';refine kr ?_;walk_at "d";intro v pn4 hP4 v0 v1;walk_at "N";refine gG rfl (BF v0 v1) ?_;exact ⟨_,rfl,ss++[⟨#[97+v.toNat]⟩],pn4,by simp,by rw [N5,hsl];rfl,gp h1 ⟨rfl,J3 v0 v1⟩,by rw [show 8 - (i+1)=j by omega];exact hP4,rfl⟩
 rintro ys ec ⟨ss,pn1,rfl,hsl,h1,hP1,rfl⟩;rw [pT] at hsl hP1;replace hsl:ss.length=8:=hsl;replace hP1:aO cs (R+4) pn1:=hP1;walk_at "N";have hs:=BY (k:=1) (ss:=ss) fun s h=>by have:=(h1 s h).1;omega
 have hjo:dZ "" ss=true:=by simp only [dZ,OU];have e0:(Str.ofString "").length=0:=(by decide);rw [e0];omega
 refine Bi (ss:=ss) rfl rfl hjo ?_;have hj:(Txt.join "" ss).cps.toList=ss.flatMap fun s=>s.cps.toList:=o4 ss;have hjl:(Txt.join "" ss).length=8:=by
  rw [<- ax,hj,<-hsl];clear hj hjo hs hsl hP1;induction ss with
  | nil=>rfl
  | cons s r ih =>
   rw [List.flatMap_cons,N5,ih fun x hx=>h1 x (N8 _ hx),ax,(h1 s Od).1,Oc];omega
 have hjL:Ltr (Txt.join "" ss):=fun c hc=>by
  rw [hj] at hc;obtain ⟨s,hs,hc⟩:=List.mem_flatMap.mp hc;exact (h1 s hs).2 c hc
 clear hj;generalize Txt.join "" ss=bs at hjl hjL;walk_at "n";walk_at "d";intro wy pn2 hP2 wy0 wy1;walk_at "n";walk_at "d";intro sz pn3 hP3 sz0 sz1;walk_at "n";walk_at "d";intro at_ pn4 hP4 at0' at1;walk_at "n";walk_at "d";intro tn pn5 hP5 tn0 tn1;walk_at "N";refine ⟨⟨by omega,by omega⟩,?_⟩;have fins:∀ (xs:List Str),xs.length=8->(∀ k x,xs[k]?=some x->NmK bs (wy) tn at_ (1+sz) k x)->xs.Nodup/\∀ x∈xs,Nm x:=by
  intro xs hxl hx;constructor
  ·refine List.pairwise_iff_getElem.mpr fun i j hi hj hij e=>?_;have a:=hx i _ (Oi hi);have b:=hx j _ (Oi hj);rw [e] at a;have:=CG a b hjl (by omega) (by omega) fun _=>by omega
   omega
  ·intro x hm';obtain ⟨k,hk⟩:=List.mem_iff_getElem?.mp hm';obtain ⟨a,b,c⟩:=Ef (hx k x hk) hjL hjl at0' at1 (by omega);exact ⟨BM a (by omega) c,c⟩
 refine eO (fun i e=>∃ (xs:List Str),xs.length=i/\(∀ k x,xs[k]?=some x->NmK bs (wy) tn at_ (1+sz) k x)/\uG [some (.ino pn5),some (.dat (.int 8)),some (.dat (.str abc)),some (.dat (.str bs)),some (.dat (.list wds)),some (.dat (.int wy)),some (.dat (.int (1+sz))),some (.dat (.int at_)),some (.dat (.int tn)),some (.own (.list (xs.map .str))),none,none] e) ⟨[],rfl,fun k x h=>by simp at h,by walk_at "L"⟩ ?_ ?_
 ·rintro i d e hd ⟨xs,hxl,hx,_⟩;walk_at "l";obtain ⟨rfl,hi⟩:=fD hd;walk_at "f";walk_at "P";refine gG rfl (BF (r:=(tn+5*i) % 26) (by omega) (by omega)) ?_;walk_at "n";have hxz:(xs.map PyData.str).length < sizeLine:=by rw [N6,hxl];show i < 2 ^ 24;omega
  have snoc:∀ y:Str,NmK bs (wy) tn at_ (1+sz) i y->∀ k x,(xs++[y])[k]?=some x->NmK bs (wy) tn at_ (1+sz) k x:=by
   intro y hy k x h;rcases Nat.lt_or_ge k xs.length with z | z
   ·rw [Oq z] at h;exact hx k x h
   ·rw [Oa z] at h;have hk:k - xs.length=0:=by
     rcases Nat.eq_zero_or_pos (k - xs.length) with y | y
     ·exact y
     ·rw [List.getElem?_eq_none (by simp;omega)] at h;cases h
    rw [hk] at h;have hk2:k=i:=by omega
    subst hk2;cases h;exact hy
  have fin:∀ (y:Str) (x11:Sl),soft x11->NmK bs (wy) tn at_ (1+sz) i y->∃ (zs:List Str),zs.length=i+1/\(∀ k x,zs[k]?=some x->NmK bs (wy) tn at_ (1+sz) k x)/\uG [some (.ino pn5),some (.dat (.int 8)),some (.dat (.str abc)),some (.dat (.str bs)),some (.dat (.list wds)),some (.dat (.int wy)),some (.dat (.int (1+sz))),some (.dat (.int at_)),some (.dat (.int tn)),some (.own (.list (zs.map .str))),none,none] ([.ino pn5,.dat (.int 8),.dat (.str abc),.dat (.str bs),.dat (.list wds),.dat (.int wy),.dat (.int (1+sz)),.dat (.int at_),.dat (.int tn),.own (.list (xs.map .str++[.str y])),.dat (.int i),x11]:En) :=
   fun y x11 s11 hy=>⟨xs++[y],by rw [N5,hxl];rfl,snoc y hy,by rw [Ox];walk_at "L"⟩
  walk_at "P";have c1':=dQ bs none (some at_);have c2':=dQ bs (some (at_+1)) (some (1+sz));refine iM (fun a1=>?_) (fun a1=>?_)
  ·have a1:wy=0:=kQ a1;walk_at "P";refine jN rfl hxz rfl ?_;exact fin (iW bs none (some ((tn+3*(i:Int)) % 8+1))) _ gj (.inl ⟨a1,rfl⟩)
  ·have a1:wy≠0:=fun z=>by subst z;cases a1
   walk_at "P";refine iM (fun a2=>?_) (fun a2=>?_)
   ·have a2:wy=1:=kQ a2;walk_at "P";obtain ⟨w,hw,ew⟩:=E4 (k:=(tn+i) % 8) (by omega) (by omega);refine iu rfl ew ?_;walk_at "P";refine jN rfl hxz rfl ?_;exact fin w _ gj (.inr (.inl ⟨a2,hw⟩))
   ·have a2:wy≠1:=fun z=>by subst z;cases a2
    walk_at "P";refine iM (fun a3=>?_) (fun a3=>?_)
    ·have a3:wy=2:=kQ a3;walk_at "P";obtain ⟨w,hw,ew⟩:=E4 (k:=(i:Int) % 8) (by omega) (by omega);have hw2:=(vI w (OH hw)).2.1;refine iu rfl ew ?_;walk_at "P";refine fU rfl (by rw [fE];show _<=2 ^ 24;omega) ?_;walk_at "P";refine jN rfl hxz rfl ?_;exact fin _ _ gj (.inr (.inr (.inl ⟨a3,w,by rw [<- hw];congr 1,rfl⟩)))
    ·have a3:wy≠2:=fun z=>by subst z;cases a3
     walk_at "P";refine fU rfl (by rw [fE];show _<=2 ^ 24;omega) ?_;walk_at "P";refine ⟨_,_,rfl,rfl,?_⟩;walk_at "P";refine fU rfl (by rw [aJ,fE];show _<=2 ^ 24;omega) ?_;walk_at "P";refine jN rfl hxz rfl ?_;exact fin _ _ gj (.inr (.inr (.inr ⟨rfl,by omega⟩)))
 ·rintro e ⟨xs,hxl,hx,_⟩;walk_at "l";replace hxl:xs.length=8:=by rw [pT] at hxl;exact hxl
  obtain ⟨f1,f2⟩:=fins xs hxl hx;walk_at "P";exact q xs pn5 hP5 hxl f1 f2
theorem yG {i:Int} (h:i.natAbs < 10 ^ 30):i.natAbs < 10 ^ 400:=Ov h (Nat.pow_le_pow_right (by decide) (by decide))
def Sh (x:Str):Prop:=Ltr x/\1<=x.length/\x.length<=8
def Sa (x:Str):Prop:=Ltr x/\x.length<=8
def lJ (d:Qq) (T:Str):Prop:=(∃ x,d=.str x/\Sh x/\T=x)\/(∃ i:Int,d=.int i/\i.natAbs < 10 ^ 30/\T=aw i)\/∃ x,d=.tuple [.str x]/\Sa x/\T=("'" : Str)++x
theorem cG {i:Int} (h:i.natAbs < 10 ^ 30):(aw i).length<=61:=by
 show (Str.ofString (toString i)).length<=_;rw [PySem.ofString_length];exact Oy (int_text_length_le10 (k:=30) (by decide) h) (by decide)
theorem k8 {T:Str} (h:lJ d T):T.length<=61:=by
 rcases h with ⟨x,_,h,rfl⟩ | ⟨i,_,h,rfl⟩ | ⟨x,_,h,rfl⟩
 ·have:=h.2.2;omega
 ·exact cG h
 ·rw [aJ];have:("'" : Str).length=1:=by decide
  have:=h.2;omega
theorem EO {k:Int} (h:gw (.str x) k=true):Ltr x/\k<=x.length/\x.length<=8:=by
 have h:(decide (k<=(x.length:Int))&&(decide ((x.length:Int)<=8)&&x.cps.toList.all chB))=true:=h;rw [OF,OF] at h;have h1:=OO h.1;have h2:=OO h.2.1;refine ⟨fun c hc=>?_,h1,by omega⟩;have:=O8.mp h.2.2 c hc;unfold chB at this;rw [OF] at this;exact ⟨OO this.1,OO this.2⟩
theorem sx (h:Sh x):Nm x:=⟨BM h.1 (by have:=h.2.1;omega) h.2.2,h.2.2⟩
theorem Jx (h:Nm x):Sh x:=by
 have:=EO h.1;exact ⟨this.1,by omega,this.2.2⟩
theorem jn (h:decide (x=y)=false):PyData.eqv (.str x) (.str y)=false:=by simpa [PyData.eqv] using h
theorem fW:PyData.eqv (.str x) (.str x)=true:=by simp [PyData.eqv]
theorem lU:∀ (ss:List Str),oh (ss.map .str) (.str z)=ss.any fun s=>decide (s=z)
 | []=>rfl
 | s :: ss=>by
  have:=(lU ss:oh (ss.map .str) (.str z)=_);unfold oh at this ⊢;rw [List.map_cons,List.any_cons,List.any_cons,this];have:PyData.eqv (.str s) (.str z)=decide (s=z):=by
   simp only [PyData.eqv];rfl
  rw [this]
theorem mG:∀ (ss:List Str),fy (ss.map .str)=true
 | []=>by simp [fy]
 | s :: ss=>by simp [fy,noD,mG ss]
theorem w_inS {x y:AV} (ss:List Str) {Q:RV->En->Prop} (h1:aK e [x,y]=some [.str z,.tuple (ss.map .str)]) (q:Q (.dat (.bool (ss.any fun s=>decide (s=z)))) e):WPr inP [x,y] e Q:=by
 refine ⟨_,.dat (.bool (ss.any fun s=>decide (s=z))),h1,?_,q⟩;show (if vC (.str z)=true/\fy (ss.map .str)=true then some (PR.dat (.bool (ngB false (oh (ss.map .str) (.str z))))) else none)=_;rw [Og ⟨by simp [vC,noD,PyData.depth],mG ss⟩,lU];rfl
theorem gX {T:Str} (h:lJ d T) (q:Q (.dat (.str T)) []):WF c7 [d] Q:=by
 refine dY rfl ?_;unfold iF;rcases h with ⟨x,rfl,hx,rfl⟩ | ⟨i,rfl,hi,rfl⟩ | ⟨x,rfl,hx,rfl⟩
 ·walk_at "P";refine ae rfl rfl ⟨_,_,rfl,rfl,?_⟩;walk_at "P";exact q
 ·walk_at "P";refine ae rfl rfl ⟨_,_,rfl,rfl,?_⟩;walk_at "P";refine jy rfl (Ov hi (Nat.pow_le_pow_right (by decide) (by decide))) ?_;walk_at "P";exact q
 ·walk_at "P";refine ae rfl rfl ⟨_,_,rfl,rfl,?_⟩;walk_at "P";refine fU rfl (by have:(Str.ofString "'").length=1:=(by decide);rw [this];have:=hx.2;show _<=2 ^ 24;omega) ?_;walk_at "P";exact q
theorem lP {is:List Nat} {ms:List PM} {Q:RV->En->Prop} (hm:f.ms=ms) (h1:gQ e1 ms avs=some ds) (h2:cT ms avs=is) (h:WF f ds fun pr outs=>ckA is (qY ms avs) outs.length=true/\Q pr.rv (dH e1 is outs)):mB f avs e1 Q:=by
 subst hm;exact ae h1 h2 h
def Rest (Z:Str) (a:Nat) (L:List Nat):Prop:=a<=Z.length/\Z.length<=99000/\Z.cps.toList.drop a=L
theorem Rest.skip (h:Rest Z a (W++L)):Rest Z (a+W.length) L:=by
 obtain ⟨h1,h2,h3⟩:=h;have e:=congrArg List.length h3;rw [Pm,ax,N5] at e;refine ⟨by omega,h2,?_⟩;rw [<- List.drop_drop,h3,List.drop_left]
theorem Rest.len (h:Rest Z a L):a+L.length=Z.length:=by
 have e:=congrArg List.length h.2.2;rw [Pm,ax] at e;have:=h.1;omega
theorem Rest.at (h:Rest Z a L) (hc:L[j]?=some c):atI Z.cps.toList ((a+j:Nat):Int)=some c:=by
 refine bZ ?_;rw [<- List.getElem?_drop,h.2.2];exact hc
theorem Rest.cut (h:Rest Z a (W++L)):iW Z (some (a:Int)) (some ((a+W.length:Nat):Int))=⟨W.toArray⟩:=by
 refine jx ?_;rw [Fy (by omega) (by omega)];show (Z.cps.toList.take (a+W.length)).drop a=W;rw [List.drop_take,h.2.2,show a+W.length - a=W.length by omega,List.take_left]
def Nx (p:Nat->Bool) (L:List Nat):Prop:=∀ c r,L=c :: r->p c=false
theorem ny {x y:AV} {p:Nat->Bool} {Q:RV->En->Prop} (hp:∀ c,decide (c∈z.cps.toList)=p c) (h1:aK e [x,y]=some [.str ⟨#[c]⟩,.str z]) (q:Q (.dat (.bool (p c))) e):WPr inP [x,y] e Q :=
 ⟨_,.dat (.bool (p c)),h1,by rw [<- hp c,<-PySem.StrLaws.found_one z c];rfl,q⟩
theorem Aq {b:Bool} {Q:RV->En->Prop} (h:WPr (IQ b) avs e Q):WPr (IQ b) avs e Q:=h
theorem zU {m:Str} {Q:RV->En->Prop} (h:WMr (cC m f) i avs e Q):WMr (cC m f) i avs e Q:=h
abbrev dgs:Str := "0123456789"
theorem jM (c:Nat):decide (c∈abc.cps.toList)=chB c:=by
 by_cases h:c < 123
 ·have:∀ c < 123,decide (c∈abc.cps.toList)=chB c:=by decide +kernel
  exact this c h
 ·have h2:∀ d∈abc.cps.toList,d < 123:=by decide +kernel
  rw [Ob fun z=>h (h2 c z)];unfold chB;rw [Ob (p:=c<=122) (by omega),Bool.and_false]
theorem jB (c:Nat):decide (c∈dgs.cps.toList)=cL c:=by
 by_cases h:c < 58
 ·have:∀ c < 58,decide (c∈dgs.cps.toList)=cL c:=by decide +kernel
  exact this c h
 ·have h2:∀ d∈dgs.cps.toList,d < 58:=by decide +kernel
  rw [Ob fun z=>h (h2 c z)];unfold cL;rw [Ob (p:=c<=57) (by omega),Bool.and_false]
local macro_rules | `(tactic| walk_at "pm1")=>`(tactic| ((fail_if_success (with_reducible refine zU ?_));(fail_if_success (with_reducible refine Aq ?_));walk_at "p"))
local macro_rules | `(tactic| walk_at "pm")=>`(tactic| repeat walk_at "pm1")
local macro_rules | `(tactic| walk_at "pz1")=>`(tactic| ((fail_if_success (with_reducible refine zU ?_));(fail_if_success (with_reducible refine Aq ?_));walk_at "p0"))
local macro_rules | `(tactic| walk_at "pmz")=>`(tactic| repeat walk_at "pz1")
theorem fq {SG:Str} {p:Nat->Bool} (hp:∀ c,decide (c∈SG.cps.toList)=p c) (h:Rest Z a (W++L)) (hW:∀ c∈W,p c=true) (hL:Nx p L) (q:Q (.dat (.int ((a+W.length:Nat):Int))) []):WF cK [.str Z,.int (a:Int),.str SG] Q:=by
 have hl:=h.len;have hz:=h.2.1;rw [N5] at hl;refine dY rfl ?_;unfold kJ;with_reducible refine iJ fun N eN=>?_
 have rest:N ([.dat (.str Z),.dat (.int ((a+W.length:Nat):Int)),.dat (.str SG)]:En):=by
  rw [eN];walk_at "pm";exact q
 refine My (fun k e=>∃ j,j+k=W.length/\e=([.dat (.str Z),.dat (.int ((a+j:Nat):Int)),.dat (.str SG)]:En)) W.length (by omega) ⟨0,by omega,rfl⟩ ?_;rintro k e hk ⟨j,hj,rfl⟩;walk_at "pm";by_cases k0:k=0
 ·obtain rfl:j=W.length:=by omega
  cases L with
  | nil =>
   rw [OP] at hl;refine cO (Ob (by omega)) ?_;exact rest
  | cons c r =>
   rw [Oc] at hl;refine d5 (Oe (by omega)) ?_;walk_at "pm";refine gG rfl (h.at (j:=W.length) (c:=c) (by simp)) ?_;walk_at "pm";refine ny hp rfl ?_;rw [hL c r rfl];walk_at "pm";exact rest
 ·have hjl:j < W.length:=by omega
  have hc:(W++L)[j]?=some W[j]:=by rw [Oq hjl,Oi hjl]
  refine d5 (Oe (by omega)) ?_;walk_at "pm";refine gG rfl (h.at hc) ?_;walk_at "pm";refine ny hp rfl ?_;rw [hW _ (List.getElem_mem hjl)];walk_at "pm";exact ⟨k - 1,by omega,j+1,by omega,rfl⟩
def Br (t L:List Nat):Prop:=∃ c r,t=c :: r/\((chB c=true/\(∀ x∈r,chB x=true)/\Nx chB L)\/(c=39/\(∀ x∈r,chB x=true)/\Nx chB L)\/((c=45\/cL c=true)/\(∀ x∈r,cL x=true)/\Nx cL L)\/(chB c=false/\c≠39/\c≠45/\cL c=false/\r=[]))
theorem eq1 (c d:Nat):PyData.eqv (.str ⟨#[c]⟩) (.str ⟨#[d]⟩)=decide (c=d):=by
 by_cases h:c=d
 ·rw [h,Oe rfl];exact fW
 ·rw [Ob h];exact jn (Ob fun z=>h (one_inj z))
theorem o6 {t:List Nat} (h:Rest Z a (t++L)) (ht:Br t L) (q:Q (.dat (.int ((a+t.length:Nat):Int))) []):WF cX [.str Z,.int (a:Int)] Q:=by
 obtain ⟨c,r,rfl,ht⟩:=ht;have hl:=h.len;have hz:=h.2.1;have h0:atI Z.cps.toList (a:Int)=some c:=h.at (j:=0) rfl;have h1:Rest Z (a+1) (r++L):=h.skip (W:=[c]);have el:a+(c :: r).length=a+1+r.length:=by rw [Oc];omega
 have e39:("'" : Str)=⟨#[39]⟩:=by decide +kernel
 have e45:("-" : Str)=⟨#[45]⟩:=by decide +kernel
 refine dY rfl ?_;unfold iE;walk_at "pm";refine gG rfl h0 ?_;walk_at "pm";refine ny jM rfl ?_;by_cases hc:chB c=true
 ·rw [hc];walk_at "pm";have:(∀ x∈r,chB x=true)/\Nx chB L:=by
   rcases ht with h | h | h | h
   ·exact h.2
   ·exact h.2
   ·rcases h.1 with rfl | h
    ·cases hc
    ·unfold chB at hc;unfold cL at h;simp only [OF,OU] at hc h;omega
   ·rw [h.1] at hc;cases hc
  refine ae (is:=[]) rfl rfl (fq jM h (fun x hx=>?_) this.2 ⟨rfl,?_⟩)
  ·rcases Oo.mp hx with rfl | hx
   ·exact hc
   ·exact this.1 x hx
  ·walk_at "pm";exact q
 ·rw [Bool.not_eq_true] at hc;rw [hc];walk_at "pm";refine gG rfl h0 ?_;walk_at "pm";have q39:PyData.eqv (.str ⟨#[c]⟩) (.str "'")=decide (c=39):=by rw [e39];exact eq1 c 39
  have q45:PyData.eqv (.str ⟨#[c]⟩) (.str "-")=decide (c=45):=by rw [e45];exact eq1 c 45
  by_cases h39:c=39
  ·refine d5 (q39.trans (Oe h39)) ?_;have:(∀ x∈r,chB x=true)/\Nx chB L:=by
    rcases ht with h | h | h | h
    ·exact h.2
    ·exact h.2
    ·rcases h.1 with z | z
     ·omega
     ·rw [h39] at z;cases z
    ·exact absurd h39 h.2.1
   walk_at "pm";refine ae (is:=[]) rfl rfl (fq jM h1 this.1 this.2 ⟨rfl,?_⟩);walk_at "pm";rw [<- el];exact q
  ·refine cO (q39.trans (Ob h39)) ?_;walk_at "pm";refine gG rfl h0 ?_;walk_at "pm";have ht:((c=45\/cL c=true)/\(∀ x∈r,cL x=true)/\Nx cL L)\/(chB c=false/\c≠39/\c≠45/\cL c=false/\r=[]):=by
    rcases ht with h | h | h | h
    ·rw [h.1] at hc;cases hc
    ·exact absurd h.1 h39
    ·exact .inl h
    ·exact .inr h
   have fin:(c=45\/cL c=true)->(∀ x∈r,cL x=true)/\Nx cL L:=fun z=>by
    rcases ht with h | h
    ·exact h.2
    ·rcases z with z | z
     ·exact absurd z h.2.2.1
     ·rw [h.2.2.2.1] at z;cases z
   by_cases h45:c=45
   ·refine d5 (q45.trans (Oe h45)) ?_;walk_at "pm";refine ae (is:=[]) rfl rfl (fq jB h1 (fin (.inl h45)).1 (fin (.inl h45)).2 ⟨rfl,?_⟩);walk_at "pm";rw [<- el];exact q
   ·refine cO (q45.trans (Ob h45)) ?_;walk_at "pm";refine gG rfl h0 ?_;walk_at "pm";refine ny jB rfl ?_;by_cases hd:cL c=true
    ·rw [hd];walk_at "pm";refine ae (is:=[]) rfl rfl (fq jB h1 (fin (.inr hd)).1 (fin (.inr hd)).2 ⟨rfl,?_⟩);walk_at "pm";rw [<- el];exact q
    ·rw [Bool.not_eq_true] at hd;rw [hd];obtain rfl:r=[]:=by
      rcases ht with h | h
      ·rcases h.1 with z | z
       ·exact absurd z h45
       ·rw [hd] at z;cases z
      ·exact h.2.2.2.2
     walk_at "pm";exact q
def Pcs:List (List Nat)->Prop
 | []=>True
 | t :: ts=>Br t ts.flatten/\Pcs ts
noncomputable def toks (a:Nat):List (List Nat)->List Qq
 | []=>[]
 | t :: ts=>(if t=[32] then [] else [.tuple [.str ⟨t.toArray⟩,.int (a:Int)]])++toks (a+t.length) ts
theorem xx:∀ {ts:List (List Nat)},Pcs ts->ts.length<=ts.flatten.length
 | [],_=>Ol _
 | t :: ts,h=>by
  have:=xx h.2;obtain ⟨c,r,rfl,_⟩:=h.1;rw [O6,N5,Oc,Oc];omega
theorem lF:∀ (ts:List (List Nat)) (a:Nat),(toks a ts).length<=ts.length
 | [],_=>Ol _
 | t :: ts,a=>by
  have:=lF ts (a+t.length);show ((if t=[32] then [] else [PyData.tuple [.str ⟨t.toArray⟩,.int (a:Int)]])++toks (a+t.length) ts).length<=_;rw [N5,Oc];split
  ·rw [OP];omega
  ·rw [Ow];omega
theorem Ii {t:List Nat} (h:Br t L):∃ c r,t=c :: r/\(c=32↔t=[32]):=by
 obtain ⟨c,r,rfl,h⟩:=h;refine ⟨c,r,rfl,fun e=>?_,fun e=>by injection e⟩;subst e;rcases h with h | h | h | h
 ·cases h.1
 ·exact absurd h.1 (by decide)
 ·rcases h.1 with z | z
  ·exact absurd z (by decide)
  ·cases z
 ·rw [h.2.2.2.2]
theorem m3 (hz:Z.length<=99000) (h:Pcs ts) (hZ:Z.cps.toList=ts.flatten) (q:Q (.frs (.list (toks 0 ts++[.tuple [.str "", .int (Z.length:Int)]]))) []):WF c6 [.str Z] Q:=by
 have pl:=xx h;have zl:Z.length=ts.flatten.length:=by rw [<- ax,hZ]
 have hR:Rest Z 0 ts.flatten:=⟨Pg _,hz,by simpa using hZ⟩;have e32:(" " : Str)=⟨#[32]⟩:=by decide +kernel
 refine dY rfl ?_;unfold gZ;with_reducible refine mY ?_
 walk_at "pmz";with_reducible refine mY ?_
 walk_at "pmz";with_reducible refine iJ fun N eN=>?_
 have rest:∀ x:Sl,soft x->N ([.dat (.str Z),.own (.list (toks 0 ts)),.dat (.int (Z.length:Int)),x]:En):=by
  intro x hx;rw [eN];walk_at "pm";have t1:=lF ts 0;refine jN rfl (by show _ < 2 ^ 24;omega) rfl ?_;walk_at "pm";exact q
 refine My (fun k e=>∃ (ts2:List (List Nat)) (F:List Qq) (a:Nat) (x:Sl),ts2.length=k/\F++toks a ts2=toks 0 ts/\F.length<=a/\Pcs ts2/\Rest Z a ts2.flatten/\soft x/\e=([.dat (.str Z),.own (.list F),.dat (.int (a:Int)),x]:En)) ts.length (by omega) ⟨ts,[],0,.un,rfl,rfl,Ol _,h,hR,gO,rfl⟩ ?_;rintro k e hk ⟨ts2,F,a,x,rfl,hF,hFa,hP,hr,hx,rfl⟩;have hl:=hr.len;have t1:=lF ts 0;walk_at "pm"
 match ts2,hF,hP,hr,hl with
 | [],hF,hP,hr,hl =>
  have hl:a=Z.length:=hl;have hF:F++[]=toks 0 ts:=hF;rw [OC] at hF;subst hF;subst hl;refine cO (Ob (by omega)) ?_;exact rest x hx
 | t :: ts',hF,hP,hr,hl =>
  obtain ⟨c,r,et,h32⟩:=Ii hP.1;have hr:Rest Z a (t++ts'.flatten):=hr;have h0:atI Z.cps.toList (a:Int)=some c:=hr.at (j:=0) (by rw [et];rfl);have tl:1<=t.length:=by rw [et,Oc];omega
  have hF:F++((if t=[32] then [] else [.tuple [.str ⟨t.toArray⟩,.int (a:Int)]])++toks (a+t.length) ts')=toks 0 ts:=hF;rw [O6,N5] at hl;refine d5 (Oe (by omega)) ?_;walk_at "pm";refine ae (is:=[]) rfl rfl (o6 hr hP.1 ⟨rfl,?_⟩);walk_at "n";walk_at "pm";refine gG rfl h0 ?_;walk_at "pm";have q32:PyData.eqv (.str ⟨#[c]⟩) (.str " ")=decide (c=32):=by rw [e32];exact eq1 c 32
  by_cases hc:c=32
  ·refine cO (by show (!PyData.eqv (.str ⟨#[c]⟩) (.str " "))=false;rw [q32,Oe hc];rfl) ?_;rw [Og (h32.mp hc),O0] at hF;walk_at "pm";exact ⟨ts'.length,Pj _,ts',F,a+t.length,_,rfl,hF,by omega,hP.2,hr.skip,gj,rfl⟩
  ·refine d5 (by show (!PyData.eqv (.str ⟨#[c]⟩) (.str " "))=true;rw [q32,Ob hc];rfl) ?_;rw [Ot fun z=>hc (h32.mpr z),<-OE] at hF;have fl:=congrArg List.length hF;rw [N5,N5,Ow] at fl;walk_at "pm";refine ⟨_,.dat (.str ⟨t.toArray⟩),rfl,?_,?_⟩
   ·rw [<- hr.cut];rfl
   ·walk_at "pm";refine jN rfl (by show _ < 2 ^ 24;omega) rfl ?_;walk_at "pm";exact ⟨ts'.length,Pj _,ts',_,a+t.length,_,rfl,hF,by rw [N5,Ow];omega,hP.2,hr.skip,gj,rfl⟩
abbrev rdr (L:List Qq) (pl fm:Nat):Qq:=.dict [(.str "tokens", .list L),(.str "place", .int (pl:Int)),(.str "forms", .int (fm:Int))]
section
variable {L:List Qq} {pl fm:Nat} {e:En} {x:AV} {Q:RV->En->Prop}
theorem NM (h:aK e [x]=some [rdr L pl fm]) (q:Q (.dat (.list L)) e):WPr (tL "tokens") [x] e Q:=⟨_,.dat (.list L),h,rfl,q⟩
theorem NY (h:aK e [x]=some [rdr L pl fm]) (q:Q (.dat (.int (pl:Int))) e):WPr (tL "place") [x] e Q:=⟨_,.dat (.int (pl:Int)),h,rfl,q⟩
theorem NR (h:aK e [x]=some [rdr L pl fm]) (q:Q (.dat (.int (fm:Int))) e):WPr (tL "forms") [x] e Q:=⟨_,.dat (.int (fm:Int)),h,rfl,q⟩
end
theorem Lp {m:Str} {ms:List PM} {as:List (Bool×Qq)} {Q:RV->En->Prop} (hm:f.ms=.ino :: ms) (h1:aR e i=some d) (h2:cP e avs=some as) (h3:pU ms as=true) (h4:d :: as.map Prod.snd=ds) (h:WF f ds fun pr outs=>∃ x d',pr=.dat x/\outs=[d']/\Q (.dat x) (fR e i d')):WMr (cC m f) i avs e Q:=by
 subst h4;obtain ⟨pr,outs,hF,x,d',rfl,rfl,q⟩:=h;refine ⟨d,as,d',x,h1,h2,?_,q⟩;show (match f.ms with | .ino :: ms=>if pU ms as=true then (match f.F (d :: as.map Prod.snd) with | some (.dat x,[d'])=>some (d',x) | _=>none) else none | _=>none)=_;rw [hm];show (if pU ms as=true then (match f.F (d :: as.map Prod.snd) with | some (.dat x,[d'])=>some (d',x) | _=>none) else none)=_;rw [Og h3,hF]
theorem pw {f:Str} {v k:Qq} {rk:RV} {kvs kvs':List (Qq×Qq)} {N:En->Prop} (h1:aR e i=some (.dict kvs)) (hk:rk.view e=some k) (h3:f.length<=sizeLine/\PyData.strOk f=true/\kvs.length < 1000) (h2:t9 f v kvs=some kvs') (q:N (fR e i (.dict kvs'))):Ce (BE f) i v rk e N :=
 ⟨_,_,.dict kvs',hk,h1,by show (if f.length<=sizeLine/\PyData.strOk f=true/\kvs.length < 1000 then (t9 f v kvs).map PyData.dict else none)=_;rw [Og h3,h2];rfl,q⟩
theorem pv (i:Int):(aw i).cps.toList=(if i < 0 then [45] else [])++codes i.natAbs:=by
 by_cases h:i < 0
 ·rw [Og h];have:=gL (m:=i.natAbs) (by omega);rw [show (-(i.natAbs:Int))=i by omega] at this;exact this
 ·rw [Ot h];have:=fh i.natAbs;rw [show ((i.natAbs:Nat):Int)=i by omega] at this;exact this
theorem gz (m:Nat):∃ c r,codes m=c :: r/\48<=c/\c<=57:=by
 cases e:codes m with
 | nil=>exact absurd e (zR m)
 | cons c r =>
  have:=jf m c (by rw [e];exact Od);exact ⟨c,r,rfl,this⟩
theorem dq {i:Int} (h:i.natAbs < 10 ^ 30):bh (aw i)=.int i:=by
 obtain ⟨c,r,ec,c0,c1⟩:=gz i.natAbs;have ei:=pv i;have hd:(aw i).cps.toList.head?≠some 39/\∃ k s,(aw i).cps.toList=k :: s/\chB k=false:=by
  rw [ei,ec];split
  ·exact ⟨fun z=>(by have z:some 45=some 39:=z;cases z),45,c :: r,rfl,by decide⟩
  ·refine ⟨fun z=>?_,c,r,rfl,?_⟩
   ·have z:some c=some 39:=z;injection z with z;omega
   ·unfold chB;rw [Ob (p:=97<=c) (by omega)];rfl
 obtain ⟨h0,k,s,es,hk⟩:=hd;have hl:gw (.str (aw i)) 1=false:=by
  show (decide _&&(decide _&&(aw i).cps.toList.all chB))=false;rw [es,List.all_cons,hk];simp
 rw [m7 h0 hl];have hf:gv (aw i)=codes i.natAbs/\isNeg (aw i)=decide (i < 0):=by
  by_cases hi:i < 0
  ·rw [Og hi] at ei;exact ⟨lE ei,(oQ ei).trans (Oe hi).symm⟩
  ·rw [Ot hi,O0] at ei;rw [Ob hi];rcases dN (aw i) with ⟨r2,e2,_,_⟩ | ⟨f,g⟩
   ·rw [ei,ec] at e2;injection e2 with e2 _;omega
   ·exact ⟨f.trans ei,g⟩
 have fk:eX (aw i)=true:=by
  unfold eX;rw [hf.1];have l1:=nA 29 i.natAbs h;have l2:1<=(codes i.natAbs).length:=by rw [ec];simp
  rw [Oe l2,Oe (p:=(codes i.natAbs).length<=30) (by omega),Pe,Pe,O8];intro d hd;have:=jf _ d hd;unfold cL;rw [Oe this.1,Oe this.2];rfl
 have nv:xr (aw i)=i:=by
  unfold xr;rw [hf.1,hf.2,xN];by_cases hi:i < 0
  ·rw [Oe hi,Og rfl];omega
  ·rw [Ob hi,Ot (by decide)];omega
 have cnd:=(lb fk).mp (by rw [nv]);unfold tJ;rw [Og ⟨fk,cnd⟩,nv]
local macro_rules | `(tactic| walk_at "pm1")=>`(tactic| ((fail_if_success (with_reducible refine zU ?_));(fail_if_success (with_reducible refine Aq ?_));first | ((with_reducible refine NM ?e9 ?_);(case e9=>exact rfl)) | ((with_reducible refine NY ?e9 ?_);(case e9=>exact rfl)) | ((with_reducible refine NR ?e9 ?_);(case e9=>exact rfl)) | walk_at "p"))
local macro_rules | `(tactic| walk_at "pr")=>`(tactic| repeat walk_at "pm1")
local macro_rules | `(tactic| walk_at "x1")=>`(tactic| ((fail_if_success (with_reducible refine zU ?_));(fail_if_success (with_reducible refine Aq ?_));first
 | (with_reducible first | refine D2 ?_ | refine Gx ?_ | refine HL ?_ | refine Jg ?_ | refine KU ?_ | refine LX ?_ | refine CQ ?_ | refine Kw ?_ | refine Mg ?_ | refine FY ?_)
 | ((with_reducible refine Ma (kvs:=?k9) ?e9 ?f9 ?_);(case e9=>exact rfl);(case f9=>exact rfl)) | ((with_reducible refine KQ (d:=?d9) ?e9 ?f9 ?_);(case e9=>exact rfl);(case f9=>exact rfl))
 | ((with_reducible refine KL ?_);with_reducible first | refine BI ?_ | refine Bq ?_ | refine E7 ?_ | refine BR ?_)
 | (with_reducible refine J0 ?_) | (with_reducible refine Lc ?_) | walk_at "pm1"))
local macro_rules | `(tactic| walk_at "x")=>`(tactic| repeat walk_at "x1")
local macro_rules | `(tactic| walk_at "xz1")=>`(tactic| ((fail_if_success (with_reducible refine D2 ?_));walk_at "x1"))
local macro_rules | `(tactic| walk_at "xz")=>`(tactic| repeat walk_at "xz1")
local macro_rules | `(tactic| walk_at "xn")=>`(tactic| first | ((with_reducible first | refine NU (e':=?e9) ?h9 ?_ | refine Nk (e':=?e9) ?h9 ?_ | refine Nt (e':=?e9) ?h9 ?_ | refine JH (e':=?e9) ?h9 ?_);(case h9=>walk_at "n=")) | walk_at "n")
local macro_rules | `(tactic| walk_at "X") => `(tactic| (walk_at "xn";walk_at "x"))
local macro_rules | `(tactic| walk_at "y1")=>`(tactic| first | walk_at "x1" | walk_at "p")
local macro_rules | `(tactic| walk_at "y")=>`(tactic| repeat walk_at "y1")
abbrev Tok (L:List Qq) (pl:Nat) (s:Str) (p:Int):Prop:=L[pl]?=some (.tuple [.str s,.int p])
def Pay (P:Option Int):Prop:=∀ p,P=some p->fJ (.int p)=true
theorem qT {gd:List Qq} {s t:XS} {env:En} {E:Kn} (h:∀ N:En->Prop,N=(fun e=>WX gd t e E P)->WX gd s env { E with nx:=N } P):WX gd (.seq s t) env E P:=D2 (h _ rfl)
section
variable {L:List Qq} {pl fm i:Nat} {P:Option Int} {s t:Str} {p:Int} {Q:PR->List Qq->Prop}
theorem A2 (h:Tok L pl s p) (q:Q (.dat (.str s)) [rdr L pl fm]):WF ai [rdr L pl fm] Q:=by
 refine dY rfl ?_;unfold kH;walk_at "pr";refine iu rfl (bZ h) ?_;walk_at "pr";exact q
theorem bV {avs:List AV} {e:En} {Q:RV->En->Prop} (h:Tok L pl s p) (h1:aR e i=some (rdr L pl fm)) (h2:cP e avs=some []) (q:Q (.dat (.str s)) (fR e i (rdr L pl fm))):WMr (cC "shown" ai) i avs e Q :=
 Lp rfl h1 h2 rfl rfl (A2 h ⟨_,_,rfl,rfl,q⟩)
theorem cn {v:Qq} {ok:Bool} (h:Tok L pl s p) (hP:Pay P) (hb:ok=false->P=some p) (q:ok=true->Q (.dat v) [rdr L (pl+1) fm]):WU aA [rdr L pl fm,v,.bool ok] Q P:=by
 refine pf rfl ?_;unfold kD;cases ok with
 | true =>
  have q:=q rfl;walk_at "x";refine pw rfl rfl ⟨by decide +kernel,by decide +kernel,OW rfl⟩ rfl ?_;walk_at "x";exact q
 | false =>
  have ep:=hb rfl;walk_at "x";refine iu rfl (bZ h) ?_;walk_at "x";exact ⟨ep,hP _ ep⟩
theorem dG (h:Tok L pl s p) (hP:Pay P) (hb:s≠t->P=some p) (q:s=t->Q (.dat .none) [rdr L (pl+1) fm]):WU aF [rdr L pl fm,.str t] Q P:=by
 refine pf rfl ?_;unfold nC;walk_at "x";refine bV h rfl rfl ?_;walk_at "X";refine aj (is:=[0]) rfl rfl rfl (cn h hP (fun z=>hb fun e=>?_) fun z=>⟨rfl,?_⟩)
 ·rw [e,fW] at z;cases z
 ·by_cases e:s=t
  ·walk_at "x";exact q e
  ·rw [jn (Ob e)] at z;cases z
theorem fG (h:Tok L pl s p) (hP:Pay P) (hb:gw (.str s) 1=false->P=some p) (q:gw (.str s) 1=true->Q (.dat (.str s)) [rdr L (pl+1) fm]):WU bw [rdr L pl fm] Q P:=by
 refine pf rfl ?_;unfold ip;walk_at "x";refine bV h rfl rfl ?_;walk_at "X";refine ae (is:=[]) rfl rfl (gB ⟨rfl,?_⟩);walk_at "x";refine aj (is:=[0]) rfl rfl rfl (cn h hP hb fun z=>⟨rfl,?_⟩);walk_at "x";exact q z
theorem o3 (h:Tok L pl s p) (hs:s.length<=100) (hP:Pay P) (hb:b8 (bh s)=true->P=some p) (q:b8 (bh s)=false->Q (.dat (bh s)) [rdr L (pl+1) fm]):WU cJ [rdr L pl fm] Q P:=by
 refine pf rfl ?_;unfold fV;walk_at "x";refine bV h rfl rfl ?_;walk_at "X";refine ae (is:=[]) rfl rfl (e8 hs ⟨rfl,?_⟩);walk_at "xn";generalize bh s=d at hb q ⊢;walk_at "x";refine aj (is:=[0]) rfl rfl rfl (cn h hP (fun z=>hb (by cases d <;> first | rfl | cases z)) fun z=>⟨rfl,?_⟩);walk_at "x";exact q (by cases d <;> first | rfl | cases z)
theorem kW (h:Tok L pl s p) (hs:s.length<=100) (hd:BZ (bh s)=false) (hP:Pay P) (hb:whB (bh s)=false->P=some p) (q:whB (bh s)=true->Q (.dat (bh s)) [rdr L (pl+1) fm]):WU cu [rdr L pl fm] Q P:=by
 refine pf rfl ?_;unfold fw;walk_at "x";refine bV h rfl rfl ?_;walk_at "X";refine ae (is:=[]) rfl rfl (e8 hs ⟨rfl,?_⟩);walk_at "X";refine ae (is:=[]) rfl rfl (fH hd ⟨rfl,?_⟩);walk_at "x";refine aj (is:=[0]) rfl rfl rfl (cn h hP hb fun z=>⟨rfl,?_⟩);walk_at "x";exact q z
end
noncomputable def hiD:Option Int->Qq
 | none=>.none
 | some h=>.int h
noncomputable def bB (lo:Int):Option Int->Bool
 | none=>decide (0<=lo)&&decide (lo<=60)
 | some h=>decide (0<=lo)&&decide (lo<=60)&&(decide (lo<=h)&&decide (h<=60))
theorem nE (q:Q (.dat (.bool (bB lo hi))) []):WF bA [.int lo,hiD hi] Q:=by
 refine dY rfl ?_;unfold gm;walk_at "P";refine ae (is:=[]) rfl rfl (fH rfl ⟨rfl,?_⟩);walk_at "P";by_cases h0:0<=lo
 ·refine d5 (Oe h0) ?_;walk_at "P";by_cases h1:lo<=60
  ·refine cO (by show (!decide (lo<=60))=false;rw [Oe h1];rfl) ?_;cases hi with
   | none =>
    rw [show bB lo none=true by simp [bB,h0,h1]] at q;walk_at "P";exact q
   | some h =>
    walk_at "P";refine ae (is:=[]) rfl rfl (fH rfl ⟨rfl,?_⟩);walk_at "P";by_cases h2:lo<=h
    ·rw [show bB lo (some h)=decide (h<=60) by simp [bB,h0,h1,h2]] at q;refine d5 (Oe h2) ?_;walk_at "P";exact q
    ·rw [show bB lo (some h)=false by simp [bB,h2]] at q;refine cO (Ob h2) ?_;walk_at "P";exact q
  ·rw [show bB lo hi=false by cases hi <;> simp [bB,h1]] at q;refine d5 (by show (!decide (lo<=60))=true;rw [Ob h1];rfl) ?_;walk_at "P";exact q
 ·rw [show bB lo hi=false by cases hi <;> simp [bB,h0]] at q;refine cO (Ob h0) ?_;walk_at "P";exact q
section
variable {L:List Qq} {pl fm:Nat} {P:Option Int} {s t:Str} {p p2:Int} {Q:PR->List Qq->Prop}
theorem km {lo:Int} (h:Tok L pl s p) (hs:s.length<=100) (en:bh s=.int lo) (hP:Pay P) (hb:bB lo none=false->P=some p) (q:bB lo none=true->Q (.dat (.int lo)) [rdr L (pl+1) fm]):WU dW [rdr L pl fm] Q P:=by
 refine pf rfl ?_;unfold i0;walk_at "x";refine bV h rfl rfl ?_;walk_at "X";refine ae (is:=[]) rfl rfl (e8 hs ⟨rfl,?_⟩);rw [en];walk_at "X";refine ae (is:=[]) rfl rfl (nE (hi:=none) ⟨rfl,?_⟩);walk_at "x";refine aj (is:=[0]) rfl rfl rfl (cn h hP hb fun z=>⟨rfl,?_⟩);walk_at "x";exact q z
def HiT (s:Str):Option Int->Prop
 | none=>s = "*"
 | some g=>s ≠ "*" /\ bh s=.int g/\s.length<=100
theorem jd {lo:Int} {hi:Option Int} (h:Tok L pl s p) (ht:HiT s hi) (hl:bB lo none=true) (hP:Pay P) (hb:bB lo hi=false->P=some p) (q:bB lo hi=true->Q (.dat (hiD hi)) [rdr L (pl+1) fm]):WU cY [rdr L pl fm,.int lo] Q P:=by
 refine pf rfl ?_;unfold g9;walk_at "x";refine bV h rfl rfl ?_;walk_at "X";cases hi with
 | none =>
  obtain rfl:s = "*" := ht;walk_at "x";refine aj (is:=[0]) rfl rfl rfl (cn h hP (fun z=>by cases z) fun _=>⟨rfl,?_⟩);walk_at "x";exact q hl
 | some g =>
  obtain ⟨h1,h2,h3⟩:=ht;refine cO (jn (Ob h1)) ?_;walk_at "x";refine bV h rfl rfl ?_;walk_at "X";refine ae (is:=[]) rfl rfl (e8 h3 ⟨rfl,?_⟩);rw [h2];walk_at "X";refine ae (is:=[]) rfl rfl (nE (hi:=some g) ⟨rfl,?_⟩);walk_at "x";refine aj (is:=[0]) rfl rfl rfl (cn h hP hb fun z=>⟨rfl,?_⟩);walk_at "x";exact q z
theorem iy {ok:Bool} (h:Tok L pl s p) (hP:Pay P) (hb:(s = "," -> ok=false)->P=some p) (q:s = "," -> ok=true->Q (.dat .none) [rdr L (pl+1) fm]):WU bg [rdr L pl fm,.bool ok] Q P:=by
 refine pf rfl ?_;unfold gf;walk_at "x";refine bV h rfl rfl ?_;walk_at "X";by_cases e:s = ","
 ·refine d5 (by rw [e];exact fW) ?_;walk_at "x";refine aj (is:=[0]) rfl rfl rfl (cn h hP (fun z=>hb fun _=>z) fun z=>⟨rfl,?_⟩);walk_at "x";exact q e z
 ·refine cO (jn (Ob e)) ?_;walk_at "x";exact aj (is:=[0]) rfl rfl rfl (cn h hP (fun _=>hb fun z=>absurd z e) fun z=>by cases z)
theorem nh (h:Tok L pl s p) (hs:s ≠ "^") (hP:Pay P) (hb:gw (.str s) 1=false->P=some p) (q:gw (.str s) 1=true->Q (.dat (.str s)) [rdr L (pl+1) fm]):WU bQ [rdr L pl fm] Q P:=by
 refine pf rfl ?_;unfold d7;walk_at "x";refine bV h rfl rfl ?_;walk_at "X";refine d5 (congrArg not (jn (Ob hs))) ?_;walk_at "x";refine aj (is:=[0]) rfl rfl rfl (fG h hP hb fun z=>⟨rfl,?_⟩);walk_at "x";exact q z
theorem Ah (h:Tok L pl "^" p) (h2:Tok L (pl+1) s p2) (hs:s.length<=100) (hP:Pay P) (hb:gw (.str s) 1=false->P=some p2) (q:gw (.str s) 1=true->Q (.dat (.str (("^" : Str)++s))) [rdr L (pl+2) fm]):WU bQ [rdr L pl fm] Q P:=by
 refine pf rfl ?_;unfold d7;walk_at "x";refine bV h rfl rfl ?_;walk_at "X";refine aj (is:=[0]) rfl rfl rfl (dG h hP (fun z=>absurd rfl z) fun _=>⟨rfl,?_⟩);walk_at "X";refine aj (is:=[0]) rfl rfl rfl (fG h2 hP hb fun z=>⟨rfl,?_⟩);walk_at "X";refine fU rfl (by have e:(Str.ofString "^").length=1:=(by decide);rw [e];show _<=2 ^ 24;omega) ?_;walk_at "x";exact q z
end
def Lf (w:Str):Prop:=w = "any" \/ w = "thing" \/ w = "number" \/ w = "said"
def Lst (w:Str):Prop:=w = "all" \/ w = "some" \/ w = "one" \/ w = "none"
def Wlk (w:Str):Prop:=w = "many" \/ w = "each"
theorem bW (q:Q (.dat (kgD a8 w)) []):WF bR [.str w] Q:=by
 refine dY rfl ?_;unfold ix;walk_at "P";exact q
noncomputable def isW (w:Str):Bool:=(["many", "each"]:List Str).any fun s=>decide (s=w)
def inn (w:Str):Nat:=if (isW w||PyData.eqv (.str w) (.str "not"))=true then 1 else 0
def iU (w:Str) (fm dep:Nat) (wk:Bool):Bool :=
 !b8 (kgD a8 w)&&(!(wk&&(isW w||PyData.eqv (.str w) (.str "closed")))&&(decide (fm+1+inn w<=40)&&decide (dep+inn w<=8)))
theorem GY (q:Q (.dat (.bool (iU w fm dep wk))) []):WF cU [.str w,.int (fm:Int),.int (dep:Int),.bool wk] Q:=by
 refine dY rfl ?_;unfold iq;unfold iU at q;with_reducible refine iJ fun N eN=>?_
 have rest:b8 (kgD a8 w)=false->(wk&&(isW w||PyData.eqv (.str w) (.str "closed")))=false->N ([.dat (.str w),.dat (.int (fm:Int)),.dat (.int (dep:Int)),.dat (.bool wk),.un]:En):=by
  intro g1 g2;rw [eN];clear eN N;rw [g1,g2] at q;with_reducible refine iJ fun N eN=>?_
  have rest:∀ j:Nat,j=inn w->N ([.dat (.str w),.dat (.int (fm:Int)),.dat (.int (dep:Int)),.dat (.bool wk),.dat (.int (j:Int))]:En):=by
   rintro j rfl;rw [eN];walk_at "pr";by_cases h:fm+1+inn w<=40
   ·refine d5 (Oe (by omega)) ?_;walk_at "pr";show Q (.dat (.bool (decide _))) [];rw [Oe h] at q;rw [decide_eq_decide.mpr (show ((dep:Int)+(inn w:Nat)<=8↔dep+inn w<=8) by omega)];exact q
   ·rw [Ob h] at q;refine cO (Ob (by omega)) ?_;walk_at "pr";exact q
  unfold inn at rest;walk_at "pr";refine w_inS ["many", "each"] rfl ?_;rw [show ((["many", "each"]:List Str).any fun s=>decide (s=w))=isW w from rfl];cases h:isW w with
  | true =>
   rw [h] at rest;walk_at "pr";exact rest 1 rfl
  | false =>
   rw [h] at rest;walk_at "pr";refine iM (fun e=>?_) (fun e=>?_)
   ·have e:PyData.eqv (.str w) (.str "not")=true:=e;rw [e] at rest;walk_at "pr";exact rest 1 rfl
   ·have e:PyData.eqv (.str w) (.str "not")=false:=e;rw [e] at rest;walk_at "pr";exact rest 0 rfl
 walk_at "pr";refine ae (is:=[]) rfl rfl (bW ⟨rfl,?_⟩);generalize kgD a8 w=x at q rest ⊢;walk_at "pr";generalize b8 x=nn at q rest ⊢;cases nn with
 | true =>
  walk_at "pr";exact q
 | false =>
  have rest:=rest rfl;cases wk with
  | false =>
   walk_at "pr";exact rest rfl
  | true =>
   walk_at "pr";refine w_inS ["many", "each"] rfl ?_;rw [show ((["many", "each"]:List Str).any fun s=>decide (s=w))=isW w from rfl];cases h:isW w with
   | true =>
    rw [h] at q;walk_at "pr";exact q
   | false =>
    rw [h] at rest q;walk_at "pr";refine iM (fun e=>?_) (fun e=>?_)
    ·have e:PyData.eqv (.str w) (.str "closed")=true:=e;rw [e] at q;walk_at "pr";exact q
    ·have e:PyData.eqv (.str w) (.str "closed")=false:=e;rw [e] at rest;walk_at "pr";exact rest rfl
abbrev kO:Str := "("
abbrev kC:Str := ")"
abbrev kM:Str := ","
theorem Fu {x y:AV} (ss:List Str) {Q:RV->En->Prop} (h1:aK e [x,y]=some [.str z,.list (ss.map .str)]) (q:Q (.dat (.bool (decide (z ∉ ss)))) e):WPr wc [x,y] e Q:=by
 refine kPr (pr:=PR.dat (.bool (decide (z ∉ ss)))) h1 ?_ q;show (if vC (.str z)=true/\fy (ss.map .str)=true then some (PR.dat (.bool (ngB true (oh (ss.map .str) (.str z))))) else none)=_;rw [Og ⟨by simp [vC,noD,PyData.depth],mG ss⟩,lU];have:(ss.any fun s=>decide (s=z))=decide (z∈ss):=by
  rw [Bool.eq_iff_iff,List.any_eq_true,OU];exact ⟨fun ⟨s,a,b⟩=>by rw [<- OO b];exact a,fun a=>⟨z,a,Oe rfl⟩⟩
 rw [this];show some (PR.dat (.bool (!decide (z∈ss))))=_;rw [decide_not]
def ClS (L:List Qq) (P:Option Int) (Q0:List Str->Nat->Prop):Nat->List Str->Nat->Prop
 | 0,_,_=>False
 | m+1,bs,pl=>∃ s p,Tok L pl s p/\((s=kC/\Q0 bs pl)\/(s≠kC/\bs≠[]/\(s=kM->8<=bs.length)/\P=some p)
  \/ (s≠kC/\∃ pl2 c q,((bs=[]/\pl2=pl)\/(bs≠[]/\pl2=pl+1/\s=kM/\bs.length < 8))/\Tok L pl2 c q /\
   ((gw (.str c) 1=true/\c ∉ bs/\ClS L P Q0 m (bs++[c]) (pl2+1))\/((gw (.str c) 1=true->c∈bs)/\P=some q))))
section
variable {L:List Qq} {pl fm m:Nat} {P:Option Int} {p:Int} {Q:PR->List Qq->Prop}
theorem wx (hP:Pay P) (h0:Tok L pl kO p) (hc:ClS L P (fun bs pl'=>bs.length<=60/\Q (.dat (.tuple [.str "closed", .tuple ((j7 bs).map .str)])) [rdr L (pl'+1) fm]) (m+1) [] (pl+1)) (hm:m<=1000):WU cw [rdr L pl fm] Q P:=by
 refine pf rfl ?_;unfold fz;walk_at "x";refine aj (is:=[0]) rfl rfl rfl (dG h0 hP (fun z=>absurd rfl z) fun _=>⟨rfl,?_⟩);walk_at "xn";with_reducible refine qT fun N eN=>?_
 have rest:∀ (bs:List Str) (pl':Nat) (p:Int) (x:Sl),Tok L pl' kC p->bs.length<=60->Q (.dat (.tuple [.str "closed", .tuple ((j7 bs).map .str)])) [rdr L (pl'+1) fm]->soft x->N ([.ino (rdr L pl' fm),.own (.list (bs.map .str)),x]:En):=by
  intro bs pl' p x ht hl q hx;rw [eN];walk_at "x";refine aj (is:=[0]) rfl rfl rfl (dG ht hP (fun z=>absurd rfl z) fun _=>⟨rfl,?_⟩);walk_at "X";refine EV rfl (by omega) ?_;walk_at "x";exact q
 refine MS (fun k e=>∃ (bs:List Str) (pl':Nat) (x:Sl),ClS L P (fun bs pl'=>bs.length<=60/\Q (.dat (.tuple [.str "closed", .tuple ((j7 bs).map .str)])) [rdr L (pl'+1) fm]) (k+1) bs pl'/\bs.length+k<=1000/\soft x/\e=([.ino (rdr L pl' fm),.own (.list (bs.map .str)),x]:En)) m (by omega) ⟨[],pl+1,.un,hc,by rw [OP];omega,gO,rfl⟩ ?_;rintro k e _ ⟨bs,pl',x,⟨s,p,es,hC⟩,hl,hx,rfl⟩;walk_at "x";refine bV es rfl rfl ?_;walk_at "X";by_cases hs:s=kC
 ·subst hs;refine cO (show (!PyData.eqv (.str kC) (.str kC))=false by rw [fW];rfl) ?_;obtain ⟨_,h1,h2⟩ | ⟨z,_⟩ | ⟨z,_⟩:=hC
  ·exact rest bs pl' p x es h1 h2 hx
  ·exact absurd rfl z
  ·exact absurd rfl z
 ·refine d5 (congrArg not (jn (Ob hs))) ?_;walk_at "xz";with_reducible refine qT fun N2 eN2=>?_
  have go:∀ (pl2:Nat) (c:Str) (q:Int),Tok L pl2 c q->((gw (.str c) 1=true/\c ∉ bs/\ClS L P (fun bs pl'=>bs.length<=60/\Q (.dat (.tuple [.str "closed", .tuple ((j7 bs).map .str)])) [rdr L (pl'+1) fm]) k (bs++[c]) (pl2+1))\/((gw (.str c) 1=true->c∈bs)/\P=some q))->N2 ([.ino (rdr L pl2 fm),.own (.list (bs.map .str)),x]:En):=by
   intro pl2 c q ec hc;rw [eN2];walk_at "x";refine bV ec rfl rfl ?_;walk_at "X";refine ae (is:=[]) rfl rfl (gB ⟨rfl,?_⟩);cases hb:gw (.str c) 1 with
   | false =>
    obtain ⟨z,_⟩ | ⟨_,ep⟩:=hc
    ·rw [hb] at z;cases z
    walk_at "x";exact aj (is:=[0]) rfl rfl rfl (cn ec hP (fun _=>ep) fun z=>by cases z)
   | true =>
    walk_at "x";refine Fu bs rfl ?_;walk_at "x";refine aj (is:=[0]) rfl rfl rfl (cn ec hP (fun z=>?_) fun z=>⟨rfl,?_⟩)
    ·obtain ⟨_,z2,_⟩ | ⟨_,ep⟩:=hc
     ·exact absurd z2 (Pn z)
     ·exact ep
    ·obtain ⟨_,_,hC⟩ | ⟨z2,_⟩:=hc
     ·walk_at "X";refine jN rfl (by rw [N6];show _ < 2 ^ 24;omega) rfl ?_;walk_at "x";cases k with
      | zero=>exact hC.elim
      | succ k=>exact ⟨k,Pj _,bs++[c],pl2+1,.dat (.str c),hC,by rw [N5,Ow];omega,gj,by rw [Ox];rfl⟩
     ·exact absurd (z2 hb) (OO z)
  cases bs with
  | nil =>
   walk_at "x";refine ⟨rfl,?_⟩;walk_at "x";obtain ⟨z,_⟩ | ⟨_,z,_⟩ | ⟨_,pl2,c,q,⟨_,rfl⟩ | ⟨z,_⟩,ec,h⟩:=hC
   ·exact absurd z hs
   ·exact absurd rfl z
   ·exact go _ c q ec h
   ·exact absurd rfl z
  | cons b0 bs0 =>
   walk_at "x";refine ⟨rfl,?_⟩;walk_at "x";refine aj (is:=[0]) rfl rfl rfl (iy es hP (fun z=>?_) fun z1 z2=>⟨rfl,?_⟩)
   ·obtain ⟨z,_⟩ | ⟨_,_,_,ep⟩ | ⟨_,pl2,c,q,⟨z,_⟩ | ⟨_,_,z1,z2⟩,_⟩:=hC
    ·exact absurd z hs
    ·exact ep
    ·cases z
    ·have:=Pn (z z1);rw [N6] at this;omega
   ·walk_at "x";obtain ⟨z,_⟩ | ⟨_,_,z,_⟩ | ⟨_,pl2,c,q,⟨z,_⟩ | ⟨_,rfl,_⟩,ec,h⟩:=hC
    ·exact absurd z hs
    ·have:=OO z2;have:=z z1;rw [N6] at *;omega
    ·cases z
    ·exact go _ c q ec h
end
theorem cZ {Q':PR->List Qq->Prop} (h:WU f ds Q P) (q:∀ pr outs,Q pr outs->Q' pr outs):WU f ds Q' P:=h.imp (fun ⟨pr,outs,e,z⟩=>⟨pr,outs,e,q _ _ z⟩) id
def RP (n:Nat) (L:List Qq) (P:Option Int) (pl fm dep:Nat) (wk:Bool) (R:Qq->Nat->Nat->Prop):Prop:=WU (ao (n+1)) [rdr L pl fm,.int (dep:Int),.bool wk] (fun pr outs=>∃ d pl' fm',pr=.dat d/\outs=[rdr L pl' fm']/\R d pl' fm') P
def Mr (L:List Qq) (pl:Nat) (st:Str) (pl6:Nat):Prop:=(∃ s p,Tok L pl s p/\s ≠ "^" /\ gw (.str s) 1=true/\st=s/\pl6=pl+1)\/∃ s p p2,Tok L pl "^" p/\Tok L (pl+1) s p2/\s.length<=100/\gw (.str s) 1=true/\st=("^" : Str)++s/\pl6=pl+2
def WkS (n:Nat) (L:List Qq) (P:Option Int) (Q:PR->List Qq->Prop) (w:Str) (pl fm dep:Nat):Prop:=∃ s1 p1 lo,Tok L pl s1 p1/\s1.length<=100/\bh s1=.int lo/\((bB lo none=false/\P=some p1)\/(bB lo none=true/\(∃ q,Tok L (pl+1) kM q)/\∃ s3 p3 hi,Tok L (pl+2) s3 p3/\HiT s3 hi/\((bB lo hi=false/\P=some p3)\/(bB lo hi=true/\(∃ q,Tok L (pl+3) kM q) /\
 ((∃ s p,Tok L (pl+4) s p/\s ≠ "^" /\ gw (.str s) 1=false/\P=some p)\/∃ st pl6,Mr L (pl+4) st pl6/\(∃ q,Tok L pl6 kM q) /\
  RP n L P (pl6+1) fm (dep+1) true fun d pl' fm'=>(∃ q,Tok L pl' kC q)/\Q (.dat (.tuple [.str w,.int lo,hiD hi,.str st,d])) [rdr L (pl'+1) fm'])))))
def LsS (n:Nat) (L:List Qq) (P:Option Int) (dep:Nat) (wk:Bool) (Q0:List Qq->Nat->Nat->Prop):Nat->List Qq->Nat->Nat->Prop
 | 0,_,_,_=>False
 | m+1,us,pl,fm=>∃ s p,Tok L pl s p/\((s=kC/\Q0 us pl fm)\/(s≠kC/\us≠[]/\(s=kM->6<=us.length\/40<=fm)/\P=some p)
  \/ (s≠kC/\∃ pl2,((us=[]/\pl2=pl)\/(us≠[]/\pl2=pl+1/\s=kM/\us.length < 6/\fm < 40))/\RP n L P pl2 fm (dep+1) wk fun d pl' fm'=>LsS n L P dep wk Q0 m (us++[d]) pl' fm'))
section
variable {L:List Qq} {n pl fm m dep:Nat} {P:Option Int} {p:Int} {wk:Bool} {w:Str} {Q:PR->List Qq->Prop}
theorem GD (hP:Pay P) (h0:Tok L pl kO p) (h:RP n L P (pl+1) fm (dep+1) wk fun d pl' fm'=>(∃ q,Tok L pl' kC q)/\Q (.dat (.tuple [.str "not", d])) [rdr L (pl'+1) fm']):WU (fK (ao (n+1))) [rdr L pl fm,.int (dep:Int),.bool wk] Q P:=by
 refine pf rfl ?_;unfold ju;walk_at "x";refine aj (is:=[0]) rfl rfl rfl (dG h0 hP (fun z=>absurd rfl z) fun _=>⟨rfl,?_⟩);walk_at "X";refine aj (is:=[0]) rfl rfl rfl (cZ h ?_);rintro _ _ ⟨d,pl',fm',rfl,rfl,⟨q,hq⟩,hQ⟩;refine ⟨rfl,?_⟩;walk_at "X";refine aj (is:=[0]) rfl rfl rfl (dG hq hP (fun z=>absurd rfl z) fun _=>⟨rfl,?_⟩);walk_at "X";exact hQ
theorem Ci (hP:Pay P) (h0:Tok L pl kO p) (h:WkS n L P Q w (pl+1) fm dep):WU (eK (ao (n+1))) [rdr L pl fm,.str w,.int (dep:Int)] Q P:=by
 obtain ⟨s1,p1,lo,e1,l1,n1,h⟩:=h;refine pf rfl ?_;unfold gY;walk_at "x";refine aj (is:=[0]) rfl rfl rfl (dG h0 hP (fun z=>absurd rfl z) fun _=>⟨rfl,?_⟩);walk_at "X";obtain ⟨b1,ep⟩ | ⟨b1,⟨q2,e2⟩,s3,p3,hi,e3,t3,h⟩:=h
 ·exact aj (is:=[0]) rfl rfl rfl (km e1 l1 n1 hP (fun _=>ep) fun z=>by rw [b1] at z;cases z)
 refine aj (is:=[0]) rfl rfl rfl (km e1 l1 n1 hP (fun z=>by rw [b1] at z;cases z) fun _=>⟨rfl,?_⟩);walk_at "X";refine aj (is:=[0]) rfl rfl rfl (dG e2 hP (fun z=>absurd rfl z) fun _=>⟨rfl,?_⟩);walk_at "X";obtain ⟨b3,ep⟩ | ⟨b3,⟨q4,e4⟩,h⟩:=h
 ·exact aj (is:=[0]) rfl rfl rfl (jd e3 t3 b1 hP (fun _=>ep) fun z=>by rw [b3] at z;cases z)
 refine aj (is:=[0]) rfl rfl rfl (jd e3 t3 b1 hP (fun z=>by rw [b3] at z;cases z) fun _=>⟨rfl,?_⟩);walk_at "X";refine aj (is:=[0]) rfl rfl rfl (dG e4 hP (fun z=>absurd rfl z) fun _=>⟨rfl,?_⟩);walk_at "X";obtain ⟨s5,p5,e5,k5,b5,ep⟩ | ⟨st,pl6,h5,⟨q6,e6⟩,h⟩:=h
 ·exact aj (is:=[0]) rfl rfl rfl (nh e5 k5 hP (fun _=>ep) fun z=>by rw [b5] at z;cases z)
 have stp:∀ {Q:PR->List Qq->Prop},Q (.dat (.str st)) [rdr L pl6 fm]->WU bQ [rdr L (pl+1+4) fm] Q P:=by
  intro Q q;obtain ⟨s,p,e,k,b,rfl,rfl⟩ | ⟨s,p,p2,e,e',l,b,rfl,rfl⟩:=h5
  ·exact nh e k hP (fun z=>by rw [b] at z;cases z) fun _=>q
  ·exact Ah e e' l hP (fun z=>by rw [b] at z;cases z) fun _=>q
 refine aj (is:=[0]) rfl rfl rfl (stp ⟨rfl,?_⟩);walk_at "X";refine aj (is:=[0]) rfl rfl rfl (dG e6 hP (fun z=>absurd rfl z) fun _=>⟨rfl,?_⟩);walk_at "X";refine aj (is:=[0]) rfl rfl rfl (cZ h ?_);rintro _ _ ⟨d,pl',fm',rfl,rfl,⟨q,hq⟩,hQ⟩;refine ⟨rfl,?_⟩;walk_at "X";refine aj (is:=[0]) rfl rfl rfl (dG hq hP (fun z=>absurd rfl z) fun _=>⟨rfl,?_⟩);walk_at "X";exact hQ
theorem Dt (hP:Pay P) (h0:Tok L pl kO p) (h:LsS n L P dep wk (fun us pl' fm'=>Q (.dat (.tuple [.str w,.tuple us])) [rdr L (pl'+1) fm']) (m+1) [] (pl+1) fm) (hm:m<=1000):WU (d6 (ao (n+1))) [rdr L pl fm,.str w,.int (dep:Int),.bool wk] Q P:=by
 refine pf rfl ?_;unfold iH;walk_at "x";refine aj (is:=[0]) rfl rfl rfl (dG h0 hP (fun z=>absurd rfl z) fun _=>⟨rfl,?_⟩);walk_at "xn";with_reducible refine qT fun N eN=>?_
 have rest:∀ (us:List Qq) (pl' fm':Nat) (p:Int),Tok L pl' kC p->Q (.dat (.tuple [.str w,.tuple us])) [rdr L (pl'+1) fm']->N ([.ino (rdr L pl' fm'),.dat (.str w),.dat (.int (dep:Int)),.dat (.bool wk),.own (.list us)]:En):=by
  intro us pl' fm' p ht q;rw [eN];walk_at "x";refine aj (is:=[0]) rfl rfl rfl (dG ht hP (fun z=>absurd rfl z) fun _=>⟨rfl,?_⟩);walk_at "X";exact q
 refine MS (fun k e=>∃ (us:List Qq) (pl' fm':Nat),LsS n L P dep wk (fun us pl' fm'=>Q (.dat (.tuple [.str w,.tuple us])) [rdr L (pl'+1) fm']) (k+1) us pl' fm'/\us.length+k<=1000/\e=([.ino (rdr L pl' fm'),.dat (.str w),.dat (.int (dep:Int)),.dat (.bool wk),.own (.list us)]:En)) m (by omega) ⟨[],pl+1,fm,h,by rw [OP];omega,rfl⟩ ?_;rintro k e _ ⟨us,pl',fm',⟨s,p,es,hC⟩,hl,rfl⟩;walk_at "x";refine bV es rfl rfl ?_;walk_at "X";by_cases hs:s=kC
 ·subst hs;refine cO (show (!PyData.eqv (.str kC) (.str kC))=false by rw [fW];rfl) ?_;obtain ⟨_,h2⟩ | ⟨z,_⟩ | ⟨z,_⟩:=hC
  ·exact rest us pl' fm' p es h2
  ·exact absurd rfl z
  ·exact absurd rfl z
 ·refine d5 (congrArg not (jn (Ob hs))) ?_;walk_at "xz";with_reducible refine qT fun N2 eN2=>?_
  have go:∀ (pl2:Nat),RP n L P pl2 fm' (dep+1) wk (fun d pl' fm'=>LsS n L P dep wk (fun us pl' fm'=>Q (.dat (.tuple [.str w,.tuple us])) [rdr L (pl'+1) fm']) k (us++[d]) pl' fm')->N2 ([.ino (rdr L pl2 fm'),.dat (.str w),.dat (.int (dep:Int)),.dat (.bool wk),.own (.list us)]:En):=by
   intro pl2 h;rw [eN2];walk_at "x";refine aj (is:=[0]) rfl rfl rfl (cZ h ?_);rintro _ _ ⟨d,pl3,fm3,rfl,rfl,hC⟩;refine ⟨rfl,?_⟩;walk_at "X";refine jN rfl (by show _ < 2 ^ 24;omega) rfl ?_;walk_at "x";cases k with
   | zero=>exact hC.elim
   | succ k=>exact ⟨k,Pj _,us++[d],pl3,fm3,hC,by rw [N5,Ow];omega,rfl⟩
  cases us with
  | nil =>
   walk_at "x";refine ⟨rfl,?_⟩;walk_at "x";obtain ⟨z,_⟩ | ⟨_,z,_⟩ | ⟨_,pl2,⟨_,rfl⟩ | ⟨z,_⟩,h⟩:=hC
   ·exact absurd z hs
   ·exact absurd rfl z
   ·exact go _ h
   ·exact absurd rfl z
  | cons u0 us0 =>
   walk_at "x";refine ⟨rfl,?_⟩;walk_at "x";have key:∀ ok:Bool,(ok=true->(u0 :: us0).length < 6/\fm' < 40)->(ok=false->6<=(u0 :: us0).length\/40<=fm')->WU bg [rdr L pl' fm',.bool ok] (fun pr outs=>pr=.dat .none/\outs=[rdr L (pl'+1) fm']/\N2 ([.ino (rdr L (pl'+1) fm'),.dat (.str w),.dat (.int (dep:Int)),.dat (.bool wk),.own (.list (u0 :: us0))]:En)) P:=by
    intro ok k1 k2;refine iy es hP (fun z=>?_) fun z1 z2=>⟨rfl,rfl,?_⟩
    ·obtain ⟨z',_⟩ | ⟨_,_,_,ep⟩ | ⟨_,pl2,⟨z',_⟩ | ⟨_,_,z1,z2,z3⟩,_⟩:=hC
     ·exact absurd z' hs
     ·exact ep
     ·cases z'
     ·have:=k2 (z z1);omega
    ·obtain ⟨z,_⟩ | ⟨_,_,z,_⟩ | ⟨_,pl2,⟨z,_⟩ | ⟨_,rfl,_⟩,h⟩:=hC
     ·exact absurd z hs
     ·have:=k1 z2;have:=z z1;omega
     ·cases z
     ·exact go _ h
   refine iM (fun c1=>?_) (fun c1=>?_)
   ·walk_at "x";refine aj (is:=[0]) rfl rfl rfl (cZ (key _ (fun z=>⟨?_,?_⟩) fun z=>?_) ?_)
    ·have:=OO c1;omega
    ·have:=OO z;omega
    ·have:=Pn z;omega
    ·rintro _ _ ⟨rfl,rfl,h⟩;refine ⟨rfl,?_⟩;walk_at "x";exact h
   ·walk_at "x";refine aj (is:=[0]) rfl rfl rfl (cZ (key false (fun z=>by cases z) fun _=>?_) ?_)
    ·have:=Pn c1;omega
    ·rintro _ _ ⟨rfl,rfl,h⟩;refine ⟨rfl,?_⟩;walk_at "x";exact h
end
theorem Aw {x y:AV} {b:Bool} {Q:RV->En->Prop} (h1:aK e [x,y]=some [.str z,.tuple ds]) (h2:fy ds=true) (h3:oh ds (.str z)=b) (q:Q (.dat (.bool b)) e):WPr inP [x,y] e Q:=by
 refine kPr (pr:=PR.dat (.bool b)) h1 ?_ q;show (if vC (.str z)=true/\fy ds=true then some (PR.dat (.bool (ngB false (oh ds (.str z))))) else none)=_;rw [Og ⟨by simp [vC,noD,PyData.depth],h2⟩,h3];rfl
def Fc (w:Str) (a b c:Bool):Prop:=oh [.str "from", .str "upto"] (.str w)=a/\PyData.eqv (.str w) (.str "is")=false/\PyData.eqv (.str w) (.str "keeps")=false/\PyData.eqv (.str w) (.str "closed")=false/\PyData.eqv (.str w) (.str "not")=false/\oh [.str "all", .str "some", .str "one", .str "none"] (.str w)=b/\oh [.str "many", .str "each"] (.str w)=c
theorem J6 (h:Lf w):Fc w false false false:=by rcases h with rfl | rfl | rfl | rfl <;> exact ⟨rfl,rfl,rfl,rfl,rfl,rfl,rfl⟩
theorem Jf (h:w = "from" \/ w = "upto"):Fc w true false false:=by rcases h with rfl | rfl <;> exact ⟨rfl,rfl,rfl,rfl,rfl,rfl,rfl⟩
theorem KP (h:Lst w):Fc w false true false:=by rcases h with rfl | rfl | rfl | rfl <;> exact ⟨rfl,rfl,rfl,rfl,rfl,rfl,rfl⟩
theorem J4 (h:Wlk w):Fc w false false true:=by rcases h with rfl | rfl <;> exact ⟨rfl,rfl,rfl,rfl,rfl,rfl,rfl⟩
local macro_rules | `(tactic| walk_at "tf")=>`(tactic| ((walk_at "x");(refine cO (by assumption) ?_)))
local macro_rules | `(tactic| walk_at "ti")=>`(tactic| ((walk_at "x");(refine Aw rfl rfl (by assumption) ?_)))
local macro_rules | `(tactic| walk_at "t5")=>`(tactic| ((walk_at "ti");(iterate 4 walk_at "tf");(walk_at "ti")))
abbrev QR (L:List Qq) (R:Qq->Nat->Nat->Prop):PR->List Qq->Prop:=fun pr outs=>∃ d pl' fm',pr=.dat d/\outs=[rdr L pl' fm']/\R d pl' fm'
def HdS (n:Nat) (L:List Qq) (P:Option Int) (pl fm dep:Nat) (wk:Bool) (R:Qq->Nat->Nat->Prop) (w:Str):Prop :=
  (Lf w/\R (.tuple [.str w]) (pl+1) (fm+1))
 \/ ((w = "from" \/ w = "upto")/\∃ s p,Tok L (pl+1) s p/\s.length<=100/\BZ (bh s)=false/\((whB (bh s)=false/\P=some p)\/(whB (bh s)=true/\R (.tuple [.str w,bh s]) (pl+2) (fm+1))))
 \/ (w = "is" /\ ∃ s p,Tok L (pl+1) s p/\s.length<=100/\((b8 (bh s)=true/\P=some p)\/(b8 (bh s)=false/\R (.tuple [.str w,bh s]) (pl+2) (fm+1))))
 \/ (w = "keeps" /\ ∃ s p,Tok L (pl+1) s p/\((gw (.str s) 1=false/\P=some p)\/(gw (.str s) 1=true/\R (.tuple [.str w,.str s]) (pl+2) (fm+1))))
 \/ (w = "closed" /\ (∃ q,Tok L (pl+1) kO q)/\∃ m,m<=1000/\ClS L P (fun bs pl'=>bs.length<=60/\QR L R (.dat (.tuple [.str "closed", .tuple ((j7 bs).map .str)])) [rdr L (pl'+1) (fm+1)]) (m+1) [] (pl+2))
 \/ (w = "not" /\ (∃ q,Tok L (pl+1) kO q)/\∃ n',n=n'+1/\RP n' L P (pl+2) (fm+1) (dep+1) wk fun d pl' fm'=>(∃ q,Tok L pl' kC q)/\QR L R (.dat (.tuple [.str "not", d])) [rdr L (pl'+1) fm'])
 \/ (Lst w/\(∃ q,Tok L (pl+1) kO q)/\∃ n' m,n=n'+1/\m<=1000/\LsS n' L P dep wk (fun us pl' fm'=>QR L R (.dat (.tuple [.str w,.tuple us])) [rdr L (pl'+1) fm']) (m+1) [] (pl+2) (fm+1))
 \/ (Wlk w/\(∃ q,Tok L (pl+1) kO q)/\∃ n',n=n'+1/\WkS n' L P (QR L R) w (pl+2) (fm+1) dep)
theorem b6 {L:List Qq} {p:Int} {R:Qq->Nat->Nat->Prop} (hP:Pay P) (h:Tok L pl w p) (hc:(iU w fm dep wk=false/\P=some p)\/(iU w fm dep wk=true/\HdS n L P pl fm dep wk R w)):RP n L P pl fm dep wk R:=by
 refine pf rfl ?_;unfold iz;walk_at "x";refine bV h rfl rfl ?_;walk_at "X";refine ae (is:=[]) rfl rfl (GY ⟨rfl,?_⟩);walk_at "x";obtain ⟨hm,ep⟩ | ⟨hm,hc⟩:=hc
 ·exact aj (is:=[0]) rfl rfl rfl (cn h hP (fun _=>ep) fun z=>by rw [hm] at z;cases z)
 refine aj (is:=[0]) rfl rfl rfl (cn h hP (fun z=>by rw [hm] at z;cases z) fun _=>⟨rfl,?_⟩);walk_at "X";refine pw rfl rfl ⟨by decide +kernel,by decide +kernel,OW rfl⟩ rfl ?_;rcases hc with ⟨hw,hR⟩ | ⟨hw,s,p,e,l,dc,hc⟩ | ⟨rfl,s,p,e,l,hc⟩ | ⟨rfl,s,p,e,hc⟩ | ⟨rfl,⟨q,e⟩,m,hm,hC⟩ | ⟨rfl,⟨q,e⟩,n,rfl,hC⟩ | ⟨hw,⟨q,e⟩,n,m,rfl,hmL,hC⟩ | ⟨hw,⟨q,e⟩,n,rfl,hC⟩
 ·obtain ⟨f1,f2,f3,f4,f5,f6,f7⟩:=J6 hw;walk_at "t5";walk_at "ti";walk_at "x";exact ⟨_,_,_,rfl,rfl,hR⟩
 ·obtain ⟨f1,f2,f3,f4,f5,f6,f7⟩:=Jf hw;walk_at "ti";walk_at "x";refine aj (is:=[0]) rfl rfl rfl (kW e l dc hP (fun z=>?_) fun z=>⟨rfl,?_⟩)
  ·obtain ⟨_,ep⟩ | ⟨z2,_⟩:=hc
   ·exact ep
   ·rw [z2] at z;cases z
  ·walk_at "x";obtain ⟨z2,_⟩ | ⟨_,hR⟩:=hc
   ·rw [z2] at z;cases z
   ·exact ⟨_,_,_,rfl,rfl,hR⟩
 ·walk_at "y";refine aj (is:=[0]) rfl rfl rfl (o3 e l hP (fun z=>?_) fun z=>⟨rfl,?_⟩)
  ·obtain ⟨_,ep⟩ | ⟨z2,_⟩:=hc
   ·exact ep
   ·rw [z2] at z;cases z
  ·walk_at "y";obtain ⟨z2,_⟩ | ⟨_,hR⟩:=hc
   ·rw [z2] at z;cases z
   ·exact ⟨_,_,_,rfl,rfl,hR⟩
 ·walk_at "y";refine aj (is:=[0]) rfl rfl rfl (fG e hP (fun z=>?_) fun z=>⟨rfl,?_⟩)
  ·obtain ⟨_,ep⟩ | ⟨z2,_⟩:=hc
   ·exact ep
   ·rw [z2] at z;cases z
  ·walk_at "y";obtain ⟨z2,_⟩ | ⟨_,hR⟩:=hc
   ·rw [z2] at z;cases z
   ·exact ⟨_,_,_,rfl,rfl,hR⟩
 ·walk_at "y";refine aj (is:=[0]) rfl rfl rfl (cZ (wx (Q:=QR L R) hP e hC hm) ?_);rintro _ _ ⟨d,pl',fm',rfl,rfl,hR⟩;refine ⟨rfl,?_⟩;walk_at "y";exact ⟨_,_,_,rfl,rfl,hR⟩
 ·walk_at "y";refine aj (is:=[0]) rfl rfl rfl (cZ (GD (Q:=QR L R) hP e hC) ?_);rintro _ _ ⟨d,pl',fm',rfl,rfl,hR⟩;refine ⟨rfl,?_⟩;walk_at "y";exact ⟨_,_,_,rfl,rfl,hR⟩
 ·obtain ⟨f1,f2,f3,f4,f5,f6,f7⟩:=KP hw;walk_at "t5";walk_at "x";refine aj (is:=[0]) rfl rfl rfl (cZ (Dt (Q:=QR L R) hP e hC hmL) ?_);rintro _ _ ⟨d,pl',fm',rfl,rfl,hR⟩;refine ⟨rfl,?_⟩;walk_at "x";exact ⟨_,_,_,rfl,rfl,hR⟩
 ·obtain ⟨f1,f2,f3,f4,f5,f6,f7⟩:=J4 hw;walk_at "t5";walk_at "ti";walk_at "x";refine aj (is:=[0]) rfl rfl rfl (cZ (Ci (Q:=QR L R) hP e hC) ?_);rintro _ _ ⟨d,pl',fm',rfl,rfl,hR⟩;refine ⟨rfl,?_⟩;walk_at "x";exact ⟨_,_,_,rfl,rfl,hR⟩
def Sm (L:List Qq) (pl:Nat) (TK:List Str):Prop:=∀ j t,TK[j]?=some t->∃ p:Int,Tok L (pl+j) t p
theorem Sm.hd {L:List Qq} (h:Sm L pl (t :: TK)):∃ p,Tok L pl t p:=h 0 t rfl
theorem Sm.pre {L:List Qq} {A B:List Str} (h:Sm L pl (A++B)):Sm L pl A:=fun j t e=>h j t (by rw [Oq (N9.mp e).1];exact e)
theorem Sm.skip {L:List Qq} {A B:List Str} (h:Sm L pl (A++B)):Sm L (pl+A.length) B:=fun j t e=>by
 obtain ⟨p,z⟩:=h (A.length+j) t (by rw [Oa (by omega),Nat.add_sub_cancel_left];exact e);exact ⟨p,by rw [<- Pd] at z;exact z⟩
theorem Sm.tl {L:List Qq} (h:Sm L pl (t :: TK)):Sm L (pl+1) TK:=Sm.skip (A:=[t]) h
noncomputable def aH (f:Bool):List (List Str)->List Str
 | []=>[]
 | l :: ls=>(if f then [] else [kM])++(l++aH false ls)
def jW (P:Qq->List Str->Nat->Prop):List Qq->List (List Str)->Nat->Prop
 | [],[],k=>k=0
 | u :: us,T :: Ts,k=>∃ j m,P u T j/\jW P us Ts m/\k=j+m
 | _,_,_=>False
def Bnd (bs:List Str):Prop:=(∀ b∈bs,Sh b)/\bs.Nodup/\bs.length<=8
abbrev ones (bs:List Str):List (List Str):=bs.map fun b=>[b]
def Ew (lo:Int):Option Int->Prop
 | none=>True
 | some h=>lo<=h/\h<=60
def hiT:Option Int->Str
 | none => "*"
 | some h=>aw h
noncomputable def stT (up:Bool) (s:Str):List Str:=if up then ["^", s] else [s]
noncomputable def stS (up:Bool) (s:Str):Str:=if up then ("^" : Str)++s else s
def Fr:Nat->Bool->Qq->List Str->Nat->Prop
 | 0,_,_,_,_=>False
 | n+1,fr,d,TK,k =>
   (k=1/\∃ w,Lf w/\d=.tuple [.str w]/\TK=[w])
  \/ (k=1/\∃ (w:Str) (i:Int),(w = "from" \/ w = "upto")/\i.natAbs < 10 ^ 30/\d=.tuple [.str w,.int i]/\TK=[w,aw i])
  \/ (k=1/\∃ x T,lJ x T/\d=.tuple [.str "is", x]/\TK=[("is" : Str),T])
  \/ (k=1/\∃ s,Sh s/\d=.tuple [.str "keeps", .str s]/\TK=[("keeps" : Str),s])
  \/ (k=1/\fr=true/\∃ bs:List Str,Bnd bs/\d=.tuple [.str "closed", .tuple ((j7 bs).map .str)]/\TK=[("closed" : Str),kO]++(aH true (ones bs)++[kC]))
  \/ (∃ u T j,Fr n fr u T j/\k=j+1/\d=.tuple [.str "not", u]/\TK=[("not" : Str),kO]++(T++[kC]))
  \/ (∃ w us Ts j,Lst w/\jW (Fr n fr) us Ts j/\us.length<=6/\k=j+1/\d=.tuple [.str w,.tuple us]/\TK=[w,kO]++(aH true Ts++[kC]))
  \/ (fr=true/\∃ (w:Str) (lo:Int) (hi:Option Int) (up:Bool) (s:Str) (u:Qq) (T:List Str) (j:Nat),Wlk w/\0<=lo/\lo<=60/\Ew lo hi/\Sh s/\Fr n false u T j/\k=j+1/\d=.tuple [.str w,.int lo,hiD hi,.str (stS up s),u]/\TK=[w,kO,aw lo,kM,hiT hi,kM]++(stT up s++(kM :: (T++[kC]))))
theorem oq (h:Fr n fr d TK k):1<=k/\1<=n:=by
 cases n with
 | zero=>exact h.elim
 | succ n =>
  refine ⟨?_,by omega⟩;rcases h with ⟨rfl,_⟩ | ⟨rfl,_⟩ | ⟨rfl,_⟩ | ⟨rfl,_⟩ | ⟨rfl,_⟩ | ⟨_,_,_,_,rfl,_⟩ | ⟨_,_,_,_,_,_,_,rfl,_⟩ | ⟨_,_,_,_,_,_,_,_,_,_,_,_,_,_,_,rfl,_⟩ <;> omega
theorem mD (h:Fr n fr d TK k):∃ w T,TK=w :: T/\w≠kC:=by
 cases n with
 | zero=>exact h.elim
 | succ n =>
  rcases h with ⟨_,w,(rfl | rfl | rfl | rfl),_,rfl⟩ | ⟨_,w,_,(rfl | rfl),_,_,rfl⟩ | ⟨_,_,_,_,_,rfl⟩ | ⟨_,_,_,_,rfl⟩ | ⟨_,_,_,_,_,rfl⟩ | ⟨_,_,_,_,_,_,rfl⟩ | ⟨w,_,_,_,(rfl | rfl | rfl | rfl),_,_,_,_,rfl⟩ | ⟨_,w,_,_,_,_,_,_,_,(rfl | rfl),_,_,_,_,_,_,_,rfl⟩ <;> exact ⟨_,_,rfl,by decide +kernel⟩
theorem Cy {T:Str} (h:lJ d T):bh T=d/\b8 d=false:=by
 rcases h with ⟨x,rfl,h,rfl⟩ | ⟨i,rfl,h,rfl⟩ | ⟨x,rfl,h,rfl⟩
 ·exact ⟨oj (sx h).1,rfl⟩
 ·exact ⟨dq h,rfl⟩
 ·have e:(("'" : Str)++x).cps.toList=39 :: x.cps.toList:=by rw [bF];rfl
  refine ⟨?_,rfl⟩;rw [kn e,Og];refine ⟨by rw [ax];exact h.2,O8.mpr fun c hc=>?_⟩;have:=h.1 c hc;unfold chB;rw [Oe this.1,Oe this.2];rfl
theorem qZ {i:Int}:aw i≠("*" : Str):=fun z=>by
 have z:=congrArg (fun x:Str=>x.cps.toList) z;have z:(aw i).cps.toList=[42]:=z;obtain ⟨c,r,ec,c0,c1⟩:=gz i.natAbs;rw [pv,ec] at z;split at z
 ·cases z
 ·injection z with z _;omega
theorem Hr (h:Sh s) (ht:t=⟨#[c]⟩) (hc:c < 97):s≠t:=fun z=>by
 have:=h.1 c (by rw [z,ht];exact Oz.mpr rfl);omega
theorem df {i:Int} (h0:0<=i) (h1:i<=60):i.natAbs < 10 ^ 30:=Nat.lt_of_le_of_lt (show i.natAbs<=60 by omega) (by decide)
theorem lR (j:Nat) (e1:b8 (kgD a8 w)=false) (e2:(wk&&(isW w||PyData.eqv (.str w) (.str "closed")))=false) (e3:inn w=j) (h1:fm+1+j<=40) (h2:dep+j<=8):iU w fm dep wk=true:=by
 unfold iU;rw [e1,e2,e3,Oe h1,Oe h2];rfl
theorem Iu (h:40 < fm+1+inn w\/8 < dep+inn w):iU w fm dep wk=false:=by
 unfold iU;rcases h with h | h
 ·rw [Ob (by omega:¬fm+1+inn w<=40)];simp
 ·rw [Ob (by omega:¬dep+inn w<=8)];simp
section
variable {L:List Qq} {P:Option Int}
theorem qK {Q0:List Str->Nat->Prop} {m:Nat}:∀ (b2:List Str) {b1:List Str} {pl:Nat},Sm L pl (aH b1.isEmpty (ones b2))->Bnd (b1++b2)->ClS L P Q0 m (b1++b2) (pl+(aH b1.isEmpty (ones b2)).length)->ClS L P Q0 (m+b2.length) b1 pl
 | [],b1,pl,_,_,h=>by rw [OC] at h;exact h
 | c :: cs,b1,pl,hs,hb,h=>by
  have hb':Bnd ((b1++[c])++cs):=by rw [OE];exact hb
  have hc:Sh c:=hb.1 c (by simp);have hl:=hb.2.2;rw [N5,Oc] at hl;have ex:(b1++[c]).isEmpty=false:=by cases b1 <;> rfl
  have go:∀ pl2,Sm L pl2 ([c]++aH false (ones cs))->pl2+1+(aH false (ones cs)).length=pl+(aH b1.isEmpty (ones (c :: cs))).length->ClS L P Q0 (m+cs.length) (b1++[c]) (pl2+1):=fun pl2 h1 h2=>by
   refine qK cs (by rw [ex];exact h1.skip) hb' ?_;rw [ex,h2,OE];exact h
  have nin:c ∉ b1:=fun z=>(Qe.mp hb.2.1).2.2 c z c Od rfl;have ck:c≠kC:=Hr hc (c:=41) (by decide +kernel) (by decide);cases b1 with
  | nil =>
   have hs:Sm L pl ([c]++aH false (ones cs)):=hs;obtain ⟨p,e⟩:=Sm.hd hs;refine ⟨c,p,e,.inr (.inr ⟨ck,pl,c,p,.inl ⟨rfl,rfl⟩,e,.inl ⟨(sx hc).1,nin,go pl hs ?_⟩⟩)⟩;show _=pl+([c]++aH false (ones cs)).length;rw [N5,Ow];omega
  | cons b0 bs0 =>
   have hs:Sm L pl ([kM]++([c]++aH false (ones cs))):=hs;obtain ⟨p,e⟩:=Sm.hd hs;obtain ⟨p2,e2⟩:=Sm.hd (Sm.skip hs);refine ⟨kM,p,e,.inr (.inr ⟨by decide +kernel,pl+1,c,p2,.inr ⟨O3 _ _,rfl,rfl,by omega⟩,e2,.inl ⟨(sx hc).1,nin,go (pl+1) (Sm.skip hs) ?_⟩⟩)⟩;show _=pl+([kM]++([c]++aH false (ones cs))).length;rw [N5,N5,Ow,Ow];omega
end
def FrN (n:Nat):Prop:=∀ {fr:Bool} {d:Qq} {TK:List Str} {k pl fm dep:Nat} {L:List Qq} {P:Option Int} {R:Qq->Nat->Nat->Prop},Pay P->Fr n fr d TK k->Sm L pl TK->fm+k<=40->dep+n<=9->R d (pl+TK.length) (fm+k)->RP n L P pl fm dep (!fr) R
theorem pW (ih:FrN n) {L:List Qq} (hP:Pay P) {Q0:List Qq->Nat->Nat->Prop} {m:Nat} (hd:dep+1+n<=9):∀ {us:List Qq} {Ts:List (List Str)} {k:Nat} {u0:List Qq} {pl fm:Nat},jW (Fr n fr) us Ts k->Sm L pl (aH u0.isEmpty Ts)->u0.length+us.length<=6->fm+k<=40->LsS n L P dep (!fr) Q0 m (u0++us) (pl+(aH u0.isEmpty Ts).length) (fm+k)->LsS n L P dep (!fr) Q0 (m+us.length) u0 pl fm
 | [],[],k,u0,pl,fm,hA,_,_,_,h=>by
  obtain rfl:k=0:=hA;rw [OC] at h;exact h
 | u :: us,T :: Ts,k,u0,pl,fm,hA,hs,hl,hk,h=>by
  obtain ⟨j,k2,hu,hA2,rfl⟩:=hA;rw [Oc] at hl;have jp:=(oq hu).1;have ex:(u0++[u]).isEmpty=false:=by cases u0 <;> rfl
  have go:∀ pl2,Sm L pl2 (T++aH false Ts)->pl2+T.length+(aH false Ts).length=pl+(aH u0.isEmpty (T :: Ts)).length->RP n L P pl2 fm (dep+1) (!fr) fun d pl' fm'=>LsS n L P dep (!fr) Q0 (m+us.length) (u0++[d]) pl' fm':=fun pl2 h1 h2=>by
   refine ih hP hu h1.pre (by omega) hd ?_;refine pW ih hP hd hA2 (by rw [ex];exact h1.skip) (by rw [N5,Ow];omega) (by omega) ?_;rw [ex,h2,OE,show fm+j+k2=fm+(j+k2) by omega];exact h
  obtain ⟨w,T',eT,hw⟩:=mD hu;cases u0 with
  | nil =>
   have hs:Sm L pl (T++aH false Ts):=hs;have hs2:=hs;rw [eT] at hs2;obtain ⟨p,e⟩:=Sm.hd hs2;refine ⟨w,p,e,.inr (.inr ⟨hw,pl,.inl ⟨rfl,rfl⟩,go pl hs ?_⟩)⟩;show _=pl+(T++aH false Ts).length;rw [N5];omega
  | cons v0 vs0 =>
   have hs:Sm L pl ([kM]++(T++aH false Ts)):=hs;obtain ⟨p,e⟩:=Sm.hd hs;refine ⟨kM,p,e,.inr (.inr ⟨by decide +kernel,pl+1,.inr ⟨O3 _ _,rfl,rfl,by omega,by omega⟩,go (pl+1) (Sm.skip hs) ?_⟩)⟩;show _=pl+([kM]++(T++aH false Ts)).length;rw [N5,N5,Ow];omega
theorem nQ (x:Bool):(x&&false)=false:=by cases x <;> rfl
theorem GU {L:List Qq} (hs:Sh s) (h:Sm L pl (stT up s)):Mr L pl (stS up s) (pl+(stT up s).length):=by
 cases up with
 | false =>
  obtain ⟨p,e⟩:=Sm.hd h;exact .inl ⟨s,p,e,Hr hs (c:=94) (by decide +kernel) (by decide),(sx hs).1,rfl,rfl⟩
 | true =>
  obtain ⟨p,e⟩:=Sm.hd h;obtain ⟨p2,e2⟩:=Sm.hd (Sm.tl h);exact .inr ⟨s,p,p2,e,e2,by have:=hs.2.2;omega,(sx hs).1,rfl,rfl⟩
theorem Lk (h0:0<=lo) (h1:lo<=60) (hh:Ew lo hi):HiT (hiT hi) hi/\bB lo none=true/\bB lo hi=true:=by
 have e:bB lo none=true:=by simp [bB,h0,h1]
 cases hi with
 | none=>exact ⟨rfl,e,e⟩
 | some g =>
  obtain ⟨g0,g1⟩:=(show lo<=g/\g<=60 from hh);have sm:=df (i:=g) (by omega) g1;exact ⟨⟨qZ,dq sm,Oy (cG sm) (by decide)⟩,e,by simp [bB,h0,h1,g0,g1]⟩
theorem Eb:∀ n,FrN n
 | 0=>fun _ h=>False.elim h
 | n+1=>by
  rename_i fr d TK k pl fm dep L P R;intro hP h hs hk hd hR;have ih:FrN n:=Eb n;have kp:=(oq h).1;rcases h with ⟨rfl,w,hw,rfl,rfl⟩ | ⟨rfl,w,i,hw,hi,rfl,rfl⟩ | ⟨rfl,x,T,hx,rfl,rfl⟩ | ⟨rfl,s,hsh,rfl,rfl⟩ | ⟨rfl,rfl,bs,hb,rfl,rfl⟩ | ⟨u,T,j,hu,rfl,rfl,rfl⟩ | ⟨w,us,Ts,j,hw,hA,hl,rfl,rfl,rfl⟩ | ⟨rfl,w,lo,hi,up,s,u,T,j,hw,h0,h1,hh,hsh,hu,rfl,rfl,rfl⟩
  ·obtain ⟨p,e⟩:=hs.hd;refine b6 hP e (.inr ⟨lR 0 ?_ ?_ ?_ (by omega) (by omega),.inl ⟨hw,hR⟩⟩)
   all_goals rcases hw with rfl | rfl | rfl | rfl <;> first | rfl | exact nQ _
  ·obtain ⟨p,e⟩:=hs.hd;obtain ⟨p2,e2⟩:=hs.tl.hd;have en:=dq hi;refine b6 hP e (.inr ⟨lR 0 ?_ ?_ ?_ (by omega) (by omega),.inr (.inl ⟨hw,_,p2,e2,Oy (cG hi) (by decide),by rw [en];rfl,.inr ⟨by rw [en];rfl,by rw [en];exact hR⟩⟩)⟩)
   all_goals rcases hw with rfl | rfl <;> first | rfl | exact nQ _
  ·obtain ⟨p,e⟩:=hs.hd;obtain ⟨p2,e2⟩:=hs.tl.hd;obtain ⟨en,nn⟩:=Cy hx;exact b6 hP e (.inr ⟨lR 0 rfl (nQ _) rfl (by omega) (by omega),.inr (.inr (.inl ⟨rfl,_,p2,e2,Oy (k8 hx) (by decide),.inr ⟨by rw [en];exact nn,by rw [en];exact hR⟩⟩))⟩)
  ·obtain ⟨p,e⟩:=hs.hd;obtain ⟨p2,e2⟩:=hs.tl.hd;exact b6 hP e (.inr ⟨lR 0 rfl (nQ _) rfl (by omega) (by omega),.inr (.inr (.inr (.inl ⟨rfl,_,p2,e2,.inr ⟨(sx hsh).1,hR⟩⟩)))⟩)
  ·obtain ⟨p,e⟩:=hs.hd;obtain ⟨p2,e2⟩:=hs.tl.hd;have h3:Sm L (pl+2) (aH true (ones bs)++[kC]):=hs.skip;obtain ⟨p4,e4⟩:=Sm.hd h3.skip;refine b6 hP e (.inr ⟨lR 0 rfl rfl rfl (by omega) (by omega),.inr (.inr (.inr (.inr (.inl ⟨rfl,⟨p2,e2⟩,bs.length,by have:=hb.2.2;omega,?_⟩))))⟩);rw [PX bs.length 1];refine qK bs (b1:=[]) h3.pre hb ⟨kC,p4,e4,.inl ⟨rfl,by have:=hb.2.2;show bs.length<=60;omega,_,_,_,rfl,rfl,?_⟩⟩;have el:pl+([("closed" : Str),kO]++(aH true (ones bs)++[kC])).length=pl+2+(aH true (ones bs)).length+1:=by
    simp only [N5,Oc,OP];omega
   rw [el] at hR;exact hR
  ·obtain ⟨p,e⟩:=hs.hd;obtain ⟨p2,e2⟩:=hs.tl.hd;have h3:Sm L (pl+2) (T++[kC]):=hs.skip;have g:=oq hu;have el:pl+([("not" : Str),kO]++(T++[kC])).length=pl+2+T.length+1:=by
    simp only [N5,Oc,OP];omega
   rw [el] at hR;refine b6 hP e (.inr ⟨lR 1 rfl (nQ _) rfl (by omega) (by omega),.inr (.inr (.inr (.inr (.inr (.inl ⟨rfl,⟨p2,e2⟩,n,rfl,ih hP hu h3.pre (by omega) (by omega) ⟨Sm.hd h3.skip,_,_,_,rfl,rfl,?_⟩⟩)))))⟩);rw [show fm+1+j=fm+(j+1) by omega];exact hR
  ·obtain ⟨p,e⟩:=hs.hd;obtain ⟨p2,e2⟩:=hs.tl.hd;have h3:Sm L (pl+2) (aH true Ts++[kC]):=hs.skip;obtain ⟨p4,e4⟩:=Sm.hd h3.skip;have el:pl+([w,kO]++(aH true Ts++[kC])).length=pl+2+(aH true Ts).length+1:=by
    simp only [N5,Oc,OP];omega
   rw [el] at hR;refine b6 hP e (.inr ⟨lR 0 ?_ ?_ ?_ (by omega) (by omega),.inr (.inr (.inr (.inr (.inr (.inr (.inl ⟨hw,⟨p2,e2⟩,n,us.length,rfl,by omega,?_⟩))))))⟩)
   iterate 3 rcases hw with rfl | rfl | rfl | rfl <;> first | rfl | exact nQ _
   rw [PX us.length 1];refine pW ih hP (u0:=[]) (by omega) hA h3.pre (by show 0+_<=6;omega) (by omega) ⟨kC,p4,e4,.inl ⟨rfl,_,_,_,rfl,rfl,?_⟩⟩;rw [show fm+1+j=fm+(j+1) by omega];exact hR
  ·obtain ⟨p,e⟩:=hs.hd;obtain ⟨p2,e2⟩:=hs.tl.hd;have g:=oq hu;have h3:Sm L (pl+2) ([aw lo]++([kM]++([hiT hi]++([kM]++(stT up s++([kM]++(T++[kC]))))))):=hs.skip (A:=[w,kO]);obtain ⟨p3,e3⟩:=Sm.hd h3;have h4:=h3.skip;obtain ⟨p5,e5⟩:=Sm.hd h4.skip;have h6:=h4.skip.skip.skip;have h7:=h6.skip;have h8:=h7.skip;obtain ⟨t1,b1,b2⟩:=Lk h0 h1 hh;have sm:=df h0 h1;have el:pl+([w,kO,aw lo,kM,hiT hi,kM]++(stT up s++(kM :: (T++[kC])))).length=pl+2+4+(stT up s).length+1+T.length+1:=by
    simp only [N5,Oc,OP];omega
   rw [el] at hR;refine b6 hP e (.inr ⟨lR 1 ?_ ?_ ?_ (by omega) (by omega),.inr (.inr (.inr (.inr (.inr (.inr (.inr ⟨hw,⟨p2,e2⟩,n,rfl,aw lo,p3,lo,e3,Oy (cG sm) (by decide),dq sm,.inr ⟨b1,Sm.hd h4,_,p5,hi,e5,t1,.inr ⟨b2,Sm.hd h4.skip.skip,.inr ⟨stS up s,_,GU hsh h6.pre,Sm.hd h7,?_⟩⟩⟩⟩))))))⟩)
   iterate 3 rcases hw with rfl | rfl <;> rfl
   refine ih (fr:=false) hP hu h8.pre (by omega) (by omega) ⟨Sm.hd h8.skip,_,_,_,rfl,rfl,?_⟩;rw [show fm+1+j=fm+(j+1) by omega];exact hR
noncomputable def tkS (ts:List (List Nat)):List Str:=(ts.filter fun t=>decide (t≠[32])).map fun t=>⟨t.toArray⟩
noncomputable def plc:Nat->List (List Nat)->List Nat
 | _,[]=>[]
 | a,t :: ts=>(if t=[32] then [] else [a])++plc (a+t.length) ts
noncomputable def mkT (s:Str) (p:Nat):Qq:=.tuple [.str s,.int (p:Int)]
theorem jh:∀ (ts:List (List Nat)) (a:Nat),toks a ts=List.zipWith mkT (tkS ts) (plc a ts)/\(plc a ts).length=(tkS ts).length
 | [],_=>⟨rfl,rfl⟩
 | t :: ts,a=>by
  obtain ⟨ih,il⟩:=jh ts (a+t.length);show ((if t=[32] then [] else [PyData.tuple [.str ⟨t.toArray⟩,.int (a:Int)]])++toks (a+t.length) ts)=List.zipWith mkT ((List.filter (fun t=>decide (t≠[32])) (t :: ts)).map fun t=>(⟨t.toArray⟩:Str)) ((if t=[32] then [] else [a])++plc (a+t.length) ts)/\((if t=[32] then [] else [a])++plc (a+t.length) ts).length=((List.filter (fun t=>decide (t≠[32])) (t :: ts)).map fun t=>(⟨t.toArray⟩:Str)).length;by_cases h:t=[32]
  ·rw [Og h,Og h,List.filter_cons_of_neg (by simp [h]),O0,O0];exact ⟨ih,il⟩
  ·rw [Ot h,Ot h,List.filter_cons_of_pos (by simp [h]),List.map_cons,N5,Oc,ih];refine ⟨rfl,?_⟩;rw [il];show 1+_=_;rw [PX];rfl
abbrev tkL (Z:Str) (ts:List (List Nat)):List Qq:=toks 0 ts++[.tuple [.str "", .int (Z.length:Int)]]
theorem vG {p:Nat} (h1:(tkS ts++[Str.ofString ""])[j]?=some s) (h2:(plc 0 ts++[Z.length])[j]?=some p):(tkL Z ts)[j]?=some (.tuple [.str s,.int (p:Int)]):=by
 obtain ⟨e,l⟩:=jh ts 0;have ll:(List.zipWith mkT (tkS ts) (plc 0 ts)).length=(tkS ts).length:=by rw [List.length_zipWith,l,Nat.min_self]
 unfold tkL;rw [e];by_cases hj:j < (tkS ts).length
 ·rw [Oq hj] at h1;rw [Oq (by rw [l];exact hj)] at h2;rw [Oq (by rw [ll];exact hj),List.getElem?_zipWith,h1,h2];rfl
 ·rw [Oa (by omega)] at h1;rw [Oa (by omega)] at h2;rw [Oa (by omega),ll];rw [l] at h2;cases q:j - (tkS ts).length with
  | zero =>
   rw [q] at h1 h2;cases h1;cases h2;rfl
  | succ m=>rw [q] at h1;cases h1
theorem uY {p:Nat} (h:p<=99000):fJ (.int (p:Int))=true:=by
 have h1:((p:Int)).natAbs < 10 ^ 30:=Nat.lt_of_le_of_lt (show ((p:Int)).natAbs<=99000 by omega) (by decide);show decide (((p:Int)).natAbs.log2 < 1920/\(aw (p:Int)).length<=1000)=true;refine Oe ⟨?_,by have:=cG h1;omega⟩;have:=Nat.log2_lt (n:=((p:Int)).natAbs) (k:=1920);by_cases z:((p:Int)).natAbs=0
 ·rw [z];decide
 ·exact (this z).mpr (Ov h1 (by decide +kernel))
theorem BJ {p:Nat} (h1:(tkS ts)[j]?=some s) (h2:(plc 0 ts)[j]?=some p):Tok (tkL Z ts) j s p:=by
 have l:=(jh ts 0).2;have l1:=(N9.mp h1).1;exact vG (by rw [Oq l1];exact h1) (by rw [Oq (by rw [l];exact l1)];exact h2)
theorem Bo:Sm (tkL Z ts) 0 (tkS ts):=fun j t e=>by
 have lj:=(N9.mp e).1;exact ⟨_,by rw [Qj];exact BJ e (Oi (by rw [(jh ts 0).2];exact lj))⟩
theorem ql (hz:Z.length<=99000) (h:Pcs ts) (hZ:Z.cps.toList=ts.flatten) (q:Q (.dat .none) [rdr (tkL Z ts) 0 0]):WF gq [.dict [],.str Z] Q:=by
 refine dY rfl ?_;unfold m4;walk_at "pr";refine ae (is:=[]) rfl rfl (m3 hz h hZ ⟨rfl,?_⟩);walk_at "pr";refine pw rfl rfl ⟨by decide +kernel,by decide +kernel,OW rfl⟩ rfl ?_;walk_at "pr";refine pw rfl rfl ⟨by decide +kernel,by decide +kernel,OW rfl⟩ rfl ?_;walk_at "pr";refine pw rfl rfl ⟨by decide +kernel,by decide +kernel,OW rfl⟩ rfl ?_;walk_at "pr";exact q
theorem K8 {ms:List PM} {Q:RV->En->Prop} (hm:f.ms=.ino :: ms) (h1:aK e avs=some ds) (h3:CW ms ds=true) (h:WF f (.dict [] :: ds) fun pr outs=>∃ d',pr=.dat .none/\outs=[d']/\Q (.frs d') e):WPr (ID f) avs e Q:=by
 obtain ⟨pr,outs,hF,d',rfl,rfl,q⟩:=h;refine ⟨ds,.frs d',h1,?_,q⟩;show (match f.ms with | .ino :: ms=>if CW ms ds=true then (match f.F (.dict [] :: ds) with | some (.dat .none,[d])=>some (PR.frs d) | _=>none) else none | _=>none)=_;rw [hm];show (if CW ms ds=true then (match f.F (.dict [] :: ds) with | some (.dat .none,[d])=>some (PR.frs d) | _=>none) else none)=_;rw [Og h3,hF]
theorem BV (hP:Pay P) (hz:Z.length<=99000) (h:Pcs ts) (hZ:Z.cps.toList=ts.flatten) (hf:RP 8 (tkL Z ts) P 0 0 1 false fun d pl fm=>(∃ p,Tok (tkL Z ts) pl "" p)/\Q (.dat d) []):WU ar [.str Z] Q P:=by
 refine pf rfl ?_;unfold iL;walk_at "y";refine K8 rfl rfl rfl (ql hz h hZ ⟨_,rfl,rfl,?_⟩);walk_at "y";refine aj (is:=[1]) rfl rfl rfl (cZ hf ?_);rintro _ _ ⟨d,pl',fm',rfl,rfl,⟨p,e⟩,q⟩;refine ⟨rfl,?_⟩;walk_at "xn";walk_at "y";refine aj (is:=[1]) rfl rfl rfl (dG e hP (fun z=>absurd rfl z) fun _=>⟨rfl,?_⟩);walk_at "xn";walk_at "y";exact q
theorem DC (h:(tkS ts).length=n):Tok (tkL Z ts) n "" (Z.length:Int):=by
 subst h;have l:=(jh ts 0).2;exact vG (by rw [Oa (by omega),PV];rfl) (by rw [Oa (by omega),l,PV];rfl)
section
variable {Z:Str} {ts:List (List Nat)} {d:Qq} {k:Nat} {p:Int} {Q:PR->List Qq->Prop}
theorem rO (hz:Z.length<=99000) (h:Pcs ts) (hZ:Z.cps.toList=ts.flatten) (hf:Fr 8 true d (tkS ts) k) (hk:k<=40) (q:Q (.dat d) []):WF ar [.str Z] Q:=by
 rcases BV (P:=none) (fun _ e=>by cases e) hz h hZ (Eb 8 (fr:=true) (fun _ e=>by cases e) hf Bo (by omega) (by decide) ⟨⟨_,DC (by rw [Qj])⟩,q⟩) with h | ⟨_,e,_⟩
 ·exact h
 ·cases e
theorem tj (h:WF ar [.str Z] fun _ outs=>outs=[]) (q:Q (.dat .none) []):WF cm [.str Z] Q:=by
 refine dY rfl ?_;unfold gy;walk_at "pr";obtain ⟨pr,outs,e,rfl⟩:=h;refine ⟨_,.dat .none,rfl,?_,?_⟩
 ·show (match ar.F [.str Z] with | some (_,[])=>some (PR.dat .none) | some _=>none | none=>(ar.X [.str Z]).map fun p=>PR.dat (.int p))=_;rw [e]
 walk_at "pr";exact q
theorem tG {p:Int} (h:WU ar [.str Z] (fun _ _=>False) (some p)) (q:Q (.dat (.int p)) []):WF cm [.str Z] Q:=by
 refine dY rfl ?_;unfold gy;walk_at "pr";rcases h with ⟨_,_,_,e⟩ | ⟨p',ep,e1,e2⟩
 ·exact e.elim
 cases ep;refine ⟨_,.dat (.int p),rfl,?_,?_⟩
 ·show (match ar.F [.str Z] with | some (_,[])=>some (PR.dat .none) | some _=>none | none=>(ar.X [.str Z]).map fun p=>PR.dat (.int p))=_;rw [e1,e2];rfl
 walk_at "pr";exact q
end
def Tk (t:List Nat):Prop:=t.length<=61/\∃ c r,t=c :: r/\((chB c=true/\∀ x∈r,chB x=true)\/(c=39/\∀ x∈r,chB x=true)\/((c=45\/cL c=true)/\(∀ x∈r,cL x=true))\/(chB c=false/\c≠39/\c≠45/\cL c=false/\c≠32/\r=[]))
def jV (l f:Nat):Bool:=((chB l||decide (l=39))&&chB f)||((cL l||decide (l=45))&&cL f)
theorem pQ {p:Nat->Bool} (hc:p c=true) (hr:∀ x∈r,p x=true):p ((c :: r).getLast (by simp))=true:=by
 rcases Oo.mp (List.getLast_mem (l:=c :: r) (by simp)) with h | h
 ·rw [h];exact hc
 ·exact hr _ h
theorem qW {t:List Nat} (h:Tk t) (hn:∀ f R,L=f :: R->jV (t.getLast?.getD 0) f=false):Br t L:=by
 obtain ⟨_,c,r,rfl,h⟩:=h;have el:(c :: r).getLast?.getD 0=(c :: r).getLast (by simp):=by rw [List.getLast?_eq_some_getLast (by simp)];rfl
 rw [el] at hn;refine ⟨c,r,rfl,?_⟩;rcases h with ⟨h1,h2⟩ | ⟨h1,h2⟩ | ⟨h1,h2⟩ | h
 ·refine .inl ⟨h1,h2,fun f R e=>?_⟩;have l:=pQ (p:=chB) h1 h2;have g:=hn f R e;unfold jV at g;rw [l] at g;cases z:chB f with
  | false=>rfl
  | true=>rw [z] at g;simp at g
 ·refine .inr (.inl ⟨h1,h2,fun f R e=>?_⟩);have l:=pQ (p:=fun x=>chB x||decide (x=39)) (c:=c) (r:=r) (by rw [h1];rfl) (fun x hx=>by rw [h2 x hx];rfl);have g:=hn f R e;unfold jV at g;have l:(chB ((c :: r).getLast (by simp))||decide ((c :: r).getLast (by simp)=39))=true:=l;rw [l] at g;cases z:chB f with
  | false=>rfl
  | true=>rw [z] at g;simp at g
 ·refine .inr (.inr (.inl ⟨h1,h2,fun f R e=>?_⟩));have l:=pQ (p:=fun x=>cL x||decide (x=45)) (c:=c) (r:=r) (by rcases h1 with h | h <;> rw [h] <;> rfl) (fun x hx=>by rw [h2 x hx];rfl);have g:=hn f R e;unfold jV at g;have l:(cL ((c :: r).getLast (by simp))||decide ((c :: r).getLast (by simp)=45))=true:=l;rw [l] at g;cases z:cL f with
  | false=>rfl
  | true=>rw [z] at g;simp at g
 ·exact .inr (.inr (.inr ⟨h.1,h.2.1,h.2.2.1,h.2.2.2.1,h.2.2.2.2.2⟩))
theorem BO:Br [32] L:=⟨32,[],rfl,.inr (.inr (.inr ⟨by decide,by decide,by decide,by decide,rfl⟩))⟩
theorem jk (h:Sh s):Tk s.cps.toList:=by
 refine ⟨by rw [ax];have:=h.2.2;omega,?_⟩;cases e:s.cps.toList with
 | nil=>have:=ax s;rw [e,OP] at this;have:=h.2.1;omega
 | cons c r =>
  have hl:∀ x∈s.cps.toList,chB x=true:=fun x hx=>by
   have:=h.1 x hx;unfold chB;rw [Oe this.1,Oe this.2];rfl
  rw [e] at hl;exact ⟨c,r,rfl,.inl ⟨hl c Od,fun x hx=>hl x (N8 _ hx)⟩⟩
theorem g8 {i:Int} (hi:i.natAbs < 10 ^ 30):Tk (aw i).cps.toList:=by
 refine ⟨by rw [ax];exact cG hi,?_⟩;obtain ⟨c,r,ec,c0,c1⟩:=gz i.natAbs;have hd:∀ x∈codes i.natAbs,cL x=true:=fun x hx=>by
  have:=jf _ x hx;unfold cL;rw [Oe this.1,Oe this.2];rfl
 rw [pv];rw [ec] at hd ⊢;split
 ·exact ⟨45,c :: r,rfl,.inr (.inr (.inl ⟨.inl rfl,hd⟩))⟩
 ·exact ⟨c,r,rfl,.inr (.inr (.inl ⟨.inr (hd c Od),fun x hx=>hd x (N8 _ hx)⟩))⟩
theorem uT {T:Str} (h:lJ d T):Tk T.cps.toList:=by
 have hl:=k8 h;rcases h with ⟨x,rfl,h,rfl⟩ | ⟨i,rfl,h,rfl⟩ | ⟨x,rfl,h,rfl⟩
 ·exact jk h
 ·exact g8 h
 ·have e:(("'" : Str)++x).cps.toList=39 :: x.cps.toList:=by rw [bF];rfl
  refine ⟨by rw [ax];exact hl,?_⟩;rw [e];refine ⟨39,_,rfl,.inr (.inl ⟨rfl,fun c hc=>?_⟩)⟩;have:=h.1 c hc;unfold chB;rw [Oe this.1,Oe this.2];rfl
theorem uC (h:s=kO\/s=kC\/s=kM\/s=("*" : Str)\/s=("^" : Str)):Tk s.cps.toList:=by
 rcases h with rfl | rfl | rfl | rfl | rfl <;> exact ⟨by decide,_,_,rfl,.inr (.inr (.inr ⟨by decide,by decide,by decide,by decide,by decide,rfl⟩))⟩
def TkA (TK:List Str):Prop:=∀ t∈TK,Tk t.cps.toList
theorem cp {A B:List Str} (a:TkA A) (b:TkA B):TkA (A++B):=fun t h=>(Po.mp h).elim (a t) (b t)
theorem au {A:List Str} (h:Tk t.cps.toList) (a:TkA A):TkA (t :: A):=fun x hx=>by
 rcases Oo.mp hx with rfl | hx
 ·exact h
 ·exact a x hx
theorem aS:TkA []:=fun t h=>by cases h
theorem IH:Tk kO.cps.toList:=uC (.inl rfl)
theorem Fb:Tk kC.cps.toList:=uC (.inr (.inl rfl))
theorem BP:Tk kM.cps.toList:=uC (.inr (.inr (.inl rfl)))
theorem qp:∀ {Ts:List (List Str)} {f:Bool},(∀ T∈Ts,TkA T)->TkA (aH f Ts)
 | [],_,_=>aS
 | T :: Ts,f,h=>by
  refine cp ?_ (cp (h T Od) (qp fun S hS=>h S (N8 _ hS)));split
  ·exact aS
  ·exact au BP aS
theorem bS (h:w = "any" \/ w = "thing" \/ w = "number" \/ w = "said" \/ w = "all" \/ w = "some" \/ w = "one" \/ w = "none" \/ w = "many" \/ w = "each" \/ w = "from" \/ w = "upto" \/ w = "is" \/ w = "keeps" \/ w = "not" \/ w = "closed"):Tk w.cps.toList:=by
 rcases h with rfl | rfl | rfl | rfl | rfl | rfl | rfl | rfl | rfl | rfl | rfl | rfl | rfl | rfl | rfl | rfl <;> exact ⟨by decide,_,_,rfl,.inl ⟨by decide,by decide⟩⟩
theorem Bf {P:Qq->List Str->Nat->Prop} (hP:∀ u T j,P u T j->TkA T):∀ {us:List Qq} {Ts:List (List Str)} {k:Nat},jW P us Ts k->∀ T∈Ts,TkA T
 | [],[],_,_=>fun S h=>by cases h
 | u :: us,T :: Ts,k,⟨j,_,hu,hA,_⟩=>fun w hw=>by
  rcases Oo.mp hw with rfl | hw
  ·exact hP _ _ _ hu
  ·exact Bf hP hA w hw
theorem Dl:∀ (n:Nat) (fr:Bool) (d:Qq) (TK:List Str) (k:Nat),Fr n fr d TK k->TkA TK
 | 0,_,_,_,_,h=>h.elim
 | n+1,fr,d,TK,k,h=>by
  have ih:=Dl n;rcases h with ⟨rfl,w,hw,rfl,rfl⟩ | ⟨rfl,w,i,hw,hi,rfl,rfl⟩ | ⟨rfl,x,T,hx,rfl,rfl⟩ | ⟨rfl,s,hs,rfl,rfl⟩ | ⟨rfl,rfl,bs,hB,rfl,rfl⟩ | ⟨u,T,j,hu,rfl,rfl,rfl⟩ | ⟨w,us,Ts,j,hw,hA,hl,rfl,rfl,rfl⟩ | ⟨rfl,w,lo,hi,up,s,u,T,j,hw,h0,h1,hh,hs,hu,rfl,rfl,rfl⟩
  ·exact au (bS (by rcases hw with h | h | h | h <;> simp [h])) aS
  ·exact au (bS (by rcases hw with h | h <;> simp [h])) (au (g8 hi) aS)
  ·exact au (bS (by simp)) (au (uT hx) aS)
  ·exact au (bS (by simp)) (au (jk hs) aS)
  ·refine cp (au (bS (by simp)) (au IH aS)) (cp (qp fun T hT=>?_) (au Fb aS));obtain ⟨b,hb',rfl⟩:=O1.mp hT;exact au (jk (hB.1 b hb')) aS
  ·exact cp (au (bS (by simp)) (au IH aS)) (cp (ih _ _ _ _ hu) (au Fb aS))
  ·exact cp (au (bS (by rcases hw with h | h | h | h <;> simp [h])) (au IH aS)) (cp (qp (Bf (fun u T j h=>ih _ _ _ _ h) hA)) (au Fb aS))
  ·refine cp (au (bS (by rcases hw with h | h <;> simp [h])) (au IH (au (g8 (df h0 h1)) (au BP (au ?_ (au BP aS)))))) (cp ?_ (au BP (cp (ih _ _ _ _ hu) (au Fb aS))))
   ·cases hi with
    | none=>exact uC (.inr (.inr (.inr (.inl rfl))))
    | some g=>exact g8 (df (Int.le_trans h0 hh.1) hh.2)
   ·cases up with
    | false=>exact au (jk hs) aS
    | true=>exact au (uC (.inr (.inr (.inr (.inr rfl))))) (au (jk hs) aS)
theorem mL (bs:List Str):∀ (f:Bool),(aH f (bs.map fun b=>[b])).length<=2*bs.length:=by
 induction bs with
 | nil=>intro f;exact Ol _
 | cons b bs ih =>
  intro f;have:=ih false;show ((if f then [] else [kM])++([b]++aH false (bs.map fun b=>[b]))).length<=_;rw [N5,N5,Ow,Oc];have:(if f then [] else [kM]).length<=1:=by split <;> simp
  omega
theorem jH {P:Qq->List Str->Nat->Prop} (hP:∀ u T j,P u T j->T.length+1<=24*j):∀ {us:List Qq} {Ts:List (List Str)} {k:Nat} (f:Bool),jW P us Ts k->(aH f Ts).length<=24*k
 | [],[],_,_,_=>Pg _
 | u :: us,T :: Ts,k,f,⟨j,m,hu,hA,e⟩=>by
  have h1:=hP _ _ _ hu;have h2:=jH hP false hA;show ((if f then [] else [kM])++(T++aH false Ts)).length<=_;rw [N5,N5];have:(if f then [] else [kM]).length<=1:=by split <;> simp
  omega
theorem g7:∀ (n:Nat) (fr:Bool) (d:Qq) (TK:List Str) (k:Nat),Fr n fr d TK k->TK.length+1<=24*k
 | 0,_,_,_,_,h=>h.elim
 | n+1,fr,d,TK,k,h=>by
  have ih:=g7 n;rcases h with ⟨rfl,w,hw,rfl,rfl⟩ | ⟨rfl,w,i,hw,hi,rfl,rfl⟩ | ⟨rfl,x,T,hx,rfl,rfl⟩ | ⟨rfl,s,hs,rfl,rfl⟩ | ⟨rfl,rfl,bs,hB,rfl,rfl⟩ | ⟨u,T,j,hu,rfl,rfl,rfl⟩ | ⟨w,us,Ts,j,hw,hA,hl,rfl,rfl,rfl⟩ | ⟨rfl,w,lo,hi,up,s,u,T,j,hw,h0,h1,hh,hs,hu,rfl,rfl,rfl⟩
  ·simp
  ·simp
  ·simp
  ·simp
  ·have:(aH true (ones bs)).length<=2*bs.length:=mL bs true;have:=hB.2.2;simp only [N5,Oc,OP];omega
  ·have:=ih _ _ _ _ hu;simp only [N5,Oc,OP];omega
  ·have:=jH (fun u T j h=>ih _ _ _ _ h) true hA;simp only [N5,Oc,OP];omega
  ·have:=ih _ _ _ _ hu;have:(stT up s).length<=2:=by cases up <;> simp [stT]
   simp only [N5,Oc,OP];omega
theorem okL (h:∀ d∈ds,noD d=true/\d.depth<=20):mV (.list ds)=true:=yF (by show fy ds=true;exact lg.mpr fun d hd=>(h d hd).1) (Oy (sr fun d hd=>(h d hd).2) (by decide))
theorem DK (ds:List Qq):PyData.eqv (.list ds) (.list [])=ds.isEmpty:=by cases ds <;> simp [PyData.eqv,PyData.eqvAll]
theorem Me {x y:AV} {Q:RV->En->Prop} (h1:aK e [x,y]=some [.list ds,.list []]) (h:∀ d∈ds,noD d=true/\d.depth<=20) (q:Q (.dat (.bool (!ds.isEmpty))) e):WPr neP [x,y] e Q:=KZ h1 (okL h) rfl (by rw [DK];exact q)
theorem vO:∀ (Ts:List (List Str)) (f:Bool) (i:Nat),(aH f (Ts.take i)).length<=(aH f Ts).length
 | [],f,i=>by simp
 | T :: Ts,f,0=>Pg _
 | T :: Ts,f,i+1=>by
  have:=vO Ts false i;show ((if f then [] else [kM])++(T++aH false (Ts.take i))).length<=((if f then [] else [kM])++(T++aH false Ts)).length;simp only [N5];omega
theorem fi:∀ (Ts:List (List Str)) (f:Bool) (T:List Str),aH f (Ts++[T])=aH f Ts++((if f&&Ts.isEmpty then [] else [kM])++T)
 | [],f,T=>by cases f <;> simp [aH]
 | S :: Ts,f,T=>by
  show (if f then [] else [kM])++(S++aH false (Ts++[T]))=((if f then [] else [kM])++(S++aH false Ts))++_;rw [fi Ts false T];simp
theorem CV (h:∀ T∈Ts,T≠[]):(aH true Ts).isEmpty=Ts.isEmpty:=by
 cases Ts with
 | nil=>rfl
 | cons T Ts =>
  have:=h T Od;show ([]++(T++aH false Ts)).isEmpty=false;cases T with
  | nil=>exact absurd rfl this
  | cons _ _=>rfl
theorem eG (hne:∀ T∈Ts,T≠[]) (hl:(aH true Ts).length<=100000) (q:Q (.frs (.list ((aH true Ts).map .str))) []):WF bX [.list (Ts.map fun T=>.list (T.map .str))] Q:=by
 refine dY rfl ?_;unfold nt;walk_at "P";refine EX rfl (eO (fun i e=>∃ x:Sl,soft x/\e=([.dat (.list (Ts.map fun T=>.list (T.map .str))),.own (.list ((aH true (Ts.take i)).map .str)),x]:En)) ⟨.un,gO,rfl⟩ ?_ ?_)
 ·rintro i d e hd ⟨x,hx,rfl⟩;rw [OA] at hd;obtain ⟨T,hT,rfl⟩:=OG.mp hd;refine Ag (i7 rfl hx) ?_;have e1:aH true (Ts.take (i+1))=aH true (Ts.take i)++((if true&&(Ts.take i).isEmpty then [] else [kM])++T):=by rw [<- take_snoc hT,fi]
  have l1:=vO Ts true (i+1);rw [e1,N5,N5] at l1;rw [e1,Pe] at *;have hE:((aH true (Ts.take i)).map PyData.str).isEmpty=(Ts.take i).isEmpty:=by
   rw [<- CV (Ts:=Ts.take i) fun S hS=>hne S (Pq hS)];cases aH true (Ts.take i) <;> rfl
  walk_at "P";refine Me rfl (fun d hd=>?_) ?_
  ·obtain ⟨z,_,rfl⟩:=O1.mp hd;exact ⟨rfl,by simp [PyData.depth]⟩
  rw [hE];cases z:(Ts.take i).isEmpty with
  | true =>
   rw [z] at l1;walk_at "P";refine Eo rfl (by rw [N6,N6];show _<=2 ^ 24;omega) rfl ?_;exact ⟨_,gj,by rw [Og rfl,O0,Ox];rfl⟩
  | false =>
   rw [z,Ot (by decide),Ow] at l1;walk_at "P";refine jN rfl (by rw [N6];show _ < 2 ^ 24;omega) rfl ?_;walk_at "P";refine Eo rfl (by rw [N5,N6,N6,Ow];show _<=2 ^ 24;omega) rfl ?_;exact ⟨_,gj,by rw [Ot (by decide),Ox,Ox,OE];rfl⟩
 ·rintro e ⟨x,hx,rfl⟩;rw [N6,Qh];walk_at "P";exact q
theorem eL {P:Qq->List Str->Nat->Prop} (hu:P u T j):∀ {us:List Qq} {Ts:List (List Str)} {k:Nat},jW P us Ts k->jW P (us++[u]) (Ts++[T]) (k+j)
 | [],[],k,h=>⟨j,0,hu,rfl,by have:k=0:=h;omega⟩
 | a :: us,c :: Ts,k,⟨i,m,h1,h2,e⟩=>⟨i,m+j,h1,eL hu h2,by omega⟩
theorem pZ (h:Lf w):Fr (n+1) fr (.tuple [.str w]) [w] 1:=.inl ⟨rfl,w,h,rfl,rfl⟩
theorem oR {v:Int} (h:w = "from" \/ w = "upto") (hv:v.natAbs < 10 ^ 30):Fr (n+1) fr (.tuple [.str w,.int v]) [w,aw v] 1:=.inr (.inl ⟨rfl,w,v,h,hv,rfl,rfl⟩)
theorem sY {x:Qq} {T:Str} (h:lJ x T):Fr (n+1) fr (.tuple [.str "is", x]) [("is" : Str),T] 1:=.inr (.inr (.inl ⟨rfl,x,T,h,rfl,rfl⟩))
theorem Fw (h:Sh s):Fr (n+1) fr (.tuple [.str "keeps", .str s]) [("keeps" : Str),s] 1:=.inr (.inr (.inr (.inl ⟨rfl,s,h,rfl,rfl⟩)))
theorem D1 (h:Bnd bs):Fr (n+1) true (.tuple [.str "closed", .tuple ((j7 bs).map .str)]) ([("closed" : Str),kO]++(aH true (ones bs)++[kC])) 1:=.inr (.inr (.inr (.inr (.inl ⟨rfl,rfl,bs,h,rfl,rfl⟩))))
theorem AD (h:Fr n fr u T j):Fr (n+1) fr (.tuple [.str "not", u]) ([("not" : Str),kO]++(T++[kC])) (j+1):=.inr (.inr (.inr (.inr (.inr (.inl ⟨u,T,j,h,rfl,rfl,rfl⟩)))))
theorem jq (hw:Lst w) (h:jW (Fr n fr) us Ts j) (hl:us.length<=6):Fr (n+1) fr (.tuple [.str w,.tuple us]) ([w,kO]++(aH true Ts++[kC])) (j+1):=.inr (.inr (.inr (.inr (.inr (.inr (.inl ⟨w,us,Ts,j,hw,h,hl,rfl,rfl,rfl⟩))))))
theorem EA (hw:Wlk w) (h0:0<=lo) (h1:lo<=60) (hh:Ew lo hi) (hs:Sh s) (h:Fr n false u T j):Fr (n+1) true (.tuple [.str w,.int lo,hiD hi,.str (stS up s),u]) ([w,kO,aw lo,kM,hiT hi,kM]++(stT up s++(kM :: (T++[kC])))) (j+1):=.inr (.inr (.inr (.inr (.inr (.inr (.inr ⟨rfl,w,lo,hi,up,s,u,T,j,hw,h0,h1,hh,hs,h,rfl,rfl,rfl⟩))))))
theorem atz:atI (c :: r) 0=some c:=bZ (j:=0) rfl
theorem CA (s:Str):(("^" : Str)++s).cps.toList=94 :: s.cps.toList:=by rw [bF];rfl
theorem Hd (ss:List Str):j7 (j7 ss)=j7 ss:=List.Perm.eq_of_pairwise (fun _ _ _ _ p q=>qS p q) (lG _) (lG _) (cA _)
def PcL:List (List Nat)->List Nat->Prop
 | [],_=>True
 | t :: ts,L=>Br t (ts.flatten++L)/\PcL ts L
theorem xg:∀ {ts:List (List Nat)},PcL ts []->Pcs ts
 | [],_=>trivial
 | t :: ts,h=>⟨by have:=h.1;rwa [OC] at this,xg h.2⟩
theorem gH:∀ {A B:List (List Nat)} {L:List Nat},PcL A (B.flatten++L)->PcL B L->PcL (A++B) L
 | [],_,_,_,h=>h
 | t :: A,B,L,h,g=>⟨by show Br t ((A++B).flatten++L);rw [List.flatten_append,OE];exact h.1,gH h.2 g⟩
theorem yK:∀ (n:Nat) (L:List Nat),PcL (List.replicate n [32]) L
 | 0,_=>trivial
 | n+1,L=>⟨BO,yK n L⟩
theorem cj (A B:List (List Nat)):tkS (A++B)=tkS A++tkS B:=by unfold tkS;rw [List.filter_append,Ox]
theorem qX:∀ n,tkS (List.replicate n [32])=[]
 | 0=>rfl
 | n+1=>qX n
theorem FA {t:List Nat} (h:Tk t):t≠[32]:=fun e=>by
 obtain ⟨_,c,r,rfl,h⟩:=h;injection e with e1 e2;subst e1;rcases h with h | h | h | h
 ·exact absurd h.1 (by decide)
 ·exact absurd h.1 (by decide)
 ·rcases h.1 with z | z <;> exact absurd z (by decide)
 ·exact h.2.2.2.2.1 rfl
theorem kS (h:Tk s.cps.toList):tkS [s.cps.toList]=[s]:=by
 unfold tkS;rw [List.filter_cons_of_pos (by simp [FA h])];rfl
theorem gJ:∀ n,(List.replicate n [32]).flatten=List.replicate n 32
 | 0=>rfl
 | n+1=>by rw [List.replicate_succ,O6,gJ n];rfl
theorem qA (n:Nat):(mM " " n).cps.toList=List.replicate n 32:=gJ n
theorem pH (n:Nat):(mM " " n).length=n:=by rw [<- ax,qA,Py]
def Aft (p:Option Str) (L:List Nat):Prop:=∀ t,p=some t->∀ f R,L=f :: R->jV (t.cps.toList.getLast?.getD 0) f=false
def Cut (Z:Str) (ts:List (List Nat)) (TK:List Str):Prop:=Z.cps.toList=ts.flatten/\tkS ts=TK/\∀ L,Aft TK.getLast? L->PcL ts L
theorem GC {p:Option Str} (h:n=0->Aft p L):Aft p (List.replicate n 32++L):=by
 cases n with
 | zero=>exact h rfl
 | succ n =>
  intro t _ f R e;injection e with e _;subst e;unfold jV;rw [show chB 32=false by decide,show cL 32=false by decide];simp
theorem NI (n:Nat):Cut (mM " " n) (List.replicate n [32]) []:=⟨by rw [qA,gJ],qX n,fun L _=>yK n L⟩
theorem Cut.add (h:Cut Z ts TK) (ht:Tk t.cps.toList) (hg:n=0->∀ L,Aft TK.getLast? (t.cps.toList++L)):Cut (Z++mM " " n++t) (ts++(List.replicate n [32]++[t.cps.toList])) (TK++[t]):=by
 refine ⟨?_,?_,fun L hL=>?_⟩
 ·rw [bF,bF,qA,h.1];simp [gJ]
 ·rw [cj,cj,qX,h.2.1,kS ht];rfl
 ·rw [List.getLast?_concat] at hL;refine gH ?_ (gH (yK _ _) ⟨?_,trivial⟩)
  ·rw [List.flatten_append,gJ,OE];refine h.2.2 _ (GC fun e=>?_);have:=hg e L;simpa using this
  ·rw [List.flatten_nil,O0];exact qW ht (hL t rfl)
theorem pM:∀ (A B:List (List Nat)) (a:Nat),plc a (A++B)=plc a A++plc (a+A.flatten.length) B
 | [],B,a=>rfl
 | t :: A,B,a=>by
  show (if t=[32] then [] else [a])++plc (a+t.length) (A++B)=((if t=[32] then [] else [a])++plc (a+t.length) A)++plc (a+(t++A.flatten).length) B;rw [pM A B,OE,N5,Pd]
theorem wM:∀ (n a:Nat),plc a (List.replicate n [32])=[]
 | 0,_=>rfl
 | n+1,a=>wM n (a+1)
theorem Eg {t:List Nat} (h:t≠[32]):plc a [t]=[a]:=by
 show (if t=[32] then [] else [a])++[]=[a];rw [Ot h];rfl
theorem yJ:∀ {ts:List (List Nat)} {a m:Nat} {s:Str},(tkS ts)[m]?=some s->∃ A B p,ts=A++(s.cps.toList :: B)/\(plc a ts)[m]?=some p/\p=a+A.flatten.length/\tkS A=(tkS ts).take m/\tkS (A++[s.cps.toList])=(tkS ts).take (m+1)
 | [],a,m,s,h=>by cases h
 | t :: ts,a,m,s,h=>by
  have e1:plc a (t :: ts)=(if t=[32] then [] else [a])++plc (a+t.length) ts:=rfl;have e2:tkS (t :: ts)=tkS [t]++tkS ts:=cj [t] ts;rw [e2] at h;rw [e1,e2];by_cases ht:t=[32]
  ·subst ht;have e3:tkS [[32]]=[]:=qX 1;rw [e3,O0] at h;obtain ⟨A,B,p,eA,g1,g2,g3,g4⟩:=yJ (a:=a+1) h;refine ⟨[32] :: A,B,p,by rw [eA];rfl,g1,?_,?_,?_⟩
   ·rw [g2,O6,N5,<-Pd];rfl
   ·rw [e3,O0,<-g3];exact (cj [[32]] A).trans (by rw [e3];rfl)
   ·rw [e3,O0,<-g4];exact (cj [[32]] (A++[s.cps.toList])).trans (by rw [e3];rfl)
  ·have e3:tkS [t]=[(⟨t.toArray⟩:Str)]:=by
    unfold tkS;rw [List.filter_cons_of_pos (by simp [ht])];rfl
   rw [Ot ht,e3];rw [e3] at h;cases m with
   | zero =>
    cases h;exact ⟨[],ts,a,rfl,rfl,rfl,rfl,e3⟩
   | succ m =>
    obtain ⟨A,B,p,eA,g1,g2,g3,g4⟩:=yJ (a:=a+t.length) (show (tkS ts)[m]?=some s from h);refine ⟨t :: A,B,p,by rw [eA];rfl,g1,?_,?_,?_⟩
    ·rw [g2,O6,N5,Pd]
    ·show _=_ :: (tkS ts).take m;rw [<- g3];exact (cj [t] A).trans (by rw [e3];rfl)
    ·show _=_ :: (tkS ts).take (m+1);rw [<- g4];exact (cj [t] (A++[s.cps.toList])).trans (by rw [e3];rfl)
abbrev q39:Str := "'"
abbrev q45:Str := "-"
theorem N1 (c:Nat):decide (c∈(abc++q39).cps.toList)=(chB c||decide (c=39)):=by
 rw [bF,<-jM c,show q39.cps.toList=[39] from rfl];by_cases h:c∈abc.cps.toList <;> simp [h]
theorem NP (c:Nat):decide (c∈(dgs++q45).cps.toList)=(cL c||decide (c=45)):=by
 rw [bF,<-jB c,show q45.cps.toList=[45] from rfl];by_cases h:c∈dgs.cps.toList <;> simp [h]
theorem yC {l:List Nat} (h:l≠[]):atI l (-1)=some (l.getLast?.getD 0):=by
 have hl:=List.length_pos_iff.mpr h;unfold atI ixN;rw [Ot (by decide),Og (by omega),show ((-1:Int)+l.length).toNat=l.length - 1 by omega];show l[l.length - 1]?=_;rw [<- List.getLast?_eq_getElem?,List.getLast?_eq_some_getLast h];rfl
theorem CM {a b:Str} {f:Nat} (ha:a.cps.toList≠[]) (hb:b.cps.toList=f :: r) (q:Q (.dat (.bool (jV (a.cps.toList.getLast?.getD 0) f))) []):WF mQ [.str a,.str b] Q:=by
 have h1:=yC ha;have h2:atI b.cps.toList 0=some f:=by rw [hb];exact atz
 generalize a.cps.toList.getLast?.getD 0=l at h1 q;unfold jV at q;refine dY rfl ?_;unfold uW;with_reducible refine mY ?_
 walk_at "pmz";with_reducible refine mY ?_
 walk_at "pm";refine gG rfl h1 ?_;walk_at "pm";refine ny N1 rfl ?_;have tail:∀ {e:En} {P:RV->En->Prop},e=([.dat (.str a),.dat (.str b),.dat (.str abc),.dat (.str dgs)]:En)->P (.dat (.bool ((cL l||decide (l=45))&&cL f))) e->WE gds (.oa (p2 inP (p2 ixP (vr 0) (p1 IY (ci 1))) (p2 bq (vr 3) (L2.cs "-" eQ._proof_1))) (p2 inP (p2 ixP (vr 1) (ci 0)) (vr 3))) e P:=by
  intro e P ee hP;subst ee;walk_at "pm";refine gG rfl h1 ?_;walk_at "pm";refine ny NP rfl ?_;cases z:(cL l||decide (l=45)) with
  | false =>
   rw [z] at hP;walk_at "pm";exact hP
  | true =>
   rw [z] at hP;walk_at "pm";refine gG rfl h2 ?_;walk_at "pm";refine ny jB rfl ?_;exact hP
 cases z:(chB l||decide (l=39)) with
 | false =>
  rw [z] at q;refine ⟨_,rfl,?_⟩;refine cO rfl ?_;refine ⟨_,rfl,?_⟩;refine cO rfl ?_;refine tail rfl ?_;walk_at "pm";exact q
 | true =>
  rw [z] at q;walk_at "pm";refine gG rfl h2 ?_;walk_at "pm";refine ny jM rfl ?_;cases y:chB f with
  | true =>
   rw [y] at q;walk_at "pm";exact q
  | false =>
   rw [y] at q;refine ⟨_,rfl,?_⟩;refine cO rfl ?_;refine tail rfl ?_;walk_at "pm";exact q
theorem Hs {Q:RV->En->Prop} (h:WPr ow avs e Q):WPr ow avs e Q:=h
theorem HI {a:AV} {b:Bool} {Q:RV->En->Prop} (h1:aK e [a]=some [.bool b]) (q:∀ w:Int,0<=w->w<=1->(b=true->w=1)->Q (.dat (.int w)) e):WPr ow [a] e Q:=by
 cases b
 ·exact ⟨_,.dat (.int 0),h1,rfl,q 0 (by decide) (by decide) fun z=>by cases z⟩
 ·exact ⟨_,.dat (.int 1),h1,rfl,q 1 (by decide) (by decide) fun _=>rfl⟩
theorem xp (h:TK[i]?=some t):(TK.take (i+1)).getLast?=some t:=by rw [<- take_snoc h,List.getLast?_concat]
theorem E6 {t:List Nat} (h:Tk t):∃ f r,t=f :: r:=by
 obtain ⟨_,c,r,e,_⟩:=h;exact ⟨c,r,e⟩
theorem vQ {R:Nat} (hP:aO cs (R+TK.length+2) pn) (hT:TkA TK) (hl:TK.length<=1000) (q:∀ Z ts pn',aO cs R pn'->Cut Z ts TK->Z.length<=66*TK.length+3->Q (.dat (.tuple [.str Z,.list ((plc 0 ts).map fun p:Nat=>.int (p:Int))])) [pn']):WF jv [pn,.list (TK.map .str)] Q:=by
 refine dY rfl ?_;unfold vH;walk_at "d";intro v pn1 hP1 v0 v1;walk_at "N";obtain ⟨d,hd,ed⟩:=atV (xs:=([.int 1,.int 2,.int 4]:List Qq)) v0 v1;have hc:∃ m:Int,d=.int m/\1<=m/\m<=4:=by
  simp only [Oo,Pk,Qf] at hd;rcases hd with rfl | rfl | rfl <;> exact ⟨_,rfl,by omega,by omega⟩
 obtain ⟨m,rfl,m0,m1⟩:=hc;refine iu rfl ed ?_;clear ed hd;walk_at "d";intro u pn2 hP2 u0 u1;walk_at "N";refine BW rfl u0 (by omega) (by decide) ?_;walk_at "P";refine ⟨⟨by omega,by rw [N6];omega⟩,?_⟩;refine eO (fun i e=>∃ (Z:Str) (ts:List (List Nat)) (ps:List Qq) (pn':Qq) (x y:Sl),Cut Z ts (TK.take i)/\Z.length<=66*i+3/\(ps.length=i/\ps=(plc 0 ts).map fun p:Nat=>.int (p:Int))/\aO cs (R+(TK.length - i)) pn'/\soft x/\soft y/\e=([.ino pn',.dat (.list (TK.map .str)),.dat (.int m),.dat (.str Z),.own (.list ps),x,y]:En)) ⟨_,_,[],pn2,.un,.un,NI u.toNat,by rw [pH];omega,⟨rfl,by rw [wM];rfl⟩,hP2,gO,gO,rfl⟩ ?_ ?_
 ·rintro i d e hd ⟨Z,ts,ps,pn',x,y,hC,hz,⟨hps,eps⟩,hP',hx,hy,rfl⟩;obtain ⟨rfl,hi⟩:=fD hd;have hi:i < TK.length:=by rw [N6] at hi;omega
  obtain ⟨j0,ej⟩:∃ j,TK.length - i=j+1:=⟨TK.length - i - 1,by omega⟩;rw [ej] at hP';have ht:TK[i]?=some TK[i]:=Oi hi;generalize TK[i]=t at ht;have hk:=hT t (OH ht);have atm:atI (TK.map PyData.str) (i:Int)=some (.str t):=bZ (by rw [OA,ht];rfl);have tl:t.length<=61:=by rw [<- ax];exact hk.1
  refine Ag (i7 rfl hx) ?_;walk_at "d";intro n pn3 hP3 n0 n1;walk_at "n";walk_at "q";with_reducible refine iJ fun N eN=>?_
  have rest:∀ j:Nat,j<=4->(0 < i->j=0->∀ L,Aft (TK.take i).getLast? (t.cps.toList++L))->N ([.ino pn3,.dat (.list (TK.map .str)),.dat (.int m),.dat (.str Z),.own (.list ps),.dat (.int (i:Int)),.dat (.int (j:Int))]:En):=by
   intro j hj hg;rw [eN];with_reducible refine mY ?_
   repeat ((fail_if_success (with_reducible refine Hs ?_));walk_at "p")
   refine HI rfl fun w w0 w1 hw=>?_;walk_at "p";refine Gy rfl (by omega) (by omega) ?_;obtain ⟨r,hr,r4,rj⟩:∃ r:Nat,(j:Int)*w=r/\r<=4/\(0 < i->r=j):=by
    rcases (by omega:w=0\/w=1) with rfl | rfl
    ·exact ⟨0,by simp,by omega,fun z=>by have:=hw (Oe (by omega));omega⟩
    ·exact ⟨j,by simp,hj,fun _=>rfl⟩
   rw [hr];have hg2:r=0->∀ L,Aft (TK.take i).getLast? (t.cps.toList++L):=fun z=>by
    rcases Nat.eq_zero_or_pos i with z2 | z2
    ·subst z2;intro L t' e;cases e
    ·exact hg z2 (by rw [<- rj z2];exact z)
   walk_at "P";refine BW rfl (by omega) (by omega) (by decide) ?_;walk_at "P";refine fU rfl (by rw [rK];show _+_*1<=2 ^ 24;omega) ?_;walk_at "P";refine jN rfl (by show _ < 2 ^ 24;omega) rfl ?_;walk_at "P";refine iu rfl atm ?_;walk_at "P";have ml:(mM " " (r:Int).toNat).length=r:=pH r;refine fU rfl (by rw [aJ];show _<=2 ^ 24;omega) ?_;walk_at "P";have C2:=Cut.add hC hk hg2;rw [take_snoc ht] at C2;have ez:ts.flatten.length=Z.length:=by rw [<- hC.1,ax]
   have ep:ps++[PyData.int ((Z++mM " " (r:Int).toNat).length:Int)]=(plc 0 (ts++(List.replicate r [32]++[t.cps.toList]))).map fun p:Nat=>.int (p:Int):=by
    rw [pM,pM,wM,Eg (FA hk),gJ,O0,Qj,Py,Ox,<-eps,ez,aJ,ml];rfl
   exact ⟨_,_,_,pn3,_,_,C2,by rw [aJ,aJ,pH];omega,⟨by rw [N5,hps];rfl,ep⟩,by rw [<- Nat.sub_sub,ej];exact hP3,gj,gj,rfl⟩
  have blank:n≠0->N ([.ino pn3,.dat (.list (TK.map .str)),.dat (.int m),.dat (.str Z),.own (.list ps),.dat (.int (i:Int)),.dat (.int n)]:En):=fun z=>by
   obtain ⟨j,rfl⟩:∃ j:Nat,n=j:=⟨n.toNat,by omega⟩;exact rest j (by omega) fun _ z2=>absurd z2 (by omega)
  cases i with
  | zero =>
   obtain ⟨j,rfl⟩:∃ j:Nat,n=j:=⟨n.toNat,by omega⟩;walk_at "P";exact rest j (by omega) fun z=>absurd z (by omega)
  | succ i =>
   obtain ⟨t0,ht0⟩:∃ t0,TK[i]?=some t0:=⟨TK[i],Oi (by omega)⟩;have hk0:=hT t0 (OH ht0);have at0:atI (TK.map PyData.str) (((i+1:Nat):Int) - 1)=some (.str t0):=by
    rw [show (((i+1:Nat):Int) - 1)=(i:Int) by omega];exact bZ (by rw [OA,ht0];rfl)
   obtain ⟨f,r,ef⟩:=E6 hk;obtain ⟨f0,r0,ef0⟩:=E6 hk0;walk_at "P";refine d5 (Oe (by omega)) ?_;walk_at "P";refine iM (fun e1=>?_) (fun e1=>?_)
   ·have e1:n=0:=kQ e1;subst e1;walk_at "P";refine iu rfl at0 ?_;walk_at "P";refine iu rfl atm ?_;walk_at "P";refine ae (is:=[]) rfl rfl (CM (by rw [ef0];exact O3 _ _) ef ⟨rfl,?_⟩);cases g:jV (t0.cps.toList.getLast?.getD 0) f with
    | true =>
     walk_at "P";exact rest 1 (by omega) fun _ z=>absurd z (by omega)
    | false =>
     walk_at "P";refine rest 0 (by omega) fun _ _ L=>?_;rw [xp ht0];intro t' e f' R e';injection e with e;subst e;rw [ef] at e';injection e' with e' _;rw [<- e'];exact g
   ·walk_at "P";exact blank fun z=>by subst z;cases e1
 ·rintro e ⟨Z,ts,ps,pn',x,y,hC,hz,⟨hps,eps⟩,hP',hx,hy,rfl⟩;rw [pT,N6] at hC hz hP';have e1:((TK.length:Nat):Int).toNat=TK.length:=Int.toNat_natCast _;rw [e1] at hC hz hP';rw [PV] at hP';rw [Qh] at hC;walk_at "P";exact eps▸q Z ts pn' hP' hC hz
theorem wB:(", " : Str).length=2:=by decide
theorem br1:("(" : Str).length=1:=by decide
theorem br2:(")" : Str).length=1:=by decide
theorem emp (x:Str):Str.empty++x=x:=jx (by rw [bF];rfl)
def Pl (f:Nat):Prop:=chB f=false/\cL f=false
theorem x6 {p:Option Str} {f:Nat} {R:List Nat} (h:Pl f):Aft p (f :: R):=fun t _ g S e=>by
 injection e with e _;subst e;unfold jV;rw [h.1,h.2];simp
theorem Nl:Pl 40:=⟨by decide,by decide⟩
theorem Ng:Pl 41:=⟨by decide,by decide⟩
theorem M7:Pl 44:=⟨by decide,by decide⟩
theorem rJ (h:c=40\/c=41\/c=44\/c=94):Br [c] L:=by
 rcases h with rfl | rfl | rfl | rfl <;> exact ⟨_,[],rfl,.inr (.inr (.inr ⟨by decide,by decide,by decide,by decide,rfl⟩))⟩
def Mj (l:List Nat) (ts:List (List Nat)) (TK:List Str):Prop:=l=ts.flatten/\tkS ts=TK/\∀ L,Aft TK.getLast? L->PcL ts L
def Sn (Z:Str) (TK:List Str):Prop:=(∃ ts,Cut Z ts TK)/\Z.length<=62*TK.length
theorem iw (h:Tk t.cps.toList):Sn t [t]:=⟨⟨[t.cps.toList],by simp,kS h,fun L hL=>⟨qW h (hL t rfl),trivial⟩⟩,by have:=h.1;rw [ax] at this;show _<=62*1;omega⟩
theorem Di {A:Str} {TA:List Str} (h:Sn A TA) (ht:Tk t.cps.toList):Sn (A ++ " " ++ t) (TA++[t]):=by
 obtain ⟨⟨ts,hC⟩,hl⟩:=h;refine ⟨⟨_,Cut.add (n:=1) hC ht fun z=>by cases z⟩,?_⟩;have:=ht.1;rw [ax] at this;rw [aJ,aJ,N5,Ow,show (" " : Str).length=1 by decide];omega
theorem Lz (h:Sh s):Sn (stS up s) (stT up s):=by
 cases up with
 | false=>exact iw (jk h)
 | true =>
  refine ⟨⟨[[94],s.cps.toList],?_,?_,fun L hL=>⟨rJ (by simp),qW (jk h) (hL s rfl),trivial⟩⟩,?_⟩
  ·show (("^" : Str)++s).cps.toList=_;rw [CA];simp
  ·show tkS ([[94]]++[s.cps.toList])=[("^" : Str)]++[s];rw [cj,kS (jk h)];rfl
  ·show (("^" : Str)++s).length<=62*2;rw [aJ,show ("^" : Str).length=1 by decide];have:=h.2.2;omega
theorem rB {J:Str} {TJ:List Str} (hw:Tk w.cps.toList) (h:Sn J TJ):Sn (w++("(" : Str)++J++(")" : Str)) ([w,kO]++(TJ++[kC])):=by
 obtain ⟨⟨ts,hC⟩,hl⟩:=h;refine ⟨⟨[w.cps.toList,[40]]++(ts++[[41]]),?_,?_,fun L hL=>?_⟩,?_⟩
 ·rw [bF,bF,bF,hC.1,show ("(" : Str).cps.toList=[40] from rfl,show (")" : Str).cps.toList=[41] from rfl];simp
 ·rw [show ([w.cps.toList,[40]]:List (List Nat))=[w.cps.toList]++[[40]] from rfl,cj,cj,cj,kS hw,hC.2.1];rfl
 ·refine ⟨qW hw fun f R e=>x6 (p:=some w) Nl w rfl f R e,rJ (by simp),?_⟩;exact gH (A:=ts) (B:=[[41]]) (show PcL ts (41 :: L) from hC.2.2 _ (x6 Ng)) ⟨rJ (by simp),trivial⟩
 ·have:=hw.1;rw [ax] at this;rw [aJ,aJ,aJ,br1,br2,N5,N5];show _<=62*(2+(TJ.length+1));omega
noncomputable def sH (sp:List Nat) (f:Bool):List Str->List Nat
 | []=>[]
 | S :: Ss=>(if f then [] else sp)++(S.cps.toList++sH sp false Ss)
theorem qP (s:Str):∀ (ps:List Str) (acc:Array Nat),(ps.foldl (fun acc p=>acc++s.cps++p.cps) acc).toList=acc.toList++sH s.cps.toList false ps
 | [],acc=>by simp [sH]
 | p :: ps,acc=>by
  rw [P4,qP s ps];simp [sH]
theorem Bb (s:Str) (Ss:List Str):(Txt.join s Ss).cps.toList=sH s.cps.toList true Ss:=by
 cases Ss with
 | nil=>rfl
 | cons x r =>
  show (r.foldl (fun acc p=>acc++s.cps++p.cps) x.cps).toList=_;rw [qP];rfl
def SnL:List Str->List (List Str)->Prop
 | [],[]=>True
 | Z :: Zs,T :: Ts=>Sn Z T/\T≠[]/\SnL Zs Ts
 | _,_=>False
theorem rZ (h:Sn Z T) (hT:T≠[]):∀ {Zs:List Str} {Ts:List (List Str)},SnL Zs Ts->SnL (Zs++[Z]) (Ts++[T])
 | [],[],_=>⟨h,hT,trivial⟩
 | _ :: _,_ :: _,⟨a,b,c⟩=>⟨a,b,rZ h hT c⟩
theorem Cc {α:Type} {A B:List α} (h:B≠[]):(A++B).getLast?=B.getLast?:=by
 rw [List.getLast?_append,List.getLast?_eq_some_getLast h];rfl
theorem Ij:aH false (T :: Ts)≠[]:=by simp [aH]
theorem yA:∀ (Zs:List Str) (Ts:List (List Str)) (f:Bool),SnL Zs Ts->∃ ts,Mj (sH [44,32] f Zs) ts (aH f Ts)
 | [],[],f,_=>⟨[],rfl,rfl,fun _ _=>trivial⟩
 | Z :: Zs,T :: Ts,f,⟨⟨⟨tz,hz⟩,_⟩,hT,h⟩=>by
  obtain ⟨ts,hr⟩:=yA Zs Ts false h;have key:∃ ts',Mj (Z.cps.toList++sH [44,32] false Zs) ts' (T++aH false Ts):=by
   refine ⟨tz++ts,?_,by rw [cj,hz.2.1,hr.2.1],fun L hL=>?_⟩
   ·rw [hz.1,hr.1,List.flatten_append]
   ·match Zs,Ts,h,hr,hL with
    | [],[],_,hr,hL =>
     have hL:Aft (T++[]).getLast? L:=hL;rw [OC] at hL;have e0:[]=ts.flatten:=hr.1;refine gH ?_ (hr.2.2 L fun t e=>by cases e);rw [<- e0];exact hz.2.2 L hL
    | A :: Zs,S :: Ts,_,hr,hL =>
     rw [Cc Ij] at hL;refine gH (hz.2.2 _ ?_) (hr.2.2 L hL);rw [<- hr.1];exact x6 M7
  obtain ⟨ts',k1,k2,k3⟩:=key;have ne:T++aH false Ts≠[]:=fun z=>hT (List.append_eq_nil_iff.mp z).1;cases f with
  | true=>exact ⟨ts',k1,k2,k3⟩
  | false =>
   refine ⟨[44] :: [32] :: ts',?_,?_,fun L hL=>⟨rJ (by simp),BO,k3 L ?_⟩⟩
   ·show [44,32]++(Z.cps.toList++sH [44,32] false Zs)=_;rw [k1];rfl
   ·show tkS ([[44],[32]]++ts')=[kM]++(T++aH false Ts);rw [cj,k2];rfl
   ·have hL:Aft ([kM]++(T++aH false Ts)).getLast? L:=hL
    rwa [Cc ne] at hL
theorem gF:∀ (Zs:List Str) (Ts:List (List Str)) (f:Bool),SnL Zs Ts->(Zs.map (·.length)).sum+2*Zs.length<=62*(aH f Ts).length+(if f then 2 else 0)
 | [],[],f,_=>by simp
 | Z :: Zs,T :: Ts,f,⟨⟨_,hl⟩,hT,h⟩=>by
  have ih:=gF Zs Ts false h;rw [Ot (by decide)] at ih;show ((Z.length :: Zs.map (·.length)).sum+2*(Zs.length+1))<=62*((if f then [] else [kM])++(T++aH false Ts)).length+(if f then 2 else 0);rw [List.sum_cons,N5,N5];cases f
  ·rw [Ot (by decide),Ot (by decide),Ow];omega
  ·rw [Og rfl,Og rfl,OP];omega
theorem xO:∀ (Zs:List Str) (f:Bool),(sH [44,32] f Zs).length+(if f then 2 else 0)<=(Zs.map (·.length)).sum+2*Zs.length+(if f then 2 else 0)
 | [],f=>by simp [sH]
 | Z :: Zs,f=>by
  have ih:=xO Zs false;rw [Ot (by decide)] at ih;show ((if f then [] else [44,32])++(Z.cps.toList++sH [44,32] false Zs)).length+_<=(Z.length :: Zs.map (·.length)).sum+2*(Zs.length+1)+_;rw [List.sum_cons,N5,N5,ax];cases f
  ·show 2+(Z.length+_)+_<=_;simp only [Ot (show ¬(false=true) by decide)];omega
  ·show 0+(Z.length+_)+_<=_;simp only [Og];omega
theorem la {Zs:List Str} (h:SnL Zs Ts):Sn (Txt.join ", " Zs) (aH true Ts):=by
 obtain ⟨ts,hC⟩:=yA Zs Ts true h;have e:(Txt.join ", " Zs).cps.toList=sH [44,32] true Zs:=Bb ", " Zs;refine ⟨⟨ts,by rw [e];exact hC.1,hC.2.1,hC.2.2⟩,?_⟩;rw [<- ax,e];cases Zs with
 | nil=>exact Pg _
 | cons Z Zs =>
  cases Ts with
  | nil=>exact h.elim
  | cons T Ts =>
   have h1:=gF Zs Ts false h.2.2;have h2:=xO Zs false;rw [Ot (by decide)] at h1 h2;have h3:=h.1.2;show ([]++(Z.cps.toList++sH [44,32] false Zs)).length<=62*([]++(T++aH false Ts)).length;rw [O0,O0,N5,N5,ax];omega
theorem Ff (n:Nat):(aD n).ms=[.dat]:=by cases n <;> rfl
theorem w_j {r:RV} {ss:List Str} {Q:RV->En->Prop} (h1:r.view e=some (.str ", ")) (h2:aK e avs=some [.list (ss.map .str)]) (h3:(ss.map (·.length)).sum+2*ss.length<=16777216) (q:Q (.dat (.str (Txt.join ", " ss))) e):Ae joinM r avs e Q :=
 Bi h1 h2 (by simp only [dZ,OU];rw [wB];omega) q
theorem Nf {r:RV} {ss:List Str} {Q:RV->En->Prop} (h1:r.view e=some (.str ", ")) (h2:aK e avs=some [.tuple (ss.map .str)]) (h3:(ss.map (·.length)).sum+2*ss.length<=16777216) (q:Q (.dat (.str (Txt.join ", " ss))) e):Ae joinM r avs e Q:=by
 have h3:dZ ", " ss=true:=by simp only [dZ,OU];rw [wB];omega
 refine ⟨_,_,.dat (.str (Txt.join ", " ss)),h1,h2,?_,q⟩;show (match strsOf (ss.map .str) with | some ss=>if dZ ", " ss=true then some (PR.dat (.str (Txt.join ", " ss))) else none | none=>none)=_;rw [fB];simp only;rw [Og h3]
theorem uO {x y:AV} {Q:RV->En->Prop} (h1:aK e [x,y]=some [.str (w ++ " "),.str z]) (hw:w.length<=100) (hz:z.length<=100) (q:Q (.dat (.str (w ++ " " ++ z))) e):WPr bq [x,y] e Q :=
 fU h1 (by rw [aJ,show (" " : Str).length=1 by decide];show _<=2 ^ 24;omega) q
theorem A6 {J:Str} {R:RV->En->Prop} {h1:(Str.ofString "(").length<=sizeLine} {h2:(Str.ofString ")").length<=sizeLine} (e1:e[1]?=some (.dat (.str w))) (e2:e[2]?=some (.dat (.str J))) (hw:w.length<=100) (hJ:J.length<=99000) (r:R (.dat (.str (w++("(" : Str)++J++(")" : Str)))) e):WE gds (.fst (.cons (p1 fvP (vr 1)) (.cons (L2.cs "(" h1) (.cons (p1 fvP (vr 2)) (.cons (L2.cs ")" h2) .nil))))) e R:=by
 refine NX (AW (AS (xB (w_var e1 (CJ ⟨_,_,rfl,rfl,_,rfl,?_,?_⟩)))))
 ·rw [emp];show _<=2 ^ 24;omega
 rw [emp];refine AW (Cj ⟨_,rfl,?_,?_⟩)
 ·show (w++("(" : Str)).length<=2 ^ 24;rw [aJ,br1];omega
 refine AW (AS (xB (w_var e2 (CJ ⟨_,_,rfl,rfl,_,rfl,?_,?_⟩))))
 ·show (w++("(" : Str)++J).length<=2 ^ 24;rw [aJ,aJ,br1];omega
 refine AW (Cj ⟨_,rfl,?_,?_⟩)
 ·show (w++("(" : Str)++J++(")" : Str)).length<=2 ^ 24;rw [aJ,aJ,aJ,br1,br2];omega
 refine LS ?_ r;show (w++("(" : Str)++J++(")" : Str)).length<=2 ^ 24;rw [aJ,aJ,aJ,br1,br2];omega
def uD (n:Nat):Prop:=∀ {fr:Bool} {d:Qq} {TK:List Str} {k:Nat} {Q:PR->List Qq->Prop},Fr n fr d TK k->k<=40->(∀ Z TK',Sn Z TK'->Fr n fr d TK' k->Q (.dat (.str Z)) [])->WF (aD n) [d] Q
theorem xq (hA:jW (Fr n fr) us Ts j) (hj:j<=40):(aH true Ts).length<=960:=Oy (jH (fun u T j h=>g7 n fr u T j h) true hA) (by omega)
theorem qu (ih:uD n) {lk:Option Nat} {Q:RV->En->Prop} (hA:jW (Fr n fr) us Ts j) (hj:j<=40) (q:∀ Zs Ts',SnL Zs Ts'->jW (Fr n fr) us Ts' j->Q (.frs (.list (Zs.map .str))) e1):IW (fN (dT gds XT.yes) (dE gds (XE.call (aD n) (XA.cons (vr 0) XA.nil)))) [] us lk e1 Q:=by
 refine gK (fun i ys ec=>∃ (Zs:List Str) (Ts':List (List Str)) (us1 us2:List Qq) (Ts2:List (List Str)) (a b:Nat),ys=Zs.map .str/\SnL Zs Ts'/\us=us1++us2/\us1.length=i/\jW (Fr n fr) us1 Ts' a/\jW (Fr n fr) us2 Ts2 b/\a+b=j/\ec=[]) ⟨[],[],[],us,Ts,0,j,rfl,trivial,rfl,rfl,rfl,hA,Qj _,rfl⟩ ?_ ?_
 ·rintro i d ys ec hd ⟨Zs,Ts',us1,us2,Ts2,a,b,rfl,hZ,rfl,hi,hA1,hA2,hab,rfl⟩;rw [Oa (by omega),hi,PV] at hd
  match us2,Ts2,hd,hA2 with
  | u :: us3,T :: Ts3,hd,hA2 =>
   cases hd;obtain ⟨c,m,hu,hA3,rfl⟩:=hA2;refine kr ?_;walk_at "P";refine lP (Ff n) (is:=[]) rfl rfl (ih hu (by omega) fun Z TK' hZ' hF=>⟨rfl,?_⟩);obtain ⟨_,_,e,_⟩:=mD hF;exact ⟨_,rfl,Zs++[Z],Ts'++[TK'],us1++[d],us3,Ts3,a+c,m,by rw [Ox];rfl,rZ hZ' (by rw [e];exact O3 _ _) hZ,by rw [OE];rfl,by rw [N5,hi];rfl,eL hF hA1,hA3,by omega,rfl⟩
 ·rintro ys ec ⟨Zs,Ts',us1,us2,Ts2,a,b,rfl,hZ,e,hi,hA1,hA2,hab,rfl⟩;have:us2=[]:=by
   have:=congrArg List.length e;rw [N5] at this;exact List.eq_nil_of_length_eq_zero (by omega)
  subst this
  match Ts2,hA2 with
  | [],hA2 =>
   obtain rfl:b=0:=hA2;rw [OC] at e;subst e;exact q Zs Ts' hZ (by rw [<- hab];exact hA1)
theorem B5:∀ (bs:List Str),(∀ b∈bs,Sh b)->SnL bs (bs.map fun b=>[b])
 | [],_=>trivial
 | b :: bs,h=>⟨iw (jk (h b Od)),O3 _ _,B5 bs fun x hx=>h x (N8 _ hx)⟩
theorem xt (h:Bnd bs):Bnd (j7 bs):=⟨fun b hb=>h.1 b ((cA bs).mem_iff.mp hb),(cA bs).nodup_iff.mpr h.2.1,by rw [(cA bs).length_eq];exact h.2.2⟩
theorem K1 {F:Fn} (hB:Bnd bs) (q:∀ J,Sn J (aH true (ones bs))->Q (.dat (.str J)) []):WF (bp F) [.tuple [.str "closed", .tuple (bs.map .str)]] Q:=by
 have hS:=B5 bs hB.1;have h1:=gF _ _ true hS;have h2:=mL bs true;have h3:=hB.2.2;rw [Og rfl] at h1;refine dY rfl ?_;unfold bH;walk_at "P";refine Nf rfl rfl (by omega) ?_;walk_at "P";exact q _ (la hS)
theorem Jy (ih:uD n) (hw:Lst w) (hA:jW (Fr n fr) us Ts j) (hj:j<=40) (hl:us.length<=6) (q:∀ J Ts',Sn J (aH true Ts')->jW (Fr n fr) us Ts' j->Q (.dat (.str J)) []):WF (bp (aD n)) [.tuple [.str w,.tuple us]] Q:=by
 refine dY rfl ?_;unfold bH;rcases hw with rfl | rfl | rfl | rfl
 all_goals
  walk_at "P";refine ae (is:=[]) rfl rfl ⟨_,_,rfl,rfl,?_⟩;refine ⟨us,rfl,?_⟩;refine qu ih hA hj fun Zs Ts' hZ hA'=>?_;have hr:=xq hA' hj;have h1:=gF _ _ true hZ;rw [Og rfl] at h1;walk_at "P";refine bO rfl (by rw [N6];show 0+_<=2 ^ 24;omega) ?_;walk_at "P";refine w_j (ss:=Zs) rfl rfl (by omega) ?_;walk_at "P";exact q _ Ts' (la hZ) hA'
theorem KH (ih:uD n) (hu:Fr n fr u T j) (hj:j<=40) (q:∀ J T',Sn J T'->Fr n fr u T' j->Q (.dat (.str J)) []):WF (bp (aD n)) [.tuple [.str "not", u]] Q:=by
 refine dY rfl ?_;unfold bH;walk_at "P";refine ae (is:=[]) rfl rfl ⟨_,_,rfl,rfl,?_⟩;refine ⟨[u],rfl,?_⟩;refine qu (us:=[u]) (Ts:=[T]) (j:=j) ih ⟨j,0,hu,rfl,rfl⟩ hj fun Zs Ts' hZ hA'=>?_;have hr:=xq hA' hj;have h1:=gF _ _ true hZ;rw [Og rfl] at h1
 match Ts',hA',hZ,hr,h1 with
 | [T'],⟨a,b,hu',e0,e1⟩,hZ,hr,h1 =>
  obtain rfl:b=0:=e0;obtain rfl:j=a:=e1;have eT:aH true [T']=T':=by simp [aH]
  walk_at "P";refine bO rfl (by rw [N6];show 0+_<=2 ^ 24;omega) ?_;walk_at "P";refine w_j (ss:=Zs) rfl rfl (by omega) ?_;walk_at "P";exact q _ T' (by have:=la hZ;rwa [eT] at this) hu'
theorem Dk (h0:0<=lo) (hh:Ew lo hi) (q:Q (.dat (.str (hiT hi))) []):WF cW [hiD hi] Q:=by
 refine dY rfl ?_;unfold g6;cases hi with
 | none =>
  walk_at "P";exact q
 | some g =>
  walk_at "P";refine jy rfl (yG (df (Int.le_trans h0 hh.1) hh.2)) ?_;walk_at "P";exact q
theorem KO (ih:uD n) (hw:Wlk w) (h0:0<=lo) (h1:lo<=60) (hh:Ew lo hi) (hs:Sh s) (hu:Fr n false u T j) (hj:j<=40) (q:∀ J T',Sn J (aH true [[aw lo],[hiT hi],stT up s,T'])->Fr n false u T' j->Q (.dat (.str J)) []):WF (bp (aD n)) [.tuple [.str w,.int lo,hiD hi,.str (stS up s),u]] Q:=by
 have kt:Tk (hiT hi).cps.toList:=by
  cases hi with
  | none=>exact uC (.inr (.inr (.inr (.inl rfl))))
  | some g=>exact g8 (df (Int.le_trans h0 hh.1) hh.2)
 have hS:stT up s≠[]:=by cases up <;> exact O3 _ _
 refine dY rfl ?_;unfold bH;rcases hw with rfl | rfl
 all_goals
  walk_at "P";refine jy rfl (yG (df h0 h1)) ?_;walk_at "P";refine ae (is:=[]) rfl rfl (Dk h0 hh ⟨rfl,?_⟩);walk_at "P";refine ae (is:=[]) rfl rfl ⟨_,_,rfl,rfl,?_⟩;refine ⟨[u],rfl,?_⟩;refine qu (us:=[u]) (Ts:=[T]) (j:=j) ih ⟨j,0,hu,rfl,rfl⟩ hj fun Zs Ts' hZ hA'=>?_
  match Ts',hA',hZ with
  | [T'],⟨a,b,hu',e0,e1⟩,hZ =>
   obtain rfl:b=0:=e0;obtain rfl:j=a:=e1;have ln:=g7 _ _ _ _ _ hu';have l4:(aH true [[aw lo],[hiT hi],stT up s,T']).length=5+(stT up s).length+T'.length:=by simp [aH];omega
   have l5:(stT up s).length<=2:=by cases up <;> simp [stT]
   have hZ2:SnL ([aw lo,hiT hi,stS up s]++Zs) [[aw lo],[hiT hi],stT up s,T']:=⟨iw (g8 (df h0 h1)),O3 _ _,iw kt,O3 _ _,Lz hs,hS,hZ⟩;have h9:=gF _ _ true hZ2;rw [Og rfl] at h9;have h8:([aw lo,hiT hi,stS up s]++Zs).length<=100000:=by omega
   rw [N5] at h8;walk_at "P";refine bO rfl (by rw [N6];show 3+_<=2 ^ 24;omega) ?_;walk_at "P";refine w_j (ss:=[aw lo,hiT hi,stS up s]++Zs) rfl rfl (by omega) ?_;walk_at "P";exact q _ T' (la hZ2) hu'
theorem Il (w lo kh:Str) (S T:List Str):[w,kO,lo,kM,kh,kM]++(S++(kM :: (T++[kC])))=[w,kO]++(aH true [[lo],[kh],S,T]++[kC]):=by simp [aH]
theorem iG:∀ n,uD n
 | 0=>fun h=>False.elim h
 | n+1=>by
  rename_i fr d TK k Q;intro h hk q;have ih:uD n:=iG n;have fin:∀ {Z:Str} {TK':List Str},Sn Z TK'->Fr (n+1) fr d TK' k->Q (.dat (.str Z)) []:=fun a b=>q _ _ a b;have big:∀ {w J:Str} {TJ:List Str},Sn J TJ->Fr (n+1) fr d ([w,kO]++(TJ++[kC])) k->J.length<=99000:=fun a b=>by
   have:=g7 _ _ _ _ _ b;simp only [N5,Oc,OP] at this;have:=a.2;omega
  refine dY rfl ?_;unfold ij;rcases h with ⟨rfl,w,hw,rfl,rfl⟩ | ⟨rfl,w,i,hw,hi,rfl,rfl⟩ | ⟨rfl,x,T,hx,rfl,rfl⟩ | ⟨rfl,s,hs,rfl,rfl⟩ | ⟨rfl,rfl,bs,hB,rfl,rfl⟩ | ⟨u,T,j,hu,rfl,rfl,rfl⟩ | ⟨w,us,Ts,j,hw,hA,hl,rfl,rfl,rfl⟩ | ⟨rfl,w,lo,hi,up,s,u,T,j,hw,h0,h1,hh,hs,hu,rfl,rfl,rfl⟩
  ·walk_at "P";refine ae (is:=[]) rfl rfl (bW ⟨rfl,?_⟩);rw [show kgD a8 w=.int 1 by rcases hw with rfl | rfl | rfl | rfl <;> rfl];walk_at "P";exact fin (iw (bS (by rcases hw with rfl | rfl | rfl | rfl <;> simp))) (pZ hw)
  ·walk_at "P";refine ae (is:=[]) rfl rfl (bW ⟨rfl,?_⟩);obtain ⟨k1,k2,k3⟩:kgD a8 w=.int 2/\PyData.eqv (.str w) (.str "keeps")=false/\oh [.str "from", .str "upto", .str "is"] (.str w)=true:=by rcases hw with rfl | rfl <;> exact ⟨rfl,rfl,rfl⟩
   rw [k1];walk_at "P";refine cO k2 ?_;walk_at "pr";have lw:w.length<=100:=by rcases hw with rfl | rfl <;> decide
   refine Aw rfl rfl k3 ?_;walk_at "P";refine fU rfl (by have e:(Str.ofString " ").length=1:=(by decide);rw [e];show _<=2 ^ 24;omega) ?_;walk_at "P";refine ae (is:=[]) rfl rfl (gX (.inr (.inl ⟨i,rfl,hi,rfl⟩)) ⟨rfl,?_⟩);walk_at "P";refine uO rfl lw (by have:=cG hi;omega) ?_;walk_at "P";exact fin (Di (iw (bS (by rcases hw with rfl | rfl <;> simp))) (g8 hi)) (oR hw hi)
  ·walk_at "P";refine ae (is:=[]) rfl rfl (bW ⟨rfl,?_⟩);walk_at "P";refine ae (is:=[]) rfl rfl (gX hx ⟨rfl,?_⟩);walk_at "P";refine uO rfl (by decide) (by have:=k8 hx;omega) ?_;walk_at "P";exact fin (Di (iw (bS (by simp))) (uT hx)) (sY hx)
  ·walk_at "P";refine ae (is:=[]) rfl rfl (bW ⟨rfl,?_⟩);walk_at "P";refine uO rfl (by decide) (by have:=hs.2.2;omega) ?_;walk_at "P";exact fin (Di (iw (bS (by simp))) (jk hs)) (Fw hs)
  ·walk_at "P";refine ae (is:=[]) rfl rfl (bW ⟨rfl,?_⟩);walk_at "P";refine ae (is:=[]) rfl rfl (K1 (xt hB) fun J hJ=>⟨rfl,?_⟩);have hf:=D1 (n:=n) (xt hB);rw [Hd] at hf;have hl:=big hJ hf;walk_at "P";refine A6 rfl rfl (by decide) hl ?_;walk_at "P";exact fin (rB (bS (by simp)) hJ) hf
  ·walk_at "P";refine ae (is:=[]) rfl rfl (bW ⟨rfl,?_⟩);walk_at "P";refine ae (is:=[]) rfl rfl (KH ih hu (by omega) fun J T' hJ hu'=>⟨rfl,?_⟩);have hl:=big hJ (AD hu');walk_at "P";refine A6 rfl rfl (by decide) hl ?_;walk_at "P";exact fin (rB (bS (by simp)) hJ) (AD hu')
  ·obtain ⟨k1,k2,k3,k4⟩:kgD a8 w=.int 2/\PyData.eqv (.str w) (.str "keeps")=false/\oh [.str "from", .str "upto", .str "is"] (.str w)=false/\w.length<=100:=by rcases hw with rfl | rfl | rfl | rfl <;> exact ⟨rfl,rfl,rfl,by decide⟩
   walk_at "P";refine ae (is:=[]) rfl rfl (bW ⟨rfl,?_⟩);rw [k1];walk_at "P";refine cO k2 ?_;walk_at "pr";refine Aw rfl rfl k3 ?_;walk_at "P";refine ae (is:=[]) rfl rfl (Jy ih hw hA (by omega) hl fun J Ts' hJ hA'=>⟨rfl,?_⟩);have hl2:=big hJ (jq hw hA' hl);walk_at "P";refine A6 rfl rfl k4 hl2 ?_;walk_at "P";exact fin (rB (bS (by rcases hw with rfl | rfl | rfl | rfl <;> simp)) hJ) (jq hw hA' hl)
  ·obtain ⟨k1,k2,k3,k4⟩:kgD a8 w=.int 5/\PyData.eqv (.str w) (.str "keeps")=false/\oh [.str "from", .str "upto", .str "is"] (.str w)=false/\w.length<=100:=by rcases hw with rfl | rfl <;> exact ⟨rfl,rfl,rfl,by decide⟩
   walk_at "P";refine ae (is:=[]) rfl rfl (bW ⟨rfl,?_⟩);rw [k1];walk_at "P";refine cO k2 ?_;walk_at "pr";refine Aw rfl rfl k3 ?_;walk_at "P";refine ae (is:=[]) rfl rfl (KO ih hw h0 h1 hh hs hu (by omega) fun J T' hJ hu'=>⟨rfl,?_⟩);have hf:=EA (up:=up) hw h0 h1 hh hs hu';rw [Il] at hf;have hl2:=big hJ hf;walk_at "P";refine A6 rfl rfl k4 hl2 ?_;walk_at "P";exact fin (rB (bS (by rcases hw with rfl | rfl <;> simp)) hJ) hf
def Flt (k:Nat) (d:Qq):Prop:=noD d=true/\d.depth<=k
theorem Flt.mono (h:Flt j d) (z:j<=k):Flt k d:=⟨h.1,by have:=h.2;omega⟩
theorem lN (h:∀ d∈ds,Flt k d):Flt (k+1) (.tuple ds) :=
 ⟨by simp only [noD];exact lg.mpr fun d hd=>(h d hd).1,pK fun d hd=>(h d hd).2⟩
theorem gN (x:Str) (k:Nat):Flt k (.str x):=⟨by simp [noD],by simp [PyData.depth]⟩
theorem mS (x:Int) (k:Nat):Flt k (.int x):=⟨by simp [noD],by simp [PyData.depth]⟩
theorem xH (ss:List Str) (k:Nat):Flt (k+1) (.tuple (ss.map .str)):=lN fun d hd=>by
 obtain ⟨x,_,rfl⟩:=O1.mp hd;exact gN _ _
theorem gW {x:Qq} (h:Flt k x):Flt (k+1) (.tuple [.str w,x]):=lN fun d hd=>by
 simp only [Oo,Pk,Qf] at hd;rcases hd with rfl | rfl
 ·exact gN _ _
 ·exact h
theorem xT {P:Qq->List Str->Nat->Prop} {m:Nat} (hP:∀ u S j,P u S j->Flt m u):∀ {us:List Qq} {Ss:List (List Str)} {k:Nat},jW P us Ss k->∀ u∈us,Flt m u
 | [],[],k,h=>fun u hu=>by cases hu
 | u :: us,S :: Ss,k,⟨i,m,h1,h2,e⟩=>fun v hv=>by
  rcases Oo.mp hv with rfl | hv
  ·exact hP _ _ _ h1
  ·exact xT hP h2 v hv
theorem B7:∀ (n:Nat) {fr:Bool} {d:Qq} {TK:List Str} {k:Nat},Fr n fr d TK k->Flt (2*n) d
 | 0,_,_,_,_,h=>h.elim
 | n+1,fr,d,TK,k,h=>by
  have ih:=@B7 n;rw [show 2*(n+1)=2*n+1+1 by omega];rcases h with ⟨rfl,w,hw,rfl,rfl⟩ | ⟨rfl,w,i,hw,hi,rfl,rfl⟩ | ⟨rfl,x,T,hx,rfl,rfl⟩ | ⟨rfl,s,hs,rfl,rfl⟩ | ⟨rfl,rfl,bs,hB,rfl,rfl⟩ | ⟨u,T,j,hu,rfl,rfl,rfl⟩ | ⟨w,us,Ts,j,hw,hA,hl,rfl,rfl,rfl⟩ | ⟨rfl,w,lo,hi,up,s,u,T,j,hw,h0,h1,hh,hs,hu,rfl,rfl,rfl⟩
  ·exact xH [w] _
  ·exact gW (mS _ _)
  ·refine gW ?_;rcases hx with ⟨x,rfl,_⟩ | ⟨i,rfl,_⟩ | ⟨x,rfl,_⟩
   ·exact gN _ _
   ·exact mS _ _
   ·exact xH [x] _
  ·exact gW (gN _ _)
  ·exact gW (xH _ _)
  ·exact (gW (ih hu)).mono (by omega)
  ·exact gW (lN (xT (fun u S j h=>ih h) hA))
  ·refine (lN (k:=2*n) fun d hd=>?_).mono (by omega);simp only [Oo,Pk,Qf] at hd;rcases hd with rfl | rfl | rfl | rfl | rfl
   ·exact gN _ _
   ·exact mS _ _
   ·cases hi with
    | none=>exact ⟨by simp [hiD,noD],by simp [hiD,PyData.depth]⟩
    | some g=>exact mS _ _
   ·exact gN _ _
   ·exact ih hu
theorem LJ (h:Fr 8 true d TK k):mV d=true/\PyData.eqv d d=true:=by
 have f:=B7 8 h;exact ⟨yF f.1 (Oy f.2 (by decide)),eqv_refl d f.1⟩
theorem Iz {gd:List Qq} {as:XA} {env:En} {Q:RV->En->Prop} (h:WA gd as env fun avs e=>mB f avs e Q):WE gd (.bT f as) env Q:=by
 obtain ⟨avs,e',h1,rv,e2,h2,q⟩:=h;exact ⟨_,_,by simp only [dE,h1];exact h2,q⟩
theorem qz (h:Cut Z ts TK):Pcs ts:=xg (h.2.2 [] fun t _ f R e=>by cases e)
theorem HG (n:Nat):(aX n).ms=[.dat]:=by cases n <;> rfl
theorem CY (h:Fr (n+1) fr d TK k):∃ us Ts b fr',jW (Fr n fr') us Ts b/\k=b+1/\∀ {Q:PR->List Qq->Prop},Q (.dat (.tuple us)) []->WF aQ [d] Q:=by
 rcases h with ⟨rfl,w,hw,rfl,rfl⟩ | ⟨rfl,w,i,hw,hi,rfl,rfl⟩ | ⟨rfl,x,T,hx,rfl,rfl⟩ | ⟨rfl,s,hsh,rfl,rfl⟩ | ⟨rfl,rfl,bs,hb,rfl,rfl⟩ | ⟨u,T,j,hu,rfl,rfl,rfl⟩ | ⟨w,us,Ts,j,hw,hA,hl,rfl,rfl,rfl⟩ | ⟨rfl,w,lo,hi,up,s,u,T,j,hw,h0,h1,hh,hsh,hu,rfl,rfl,rfl⟩
 ·refine ⟨[],[],0,fr,rfl,rfl,fun q=>?_⟩;rcases hw with rfl | rfl | rfl | rfl <;> exact ⟨_,_,rfl,q⟩
 ·refine ⟨[],[],0,fr,rfl,rfl,fun q=>?_⟩;rcases hw with rfl | rfl <;> exact ⟨_,_,rfl,q⟩
 ·exact ⟨[],[],0,fr,rfl,rfl,fun q=>⟨_,_,rfl,q⟩⟩
 ·exact ⟨[],[],0,fr,rfl,rfl,fun q=>⟨_,_,rfl,q⟩⟩
 ·exact ⟨[],[],0,true,rfl,rfl,fun q=>⟨_,_,rfl,q⟩⟩
 ·exact ⟨[u],[T],j,fr,⟨j,0,hu,rfl,rfl⟩,rfl,fun q=>⟨_,_,rfl,q⟩⟩
 ·refine ⟨us,Ts,j,fr,hA,rfl,fun q=>?_⟩;rcases hw with rfl | rfl | rfl | rfl <;> exact ⟨_,_,rfl,q⟩
 ·refine ⟨[u],[T],j,false,⟨j,0,hu,rfl,rfl⟩,rfl,fun q=>?_⟩;rcases hw with rfl | rfl <;> exact ⟨_,_,rfl,q⟩
def FoN (n:Nat):Prop:=∀ {fr:Bool} {d:Qq} {TK:List Str} {k:Nat} {Q:PR->List Qq->Prop},Fr n fr d TK k->k<=40->(∀ ds:List Qq,ds.length=k->Q (.frs (.list ds)) [])->WF (aX (n+1)) [d] Q
theorem rN:∀ n,FoN n
 | 0=>fun h=>False.elim h
 | n+1=>by
  rename_i fr d TK k Q;intro h hk q;have ih:FoN n:=rN n;obtain ⟨us,Ts,b,fr',hA,rfl,hS⟩:=CY h;refine dY rfl ?_;unfold ja;walk_at "P";refine ae (is:=[]) rfl rfl (hS ⟨rfl,?_⟩);walk_at "P";refine eO (fun i e=>∃ (F us1 us2:List Qq) (Ts2:List (List Str)) (c:Nat),us=us1++us2/\us1.length=i/\jW (Fr n fr') us2 Ts2 c/\F.length+c=b+1/\uG [some (.dat d),some (.own (.list F)),none] e) ⟨[d],[],us,Ts,b,rfl,rfl,hA,PX _ _,by walk_at "L"⟩ ?_ ?_
  ·rintro i u e hu ⟨F,us1,us2,Ts2,c,rfl,hi,hA2,hc,_⟩;walk_at "l";rw [Oa (by omega),hi,PV] at hu
   match us2,Ts2,hu,hA2 with
   | v :: us3,T :: Ts3,hu,hA2 =>
    cases hu;obtain ⟨a,m,hv,hA3,rfl⟩:=hA2;walk_at "f";walk_at "P";refine lP (HG (n+1)) (is:=[]) rfl rfl (ih hv (by omega) fun ds hds=>⟨rfl,?_⟩);walk_at "N";refine Eo rfl (by show _<=2 ^ 24;omega) rfl ?_;exact ⟨F++ds,us1++[u],us3,Ts3,m,by rw [OE];rfl,by rw [N5,hi];rfl,hA3,by rw [N5];omega,by walk_at "L"⟩
  ·rintro e ⟨F,us1,us2,Ts2,c,ee,hi,hA2,hc,_⟩;walk_at "l";have:us2=[]:=by
    have:=congrArg List.length ee;rw [N5] at this;exact List.eq_nil_of_length_eq_zero (by omega)
   subst this
   match Ts2,hA2 with
   | [],hA2 =>
    obtain rfl:c=0:=hA2;walk_at "P";exact q F hc
theorem zO (h:Fr 8 true d TK k) (hk:k<=40) (q:Q (.dat (.int (k:Int))) []):WF dP [d] Q:=by
 refine dY rfl ?_;unfold i6;walk_at "P";refine lP (HG 9) (is:=[]) rfl rfl (rN 8 h hk fun ds hds=>⟨rfl,?_⟩);walk_at "P";rw [hds];exact q
structure Rf (n fm dep:Nat) (fr:Bool) (A:List Str) (x:Str):Prop where
 h:∀ {L:List Qq} {P:Option Int} {pl:Nat} {p:Int},Pay P->Sm L pl A->Tok L (pl+A.length) x p->P=some p->RP n L P pl fm dep (!fr) fun _ _ _=>False
section
variable {n fm dep k:Nat} {fr:Bool} {A:List Str} {x w:Str}
theorem x8 (h:iU x fm dep (!fr)=false):Rf n fm dep fr [] x:=⟨fun hP _ hx ep=>b6 hP hx (.inl ⟨h,ep⟩)⟩
theorem GF (hm:iU w fm dep (!fr)=true) (h:((w = "from" \/ w = "upto")/\x.length<=100/\BZ (bh x)=false/\whB (bh x)=false)\/(w = "is" /\ x.length<=100/\b8 (bh x)=true)\/(w = "keeps" /\ gw (.str x) 1=false)):Rf n fm dep fr [w] x:=by
 refine ⟨fun {L P pl p} hP hs hx ep=>?_⟩;obtain ⟨q,e⟩:=hs.hd;refine b6 hP e (.inr ⟨hm,?_⟩);obtain ⟨hw,h1,h2,h3⟩ | ⟨rfl,h1,h2⟩ | ⟨rfl,h1⟩:=h
 ·exact .inr (.inl ⟨hw,x,_,hx,h1,h2,.inl ⟨h3,ep⟩⟩)
 ·exact .inr (.inr (.inl ⟨rfl,x,_,hx,h1,.inl ⟨h2,ep⟩⟩))
 ·exact .inr (.inr (.inr (.inl ⟨rfl,x,_,hx,.inl ⟨h1,ep⟩⟩)))
theorem Hz {bs:List Str} (hm:iU "closed" fm dep (!fr)=true) (hb:Bnd bs) (h0:bs≠[]) (h:(A=[]/\x=kM/\bs.length=8)\/(A=[kM]/\x∈bs/\bs.length < 8)):Rf n fm dep fr ([("closed" : Str),kO]++(aH true (ones bs)++A)) x:=by
 refine ⟨fun {L P pl p} hP hs hx ep=>?_⟩;obtain ⟨q,e⟩:=hs.hd;have h3:=hs.skip;rw [N5,<-Pd,N5,<-Pd] at hx;refine b6 hP e (.inr ⟨hm,.inr (.inr (.inr (.inr (.inl ⟨rfl,hs.tl.hd,bs.length,by have:=hb.2.2;omega,?_⟩))))⟩);rw [PX bs.length 1];refine qK bs (b1:=[]) h3.pre hb ?_;obtain ⟨rfl,rfl,h8⟩ | ⟨rfl,hc,h8⟩:=h
 ·exact ⟨kM,_,hx,.inr (.inl ⟨by decide +kernel,h0,fun _=>by show 8<=bs.length;omega,ep⟩)⟩
 ·obtain ⟨q2,e2⟩:=h3.skip.hd;exact ⟨kM,q2,e2,.inr (.inr ⟨by decide +kernel,_,x,_,.inr ⟨h0,rfl,rfl,h8⟩,hx,.inr ⟨fun _=>hc,ep⟩⟩)⟩
theorem Ca (hm:iU "not" fm dep (!fr)=true) (h:Rf n (fm+1) (dep+1) fr A x):Rf (n+1) fm dep fr ([("not" : Str),kO]++A) x:=by
 refine ⟨fun {L P pl p} hP hs hx ep=>?_⟩;obtain ⟨q,e⟩:=hs.hd;rw [N5,<-Pd] at hx;exact b6 hP e (.inr ⟨hm,.inr (.inr (.inr (.inr (.inr (.inl ⟨rfl,hs.tl.hd,n,rfl,cZ (h.h hP hs.skip hx ep) fun _ _ ⟨_,_,_,_,_,z⟩=>z.elim⟩)))))⟩)
theorem d8 {Y:List Str} {us:List Qq} {Ts:List (List Str)} (hw:Lst w) (hm:iU w fm dep (!fr)=true) (hd:dep+1+n<=9) (hA:jW (Fr n fr) us Ts k) (hl:us.length<=6) (hk:fm+1+k<=40)
  (h:(us=[]/\(∀ t,(A++[x]).head?=some t->t≠kC)/\Rf n (fm+1+k) (dep+1) fr A x/\Y=A)\/(us≠[]/\us.length < 6/\fm+1+k < 40/\Rf n (fm+1+k) (dep+1) fr A x/\Y=kM :: A)\/(us≠[]/\(us.length=6\/fm+1+k=40)/\x=kM/\Y=[])):Rf (n+1) fm dep fr ([w,kO]++(aH true Ts++Y)) x:=by
 refine ⟨fun {L P pl p} hP hs hx ep=>?_⟩;obtain ⟨q,e⟩:=hs.hd;have h3:=hs.skip;have e0:aH ([]:List Qq).isEmpty Ts=aH true Ts:=rfl;rw [N5,<-Pd,N5,<-Pd] at hx;refine b6 hP e (.inr ⟨hm,.inr (.inr (.inr (.inr (.inr (.inr (.inl ⟨hw,hs.tl.hd,n,us.length,rfl,by omega,?_⟩))))))⟩);rw [PX us.length 1];refine pW (Eb n) hP (u0:=[]) hd hA h3.pre (by show 0+_<=6;omega) (by omega) ?_;have no:∀ {m:Nat} {pl2:Nat} {Q0:List Qq->Nat->Nat->Prop},Sm L pl2 A->Tok L (pl2+A.length) x p->Rf n (fm+1+k) (dep+1) fr A x->RP n L P pl2 (fm+1+k) (dep+1) (!fr) fun d pl' fm'=>LsS n L P dep (!fr) Q0 m (us++[d]) pl' fm':=fun a b c=>cZ (c.h hP a b ep) fun _ _ ⟨_,_,_,_,_,z⟩=>z.elim;obtain ⟨rfl,g1,g2,rfl⟩ | ⟨g0,g1,g2,g3,rfl⟩ | ⟨g0,g1,rfl,rfl⟩:=h
 ·have hB:=h3.skip;cases Y with
  | nil=>exact ⟨x,p,hx,.inr (.inr ⟨g1 x rfl,_,.inl ⟨rfl,rfl⟩,no hB hx g2⟩)⟩
  | cons t Y =>
   obtain ⟨q2,e2⟩:=hB.hd;exact ⟨t,q2,e2,.inr (.inr ⟨g1 t rfl,_,.inl ⟨rfl,rfl⟩,no hB hx g2⟩)⟩
 ·have hB:=h3.skip;obtain ⟨q2,e2⟩:=hB.hd;refine ⟨kM,q2,e2,.inr (.inr ⟨by decide +kernel,_,.inr ⟨g0,rfl,rfl,g1,g2⟩,no hB.tl ?_ g3⟩)⟩;have hx:Tok L (pl+2+(aH true Ts).length+(A.length+1)) x p:=hx;rw [show pl+2+(aH true Ts).length+(A.length+1)=pl+2+(aH true Ts).length+1+A.length by omega] at hx;exact hx
 ·exact ⟨kM,p,hx,.inr (.inl ⟨by decide +kernel,g0,fun _=>g1.imp (fun z=>by show 6<=us.length;omega) (fun z=>by omega),ep⟩)⟩
end
def Cas (A:List Str) (x:Str) (E:List Str):Prop:=(∃ d k,Fr 8 true d (A++E) k/\k<=40)/\Tk x.cps.toList/\Rf 8 0 1 true A x
abbrev lsD (T:List Str):Qq:=.list (T.map .str)
def TpS (T:List Str):Prop:=(∀ n fr,∃ d,Fr (n+1) fr d T 1)/\∃ h r,T=h :: r/\h≠kC/\Tk h.cps.toList
theorem ky (h:∀ n fr,∃ d,Fr (n+1) fr d T 1):TpS T:=by
 obtain ⟨d,hd⟩:=h 0 true;obtain ⟨w,r,e,hw⟩:=mD hd;exact ⟨h,w,r,e,hw,Dl _ _ _ _ _ hd w (by rw [e];exact Od)⟩
theorem de:∀ {Ts:List (List Str)},(∀ T∈Ts,∃ d,Fr n fr d T c)->∃ us:List Qq,jW (Fr n fr) us Ts (c*Ts.length)/\us.length=Ts.length
 | [],_=>⟨[],rfl,rfl⟩
 | T :: Ts,h=>by
  obtain ⟨d,hd⟩:=h T Od;obtain ⟨us,hu,hl⟩:=de fun S hS=>h S (N8 _ hS);exact ⟨d :: us,⟨c,_,hd,hu,by rw [Oc,Nat.mul_succ,PX]⟩,by rw [Oc,Oc,hl]⟩
theorem wK (h:∀ T∈Ts,TpS T):∀ T∈Ts,T≠[]:=fun T hT=>by
 obtain ⟨_,w,r,e,_⟩:=h T hT;rw [e];exact O3 _ _
theorem kz (ss:List Str) {v:Int} (h0:0<=v) (h1:v < ss.length):∃ s,atI (ss.map PyData.str) v=some (.str s)/\s∈ss:=by
 obtain ⟨d,hd,ed⟩:=atV (xs:=ss.map PyData.str) h0 (by rw [N6];exact h1);obtain ⟨s,hs,rfl⟩:=O1.mp hd;exact ⟨s,ed,hs⟩
theorem J9 {a b c:Str} (h:x∈[a,b,c]):x=a\/x=b\/x=c:=by simpa using h
theorem yB {k:Int} (h0:0<=k) (h1:k < 4):∃ w:Str,atI ((["all", "some", "one", "none"]:List Str).map PyData.str) k=some (.str w)/\Lst w:=by
 obtain ⟨w,e,h⟩:=kz ["all", "some", "one", "none"] h0 h1;exact ⟨w,e,by unfold Lst;simpa using h⟩
section
variable {cs:List Int} {R:Nat} {pn:Qq} {Q:PR->List Qq->Prop}
theorem ou (hP:aO cs (R+1) pn) (q:∀ T pn',aO cs R pn'->TpS T->Q (.dat (lsD T)) [pn']):WF d3 [pn] Q:=by
 refine dY rfl ?_;unfold Bv;walk_at "d";intro v pn1 hP1 v0 v1;walk_at "N";have hv:v=0\/v=1\/v=2\/v=3\/v=4:=by omega
 have five:lJ (.int 5) "5" := .inr (.inl ⟨5,rfl,by decide,by decide +kernel⟩);rcases hv with rfl | rfl | rfl | rfl | rfl
 ·walk_at "P";exact q ["any"] _ hP1 (ky fun n fr=>⟨_,pZ (.inl rfl)⟩)
 ·walk_at "P";exact q ["is", "5"] _ hP1 (ky fun n fr=>⟨_,sY five⟩)
 ·walk_at "P";exact q ["from", "-3"] _ hP1 (ky fun n fr=>⟨_,by have:=oR (n:=n) (fr:=fr) (w := "from") (v:=-3) (.inl rfl) (by decide);rwa [show aw (-3)=("-3" : Str) by decide +kernel] at this⟩)
 ·walk_at "P";exact q ["none", "(", ")"] _ hP1 (ky fun n fr=>⟨_,jq (us:=[]) (Ts:=[]) (j:=0) (.inr (.inr (.inr rfl))) rfl (by decide)⟩)
 ·walk_at "P";have no:lJ (.tuple [.str ""]) "'" := .inr (.inr ⟨"", rfl,⟨by unfold Ltr;decide,by decide⟩,by decide +kernel⟩);exact q ["is", "'"] _ hP1 (ky fun n fr=>⟨_,sY no⟩)
theorem ma {m:Nat} {er:En} {Q:RV->En->Prop} (hP:aO cs (R+m) pn) (q:∀ (Ts:List (List Str)) (pn':Qq),aO cs R pn'->Ts.length=m->(∀ T∈Ts,TpS T)->Q (.frs (.list (Ts.map lsD))) (.ino pn' :: er)):IW (fN (dT gds XT.yes) (dE gds (XE.call d3 (xa1 vr1)))) [0] ((List.range m).map fun (k:Nat)=>.int ((0:Int)+(k:Int))) none (.ino pn :: er) Q:=by
 refine gK (fun i ys ec=>∃ (Ts:List (List Str)) (pn':Qq),ys=Ts.map lsD/\Ts.length=i/\(∀ T∈Ts,TpS T)/\aO cs (R+(m - i)) pn'/\ec=[.ino pn']) ⟨[],pn,rfl,rfl,fun T h=>(by cases h),hP,rfl⟩ ?_ ?_
 ·rintro i d ys ec hd ⟨Ts,pn',rfl,hT,hA,hP',rfl⟩;have hi:i < m:=by
   have:=(N9.mp hd).1
   rwa [N6,Pt] at this
  obtain ⟨j,ej⟩:∃ j,m - i=j+1:=⟨m - i - 1,by omega⟩;rw [ej] at hP';refine kr ?_;walk_at "P";refine ae (is:=[1]) rfl rfl (ou hP' fun T pn3 hP3 hT3=>⟨rfl,?_⟩);exact ⟨_,rfl,Ts++[T],pn3,by rw [Ox];rfl,by rw [N5,hT];rfl,gp hA hT3,by rw [show m - (i+1)=j by omega];exact hP3,rfl⟩
 ·rintro ys ec ⟨Ts,pn3,rfl,hT,hA,hP3,rfl⟩;rw [N6,Pt] at hT hP3;rw [PV] at hP3;exact q Ts pn3 hP3 hT hA
theorem lq {Ts:List (List Str)} {f:Bool} (h:∀ T∈Ts,TpS T):(aH f Ts).length<=24*Ts.length:=by
 obtain ⟨us,hu,_⟩:=de (n:=1) (fr:=true) (c:=1) fun T hT=>(h T hT).1 0 true;rw [Nat.one_mul] at hu;exact jH (fun u T j h=>g7 _ _ _ _ _ h) f hu
end
theorem AN (hw:Lst w) (h:∀ T∈Ts,TpS T) (hl:Ts.length=6):Cas ([w,kO]++aH true Ts) kM [kC]:=by
 obtain ⟨us,hu,ul⟩:=de (n:=7) (fr:=true) (c:=1) fun T hT=>(h T hT).1 6 true;rw [hl] at hu ul;have u0:us≠[]:=fun z=>by rw [z] at ul;cases ul
 refine ⟨⟨_,_,by rw [OE];exact jq hw hu (by omega),by decide⟩,BP,?_⟩;have:=d8 (x:=kM) (n:=7) (fm:=0) (dep:=1) (fr:=true) (A:=[]) hw (lR 0 ?_ ?_ ?_ (by decide) (by decide)) (by decide) hu (by omega) (by decide) (.inr (.inr ⟨u0,.inl ul,rfl,rfl⟩))
 ·rwa [OC] at this
 all_goals rcases hw with rfl | rfl | rfl | rfl <;> rfl
theorem Bp (hn:bs.Nodup) (hs:∀ x∈bs,Nm x) (hl:bs.length<=8):Bnd bs:=⟨fun b hb=>Jx (hs b hb),hn,hl⟩
theorem zI (bs:List Str):(ones bs).map lsD=bs.map fun b=>.list [.str b]:=by rw [List.map_map];rfl
theorem oC (bs:List Str):(aH true (ones bs)).length<=2*bs.length:=mL bs true
theorem Ds (bs:List Str):∀ T∈ones bs,T≠[]:=fun T hT=>by
 obtain ⟨b,_,rfl⟩:=O1.mp hT;exact O3 _ _
theorem kN (h1:fm+1+0<=40) (h2:dep+0<=8):iU "closed" fm dep (!true)=true:=lR 0 rfl rfl rfl h1 h2
theorem zJ (hb:Bnd bs) (hl:bs.length=8):Cas ([("closed" : Str),kO]++aH true (ones bs)) kM [kC]:=by
 have b0:bs≠[]:=fun z=>by rw [z] at hl;cases hl
 refine ⟨⟨_,_,by rw [OE];exact D1 hb,by decide⟩,BP,?_⟩;have:=Hz (A:=[]) (x:=kM) (n:=8) (kN (fm:=0) (dep:=1) (by decide) (by decide)) hb b0 (.inl ⟨rfl,rfl,hl⟩)
 rwa [OC] at this
theorem AQ {c d:Str} (hb:Bnd (bs++[d])) (h0:bs≠[]) (hc:c∈bs):Cas ([("closed" : Str),kO]++aH true (ones bs)++[kM]) c [d,kC]:=by
 have hl:=hb.2.2;rw [N5,Ow] at hl;have hb':Bnd bs:=⟨fun b h=>hb.1 b (Ph _ h),(Qe.mp hb.2.1).1,by omega⟩;refine ⟨⟨.tuple [.str "closed", .tuple ((j7 (bs++[d])).map .str)],1,?_,by decide⟩,jk (hb'.1 c hc),?_⟩
 ·have e:[("closed" : Str),kO]++aH true (ones bs)++[kM]++[d,kC]=[("closed" : Str),kO]++(aH true (ones (bs++[d]))++[kC]):=by
   rw [show ones (bs++[d])=ones bs++[[d]] by simp [ones],fi,show (ones bs).isEmpty=false by cases bs with | nil=>exact absurd rfl h0 | cons=>rfl];simp
  rw [e];exact D1 hb
 ·rw [OE];exact Hz (A:=[kM]) (n:=8) (kN (fm:=0) (dep:=1) (by decide) (by decide)) hb' h0 (.inr ⟨rfl,hc,by omega⟩)
section
variable {cs:List Int} {R:Nat} {pn:Qq} {Q:PR->List Qq->Prop}
theorem Es {ns:List Str} (hP:aO cs (R+8) pn) (hl:ns.length=8) (hn:ns.Nodup) (hs:∀ x∈ns,Nm x) (q:∀ A x E pn',aO cs R pn'->Cas A x E->Q (.dat (.tuple [lsD A,.str x,lsD E])) [pn']):WF kZ [pn,.list (ns.map .str)] Q:=by
 refine dY rfl ?_;unfold xu;walk_at "d";intro way pn1 hP1 w0 w1;walk_at "N";refine iM (fun e1=>?_) (fun e1=>?_)
 ·walk_at "d";intro v pn2 hP2 v0 v1;walk_at "N";obtain ⟨w,ew,hw⟩:=yB v0 v1;refine iu rfl ew ?_;walk_at "P";refine ⟨⟨by decide,by decide⟩,?_⟩;refine ma (m:=6) hP2 fun Ts pn3 hP3 hT hA=>?_;have hc:=AN hw hA hT;have ln:=lq (f:=true) hA;walk_at "N";refine ae (is:=[]) rfl rfl (eG (wK hA) (by omega) ⟨rfl,?_⟩);walk_at "P";refine bO rfl (by rw [N6];show 2+_<=2 ^ 24;omega) ?_;walk_at "P";have e:[.str w,.str kO]++(aH true Ts).map PyData.str=([w,kO]++aH true Ts).map .str:=by rw [Ox];rfl
  have:=q _ _ _ pn3 hP3 hc;unfold lsD at this;rw [<- e] at this;exact this
 ·have hw:way=1\/way=2:=by
   have:way≠0:=fun z=>by subst z;cases e1
   omega
  walk_at "pz";with_reducible refine mY ?_
  walk_at "pz";with_reducible refine iJ fun N eN=>?_
  have rest:∀ (m:Nat) (pn':Qq),0 < m->m<=8->(way=1->m=8)->(way=2->m<=7)->aO cs (R+1) pn'->N ([.ino pn',.dat (.list (ns.map .str)),.dat (.int way),.un,.dat (.int (m:Int))]:En):=by
   intro m pn' m0 m8 h1 h2 hP';rw [eN];have ec:L2.cutD (ns.map PyData.str) none (some (m:Int))=(ns.take m).map .str:=by rw [rW (by omega),List.map_take];rfl
   have tl:(ns.take m).length=m:=by rw [O2];omega
   have hb:Bnd (ns.take m):=Bp (hn.sublist (List.take_sublist _ _)) (fun x hx=>hs x (Pq hx)) (by omega);have h0:ns.take m≠[]:=fun z=>by rw [z] at tl;rw [OP] at tl;omega
   have rl:=oC (ns.take m);walk_at "P";rw [ec];refine EX rfl ?_;refine gK (fun i ys ec=>ys=((ns.take m).take i).map (fun b=>.list [.str b])/\ec=[]) ⟨rfl,rfl⟩ ?_ ?_
   ·rintro i d ys ec hd ⟨rfl,rfl⟩;rw [OA] at hd;obtain ⟨b,hb,rfl⟩:=OG.mp hd;refine kr ?_;walk_at "P";exact ⟨by rw [<- take_snoc hb,Ox];rfl,rfl⟩
   ·rintro ys ec ⟨rfl,rfl⟩;rw [N6,Qh];walk_at "P";refine ae (ds:=[.list ((ones (ns.take m)).map lsD)]) (is:=[]) (by rw [zI];rfl) rfl (eG (Ds _) (by omega) ⟨rfl,?_⟩);walk_at "P";refine bO rfl (by rw [N6];show 2+_<=2 ^ 24;omega) ?_;walk_at "P";have e:[.str "closed", .str kO]++(aH true (ones (ns.take m))).map PyData.str=([("closed" : Str),kO]++aH true (ones (ns.take m))).map .str:=by rw [Ox];rfl
    rcases hw with rfl | rfl
    ·obtain rfl:=h1 rfl;walk_at "P";have:=q _ _ _ pn' hP'.dn (zJ hb tl);unfold lsD at this;rw [<- e] at this;exact this
    ·have h2:=h2 rfl;have e7:ns[7]?=some ns[7]:=Oi (by omega);walk_at "P";refine bO rfl (by rw [N5,N6];show 2+_+1<=2 ^ 24;omega) ?_;walk_at "P";refine E9 (hi:=rfl) (hP:=hP') (m:=(m:Int)) (by omega) (by omega) ?_;intro v pn2 hP2 v0 v1;walk_at "N";have vl:v.toNat < ns.length:=by omega
     have ev:atI (ns.map PyData.str) v=some (.str ns[v.toNat]):=by
      have:=bZ (xs:=ns.map PyData.str) (j:=v.toNat) (v:=.str ns[v.toNat]) (by rw [OA,Oi vl];rfl)
      rwa [show ((v.toNat:Nat):Int)=v by omega] at this
     have ev7:atI (ns.map PyData.str) 7=some (.str ns[7]):=bZ (j:=7) (by rw [OA,e7];rfl);refine iu rfl ev ?_;walk_at "P";refine iu rfl ev7 ?_;walk_at "P";have nin:ns[7] ∉ ns.take m:=fun z=>by
      obtain ⟨i,hi,e⟩:=List.mem_iff_getElem.mp z;rw [List.getElem_take] at e;exact List.pairwise_iff_getElem.mp hn i 7 (by omega) (by omega) (by omega) e
     have hb2:Bnd (ns.take m++[ns[7]]):=Bp (Qe.mpr ⟨hb.2.1,by simp,fun a ha b hb z=>nin (by rw [Oz] at hb;rw [<- hb,<-z];exact ha)⟩) (fun x hx=>hs x ((Po.mp hx).elim Pq fun z=>by rw [Oz.mp z];exact List.getElem_mem _)) (by rw [N5,tl,Ow];omega);have:=q _ _ _ pn2 hP2 (AQ hb2 h0 (c:=ns[v.toNat]) (List.mem_iff_getElem.mpr ⟨v.toNat,by omega,List.getElem_take ..⟩));unfold lsD at this;rw [Ox,<-e] at this;exact this
  rcases hw with rfl | rfl
  ·walk_at "P";exact rest 8 _ (by decide) (by decide) (fun _=>rfl) (fun z=>by cases z) (aO.dn (R:=R+1) (k:=6) hP1)
  ·walk_at "d";intro v pn2 hP2 v0 v1;walk_at "N";have:=rest (1+v.toNat) pn2 (by omega) (by omega) (fun z=>by cases z) (fun _=>by omega) (aO.dn (R:=R+1) (k:=5) hP2);rw [show ((1+v.toNat:Nat):Int)=1+v by omega] at this;exact this
end
noncomputable def chn (ws:List Str):List Str:=ws.flatMap fun w=>[w,kO]
theorem r9 (ws:List Str) (w:Str):chn (ws++[w])=chn ws++[w,kO]:=by unfold chn;rw [List.flatMap_append];rfl
def Chw (w:Str):Prop:=Lst w\/w = "not"
theorem DB {m:Nat} (h:Fr m fr d T k):∀ {ws:List Str},(∀ w∈ws,Chw w)->∃ d',Fr (m+ws.length) fr d' (chn ws++(T++List.replicate ws.length kC)) (k+ws.length)
 | [],_=>⟨d,by rw [show chn []++(T++List.replicate ([]:List Str).length kC)=T by simp [chn]];exact h⟩
 | w :: ws,hw=>by
  obtain ⟨d1,h1⟩:=DB h fun w hw'=>hw w (N8 _ hw');have e:chn (w :: ws)++(T++List.replicate (w :: ws).length kC)=[w,kO]++((chn ws++(T++List.replicate ws.length kC))++[kC]):=by
   rw [Oc,List.replicate_succ'];simp [chn]
  rw [e];rcases hw w Od with z | rfl
  ·have:=jq (us:=[d1]) (Ts:=[_]) (j:=k+ws.length) z ⟨_,0,h1,rfl,rfl⟩ (by show 1<=6;decide);rw [show ∀ T:List Str,aH true [T]=T from fun T=>by simp [aH]] at this;exact ⟨_,this⟩
  ·exact ⟨_,AD h1⟩
theorem Dx {A:List Str} (hx:∀ t,(A++[x]).head?=some t->t≠kC):∀ {ws:List Str} {fm dep:Nat},(∀ w∈ws,Chw w)->(dep+ws.length<=8\/(dep+ws.length<=9/\∀ w∈ws,Lst w))->fm+ws.length+1<=40->dep+(n+ws.length)<=9->Rf n (fm+ws.length) (dep+ws.length) fr A x->Rf (n+ws.length) fm dep fr (chn ws++A) x
 | [],fm,dep,_,_,_,_,h=>h
 | w :: ws,fm,dep,hw,hd,hf,hn,h=>by
  rw [Oc] at hd hf hn h;have ih:Rf (n+ws.length) (fm+1) (dep+1) fr (chn ws++A) x:=Dx hx (fun w hw'=>hw w (N8 _ hw')) (hd.imp (fun z=>by omega) fun z=>⟨by omega,fun w hw'=>z.2 w (N8 _ hw')⟩) (by omega) (by omega) (by rw [show fm+1+ws.length=fm+(ws.length+1) by omega,show dep+1+ws.length=dep+(ws.length+1) by omega];exact h);have e:chn (w :: ws)++A=[w,kO]++(chn ws++A):=by simp [chn]
  rw [e];have hd':dep+(ws.length+1)<=9:=by rcases hd with z | z;omega;exact z.1
  rcases hw w Od with z | rfl
  ·have hm:iU w fm dep (!fr)=true:=by
    refine lR 0 ?_ ?_ ?_ (by omega) (by omega)
    all_goals rcases z with rfl | rfl | rfl | rfl <;> first | rfl | exact nQ _
   refine d8 (us:=[]) (Ts:=[]) (k:=0) z hm (by show dep+1+(n+ws.length)<=9;omega) rfl (by decide) (by omega) (.inl ⟨rfl,fun t ht=>?_,ih,rfl⟩);cases ws with
   | nil=>exact hx t ht
   | cons v vs =>
    cases ht;rcases hw t (by simp) with (rfl | rfl | rfl | rfl) | rfl <;> decide +kernel
  ·refine Ca (lR 1 rfl (nQ _) rfl (by omega) ?_) ih;rcases hd with z | ⟨_,z⟩
   ·omega
   ·rcases z "not" Od with z | z | z | z <;> exact absurd z (by decide +kernel)
section
variable {cs:List Int} {R:Nat} {pn:Qq} {Q:PR->List Qq->Prop}
theorem xw {ws:List Str} {T:List Str} {h:Str} {r:List Str} (hl:ws.length=8) (hw:∀ w∈ws,Lst w) (hT:TpS T) (e:T=h :: r):Cas (chn ws) h (List.replicate 8 kC):=by
 obtain ⟨_,h',r',e',hk,ht⟩:=hT;rw [e] at e';cases e';refine ⟨?_,ht,?_⟩
 ·rcases List.eq_nil_or_concat ws with rfl | ⟨w7,w8,rfl⟩
  ·cases hl
  ·rw [List.concat_eq_append,N5,Ow] at hl;rw [List.concat_eq_append] at hw;have l7:w7.length=7:=by omega
   have b:Fr 1 true (.tuple [.str w8,.tuple []]) ([w8,kO]++(aH true []++[kC])) 1:=jq (us:=[]) (Ts:=[]) (j:=0) (hw w8 (by simp)) rfl (by decide);obtain ⟨d,hd⟩:=DB b (ws:=w7) fun w hw'=>.inl (hw w (Ph _ hw'));rw [l7] at hd;refine ⟨d,8,?_,by decide⟩;rw [List.concat_eq_append,r9,OE];exact hd
 ·have:=Dx (n:=0) (A:=[]) (x:=h) (fr:=true) (fun t ht=>by cases ht;exact hk) (ws:=ws) (fm:=0) (dep:=1) (fun w hw'=>.inl (hw w hw')) (.inr ⟨by omega,hw⟩) (by omega) (by omega) (x8 (Iu (.inr (by omega))));rw [hl,OC] at this;exact this
theorem xZ {ws:List Str} {b:Str} (hl:ws.length=7) (hw:∀ w∈ws,Chw w) (hb:b = "not" \/ b = "many" \/ b = "each"):Cas (chn ws) b ([("any" : Str)]++List.replicate 7 kC):=by
 have hi:inn b=1:=by rcases hb with rfl | rfl | rfl <;> rfl
 refine ⟨?_,bS (by rcases hb with rfl | rfl | rfl <;> simp),?_⟩
 ·obtain ⟨d,hd⟩:=DB (pZ (n:=0) (fr:=true) (w := "any") (.inl rfl)) hw;rw [hl] at hd;exact ⟨d,8,hd,by decide⟩
 ·have:=Dx (n:=1) (A:=[]) (x:=b) (fr:=true) (fun t ht=>by cases ht;rcases hb with rfl | rfl | rfl <;> decide +kernel) (ws:=ws) (fm:=0) (dep:=1) hw (.inl (by omega)) (by omega) (by omega) (x8 (Iu (.inr (by omega))));rw [hl,OC] at this;exact this
theorem D3 (hP:aO cs (R+10) pn) (q:∀ A x E pn',aO cs R pn'->Cas A x E->Q (.dat (.tuple [lsD A,.str x,lsD E])) [pn']):WF l0 [pn] Q:=by
 refine dY rfl ?_;unfold wd;walk_at "d";intro v pn1 hP1 v0 v1;walk_at "N";have lap:∀ {ws:List Str} {w:Str},PyData.list ((chn ws).map .str++[.str w,.str kO])=lsD (chn (ws++[w])):=fun {ws w}=>by unfold lsD;rw [r9,Ox];rfl
 have cl:∀ ws:List Str,(chn ws).length=2*ws.length:=fun ws=>by induction ws with | nil=>rfl | cons w ws ih=>rw [show chn (w :: ws)=[w,kO]++chn ws from rfl,N5,ih];show 2+2*ws.length=2*(ws.length+1);omega
 refine iM (fun e1=>?_) (fun e1=>?_)
 ·walk_at "P";refine ⟨⟨by decide,by decide⟩,?_⟩;refine eO (fun i e=>∃ (ws:List Str) (pn':Qq),ws.length=i/\(∀ w∈ws,Lst w)/\aO cs (R+1+(8 - i)) pn'/\uG [some (.ino pn'),some (.dat (lsD (chn ws))),none] e) ⟨[],pn1,rfl,fun w h=>(by cases h),hP1,by walk_at "L"⟩ ?_ ?_
  ·rintro i d e hd ⟨ws,pn',hl,hw,hP',_⟩;walk_at "l";obtain ⟨rfl,hi⟩:=fD hd;have hi:i < 8:=hi;obtain ⟨j,ej⟩:∃ j,8 - i=j+1:=⟨7 - i,by omega⟩;rw [ej] at hP';walk_at "f";walk_at "d";intro v pn2 hP2 v0 v1;walk_at "N";obtain ⟨w,ew,hw1⟩:=yB v0 v1;refine iu rfl ew ?_;walk_at "P";refine bO rfl (by rw [N6,cl];show _+2<=2 ^ 24;omega) ?_;walk_at "P";exact ⟨ws++[w],pn2,by rw [N5,hl];rfl,gp hw hw1,by rw [show 8 - (i+1)=j by omega];exact hP2,by rw [<- lap];walk_at "L"⟩
  ·rintro e ⟨ws,pn2,hl,hw,hP2,_⟩;walk_at "l";replace hl:ws.length=8:=hl;walk_at "P";refine ae (is:=[0]) rfl rfl (ou hP2 fun T pn3 hP3 hT=>⟨rfl,?_⟩);obtain ⟨h,r,e,_⟩:=hT.2;have hc:=xw hl hw hT e;subst e;walk_at "N";refine iu rfl (bZ (xs:=(h :: r).map PyData.str) (j:=0) rfl) ?_;walk_at "P";exact q _ _ _ pn3 hP3 hc
 ·walk_at "P";refine ⟨⟨by decide,by decide⟩,?_⟩;refine eO (fun i e=>∃ (ws:List Str) (pn':Qq),ws.length=i/\(∀ w∈ws,Chw w)/\aO cs (R+2+(7 - i)) pn'/\uG [some (.ino pn'),some (.dat (lsD (chn ws))),none] e) ⟨[],pn1,rfl,fun w h=>(by cases h),hP1,by walk_at "L"⟩ ?_ ?_
  ·rintro i d e hd ⟨ws,pn',hl,hw,hP',_⟩;walk_at "l";obtain ⟨rfl,hi⟩:=fD hd;have hi:i < 7:=hi;obtain ⟨j,ej⟩:∃ j,7 - i=j+1:=⟨6 - i,by omega⟩;rw [ej] at hP';walk_at "f";walk_at "d";intro v pn2 hP2 v0 v1;walk_at "N";obtain ⟨w,ed,h⟩:=kz ["all", "not", "one", "some"] v0 v1;have hw1:Chw w:=by unfold Chw Lst;simp only [Oo,Pk,Qf] at h;rcases h with h | h | h | h <;> simp [h]
   refine iu rfl ed ?_;walk_at "P";refine bO rfl (by rw [N6,cl];show _+2<=2 ^ 24;omega) ?_;walk_at "P";exact ⟨ws++[w],pn2,by rw [N5,hl];rfl,gp hw hw1,by rw [show 7 - (i+1)=j by omega];exact hP2,by rw [<- lap];walk_at "L"⟩
  ·rintro e ⟨ws,pn2,hl,hw,hP2,_⟩;walk_at "l";replace hl:ws.length=7:=hl;replace hP2:aO cs (R+2) pn2:=hP2;walk_at "d";intro v pn3 hP3 v0 v1;walk_at "N";obtain ⟨b,ed,hb⟩:=kz ["not", "many", "each"] v0 v1;refine iu rfl ed ?_;walk_at "P";exact q _ _ _ pn3 hP3.dn (xZ hl hw (J9 hb))
end
def RwS (T:List Str):Prop:=∃ d,Fr 7 true d T 7
theorem ES (h:∀ T∈Ts,TpS T) (hl:Ts.length=6):RwS ([("all" : Str),kO]++(aH true Ts++[kC])):=by
 obtain ⟨us,hu,ul⟩:=de (n:=6) (fr:=true) (c:=1) fun T hT=>(h T hT).1 5 true;rw [hl] at hu ul;exact ⟨_,jq (.inl rfl) hu (by omega)⟩
theorem lZ (h1:fm+1+0<=40) (h2:dep+0<=8):iU "one" fm dep (!true)=true/\iU "some" fm dep (!true)=true:=⟨lR 0 rfl rfl rfl h1 h2,lR 0 rfl rfl rfl h1 h2⟩
section
variable {Rs:List (List Str)} (hR:∀ T∈Rs,RwS T) (hl:Rs.length=5)
include hR hl
theorem cF (X:List Str):aH true (Rs++[X])=aH true Rs++(kM :: X):=by
 rw [fi,show Rs.isEmpty=false by cases Rs with | nil=>cases hl | cons=>rfl];rfl
theorem Mb {S:List Str} {x:Str} (h:Rf 7 36 2 true S x):Rf 8 0 1 true ([("one" : Str),kO]++aH true (Rs++[S])) x:=by
 obtain ⟨us,hu,ul⟩:=de (n:=7) (fr:=true) (c:=7) hR;rw [hl] at hu ul;rw [cF hR hl];exact d8 (.inr (.inr (.inl rfl))) (lZ (by decide) (by decide)).1 (by decide) hu (by omega) (by decide) (.inr (.inl ⟨fun z=>(by rw [z] at ul;cases ul),by omega,by decide,h,rfl⟩))
theorem KW {us:List Qq} {Us:List (List Str)} (h:jW (Fr 6 true) us Us 3) (hu:us.length<=6):∃ d,Fr 8 true d ([("one" : Str),kO]++(aH true (Rs++[[("some" : Str),kO]++(aH true Us++[kC])])++[kC])) 40:=by
 obtain ⟨vs,hv,vl⟩:=de (n:=7) (fr:=true) (c:=7) hR;rw [hl] at hv vl;exact ⟨_,jq (.inr (.inr (.inl rfl))) (eL (jq (.inr (.inl rfl)) h hu) hv) (by rw [N5,vl];show 5+1<=6;decide)⟩
theorem Fl {Us:List (List Str)} (hU:∀ T∈Us,TpS T) (ul:Us.length=3):Cas ([("one" : Str),kO]++aH true (Rs++[[("some" : Str),kO]++aH true Us])) kM [kC,kC]:=by
 obtain ⟨us,hu,vl⟩:=de (n:=6) (fr:=true) (c:=1) fun T hT=>(hU T hT).1 5 true;rw [ul] at hu vl;refine ⟨?_,BP,Mb hR hl ?_⟩
 ·obtain ⟨d,hd⟩:=KW hR hl hu (by omega);refine ⟨d,40,?_,by decide⟩;rw [cF hR hl] at hd ⊢;simpa using hd
 ·have:=d8 (n:=6) (x:=kM) (A:=[]) (.inr (.inl rfl)) (lZ (fm:=36) (dep:=2) (by decide) (by decide)).2 (by decide) hu (by omega) (by decide) (.inr (.inr ⟨fun z=>(by rw [z] at vl;cases vl),.inr rfl,rfl,rfl⟩))
  rwa [OC] at this
theorem GW {Us:List (List Str)} {w h:Str} {r T:List Str} (hU:∀ T∈Us,TpS T) (ul:Us.length=2) (hw:Lst w) (hT:TpS T) (e:T=h :: r):Cas ([("one" : Str),kO]++aH true (Rs++[[("some" : Str),kO]++aH true Us])++[kM,w,kO]) h [kC,kC,kC]:=by
 obtain ⟨us,hu,vl⟩:=de (n:=6) (fr:=true) (c:=1) fun T hT=>(hU T hT).1 5 true;rw [ul] at hu vl;obtain ⟨_,h',r',e',hk,ht⟩:=hT;rw [e] at e';cases e';have m0:iU w 39 3 (!true)=true:=by
  refine lR 0 ?_ ?_ ?_ (by decide) (by decide)
  all_goals rcases hw with rfl | rfl | rfl | rfl <;> rfl
 refine ⟨?_,ht,?_⟩
 ·have b:Fr 6 true (.tuple [.str w,.tuple []]) ([w,kO]++(aH true []++[kC])) 1:=jq (us:=[]) (Ts:=[]) (j:=0) hw rfl (by decide);obtain ⟨d,hd⟩:=KW hR hl (eL b hu) (by rw [N5,vl];show 2+1<=6;decide);refine ⟨d,40,?_,by decide⟩;rw [cF hR hl,fi,show Us.isEmpty=false by cases Us with | nil=>cases ul | cons=>rfl] at hd;rw [cF hR hl];simpa [aH] using hd
 ·have a1:=d8 (n:=5) (x:=h) (A:=[]) (us:=[]) (Ts:=[]) (k:=0) hw m0 (by decide) rfl (by decide) (by decide) (.inl ⟨rfl,fun t ht=>by cases ht;exact hk,x8 (Iu (.inl (by omega))),rfl⟩);have a2:=d8 (n:=6) (.inr (.inl rfl)) (lZ (fm:=36) (dep:=2) (by decide) (by decide)).2 (by decide) hu (by omega) (by decide) (.inr (.inl ⟨fun z=>(by rw [z] at vl;cases vl),by omega,by decide,a1,rfl⟩));have a3:=Mb hR hl a2;rw [cF hR hl] at a3 ⊢;simpa [aH] using a3
theorem Fz {Us:List (List Str)} {b:Str} (hU:∀ T∈Us,TpS T) (ul:Us.length=2) (hb:b = "not" \/ b = "many" \/ b = "each"):Cas ([("one" : Str),kO]++aH true (Rs++[[("some" : Str),kO]++aH true Us])++[kM]) b [("any" : Str),kC,kC]:=by
 obtain ⟨us,hu,vl⟩:=de (n:=6) (fr:=true) (c:=1) fun T hT=>(hU T hT).1 5 true;rw [ul] at hu vl;have hi:inn b=1:=by rcases hb with rfl | rfl | rfl <;> rfl
 refine ⟨?_,bS (by rcases hb with rfl | rfl | rfl <;> simp),?_⟩
 ·obtain ⟨d,hd⟩:=KW hR hl (eL (pZ (n:=5) (fr:=true) (w := "any") (.inl rfl)) hu) (by rw [N5,vl];show 2+1<=6;decide);refine ⟨d,40,?_,by decide⟩;rw [cF hR hl,fi,show Us.isEmpty=false by cases Us with | nil=>cases ul | cons=>rfl] at hd;rw [cF hR hl];simpa [aH] using hd
 ·have a2:=d8 (n:=6) (x:=b) (A:=[]) (.inr (.inl rfl)) (lZ (fm:=36) (dep:=2) (by decide) (by decide)).2 (by decide) hu (by omega) (by decide) (.inr (.inl ⟨fun z=>(by rw [z] at vl;cases vl),by omega,by decide,x8 (Iu (.inl (by omega))),rfl⟩));have a3:=Mb hR hl a2;rw [cF hR hl] at a3 ⊢;simpa [aH] using a3
end
section
variable {cs:List Int} {R:Nat} {pn:Qq} {Q:PR->List Qq->Prop}
theorem AO (hP:aO cs (R+16) pn) (q:∀ A x E pn',aO cs R pn'->Cas A x E->Q (.dat (.tuple [lsD A,.str x,lsD E])) [pn']):WF iY [pn] Q:=by
 refine dY rfl ?_;unfold qU;walk_at "d";intro v pn1 hP1 v0 v1;walk_at "N";refine ⟨⟨by decide,by decide⟩,?_⟩;refine eO (fun i e=>∃ (Rs:List (List Str)) (pn':Qq) (x y:Sl),Rs.length=i/\(∀ T∈Rs,RwS T)/\aO cs (R+5+2*(5 - i)) pn'/\soft x/\soft y/\e=([.ino pn',.dat (.int v),.own (.list (Rs.map lsD)),x,y,.un,.un,.un]:En)) ⟨[],pn1,.un,.un,rfl,fun T h=>(by cases h),hP1,gO,gO,rfl⟩ ?_ ?_
 ·rintro i d e hd ⟨Rs,pn',x,y,hl,hR,hP',hx,hy,rfl⟩;obtain ⟨rfl,hi⟩:=fD hd;have hi:i < 5:=hi;obtain ⟨j,ej⟩:∃ j,5 - i=j+1:=⟨4 - i,by omega⟩;rw [ej] at hP';have hP':aO cs (R+5+2*j+1+1) pn':=hP';refine Ag (i7 rfl hx) ?_;walk_at "N";refine ae (is:=[0]) rfl rfl (ou hP' fun T1 pn1 hP1 h1=>⟨rfl,?_⟩);walk_at "N";refine ae (is:=[0]) rfl rfl (ou hP1 fun T2 pn2 hP2 h2=>⟨rfl,?_⟩);walk_at "N";have hA:∀ T∈[[("any" : Str)],T1,[("any" : Str)],[("said" : Str)],T2,[("any" : Str)]],TpS T:=fun T hT=>by
   simp only [Oo,Pk,Qf] at hT;rcases hT with rfl | rfl | rfl | rfl | rfl | rfl <;> first | assumption | exact ky fun n fr=>⟨_,pZ (by unfold Lf;simp)⟩
  have hr:=ES hA rfl;have ln:=lq (f:=true) hA;generalize hs:[[("any" : Str)],T1,[("any" : Str)],[("said" : Str)],T2,[("any" : Str)]]=Ts at hA hr ln;have l6:Ts.length=6:=by rw [<- hs];rfl
  rw [l6] at ln;refine ae (ds:=[.list (Ts.map lsD)]) (is:=[]) (by rw [<- hs];rfl) rfl (eG (wK hA) (by omega) ⟨rfl,?_⟩);walk_at "P";refine bO rfl (by rw [N6];show 2+_<=2 ^ 24;omega) ?_;walk_at "P";refine bO rfl (by rw [N5,N6];show 2+_+1<=2 ^ 24;omega) ?_;walk_at "P";refine jN rfl (by rw [N6,hl];show _ < 2 ^ 24;omega) rfl ?_;walk_at "P";have e:([.str "all", .str kO]++(aH true Ts).map PyData.str)++[.str kC]=([("all" : Str),kO]++(aH true Ts++[kC])).map .str:=by simp
  exact ⟨Rs++[_],pn2,_,_,by rw [N5,hl];rfl,gp hR hr,by rw [show 5 - (i+1)=j by omega];exact hP2,gj,gj,by unfold lsD;rw [Ox,List.map_singleton,<-e];rfl⟩
 ·rintro e ⟨Rs,pn2,x,y,hl,hR,hP2,hx,hy,rfl⟩;replace hl:Rs.length=5:=hl;replace hP2:aO cs (R+5) pn2:=hP2;have rl:(aH true Rs).length<=840:=by
   obtain ⟨us,hu,_⟩:=de (n:=7) (fr:=true) (c:=7) hR;rw [hl] at hu;exact jH (fun u T j h=>g7 _ _ _ _ _ h) true hu
  walk_at "pz";with_reducible refine iJ fun N eN=>?_
  have rest:∀ (Us:List (List Str)) (pn':Qq),(∀ T∈Us,TpS T)->Us.length=(if v=0 then 3 else 2)->aO cs (R+2) pn'->N ([.ino pn',.dat (.int v),.own (.list (Rs.map lsD)),x,y,.dat (lsD ([("some" : Str),kO]++aH true Us)),.un,.un]:En):=by
   intro Us pn' hU ul hP';have u3:Us.length<=3:=by rw [ul];split <;> decide
   have ul2:=lq (f:=true) hU;have sl:(aH true (Rs++[[("some" : Str),kO]++aH true Us])).length<=2000:=by
    rw [cF hR hl,N5,Oc,N5];show _+(2+_+1)<=_;omega
   have ne:∀ T∈Rs++[[("some" : Str),kO]++aH true Us],T≠[]:=fun T hT=>by
    rcases Po.mp hT with z | z
    ·obtain ⟨d,hd⟩:=hR T z;obtain ⟨_,_,e,_⟩:=mD hd;rw [e];exact O3 _ _
    ·rw [Oz.mp z];exact O3 _ _
   rw [eN];walk_at "P";refine bO rfl (by rw [N6,hl];show 5+1<=2 ^ 24;decide) ?_;walk_at "P";refine ae (ds:=[.list ((Rs++[[("some" : Str),kO]++aH true Us]).map lsD)]) (is:=[]) (by rw [Ox];rfl) rfl (eG ne (by omega) ⟨rfl,?_⟩);walk_at "P";refine bO rfl (by rw [N6];show 2+_<=2 ^ 24;omega) ?_;walk_at "P";have e:[.str "one", .str kO]++(aH true (Rs++[[("some" : Str),kO]++aH true Us])).map PyData.str=([("one" : Str),kO]++aH true (Rs++[[("some" : Str),kO]++aH true Us])).map .str:=by rw [Ox];rfl
   have hv:v=0\/v=1\/v=2:=by omega
   rcases hv with rfl | rfl | rfl
   ·walk_at "P";have:=q _ _ _ pn' hP'.dn (Fl hR hl hU ul);unfold lsD at this;rw [<- e] at this;exact this
   ·walk_at "d";intro u pn3 hP3 u0 u1;walk_at "N";obtain ⟨w,ew,hw⟩:=yB u0 u1;refine iu rfl ew ?_;walk_at "P";refine bO rfl (by rw [N5,N6];show 2+_+3<=2 ^ 24;omega) ?_;walk_at "P";refine ae (is:=[0]) rfl rfl (ou hP3 fun T pn4 hP4 hT=>⟨rfl,?_⟩);obtain ⟨h,r,eT,_⟩:=hT.2;have hc:=GW hR hl hU ul hw hT eT;subst eT;walk_at "N";refine iu rfl (bZ (xs:=(h :: r).map PyData.str) (j:=0) rfl) ?_;walk_at "P";have:=q _ _ _ pn4 hP4 hc;unfold lsD at this;rw [Ox,<-e] at this;exact this
   ·walk_at "P";refine bO rfl (by rw [N5,N6];show 2+_+1<=2 ^ 24;omega) ?_;walk_at "d";intro u pn3 hP3 u0 u1;walk_at "N";obtain ⟨b,ed,hb⟩:=kz ["not", "many", "each"] u0 u1;refine iu rfl ed ?_;walk_at "P";have:=q _ _ _ pn3 hP3.dn (Fz hR hl hU ul (J9 hb));unfold lsD at this;rw [Ox,<-e] at this;exact this
  have lap:∀ Us:List (List Str),[.str "some", .str kO]++(aH true Us).map PyData.str=([("some" : Str),kO]++aH true Us).map .str:=fun Us=>by rw [Ox];rfl
  have hP3:aO cs (R+2+2) pn2:=aO.dn (R:=R+4) (k:=1) hP2;have hv:v=0\/v=1\/v=2:=by omega
  rcases hv with rfl | rfl | rfl
  all_goals
   walk_at "P";refine ⟨⟨by decide,by decide⟩,?_⟩;first
   | refine ma (m:=3) (R:=R+2) hP2 fun Us pn3 hP3 ul hU=>?_
   | refine ma (m:=2) (R:=R+2) hP3 fun Us pn3 hP3 ul hU=>?_
   have ln:=lq (f:=true) hU;rw [ul] at ln;walk_at "N";refine ae (is:=[]) rfl rfl (eG (wK hU) (by omega) ⟨rfl,?_⟩);walk_at "P";refine bO rfl (by rw [N6];show 2+_<=2 ^ 24;omega) ?_;have r:=rest Us pn3 hU ul hP3;rw [show lsD ([("some" : Str),kO]++aH true Us)=.list ([.str "some", .str kO]++(aH true Us).map PyData.str) by rw [lap]] at r;walk_at "P";exact r
end
section
variable {n fm dep:Nat} {x w l h:Str} {lo:Int} {hi:Option Int}
theorem FV (hw:Wlk w) (h1:fm+1+1<=40) (h2:dep+1<=8):iU w fm dep (!true)=true:=by
 refine lR 1 ?_ ?_ ?_ h1 h2
 all_goals rcases hw with rfl | rfl <;> rfl
theorem Cq {A:List Str} (hw:Wlk w) (hm:iU w fm dep (!true)=true) (hA:∀ {L:List Qq} {P:Option Int} {pl:Nat} {p:Int} {Q:PR->List Qq->Prop},Pay P->Sm L pl A->Tok L (pl+A.length) x p->P=some p->WkS n L P Q w pl (fm+1) dep):Rf (n+1) fm dep true ([w,kO]++A) x:=by
 refine ⟨fun {L P pl p} hP hs hx ep=>?_⟩;obtain ⟨q,e⟩:=hs.hd;rw [N5,<-Pd] at hx;exact b6 hP e (.inr ⟨hm,.inr (.inr (.inr (.inr (.inr (.inr (.inr ⟨hw,hs.tl.hd,n,rfl,hA hP hs.skip hx ep⟩))))))⟩)
theorem Ho (hw:Wlk w) (hm:iU w fm dep (!true)=true) (hx:bh x=.int lo) (hl:x.length<=100) (hb:bB lo none=false):Rf (n+1) fm dep true ([w,kO]++[]) x :=
 Cq hw hm fun _ _ e ep=>⟨x,_,lo,e,hl,hx,.inl ⟨hb,ep⟩⟩
theorem Hg (hw:Wlk w) (hm:iU w fm dep (!true)=true) (h1:bh l=.int lo) (hl:l.length<=100) (hb:bB lo none=true) (hx:HiT x hi) (hx2:bB lo hi=false):Rf (n+1) fm dep true ([w,kO]++[l,kM]) x :=
 Cq hw hm fun _ hs e ep=>by
  obtain ⟨q,e1⟩:=hs.hd;exact ⟨l,_,lo,e1,hl,h1,.inr ⟨hb,hs.tl.hd,x,_,hi,e,hx,.inl ⟨hx2,ep⟩⟩⟩
theorem Fs {B:List Str} (hw:Wlk w) (hm:iU w fm dep (!true)=true) (h1:bh l=.int lo) (hl:l.length<=100) (hb:bB lo none=true) (hh:HiT h hi) (hh2:bB lo hi=true)
  (hx:(B=[]/\x ≠ "^" /\ gw (.str x) 1=false)\/∃ up s T,B=stT up s++(kM :: T)/\Sh s/\Rf n (fm+1) (dep+1) false T x):Rf (n+1) fm dep true ([w,kO]++([l,kM,h,kM]++B)) x :=
 Cq hw hm fun {L P pl p Q} hP hs e ep=>by
  obtain ⟨q,e1⟩:=hs.hd;have h2:=hs.tl;obtain ⟨q3,e3⟩:=h2.tl.hd;refine ⟨l,_,lo,e1,hl,h1,.inr ⟨hb,h2.hd,h,q3,hi,e3,hh,.inr ⟨hh2,h2.tl.tl.hd,?_⟩⟩⟩;have h5:Sm L (pl+4) B:=hs.skip (A:=[l,kM,h,kM]);rw [N5,<-Pd] at e;obtain ⟨rfl,g1,g2⟩ | ⟨up,s,T,rfl,hs',hr⟩:=hx
  ·exact .inl ⟨x,p,e,g1,g2,ep⟩
  ·have h6:=h5.skip;rw [N5,Oc,<-Pd] at e;refine .inr ⟨stS up s,_,GU hs' h5.pre,h6.hd,cZ (hr.h hP h6.tl ?_ ep) fun _ _ ⟨_,_,_,_,_,z⟩=>z.elim⟩;rw [show pl+4+(stT up s).length+1+T.length=pl+[l,kM,h,kM].length+(stT up s).length+(T.length+1) by show _=pl+4+_+_;omega];exact e
end
theorem fL (hf:Fr 8 true d [w,y] 1) (hx:Tk x.cps.toList) (hw:w = "from" \/ w = "upto" \/ w = "is" \/ w = "keeps") (h:((w = "from" \/ w = "upto")/\x.length<=100/\BZ (bh x)=false/\whB (bh x)=false)\/(w = "is" /\ x.length<=100/\b8 (bh x)=true)\/(w = "keeps" /\ gw (.str x) 1=false)):Cas [w] x [y] :=
 ⟨⟨d,1,hf,by decide⟩,hx,GF (lR 0 (by rcases hw with rfl | rfl | rfl | rfl <;> rfl) (by rcases hw with rfl | rfl | rfl | rfl <;> rfl) (by rcases hw with rfl | rfl | rfl | rfl <;> rfl) (by decide) (by decide)) h⟩
theorem yO (h:(∃ c r,x.cps.toList=c :: r)/\x.length<=61/\x.cps.toList.all chB=true):Tk x.cps.toList:=by
 obtain ⟨⟨c,r,e⟩,hl,ha⟩:=h;rw [e,O8] at ha;rw [<- ax] at hl;refine ⟨hl,c,r,e,.inl ⟨ha c Od,fun x hx=>ha x (N8 _ hx)⟩⟩
theorem zM:Sh "ab" := ⟨by unfold Ltr;decide,by decide,by decide⟩
theorem AI {l h:Str} (hw:Wlk w) (h0:0<=lo) (h1:lo<=60) (hh:Ew lo hi) (hs:Sh s) (ht:Lf t) (el:aw lo=l) (eh:hiT hi=h):∃ d k,Fr 8 true d ([w,kO,l,kM,h,kM]++(stT up s++[kM,t,kC])) k/\k<=40:=by
 subst el eh;exact ⟨_,2,EA hw h0 h1 hh hs (pZ (n:=6) (fr:=false) ht),by decide⟩
def WB (B S:List Str):Prop:=(∀ x:Str,(x = "many" \/ x = "each" \/ x = "closed")->Rf 7 1 2 false B x)/\∃ d k T,Fr 7 false d T k/\k<=39/\B++(("any" : Str) :: S)=T++[kC]
theorem Lx {v:Int} (h0:0<=v) (h1:v < 3):∃ B S,atI ([.list [],.list [.str "not", .str "("],.list [.str "all", .str "(", .str "any", .str ","]]:List Qq) v=some (lsD B)/\atI ([.list [.str ")"],.list [.str ")", .str ")"],.list [.str ")", .str ")"]]:List Qq) v=some (lsD S)/\WB B S/\B.length<=4/\S.length<=2:=by
 have hv:v=0\/v=1\/v=2:=by omega
 have any1:∀ {n:Nat},Fr (n+1) false (.tuple [.str "any"]) ["any"] 1:=fun {n}=>pZ (.inl rfl)
 have no:∀ {n fm dep:Nat} {x:Str},(x = "many" \/ x = "each" \/ x = "closed")->Rf n fm dep false [] x:=fun h=>x8 (by
  unfold iU
  rcases h with rfl | rfl | rfl <;> rfl)
 rcases hv with rfl | rfl | rfl
 ·exact ⟨[],[kC],rfl,rfl,⟨fun x h=>no h,_,1,_,any1,by decide,rfl⟩,by decide,by decide⟩
 ·exact ⟨[("not" : Str),kO],[kC,kC],rfl,rfl,⟨fun x h=>Ca (A:=[]) (lR 1 rfl rfl rfl (by decide) (by decide)) (no h),_,2,_,AD any1,by decide,rfl⟩,by decide,by decide⟩
 ·refine ⟨[("all" : Str),kO, "any", kM],[kC,kC],rfl,rfl,⟨fun x h=>?_,_,3,_,jq (us:=[_,_]) (Ts:=[["any"],["any"]]) (j:=2) (.inl rfl) ⟨1,1,any1,⟨1,0,any1,rfl,rfl⟩,rfl⟩ (by decide),by decide,rfl⟩,by decide,by decide⟩;exact d8 (us:=[.tuple [.str "any"]]) (Ts:=[["any"]]) (k:=1) (A:=[]) (.inl rfl) (lR 0 rfl rfl rfl (by decide) (by decide)) (by decide) ⟨1,0,any1,rfl,rfl⟩ (by decide) (by decide) (.inr (.inl ⟨fun z=>(by cases z),by decide,by decide,no h,rfl⟩))
abbrev II:List Str:=[",", "ab", ",", "any", ")"]
def wC (w l l1 b:Str) (B S:List Str):List (List Str×Str×List Str) :=
  [(["keeps"], "abcdefghi", ["abcdefgh"]),(["is"], "'abcdefghi", ["'abcdefgh"]),(["is"],mM "9" 31,[mM "9" 30]),(["from"], "00", ["0"]),(["upto"], "-0", ["-1"]),(["is"], "-07", ["-7"]),(["from"], "ab", ["7"]),
   ([w,kO]++[], "61", ([("60" : Str),kM, "*"]++II)),([w,kO]++[], "-1", ([("0" : Str),kM, "60"]++II)),([w,kO]++[l,kM],l1,[l]++II),([w,kO]++[("2" : Str),kM], "61", ([("60" : Str)]++II)),
   ([w,kO]++([("2" : Str),kM, "*", kM]++[]), "abcdefghi", ["^", "a", ",", "said", ")"]),([w,kO]++([("0" : Str),kM, "*", kM]++(stT true "any" ++ (kM :: B))),b, "any" :: S)]
theorem pY (h:(∃ c r,x.cps.toList=c :: r/\(c=45\/cL c=true)/\r.all cL=true)/\x.length<=61):Tk x.cps.toList:=by
 obtain ⟨⟨c,r,e,hc,hr⟩,hl⟩:=h;rw [<- ax] at hl;exact ⟨hl,c,r,e,.inr (.inr (.inl ⟨hc,O8.mp hr⟩))⟩
theorem xQ {b:Str} {v:Int} {B S:List Str} (hw:Wlk w) (v0:0<=v) (v1:v < 61) (hb:b = "many" \/ b = "each" \/ b = "closed") (hW:WB B S):∀ t∈wC w (aw v) (aw (v - 1)) b B S,Cas t.1 t.2.1 t.2.2:=by
 have hm:=FV (fm:=0) (dep:=1) hw (by decide) (by decide);have five:∀ {T:Str} (i:Int),i.natAbs < 10 ^ 30->aw i=T->lJ (.int i) T:=fun i h e=>.inr (.inl ⟨i,rfl,h,e.symm⟩);have i61:bh "61" = .int 61:=by rfl
 have sv:v.natAbs < 10 ^ 30:=df v0 (by omega);have sv1:(v - 1).natAbs < 10 ^ 30:=Nat.lt_of_le_of_lt (show (v - 1).natAbs<=60 by omega) (by decide);have b0:∀ {v:Int},0<=v->v < 61->bB v none=true:=fun {v} h0 h1=>by
  have h2:v<=60:=by omega
  simp [bB,h0,h2]
 have sp:∀ {lo:Int} {hi:Option Int} {up:Bool} {s t l h:Str},0<=lo->lo<=60->Ew lo hi->Sh s->Lf t->aw lo=l->hiT hi=h->∃ d k,Fr 8 true d ([w,kO,l,kM,h,kM]++(stT up s++[kM,t,kC])) k/\k<=40:=fun a b c d e f g=>AI hw a b c d e f g;intro t ht;simp only [wC,Oo,Pk,Qf] at ht;rcases ht with rfl | rfl | rfl | rfl | rfl | rfl | rfl | rfl | rfl | rfl | rfl | rfl | rfl
 all_goals dsimp only
 ·exact fL (Fw ⟨by unfold Ltr;decide,by decide,by decide⟩) (yO ⟨⟨_,_,rfl⟩,by decide,by decide⟩) (by simp) (.inr (.inr ⟨rfl,by rfl⟩))
 ·exact fL (sY (x:=.tuple [.str "abcdefgh"]) (.inr (.inr ⟨"abcdefgh", rfl,⟨by unfold Ltr;decide,by decide⟩,by decide +kernel⟩))) ⟨by decide,_,_,rfl,.inr (.inl ⟨rfl,by decide⟩)⟩ (by simp) (.inr (.inl ⟨rfl,by decide,by rfl⟩))
 ·exact fL (sY (five 999999999999999999999999999999 (by decide) (by decide +kernel))) (pY ⟨⟨_,_,rfl,.inr (by decide),by decide⟩,by decide⟩) (by simp) (.inr (.inl ⟨rfl,by decide,by rfl⟩))
 ·exact fL (oR (v:=0) (.inl rfl) (by decide)) (pY ⟨⟨_,_,rfl,.inr (by decide),by decide⟩,by decide⟩) (by simp) (.inl ⟨.inl rfl,by decide,by rfl,by rfl⟩)
 ·exact fL (oR (v:=-1) (.inr rfl) (by decide)) (pY ⟨⟨_,_,rfl,.inl rfl,by decide⟩,by decide⟩) (by simp) (.inl ⟨.inr rfl,by decide,by rfl,by rfl⟩)
 ·exact fL (sY (five (-7) (by decide) (by decide +kernel))) (pY ⟨⟨_,_,rfl,.inl rfl,by decide⟩,by decide⟩) (by simp) (.inr (.inl ⟨rfl,by decide,by rfl⟩))
 ·exact fL (oR (v:=7) (.inl rfl) (by decide)) (yO ⟨⟨_,_,rfl⟩,by decide,by decide⟩) (by simp) (.inl ⟨.inl rfl,by decide,by rfl,by rfl⟩)
 ·exact ⟨sp (lo:=60) (hi:=none) (up:=false) (by decide) (by decide) trivial zM (.inl rfl) (by decide +kernel) rfl,pY ⟨⟨_,_,rfl,.inr (by decide),by decide⟩,by decide⟩,Ho hw hm i61 (by decide) (by decide)⟩
 ·exact ⟨sp (lo:=0) (hi:=some 60) (up:=false) (by decide) (by decide) ⟨by decide,by decide⟩ zM (.inl rfl) (by decide +kernel) (by decide +kernel),pY ⟨⟨_,_,rfl,.inl rfl,by decide⟩,by decide⟩,Ho (lo:=-1) hw hm (by rfl) (by decide) (by decide)⟩
 ·refine ⟨sp (lo:=v) (hi:=some v) (up:=false) v0 (by omega) ⟨Int.le_refl _,by omega⟩ zM (.inl rfl) rfl rfl,g8 sv1,Hg hw hm (dq sv) (Oy (cG sv) (by decide)) (b0 v0 v1) (hi:=some (v - 1)) ⟨qZ,dq sv1,Oy (cG sv1) (by decide)⟩ ?_⟩;simp [bB,show ¬v<=v - 1 by omega]
 ·exact ⟨sp (lo:=2) (hi:=some 60) (up:=false) (by decide) (by decide) ⟨by decide,by decide⟩ zM (.inl rfl) (by decide +kernel) (by decide +kernel),pY ⟨⟨_,_,rfl,.inr (by decide),by decide⟩,by decide⟩,Hg (lo:=2) hw hm (by rfl) (by decide) (by decide) (hi:=some 61) ⟨by decide,i61,by decide⟩ (by decide)⟩
 ·exact ⟨sp (lo:=2) (hi:=none) (up:=true) (s := "a") (by decide) (by decide) trivial ⟨by unfold Ltr;decide,by decide,by decide⟩ (.inr (.inr (.inr rfl))) (by decide +kernel) rfl,yO ⟨⟨_,_,rfl⟩,by decide,by decide⟩,Fs (lo:=2) (hi:=none) hw hm (by rfl) (by decide) (by decide) rfl (by decide) (.inl ⟨rfl,by decide,by rfl⟩)⟩
 ·obtain ⟨hR,d,k,T,hf,hk,e⟩:=hW;have sa:Sh "any" := ⟨by unfold Ltr;decide,by decide,by decide⟩;refine ⟨?_,bS (by rcases hb with rfl | rfl | rfl <;> simp),Fs (lo:=0) (hi:=none) hw hm (by rfl) (by decide) (by decide) rfl (by decide) (.inr ⟨true, "any", B,rfl,sa,hR b hb⟩)⟩;have:=EA (up:=true) hw (Int.le_refl 0) (by decide) (hi:=none) trivial sa hf;rw [<- e,show aw 0=("0" : Str) by decide +kernel] at this;exact ⟨_,k+1,this,by omega⟩
section
variable {cs:List Int} {R:Nat} {pn:Qq} {Q:PR->List Qq->Prop}
theorem Em (hP:aO cs (R+4) pn) (q:∀ A x E pn',aO cs R pn'->Cas A x E->Q (.dat (.tuple [lsD A,.str x,lsD E])) [pn']):WF lW [pn] Q:=by
 refine dY rfl ?_;unfold yH;walk_at "d";intro v pn1 hP1 v0 v1;walk_at "n";walk_at "d";intro u pn2 hP2 u0 u1;walk_at "N";obtain ⟨w,ed,hw⟩:=kz ["many", "each"] u0 u1;have hw:Wlk w:=by unfold Wlk;simpa using hw
 refine iu rfl ed ?_;clear ed;walk_at "P";have sv:v.natAbs < 10 ^ 30:=df v0 (by omega);have sv1:(v - 1).natAbs < 10 ^ 30:=Nat.lt_of_le_of_lt (show (v - 1).natAbs<=60 by omega) (by decide);refine jy rfl (yG sv) ?_;walk_at "P";refine jy rfl (yG sv1) ?_;walk_at "P";refine jy rfl (yG sv) ?_;walk_at "P";obtain ⟨B,S,eB,eS,hW,lB,lS⟩:=Lx (v:=v % 3) (by omega) (by omega);refine iu rfl eB ?_;walk_at "P";refine bO rfl (by rw [N6];show 9+_<=2 ^ 24;omega) ?_;walk_at "P";refine iu rfl eS ?_;walk_at "d";intro c pn3 hP3 c0 c1;walk_at "N";obtain ⟨b,ed,hb⟩:=kz ["many", "each", "closed"] c0 c1;refine iu rfl ed ?_;clear ed;walk_at "P";refine bO rfl (by rw [N6];show 1+_<=2 ^ 24;omega) ?_;walk_at "d";intro k pn4 hP4 k0 k1;walk_at "N";obtain ⟨d,hd,ed⟩:=atV (xs:=(wC w (aw v) (aw (v - 1)) b B S).map fun t=>PyData.tuple [lsD t.1,.str t.2.1,lsD t.2.2]) k0 k1;obtain ⟨t,ht,rfl⟩:=O1.mp hd;refine iu rfl ed ?_;walk_at "P";exact q _ _ _ pn4 hP4 (xQ hw v0 v1 (J9 hb) hW t ht)
end
section
variable {cs:List Int} {R:Nat} {pn:Qq} {Q:PR->List Qq->Prop}
theorem Dd {ns:List Str} (hP:aO cs (R+17) pn) (hl:ns.length=8) (hn:ns.Nodup) (hs:∀ x∈ns,Nm x) (q:∀ A x E pn',aO cs R pn'->Cas A x E->Q (.dat (.tuple [lsD A,.str x,lsD E])) [pn']):WF kR [pn,.list (ns.map .str)] Q:=by
 refine dY rfl ?_;unfold yL;walk_at "d";intro v pn1 hP1 v0 v1;walk_at "N";have hv:v=0\/v=1\/v=2\/v=3:=by omega
 rcases hv with rfl | rfl | rfl | rfl
 all_goals
  walk_at "P";first
  | refine ae (is:=[0]) rfl rfl (Es (aO.dn (R:=R+8) (k:=8) hP1) hl hn hs fun A x E pn2 hP2 hc=>⟨rfl,?_⟩)
  | refine ae (is:=[0]) rfl rfl (AO hP1 fun A x E pn2 hP2 hc=>⟨rfl,?_⟩)
  | refine ae (is:=[0]) rfl rfl (D3 (aO.dn (R:=R+10) (k:=6) hP1) fun A x E pn2 hP2 hc=>⟨rfl,?_⟩)
  | refine ae (is:=[0]) rfl rfl (Em (aO.dn (R:=R+4) (k:=12) hP1) fun A x E pn2 hP2 hc=>⟨rfl,?_⟩)
  walk_at "N";exact q _ _ _ _ hP2 hc
end
theorem K2 {r:RV} {a b:Qq} {N:En->Prop} (hr:r.av=.dat (.tuple [a,b])) {s t:Sl} (h1:e[i]?=some s) (s1:soft s) (h2:(e.set i (.dat a))[j]?=some t) (s2:soft t) (q:N ((e.set i (.dat a)).set j (.dat b))):C6 [i,j] r e N:=by
 refine ⟨_,_,hr,?_,q⟩;show (if free e i=true then (if free (e.set i (.dat a)) j=true then some _ else none) else none)=_;rw [Og (i7 h1 s1),Og (i7 h2 s2)]
theorem Jh {r:RV} {a b c:Qq} {N:En->Prop} (hr:r.av=.dat (.tuple [a,b,c])) {s t u:Sl} (h1:e[i]?=some s) (h2:(e.set i (.dat a))[j]?=some t) (h3:((e.set i (.dat a)).set j (.dat b))[k]?=some u) (s1:soft s) (s2:soft t) (s3:soft u) (q:N (((e.set i (.dat a)).set j (.dat b)).set k (.dat c))):C6 [i,j,k] r e N:=by
 refine ⟨_,_,hr,?_,q⟩;show (if free e i=true then (if free (e.set i (.dat a)) j=true then (if free ((e.set i (.dat a)).set j (.dat b)) k=true then some _ else none) else none) else none)=_;rw [Og (i7 h1 s1),Og (i7 h2 s2),Og (i7 h3 s3)]
theorem Ak (hC:Cut Z ts TK) (h:TK[j]?=some t):∃ p:Nat,(plc 0 ts)[j]?=some p/\p<=Z.length/\atI ((plc 0 ts).map fun p:Nat=>PyData.int (p:Int)) (j:Int)=some (.int (p:Int)):=by
 obtain ⟨A,D,p,eA,g1,g2,_⟩:=yJ (a:=0) (show (tkS ts)[j]?=some t by rw [hC.2.1];exact h);refine ⟨p,g1,?_,bZ (by rw [OA,g1];rfl)⟩;have:ts.flatten.length=Z.length:=by rw [<- hC.1,ax]
 rw [eA,List.flatten_append,N5] at this;omega
theorem aO.le {R C:Nat} (h:aO cs R d) (hb:C<=R):aO cs C d:=by
 obtain ⟨p,l,e,a,b,c⟩:=h;exact ⟨p,l,e,a,by omega,c⟩
theorem CS {A B:List Str} (h:TkA (A++B)):TkA A/\TkA B:=⟨fun t z=>h t (Ph _ z),fun t z=>h t (OD _ z)⟩
theorem Ft {E:List Str} (hE:TkA E) {v:Int} (h0:0<=v) (h1:v < 4):∃ Y,atI ([lsD E,.list [],.list [.str "any", .str ")"],.list [.str ","]]:List Qq) v=some (lsD Y)/\TkA Y/\Y.length<=E.length+2:=by
 obtain ⟨d,hd,ed⟩:=atV (xs:=([lsD E,.list [],.list [.str "any", .str ")"],.list [.str ","]]:List Qq)) h0 h1;simp only [Oo,Pk,Qf] at hd;rcases hd with rfl | rfl | rfl | rfl
 ·exact ⟨E,ed,hE,by omega⟩
 ·exact ⟨[],ed,aS,by simp⟩
 ·exact ⟨["any", kC],ed,au (bS (.inl rfl)) (au Fb aS),by simp⟩
 ·exact ⟨[kM],ed,au BP aS,by simp⟩
theorem Df {A E Y:List Str} {p:Nat} (h:Cas A x E) (hC:Cut Z ts ((A++[x])++Y)) (hz:Z.length<=99000) (hp:(plc 0 ts)[A.length]?=some p) (hpl:p<=99000) (q:Q (.dat (.int (p:Int))) []):WF cm [.str Z] Q:=by
 have hP:Pay (some (p:Int)):=fun q e=>by cases e;exact uY hpl
 have e2:=hC.2.1;have hs:Sm (tkL Z ts) 0 (A++([x]++Y)):=by
  have:=Bo (Z:=Z) (ts:=ts)
  rwa [e2,OE] at this
 refine tG (BV hP hz (qz hC) hC.1 (cZ (h.2.2.h hP hs.pre ?_ rfl) fun _ _ ⟨_,_,_,_,_,z⟩=>z.elim)) q;rw [Qj];refine BJ ?_ hp;rw [e2,OE,Oa (by omega),PV];rfl
theorem AY {ns:List Int} (hl:ns.length<=63):WF vL [.list (ns.map .int)] fun pr outs=>pr=.dat (.bool true)/\outs=[]:=by
 have hP:aO ns 20000 (Ed ns 0 0):=⟨0,0,rfl,by decide,by decide,by decide⟩;refine dY rfl ?_;unfold BS;walk_at "P";refine ae (ds:=[.list (ns.map .int)]) (is:=[]) rfl rfl (Gr ⟨rfl,?_⟩);walk_at "N";refine ⟨⟨by decide,by decide⟩,?_⟩;refine eO (fun i e=>∃ pn',aO ns (2500*(8 - i)) pn'/\uG [some (.dat (.list (ns.map .int))),some (.own pn'),none,none,none,none,none,none,none] e) ⟨Ed ns 0 0,hP,by walk_at "L"⟩ ?_ ?_
 ·rintro i d e hd ⟨pn',hP',_⟩;walk_at "l";obtain ⟨rfl,hi⟩:=fD hd;have hi:i < 8:=hi;obtain ⟨j,ej⟩:∃ j,8 - i=j+1:=⟨7 - i,by omega⟩;rw [ej] at hP';have hP':aO ns (2500*j+2500) pn':=hP';walk_at "f";walk_at "P";refine ae (is:=[1]) rfl rfl (Ac (aO.dn (R:=2500*j+2400+12) (k:=88) hP') fun xs pn1 hP1 xl xn hx=>⟨rfl,?_⟩);walk_at "N";refine ae (is:=[1]) rfl rfl (Dd (aO.dn (R:=2500*j+2300+17) (k:=83) hP1) xl xn hx fun A x E pn2 hP2 hc=>⟨rfl,?_⟩);obtain ⟨⟨fd,k,hf,hk⟩,hx1,_⟩:=id hc;have ln:=g7 _ _ _ _ _ hf;have tka:=Dl _ _ _ _ _ hf;obtain ⟨tA,tE⟩:=CS tka;rw [N5] at ln;walk_at "N";refine Jh rfl rfl rfl rfl (by first | assumption | exact gO) (by first | assumption | exact gO) (by first | assumption | exact gO) ?_;walk_at "n";walk_at "d";intro c pn3 hP3 c0 c1;walk_at "N";obtain ⟨Y,eY,tY,lY⟩:=Ft tE c0 c1;refine iu rfl eY ?_;walk_at "P";refine bO rfl (by rw [N6];show _+1<=2 ^ 24;omega) ?_;walk_at "P";refine bO rfl (by rw [N5,N6,N6];show _+1+_<=2 ^ 24;omega) ?_;walk_at "P";have lT:((A++[x])++Y).length<=1000:=by rw [N5,N5,Ow];omega
  refine ae (ds:=[pn3,.list (((A++[x])++Y).map .str)]) (is:=[1]) (by rw [Ox,Ox];rfl) rfl (vQ (R:=2500*j+1100) (hP3.le (by omega)) (cp (cp tA (au hx1 aS)) tY) lT fun Z ts pn4 hP4 hC hz=>⟨rfl,?_⟩);walk_at "N";refine K2 rfl rfl (by first | assumption | exact gO) rfl (by first | assumption | exact gO) ?_;obtain ⟨p,hp,hpz,ep⟩:=Ak hC (j:=A.length) (t:=x) (by rw [OE,Oa (by omega),PV];rfl);walk_at "n";walk_at "ps";refine ae (is:=[]) rfl rfl (Df hc hC (by omega) hp (by omega) ⟨rfl,?_⟩);walk_at "n";walk_at "ps";refine iu rfl (show atI _ (((A.map PyData.str).length:Nat):Int)=_ by rw [N6];exact ep) ?_;walk_at "ps";refine KZ rfl (by rfl) (by rfl) ?_;rw [eqv_refl _ (by simp [noD])];walk_at "ps";refine bO rfl (by rw [N6,N6];show _+_<=2 ^ 24;omega) ?_;walk_at "ps";have lT2:(A++E).length<=1000:=by rw [N5];omega
  refine ae (ds:=[pn4,.list ((A++E).map .str)]) (is:=[1]) (by rw [Ox];rfl) rfl (vQ (R:=2500*j) (hP4.le (by omega)) tka lT2 fun Z ts pn5 hP5 hC hz=>⟨rfl,?_⟩);have hz:Z.length<=99000:=by omega
  have hf:Fr 8 true fd (tkS ts) k:=by rw [hC.2.1];exact hf
  have rd:∀ {Q:PR->List Qq->Prop},Q (.dat fd) []->WF ar [.str Z] Q:=fun q=>rO hz (qz hC) hC.1 hf hk q;obtain ⟨_,_,e1,Y2,TK',rfl,rfl,⟨⟨us,hU⟩,hl2⟩,hf2⟩:=iG 8 (Q:=fun pr outs=>∃ Y TK',pr=.dat (.str Y)/\outs=[]/\Sn Y TK'/\Fr 8 true fd TK' k) hf hk fun Y TK' hY hf'=>⟨Y,TK',rfl,rfl,hY,hf'⟩;have ln2:=g7 _ _ _ _ _ hf2;have rd2:∀ {Q:PR->List Qq->Prop},Q (.dat fd) []->WF ar [.str Y2] Q:=fun q=>rO (by omega) (qz hU) hU.1 (by rw [hU.2.1];exact hf2) hk q;obtain ⟨eo,er⟩:=LJ hf;walk_at "n";walk_at "ps";refine ae (is:=[]) rfl rfl (tj (rd rfl) ⟨rfl,?_⟩);walk_at "ps";refine Iz ?_;walk_at "ps";refine Iz ?_;walk_at "ps";refine ae (is:=[]) rfl rfl (rd ⟨rfl,?_⟩);walk_at "ps";refine lP (Ff 8) (is:=[]) (ds:=[fd]) rfl rfl ⟨_,_,e1,rfl,?_⟩;walk_at "ps";refine ae (is:=[]) rfl rfl (rd2 ⟨rfl,?_⟩);walk_at "ps";refine Iz ?_;walk_at "ps";refine ae (is:=[]) rfl rfl (rd ⟨rfl,?_⟩);walk_at "ps";refine KZ rfl eo eo ?_;rw [er];walk_at "ps";refine Iz ?_;walk_at "ps";refine ae (is:=[]) rfl rfl (rd ⟨rfl,?_⟩);walk_at "ps";refine ae (is:=[]) rfl rfl (zO hf hk ⟨rfl,?_⟩);walk_at "ps";have k1:=(oq hf).1;refine d5 (Oe (show (1:Int)<=(k:Int) by omega)) ?_;walk_at "ps";refine cO (show (!decide ((k:Int)<=40))=false by rw [Oe (show (k:Int)<=40 by omega)];rfl) ?_;walk_at "ps";exact ⟨pn5,by rw [show 8 - (i+1)=j by omega];exact hP5,by walk_at "L"⟩
 ·rintro e ⟨pn',hP',_⟩;walk_at "l";walk_at "P";exact ⟨rfl,rfl⟩
end K21
end
namespace PySem.W.Fast
def tw13190704853985318385:=()
def tw8176134499159025002:=()
def tw3727589853638674485:=()
def tw6021144533589290444:=()
def tw12406528279883653765:=()
def tw5839154147289392026:=()
def tw6784956289394785406:=()
def tw14604754864794738216:=()
def tw17378420400737814374:=()
def tw5612087471570270602:=()
def tw12653666277745123847:=()
def tw8423249712796611073:=()
def tw4903884470424427975:=()
def tw6235267128575037154:=()
def tw11882079706227323086:=()
def tw8952767957985570370:=()
def tw4463483781674351026:=()
def tw16486611256112995111:=()
def tw1726510394465021993:=()
def tw1295395334160204834:=()
def tw599478258429423214:=()
def tw1019529224732293078:=()
def tw8552256949301979032:=()
def tw7441163581802782584:=()
def tw17891751664217300235:=()
def tw3053871813598387985:=()
def tw3013917110944115007:=()
def tw6976880411109599398:=()
def tw6604348718704394686:=()
def tw7661159158090565349:=()
def tw16682044102951491003:=()
def tw9715181811236980934:=()
def tw34448167692335544:=()
def tw7485451375609938738:=()
def tw12909631952122312078:=()
def tw127026315880216328:=()
def tw5197072576054730278:=()
def tw14518224902504757868:=()
def tw400782139524068943:=()
def tw10331079194399855915:=()
def tw9962856867807991752:=()
def tw11693814024316539856:=()
def tw14382815692153004283:=()
def tw3809648449784004170:=()
def tw16062663093228835706:=()
def tw10670014152230322344:=()
def tw2579234047152155584:=()
def tw16967459901956529842:=()
def tw16576406228506278953:=()
def tw10160522815069228543:=()
def tw8653998060851351398:=()
def tw15116657902484621382:=()
def tw14165050788507831059:=()
def tw12935113760059111514:=()
def tw3886462130179769071:=()
def tw17785808938058850094:=()
def tw5027986256905117051:=()
def tw3493354322916469564:=()
def tw14966257537489319534:=()
def tw5046824355827049930:=()
def tw8995017111597386127:=()
def tw13138661608875806408:=()
def tw390183185989055435:=()
def tw8926876043000928197:=()
def tw7277484991826236257:=()
def tw13839215341100176032:=()
def tw10497246522359765446:=()
def tw16648478098598740007:=()
def tw12531906394052046030:=()
def tw13938879176907921138:=()
def tw5169213700253341896:=()
def tw6049204039007896046:=()
def tw9583606995849378512:=()
def tw16234557958226282131:=()
def tw4831597346553752453:=()
def tw8864707444520540945:=()
def tw3331612601115754627:=()
def tw7078271361259749668:=()
def tw2187548640230882778:=()
def tw4097753269567251097:=()
def tw5138198690549817138:=()
def tw18180666858020825894:=()
def tw10107714613620803851:=()
def tw176630445227873165:=()
def tw1719573820974180941:=()
def tw13343235752260072110:=()
def tw10050445180500184774:=()
def tw7274290895953016602:=()
def tw4074032893392363079:=()
def tw1337318080862627792:=()
def tw13120021203243542903:=()
def tw14397184198739675822:=()
def tw6504280627454653835:=()
def tw4659722344362788062:=()
def tw13762063109802376377:=()
def tw8444121415323049331:=()
def tw11871147598719468504:=()
def tw15446999169477221471:=()
def tw3576512427492633075:=()
def tw4811339996786851770:=()
def tw13452923619313698046:=()
def tw4317084915091178805:=()
def tw1911099778327588848:=()
def tw11841031735375477902:=()
def tw8160381041476566134:=()
def tw9763563029194613203:=()
def tw8112312466271507318:=()
def tw13394850835715057119:=()
def tw13700831553629416477:=()
def tw9314556601476406724:=()
def tw12240147802904048728:=()
def tw13432725570072918465:=()
def tw8748188033149265328:=()
def tw2320828150361775363:=()
def tw15409407506047164347:=()
def tw2594508893549865747:=()
def tw7629647185499516714:=()
def tw5687044298388772256:=()
def tw12570713701531878494:=()
def tw15344962931723262873:=()
def tw150914506234289566:=()
def tw12201856364821787921:=()
def tw9176635011122611470:=()
def tw13180590386632590689:=()
def tw14362648006961328252:=()
def tw14723119765362423182:=()
def tw6712054744080017124:=()
def tw7715119945325460052:=()
def tw12498837521856353667:=()
def tw11747385736474153621:=()
def tw2385662785360906396:=()
def tw4492806014075549204:=()
def tw17166808227750729756:=()
def tw17971139534579084632:=()
def tw7282392533391424207:=()
def tw2797946115930964132:=()
def tw12923781355079274842:=()
def tw12301410540108828382:=()
def tw17289251580485385559:=()
def tw5346395182829500123:=()
def tw6760090042279603881:=()
def tw17824803856916254867:=()
def tw11181780035619918895:=()
def tw886515847105206768:=()
def tw9904103682569298043:=()
def tw13032357191632635644:=()
def tw17801479331545416378:=()
def tw10035951510574574127:=()
def tw13017122801727253252:=()
def tw4440787743909796061:=()
def tw13699830578259758603:=()
def tw15366047901942466463:=()
def tw5413707319759942164:=()
def tw14434815595722974138:=()
def tw12846152516601487786:=()
def tw2463239175751302342:=()
def tw17988429937424423593:=()
def tw6343155342051112915:=()
def tw9051820090427170962:=()
def tw17212103576745012249:=()
def tw4580479349357542405:=()
def tw13527921655902919799:=()
def tw3881976079873483659:=()
def tw13125763595134588964:=()
def tw7707315301259107726:=()
def tw3325932913158758943:=()
def tw623118794559429074:=()
def tw9920088344413966805:=()
def tw4831417140465009206:=()
def tw13248806469988915187:=()
def tw18086825679478369919:=()
def tw14413258809674077508:=()
def tw6605483429111048343:=()
def tw14709446389382406497:=()
def tw2783939416188649896:=()
def tw8390381548039578646:=()
def tw8639383685930294008:=()
def tw17711306162103329574:=()
def tw3541207542513629976:=()
def tw1494346728518087784:=()
def tw13400908649177424648:=()
def tw15979640310685520123:=()
def tw2922474019976022020:=()
def tw3441278344960668001:=()
def tw15103632098333308663:=()
def tw4268825299818489461:=()
def tw3256292249960179016:=()
def tw10326556607262173241:=()
def tw3675094898204949996:=()
def tw3768604450553268151:=()
def tw5680742958482611432:=()
def tw3452681593860112318:=()
def tw9326660213551620331:=()
def tw14342024908416216722:=()
def tw7885449803909029336:=()
def tw11061250169372190500:=()
def tw6689370946429257828:=()
def tw6815695988656025689:=()
def tw13326244329490046125:=()
def tw8551598132792980507:=()
def tw14210756775580571355:=()
def tw2406700058476629016:=()
def tw7994103249920188715:=()
def tw7769404793697842235:=()
def tw7632878737923480248:=()
def tw3213159851990212468:=()
def tw14406333437202403756:=()
def tw6919354214947654781:=()
def tw7095751256372186821:=()
def tw8077154617385690793:=()
def tw1113085743670350623:=()
def tw12440912468699200569:=()
def tw6828504726050808069:=()
def tw9077046951077347445:=()
def tw4201591261583207521:=()
def tw16158666928935375145:=()
def tw16892349270919228571:=()
def tw13335772866889227286:=()
def tw18005996949305221710:=()
def tw16930944040938819877:=()
def tw4684211395321610179:=()
def tw4930830868551892258:=()
def tw5300758448041439075:=()
def tw17057399020224598619:=()
def tw1278146580057754733:=()
def tw6849670157615485533:=()
def tw7943295664523690403:=()
def tw7465386817318173490:=()
def tw6656395501169577242:=()
def tw12916061107372629654:=()
def tw9992340927142236663:=()
def tw16754865741270704119:=()
def tw3823399696425665006:=()
def tw7192549734909906265:=()
def tw17821817539464556422:=()
def tw16623222622290195685:=()
def tw15336807281989627872:=()
def tw4423414041580975273:=()
def tw3432124498132817450:=()
def tw5728418280575570941:=()
def tw13828174997462877576:=()
def tw10605534622480964741:=()
def tw12397583087947909288:=()
def tw14934017803772830035:=()
def tw420950325582445184:=()
def tw8179099865894866882:=()
def tw388406258415760958:=()
def tw10857124386406223611:=()
def tw2251264092623848318:=()
def tw10388438987179701615:=()
def tw266728456953964939:=()
def tw3899608758100187943:=()
def tw13226960265975954576:=()
def tw706562120062012178:=()
def tw4320495337143555708:=()
def tw11384957801391309880:=()
def tw8275550035245365464:=()
def tw15297621962835983911:=()
def tw8007829701872512506:=()
def tw651128628907952066:=()
def tw12111169077096413771:=()
def tw18307416310154432365:=()
def tw9081826373594208807:=()
def tw1488439778720514404:=()
def tw1447988598206568050:=()
def tw9076308296405508787:=()
def tw16431106566373839504:=()
def tw18441563796108954744:=()
def tw15007545281736588480:=()
def tw14150874542605555497:=()
def tw17111369863916555704:=()
def tw7468540448654746231:=()
def tw12129471462359276435:=()
def tw14157457024541439722:=()
def tw17266575679307909298:=()
def tw17236322116061648569:=()
def tw8226771695691101879:=()
def tw14609838085300396972:=()
def tw15984161098980187531:=()
def tw15831467368577386078:=()
def tw16621761141476908940:=()
def tw8501447717756546774:=()
def tw7350720069045261639:=()
def tw17938538862281937914:=()
def tw14259094060575097189:=()
end PySem.W.Fast
end
open PySem PySem.W PyProof.Rows
set_option maxRecDepth 100000 in
set_option maxHeartbeats 0 in
theorem PySem.Challenge.cw_webshapes_k21_texts_at_the_bounds_holds : PySem.Challenge.rw_webshapes_k21_texts_at_the_bounds.Holds := by
  w_on; (refine holds_law L2.ws fun said => ?_); k_head; (case hw => w_witness2)
  k_fill
  refine L2.Bd (l := PySem.Challenge.rw_webshapes_k21_texts_at_the_bounds) (n := 63) (k := 30) (x := "_law_script") (CX := L2.CX0) (sp := K21.Cb) rfl (by decide) rfl ⟨rfl, by decide, by decide, rfl⟩ (fun w h Y => PySem.W.kIn_of Y) ?F ?S ?C
  case F =>
    intro w mg fa h KX G hmg;have TT : ∃ t : K21.Adr, (∀ (s : Qv) (u : Qz), BindsTo s (t.f 46).2 ⟨[u], []⟩ [("_law_script", u)]) ∧ K21.Txt w (L2.KOf KX) mg t := by
      dsimp only [L2.KOf];refine' K21.Ib KX G ?D ?am0 ?lm0 ?cm0 ?km0 ?im0 ?am1 ?lm1 ?cm1 ?km1 ?im1 ?am2 ?lm2 ?cm2 ?km2 ?im2 ?am3 ?lm3 ?cm3 ?km3 ?im3 ?C_g ?ua ?ub ?uc ?ud ?ue ?uf ?ug ?uh ?ui ?uj ?uk ?ul ?um ?un ?uo ?up ?uq ?ur ?ut ?uu ?uw ?uy ?u0 ?u2 ?u4 ?u6 ?u8 ?za ?zc ?ze ?zg ?zo ?zq ?zw ?zy ?yh ?yi ?yj ?yk ?yl ?ym ?yn ?yo ?yp ?yq ?yr ?ys ?yt ?yu ?yv ?yw ?yx ?yy ?yz ?y0 ?xal ?xam ?xah ?xat ?xan ?xaj ?y8 ?y9 ?qa ?xbl ?xbm ?xbh ?xbt ?xbn ?xbj ?qi ?qj ?qk ?gxa ?gxb ?sa ?po ?tk ?hd ?sp ?rd ?na ?fc ?kpx ?lI ?cI ?kI ?mr ?mv ?Y
      (case D => (iterate 47 refine L2.J5 KX G (by k_is) (by k_is) (by k_is) (by k_is) (by first | exact fun _ _ _ _ _ _ => L2.us1 fun _ => rfl | exact fun _ _ _ _ _ _ => L2.us2 fun _ _ => rfl | exact fun _ _ _ _ _ _ => L2.us3 fun _ _ _ => rfl | exact fun _ _ _ _ _ _ => L2.us4 fun _ _ _ _ => rfl) ?_); exact True.intro)
      case gxa|gxb|am0|lm0|cm0|km0|im0|am1|lm1|cm1|km1|im1|am2|lm2|cm2|km2|im2|am3|lm3|cm3|km3|im3|C_g|ua|ub|uc|ud|ue|uf|ug|uh|ui|uj|uk|ul|um|un|uo|up|uq|ur|ut|uu|uw|uy|u0|u2|u4|u6|u8|za|zc|ze|zg|zo|zq|zw|zy|yh => k_is
      (case yi => (iterate 16 refine ⟨⟨_, _, rfl, rfl⟩, ?_⟩); exact trivial)
      (case yj => (decide))
      (case yk => (exact rfl))
      case yl|ym|yn|yo|yp|yq|yr|ys|yt|yu|yv|yw|yx|yy|yz|y0|xal => k_is
      case xam|xah => rfl
      case xat|xan => kernel_rfl
      case xaj|y8|y9|qa|xbl => k_is
      case xbm|xbh => rfl
      case xbt|xbn => kernel_rfl
      case xbj|qi|qj|qk|sa => k_is
      case po => kernel_rfl
      case tk|hd|sp|rd|na|fc|kpx|lI|cI|kI|mr|mv => k_is
      (case Y => (intro xC; (iterate 14 refine L2.Le KX G xC (by k_is) (by k_is) (by k_is) ?_); exact True.intro))
    obtain ⟨t, hb, T⟩ := TT;have e : some (Value.ref fa) = some (Value.ref (t.f 46).1) := hmg.symm.trans (T.d 46 rfl).m;have e' : fa = (t.f 46).1 := by injection e with e; injection e
    subst e';exact ⟨(t.f 46).2, hb, fun base _ _ => K21.FL T⟩
  case S => exact fun K H a ns hl _ hS => L2.Gs rfl hl hS (by obtain ⟨pr, outs, h, rfl, rfl⟩ := K21.AY hl; exact h)
  case C => exact fun _ _ _ _ z => z

