import PyProof.Rows.All
import Wide.All
import OpenK.AllK
import Wide.FinOn
import Lean
import PyProof.EqAt
import PyProof.EqKinds
import PyProof.TupleCall
import PyProof.ConsumeWalk
import PyProof.EqLayable
import PyProof.ReprRoads
import PyProof.StrWalks
import PyProof.SliceStr2
import PyProof.StrLawsIn
import PyProof.StrLawsRepr
import PyProof.SliceList
import PyProof.Rows.FStr
import PyProof.CallStr
import PyProof.Rows.SeqMore
import PyProof.ListStr
import PyProof.Claim2Refuses
import PyProof.Rows.SetFrom
import PyProof.Rows.StrMeet
import PyProof.WalksMore
import PyProof.StrCalls
import PyProof.ListMulRoad
import PyProof.MaxThree
import PyProof.Rows.SumAny
import PyProof.AutoSeq1
import PyProof.StrBlock2
import KE.KIntText
import PyProof.StrCalls2
import PyProof.Rows.StrSplitMax
import OpenK.KOwn
import KE.KIsAll
import OpenK.KMake
import PySem.Challenge.RW_webshapes_k22_whole_every_cut_of_a_text
abbrev Qq:=PySem.PyData
abbrev Qj:=PySem.Value
abbrev Qz:=PySem.Addr
abbrev Qx:=PySem.Shared
set_option compiler.extract_closed false
set_option bootstrap.genMatcherCode false
set_option Elab.async false
set_option linter.all false
set_option maxRecDepth 100000
set_option maxHeartbeats 4000000
noncomputable section
section
open PySem PySem.Spec PyProof.Rows PySem.W
theorem NS:type_of% @List.length_append:=@List.length_append
theorem NT:type_of% @List.length_map:=@List.length_map
theorem NU:type_of% @List.getElem?_set_ne:=@List.getElem?_set_ne
theorem NV:type_of% @List.length_cons:=@List.length_cons
theorem NW:type_of% @List.getElem?_eq_some_iff:=@List.getElem?_eq_some_iff
theorem NX:type_of% @List.getElem?_append_right:=@List.getElem?_append_right
theorem NY:type_of% @decide_eq_true:=@decide_eq_true
theorem NZ:type_of% @List.mem_cons_of_mem:=@List.mem_cons_of_mem
theorem N1:type_of% @List.getElem?_append_left:=@List.getElem?_append_left
theorem N3:type_of% @wpAny_bind:=@wpAny_bind
theorem N4:type_of% @if_pos:=@if_pos
theorem N5:type_of% @List.mem_cons_self:=@List.mem_cons_self
theorem N6:type_of% @decide_eq_false:=@decide_eq_false
theorem N7:type_of% @List.getElem?_eq_getElem:=@List.getElem?_eq_getElem
theorem N8:type_of% @Heap.get?_push_of_some:=@Heap.get?_push_of_some
theorem N9:type_of% @List.mem_cons:=@List.mem_cons
theorem Oa:type_of% @List.getElem?_set_self:=@List.getElem?_set_self
theorem Ob:type_of% @Nat.lt_of_lt_of_le:=@Nat.lt_of_lt_of_le
theorem Oc:type_of% @Nat.le_refl:=@Nat.le_refl
theorem Od:type_of% @if_neg:=@if_neg
theorem Oe:type_of% @Heap.lt_size:=@Heap.lt_size
theorem Of:type_of% @List.size_toArray:=@List.size_toArray
theorem Og:type_of% @List.length_nil:=@List.length_nil
theorem Oh:type_of% @List.mem_singleton:=@List.mem_singleton
theorem Oi:type_of% @Nat.le_trans:=@Nat.le_trans
theorem Oj:type_of% @List.getElem?_map:=@List.getElem?_map
theorem Ol:type_of% @List.mem_append_right:=@List.mem_append_right
theorem Om:type_of% @wpAny_pure:=@wpAny_pure
theorem Oo:type_of% @List.map_append:=@List.map_append
theorem Oq:type_of% @List.length_set:=@List.length_set
theorem Ot:type_of% @Bool.and_eq_true:=@Bool.and_eq_true
theorem Ou:type_of% @Option.map_eq_some_iff:=@Option.map_eq_some_iff
theorem Ov:type_of% @List.mem_of_getElem?:=@List.mem_of_getElem?
theorem Ow:type_of% @List.length_singleton:=@List.length_singleton
theorem Ox:type_of% @List.mem_nil_iff:=@List.mem_nil_iff
theorem Oy:type_of% @List.append_assoc:=@List.append_assoc
theorem Oz:type_of% @List.append_nil:=@List.append_nil
theorem OA:type_of% @Heap.get?_push_size:=@Heap.get?_push_size
theorem OB:type_of% @List.length_take:=@List.length_take
theorem OC:type_of% @Nat.ne_of_lt:=@Nat.ne_of_lt
theorem OD:type_of% @PySem.F.plainAttrs_list:=@PySem.F.plainAttrs_list
theorem OE:type_of% @List.mem_map:=@List.mem_map
theorem OF:type_of% @wpAny_mono:=@wpAny_mono
theorem OG:type_of% @PySem.W.mg_of:=@PySem.W.mg_of
theorem OH:type_of% @PySem.F.type_list_append:=@PySem.F.type_list_append
theorem OI:type_of% @PySem.F.slot_list_append:=@PySem.F.slot_list_append
theorem OJ:type_of% @Nat.lt_irrefl:=@Nat.lt_irrefl
theorem OK:type_of% @Option.some.inj:=@Option.some.inj
theorem OL:type_of% @List.nil_append:=@List.nil_append
theorem ON:type_of% @wpAny_loadPart_at:=@wpAny_loadPart_at
theorem OO:type_of% @PySem.W.mg_none_of:=@PySem.W.mg_none_of
theorem OP:type_of% @Nat.le_of_ble_eq_true:=@Nat.le_of_ble_eq_true
theorem OQ:type_of% @decide_eq_true_eq:=@decide_eq_true_eq
theorem OR:type_of% @List.length_drop:=@List.length_drop
theorem OS:type_of% @List.cons_ne_nil:=@List.cons_ne_nil
theorem OT:type_of% @Heap.get?_update_other:=@Heap.get?_update_other
theorem OU:type_of% @wpAny_truthy_bool:=@wpAny_truthy_bool
theorem OV:type_of% @of_decide_eq_true:=@of_decide_eq_true
theorem OW:type_of% @List.lookup_cons:=@List.lookup_cons
theorem OZ:type_of% @List.flatten_append:=@List.flatten_append
theorem O0:type_of% @Nat.zero_le:=@Nat.zero_le
theorem O1:type_of% @List.nodup_cons:=@List.nodup_cons
theorem O2:type_of% @List.cons_lt_cons_iff:=@List.cons_lt_cons_iff
theorem O3:type_of% @Bool.false_ne_true:=@Bool.false_ne_true
theorem O4:type_of% @Bool.true_and:=@Bool.true_and
theorem O5:type_of% @List.cons_eq_cons:=@List.cons_eq_cons
theorem O6:type_of% @List.take_of_length_le:=@List.take_of_length_le
theorem O7:type_of% @Nat.lt_succ_self:=@Nat.lt_succ_self
theorem O8:type_of% @List.all_eq_true:=@List.all_eq_true
theorem O9:type_of% @or_false:=@or_false
theorem Pa:type_of% @PySem.W.looks_findIn:=@PySem.W.looks_findIn
theorem Pb:type_of% @List.mem_of_mem_take:=@List.mem_of_mem_take
theorem Pc:type_of% @List.filterMap_cons:=@List.filterMap_cons
theorem Pd:type_of% @of_decide_eq_false:=@of_decide_eq_false
theorem Pe:type_of% @beq_iff_eq:=@beq_iff_eq
theorem Pf:type_of% @List.mem_append:=@List.mem_append
theorem Pg:type_of% @List.length_replicate:=@List.length_replicate
theorem Ph:type_of% @wpAny_execs_cons:=@wpAny_execs_cons
theorem Pj:type_of% @List.take_length:=@List.take_length
theorem Pk:type_of% @List.set_set:=@List.set_set
theorem Pm:type_of% @wpAny_isSubtype_exc:=@wpAny_isSubtype_exc
theorem Pn:type_of% @beq_eq_false_iff_ne:=@beq_eq_false_iff_ne
theorem Po:type_of% @PySem.mem_of_lookup:=@PySem.mem_of_lookup
theorem Pp:type_of% @wpAny_passesOwn:=@wpAny_passesOwn
theorem Pq:type_of% @wpAny_execs_nil:=@wpAny_execs_nil
theorem Pt:type_of% @PySem.W.kia_one:=@PySem.W.kia_one
theorem Pu:type_of% @Bool.or_eq_true:=@Bool.or_eq_true
theorem Pw:type_of% @wpAny_Call_Name_kw:=@wpAny_Call_Name_kw
theorem Px:type_of% @wpAny_newObj_type:=@wpAny_newObj_type
theorem Py:type_of% @PySem.F.plainAttrs_str:=@PySem.F.plainAttrs_str
theorem Pz:type_of% @Nat.sub_self:=@Nat.sub_self
theorem PB:type_of% @List.length_range:=@List.length_range
theorem PD:type_of% @List.flatten_cons:=@List.flatten_cons
theorem PF:type_of% @List.getElem?_eq_none:=@List.getElem?_eq_none
theorem PH:type_of% @Heap.get?_update_self:=@Heap.get?_update_self
theorem PJ:type_of% @sizeLine_eq:=@sizeLine_eq
theorem PK:type_of% @codeAny_call_builtin:=@codeAny_call_builtin
theorem PL:type_of% @Nat.pow_le_pow_right:=@Nat.pow_le_pow_right
theorem PN:type_of% @List.mem_append_left:=@List.mem_append_left
theorem PQ:type_of% @if_true:=@if_true
theorem PU:type_of% @take_snoc:=@take_snoc
theorem PV:type_of% @PySem.W.callWith_K:=@PySem.W.callWith_K
theorem PX:type_of% @List.pairwise_cons:=@List.pairwise_cons
theorem PY:type_of% @List.contains_cons:=@List.contains_cons
theorem PZ:type_of% @Array.getElem?_eq_some_iff:=@Array.getElem?_eq_some_iff
theorem P1:type_of% @List.drop_eq_getElem_cons:=@List.drop_eq_getElem_cons
theorem P4:type_of% @wpAny_field:=@wpAny_field
theorem P5:type_of% @Nat.le_succ:=@Nat.le_succ
theorem P6:type_of% @List.getElem?_take_of_lt:=@List.getElem?_take_of_lt
theorem P7:type_of% @beq_self_eq_true:=@beq_self_eq_true
theorem P8:type_of% @codeAny_mono:=@codeAny_mono
theorem P9:type_of% @Nat.zero_add:=@Nat.zero_add
theorem Qa:type_of% @List.foldl_cons:=@List.foldl_cons
theorem Qb:type_of% @PySem.W.methodCall_KW:=@PySem.W.methodCall_KW
end
section
namespace L2
abbrev Fg:=PySem.W.Frag
set_option maxRecDepth 100000 in
set_option maxHeartbeats 0 in
theorem ws:PySem.W.OpenLaw.wellSaid PySem.Challenge.rw_webshapes_k22_whole_every_cut_of_a_text=true:=by decide +kernel
open PySem PySem.Spec PyProof.Rows
abbrev Key:=Sum Int Str
noncomputable def F4:Key->Qj->Bool
 | .inl k,v=>Value.isInt k v
 | .inr x,v=>Value.isStrOf x v
noncomputable def Nt (w:World):Key->Int
 | .inl k=>hashInt k
 | .inr x=>hashStr w x
theorem bc:∀ {k:Key} {v:Qj},F4 k v=true->(∃ i t,k=Sum.inl i/\v=Value.int i t)\/(∃ x t,k=Sum.inr x/\v=Value.str x t)
 | .inl i,v,h=>by
  obtain ⟨t,e⟩:=Value.isInt_shape (k:=i) (v:=v) h;exact .inl ⟨i,t,rfl,e⟩
 | .inr x,v,h=>by
  obtain ⟨t,e⟩:=Value.isStrOf_shape (x:=x) (v:=v) h;exact .inr ⟨x,t,rfl,e⟩
theorem GF (a b:Int):decide ((Sum.inl a:Key)=Sum.inl b)=(a==b):=by
 by_cases e:a=b
 ·subst e;simp
 ·have h:¬(Sum.inl a:Key)=Sum.inl b:=fun q=>e (Sum.inl.inj q);rw [N6 h];exact (Pn.mpr e).symm
theorem FT (a b:Str):decide ((Sum.inr a:Key)=Sum.inr b)=decide (a=b):=by
 by_cases e:a=b
 ·subst e;simp
 ·have h:¬(Sum.inr a:Key)=Sum.inr b:=fun q=>e (Sum.inr.inj q);rw [N6 h,N6 e]
theorem Hr (a:Int) (b:Str):decide ((Sum.inl a:Key)=Sum.inr b)=false:=N6 (fun q=>nomatch q)
theorem EL (a:Str) (b:Int):decide ((Sum.inr a:Key)=Sum.inl b)=false:=N6 (fun q=>nomatch q)
def pe (prog:Program) (w:World):PySem.KeyKind prog w Key where
 is:=F4
 hash:=Nt w
 inj:=fun v a b ha hb=>by
  rcases bc ha with ⟨i,t,rfl,rfl⟩ | ⟨x,t,rfl,rfl⟩
  ·rcases bc hb with ⟨j,u,rfl,e⟩ | ⟨y,u,rfl,e⟩
   ·injection e with e1 _;rw [e1]
   ·exact nomatch e
  ·rcases bc hb with ⟨j,u,rfl,e⟩ | ⟨y,u,rfl,e⟩
   ·exact nomatch e
   ·injection e with e1 _;rw [e1]
 byValue:=fun k v h=>by
  rcases bc h with ⟨i,t,rfl,rfl⟩ | ⟨x,t,rfl,rfl⟩ <;> rfl
 pyHash:=fun hv h=>by
  rcases bc hv with ⟨i,t,rfl,rfl⟩ | ⟨x,t,rfl,rfl⟩
  ·exact wpAny_pyHash_int h
  ·exact wpAny_pyHash_str h
 eqBool:=fun hu hv h=>by
  rcases bc hu with ⟨i,t,rfl,rfl⟩ | ⟨x,t,rfl,rfl⟩
  ·rcases bc hv with ⟨j,u,rfl,rfl⟩ | ⟨y,u,rfl,rfl⟩
   ·rw [GF] at h;exact wpAny_eqBool_int h
   ·rw [Hr] at h;exact SeqAt.EqAt.int_str i t y u _ _ _ _ h
  ·rcases bc hv with ⟨j,u,rfl,rfl⟩ | ⟨y,u,rfl,rfl⟩
   ·rw [EL] at h;exact SeqAt.EqAt.str_int x t j u _ _ _ _ h
   ·rw [FT] at h;exact wpAny_eqBool_str h
 «strs»:=fun k x t v h=>by
  rcases bc h with ⟨i,u,rfl,e⟩ | ⟨y,u,rfl,e⟩
  ·exact nomatch e
  ·injection e with e1 _;subst e1;cases v <;> rfl
end L2
namespace L2
open PySem PySem.Spec PyProof.Rows
inductive V where
 | non | bl (b:Bool) | int (i:Int) | str (x:Str) | byt (b:Array UInt8) | flt (b:UInt64) | ref (a:Qz) | ty (n:String)
 deriving DecidableEq
def RelV:V->Qj->Prop
 | .non,u=>u=Value.none
 | .bl b,u=>u=Value.bool b
 | .int i,u=>∃ t,u=Value.int i t
 | .str x,u=>∃ t,u=Value.str x t
 | .byt b,u=>∃ t,u=Value.bytes b t
 | .flt b,u=>∃ t,u=Value.float b t
 | .ref a,u=>u=Value.ref a
 | .ty n,u=>u=Value.type n
abbrev Vals:List V->List Qj->Prop:=Paired RelV
theorem Vals.length {xs:List V} {us:List Qj} (r:Vals xs us):xs.length=us.length:=Paired.length r
theorem Vals.get:∀ {xs:List V} {us:List Qj} {i:Nat} {x:V},Vals xs us->xs[i]?=some x->∃ u,us[i]?=some u/\RelV x u
 | _,_,_,_,.nil,e=>by simp at e
 | _,_,0,_,.cons r _,e=>by simp at e;subst e;exact ⟨_,rfl,r⟩
 | _,_,i+1,x,.cons _ t,e=>by
  obtain ⟨u,h1,h2⟩:=Vals.get (i:=i) (x:=x) t (by simpa using e);exact ⟨u,by simpa using h1,h2⟩
theorem Vals.set {x:V} {u:Qj} (r:RelV x u):∀ {xs:List V} {us:List Qj} (i:Nat),Vals xs us->Vals (xs.set i x) (us.set i u)
 | _,_,_,.nil=>.nil
 | _,_,0,.cons _ t=>.cons r t
 | _,_,i+1,.cons q t=>.cons q (Vals.set r i t)
theorem Vals.append:∀ {xs ys:List V} {us ws:List Qj},Vals xs us->Vals ys ws->Vals (xs++ys) (us++ws)
 | _,_,_,_,.nil,s=>s
 | _,_,_,_,.cons r t,s=>.cons r (Vals.append t s)
theorem Vals.take:∀ {xs:List V} {us:List Qj} (n:Nat),Vals xs us->Vals (xs.take n) (us.take n)
 | _,_,0,_=>.nil
 | _,_,_+1,.nil=>.nil
 | _,_,n+1,.cons r t=>.cons r (Vals.take n t)
theorem Vals.drop:∀ {xs:List V} {us:List Qj} (n:Nat),Vals xs us->Vals (xs.drop n) (us.drop n)
 | _,_,0,r=>r
 | _,_,_+1,.nil=>.nil
 | _,_,n+1,.cons _ t=>Vals.drop n t
def uD:Option V->Option Qj->Prop
 | some v,some u=>RelV v u
 | none,none=>True
 | _,_=>False
def KV {κ:Type}:List (κ×V)->List (κ×Qj)->Prop:=Paired fun (p:κ×V) (q:κ×Qj)=>p.1=q.1/\RelV p.2 q.2
noncomputable def kV:Key->V
 | .inl i=>.int i
 | .inr x=>.str x
mutual
noncomputable def EY (w:World):Qq->Int
 | .int i=>hashInt i
 | .str x=>hashStr w x
 | .tuple ds=>reduceHash (Builtin.Tuple.tupleHashOf (Ba w ds))
 | _=>0
noncomputable def Ba (w:World):List Qq->List Int
 | []=>[]
 | d :: ds=>EY w d :: Ba w ds
end
def Nh (w:World) (x:Qq×V×V) (e:DictEntry):Prop:=e.hash=EY w x.1/\RelV x.2.1 e.key/\RelV x.2.2 e.val
inductive HO where
 /-- a list -/
 | lst (xs:List V)
 /-- a tuple (never changes) -/
 | tup (xs:List V)
 /-- a dict whose keys are ints and texts;one whose keys are tuples of ints and texts (the empty one is both) -/
 | dK (kvs:List (Key×V)) | dT (kvs:List (List Key×V))
 /-- a dict by any hashable data: its epoch;the keys as data and as values,what they hold -/
 | dD (ep:Nat) (xs:List (Qq×V×V))
 /-- a set of ints: its members,its size -/
 | set (S:Int->Bool) (n:Nat)
 /-- an instance of the class at C,its dict at dx,its attributes -/
 | ins (C dx:Qz) (fs:List (Str×V))
 /-- the dict of the instance at x -/
 | own (x:Qz)
 /-- the dict of an exception -/
 | xd (fs:List (Str×V))
 /-- a bound method,f of x -/
 | met (f x:Qz)
 /-- a range object lo,lo+1,.. below hi -/
 | rng (lo hi:Int)
 /-- a thing that is known to the object (the script;a dict while a loop walks it): read,never written while it is so -/
 | frz (o:Obj) (u:HO)
 /-- a code object's table -/
 | tbl (ps:Array Qj)
 /-- any other thing,by what is true of its one object (a def of one's own: Nk a S n:=HO.ext fun h=>..) -/
 | ext (φ:Heap->Prop)
abbrev Hp:=Qz->Option HO
noncomputable def upd (H:Hp) (a:Qz) (o:HO):Hp:=fun b=>if b=a then some o else H b
theorem aG {H:Hp} {a:Qz} {o:HO}:upd H a o a=some o:=by unfold upd;rw [N4 rfl]
theorem aM {H:Hp} {a b:Qz} {o:HO} (h:b≠a):upd H a o b=H b:=by unfold upd;rw [Od h]
theorem DK {H:Hp} {a:Qz} {o u:HO}:upd (upd H a o) a u=upd H a u:=by
 funext b;unfold upd;split <;> rfl
theorem a8 {H:Hp} {a b:Qz} {o:HO} (h:H a=some o) (h':H b=none):a≠b:=by
 intro e;subst e;rw [h] at h';cases h'
section
variable (P:Program) (w:World)
def cP (H:Hp) (h:Heap) (a:Qz):HO->Prop
 | .lst xs=>xs.length<=sizeLine/\∃ (its:List Qj) (n:Nat),Vals xs its/\h.get? a=some { cls:=.type "list", data:=.seq its.toArray n }
 | .tup xs=>xs.length<=sizeLine/\∃ its:List Qj,Vals xs its/\IsTup h a its.toArray
 | .dK kvs=>kvs.length<=sizeLine/\(a==sysModules)=false/\∃ vs,KV kvs vs/\h.DictOf (pe P w) a vs
 | .dT kvs=>kvs.length<=sizeLine/\(a==sysModules)=false/\∃ xs:List (List Key×Qz×Qj),
   Paired (fun (p:List Key×V) (q:List Key×Qz×Qj)=>p.1=q.1/\H q.2.1=some (.tup (p.1.map kV))/\RelV p.2 q.2.2) kvs xs /\
   ∃ o es ep,h.get? a=some o/\o.ExactDict/\o.data=.dict es ep/\es.toList=xs.map (entryOfKey (tupleKind (pe P w)))/\(xs.map (·.1)).Nodup
 | .dD ep xs=>xs.length<=sizeLine/\(a==sysModules)=false/\(xs.map (·.1)).Nodup/\∃ o es,h.get? a=some o/\o.ExactDict/\o.data=.dict es ep/\Paired (Nh w) xs es.toList
 | .set S n=>h.SetOf (intKind P w) a S n
 | .ins C dx fs=>H dx=some (.own a)/\fs.length<=1000/\dx≠a/\h.get? a=some (PySem.W.instObj C dx) /\
   ∃ mA,h.Ns1 dx mA/\(∀ f,uD (fs.lookup f) (mA f))/\PySem.Within mA (fs.map (·.1))
 | .own _=>∃ o,h.get? a=some o
 | .xd fs=>∃ mA,h.Ns1 a mA/\∀ f,uD (fs.lookup f) (mA f)
 | .rng lo hi=>∃ t u v,h.get? a=some { cls:=.type "range", data:=.fields #[.int lo t,.int hi u,.int 1 v] }
 | .frz o u=>h.get? a=some o/\cP H h a u
 | .tbl ps=>h.get? a=some { cls:=.none,data:=.fields ps }
 | .met f x=>h.get? a=some (PySem.W.methodObj (.ref f) (.ref x))
 | .ext φ=>φ h/\(∃ o,h.get? a=some o)/\∀ h1 h2:Heap,φ h1->(∀ o,h1.get? a=some o->h2.get? a=some o)->φ h2
def HOk (H:Hp) (h:Heap):Prop:=∀ a o,H a=some o->cP P w H h a o
end
section
variable {P:Program} {w:World} {H H':Hp} {h h':Heap} {a:Qz} {o:HO}
theorem cP.lt (x:cP P w H h a o):a < h.objs.size:=by
 cases o with
 | lst xs=>obtain ⟨_,_,_,_,e⟩:=x;exact Oe e
 | tup xs=>obtain ⟨_,_,_,p⟩:=x;exact p.lt
 | dK kvs=>obtain ⟨_,_,_,_,o,_,_,e,_⟩:=x;exact Oe e
 | dT kvs=>obtain ⟨_,_,_,_,o,_,_,e,_⟩:=x;exact Oe e
 | dD ep xs=>obtain ⟨_,_,_,o,_,e,_⟩:=x;exact Oe e
 | set S n=>obtain ⟨o,_,_,_,e,_⟩:=x;exact Oe e
 | ins C dx fs=>obtain ⟨_,_,_,e,_⟩:=x;exact Oe e
 | own y=>obtain ⟨_,e⟩:=x;exact Oe e
 | xd fs=>obtain ⟨_,⟨_,_,_,e,_⟩,_⟩:=x;exact Oe e
 | rng lo hi=>obtain ⟨_,_,_,e⟩:=x;exact Oe e
 | frz ob u=>obtain ⟨e,_⟩:=x;exact Oe e
 | tbl ps=>exact Oe (show h.get? a=some _ from x)
 | met f y=>exact Oe (show h.get? a=some _ from x)
 | ext φ=>obtain ⟨_,⟨_,e⟩,_⟩:=x;exact Oe e
theorem Paired.MC {α β:Type} {F G:α->β->Prop}:∀ {l₁:List α} {l₂:List β},Paired F l₁ l₂->(∀ a b,F a b->G a b)->Paired G l₁ l₂
 | _,_,.nil,_=>.nil
 | _,_,.cons r t,f=>.cons (f _ _ r) (Paired.MC t f)
theorem cP.mM (x:cP P w H h a o) (k:∀ b u,(b=a\/H b=some (.own a))->h.get? b=some u->h'.get? b=some u)
  (ho:∀ b,H b=some (.own a)->H' b=some (.own a)) (ht:∀ b xs,H b=some (.tup xs)->H' b=some (.tup xs)):cP P w H' h' a o:=by
 induction o with
 | lst xs=>obtain ⟨z,its,n,r,e⟩:=x;exact ⟨z,its,n,r,k _ _ (.inl rfl) e⟩
 | tup xs=>obtain ⟨z,its,r,ob,e,c⟩:=x;exact ⟨z,its,r,ob,k _ _ (.inl rfl) e,c⟩
 | dK kvs=>obtain ⟨z,y,vs,r,ob,es,ep,e,c⟩:=x;exact ⟨z,y,vs,r,ob,es,ep,k _ _ (.inl rfl) e,c⟩
 | dT kvs =>
  obtain ⟨z,y,xs,r,ob,es,ep,e,c⟩:=x;exact ⟨z,y,xs,Paired.MC r fun p q z=>⟨z.1,ht _ _ z.2.1,z.2.2⟩,ob,es,ep,k _ _ (.inl rfl) e,c⟩
 | dD ep xs=>obtain ⟨z,y,nd,ob,es,e,c⟩:=x;exact ⟨z,y,nd,ob,es,k _ _ (.inl rfl) e,c⟩
 | set S n=>obtain ⟨ob,es,ep,t,e,c⟩:=x;exact ⟨ob,es,ep,t,k _ _ (.inl rfl) e,c⟩
 | ins C dx fs =>
  obtain ⟨d,z,ne,e,mA,⟨od,es,ep,e2,c⟩,r⟩:=x;exact ⟨ho _ d,z,ne,k _ _ (.inl rfl) e,mA,⟨od,es,ep,k _ _ (.inr d) e2,c⟩,r⟩
 | own y=>obtain ⟨ob,e⟩:=x;exact ⟨ob,k _ _ (.inl rfl) e⟩
 | xd fs=>obtain ⟨mA,⟨od,es,ep,e,c⟩,r⟩:=x;exact ⟨mA,⟨od,es,ep,k _ _ (.inl rfl) e,c⟩,r⟩
 | rng lo hi=>obtain ⟨t,u,v,e⟩:=x;exact ⟨t,u,v,k _ _ (.inl rfl) e⟩
 | frz ob u ih=>obtain ⟨e,q⟩:=x;exact ⟨k _ _ (.inl rfl) e,ih q⟩
 | tbl ps =>
  have e:h.get? a=some { cls:=.none,data:=.fields ps }:=x;show h'.get? a=some { cls:=.none,data:=.fields ps };exact k a _ (.inl rfl) e
 | met f y =>
  have e:h.get? a=some (PySem.W.methodObj (.ref f) (.ref y)):=x;show h'.get? a=some (PySem.W.methodObj (.ref f) (.ref y));exact k a _ (.inl rfl) e
 | ext φ=>obtain ⟨p,⟨o,e⟩,st⟩:=x;exact ⟨st _ _ p fun o q=>k _ _ (.inl rfl) q,⟨o,k _ _ (.inl rfl) e⟩,st⟩
theorem HOk.lt (x:HOk P w H h) (e:H a=some o):a < h.objs.size:=(x a o e).lt
theorem HOk.fresh (x:HOk P w H h) (e:h.objs.size<=a):H a=none:=by
 cases q:H a with
 | none=>rfl
 | some u=>exact absurd (Ob (x.lt q) e) (OJ _)
theorem HOk.kept (x:HOk P w H h) (k:∀ b u,h.get? b=some u->h'.get? b=some u):HOk P w H h':=fun a o e =>
 (x a o e).mM (fun b u _ q=>k b u q) (fun _ q=>q) fun _ _ q=>q
theorem HOk.laid (x:HOk P w H h) (k:∀ b u,h.get? b=some u->h'.get? b=some u) (hp:h.objs.size<=a) (new:cP P w (upd H a o) h' a o):HOk P w (upd H a o) h':=fun b u e=>by
 have hn:=x.fresh hp;by_cases hb:b=a
 ·subst hb;rw [aG] at e;cases e;exact new
 ·rw [aM hb] at e;exact (x b u e).mM (fun c v _ q=>k c v q) (fun c q=>by rw [aM (a8 q hn)];exact q) fun c xs q=>by rw [aM (a8 q hn)];exact q
end
def Rd (H:Hp) (a:Qz) (u:HO):Prop:=H a=some u\/∃ o,H a=some (.frz o u)
theorem Rd.ok {P:Program} {w:World} {H:Hp} {h:Heap} {a:Qz} {u:HO} (r:Rd H a u) (x:HOk P w H h):cP P w H h a u:=by
 rcases r with r | ⟨o,r⟩
 ·exact x a u r
 ·obtain ⟨_,q⟩:=x a _ r;exact q
def Mut:Option HO->Prop
 | some (.lst _)=>True
 | some (.dK _)=>True
 | some (.dT _)=>True
 | some (.dD _ _)=>True
 | some (.set _ _)=>True
 | some (.ins _ _ _)=>True
 | some (.ext _)=>True
 | _=>False
section
variable {P:Program} {w:World} {H:Hp} {h h':Heap} {x e:Qz} {o':HO}
theorem HOk.write (ok:HOk P w H h) (mu:Mut (H x)) (he:e=x\/H e=some (.own x)) (k:∀ b u,b≠e->h.get? b=some u->h'.get? b=some u) (heo:∃ u,h'.get? e=some u)
  (new:cP P w (upd H x o') h' x o'):HOk P w (upd H x o') h':=fun b u q=>by
 have nown:∀ c y,H c=some (.own y)->c≠x:=fun c y r z=>by subst z;rw [r] at mu;exact mu
 have ntup:∀ c xs,H c=some (.tup xs)->c≠x:=fun c xs r z=>by subst z;rw [r] at mu;exact mu
 by_cases hb:b=x
 ·subst hb;rw [aG] at q;cases q;exact new
 ·rw [aM hb] at q;by_cases hbe:b=e
  ·have q':H b=some (.own x):=by
    rcases he with z | z
    ·exact absurd (hbe.trans z) hb
    ·rw [hbe];exact z
   rw [q] at q';cases q';obtain ⟨v,hv⟩:=heo;exact ⟨v,by rw [hbe];exact hv⟩
  ·refine (ok b u q).mM (fun c v hc r=>k c v ?_ r) (fun c r=>by rw [aM (nown c b r)];exact r) fun c xs r=>by rw [aM (ntup c xs r)];exact r
   rcases hc with rfl | hc
   ·exact hbe
   ·rintro rfl;rcases he with z | z
    ·exact nown c b hc z
    ·rw [hc] at z;cases z;exact hb rfl
end
structure Un (fs ex:List Qz) (H H':Hp) (h h':Heap):Prop where
 keep:∀ b o,h.get? b=some o->H b=none->b ∉ fs->b ∉ ex->h'.get? b=some o
 slot:∀ b o,h.get? b=some o->H b=none->b∈fs->b ∉ ex->∃ sl,h'.get? b=some { o with slots:=sl }
 free:∀ b o,h.get? b=some o->H b=none->b ∉ ex->H' b=none
 there:∀ b o,h.get? b=some o->b ∉ ex->∃ o',h'.get? b=some o'
 rP:∀ b xs,H b=some (.tup xs)->H' b=some (.tup xs)
 oZ:∀ b o u,H b=some (.frz o u)->H' b=some (.frz o u)
 sv:∀ b ps,H b=some (.tbl ps)->∃ more,H' b=some (.tbl (ps++more))
section
variable {fs fs' ex ex':List Qz} {H H1 H2:Hp} {h h1 h2 h':Heap} {a x e:Qz} {o:HO}
theorem Un.any (u:Un fs ex H H1 h h1) {b:Qz} {ob:Obj} (q:h.get? b=some ob) (n:H b=none) (hx:b ∉ ex):∃ sl,h1.get? b=some { ob with slots:=sl }:=by
 by_cases hb:b∈fs
 ·exact u.slot b ob q n hb hx
 ·exact ⟨ob.slots,u.keep b ob q n hb hx⟩
theorem Un.kept (k:∀ b u,h.get? b=some u->h'.get? b=some u):Un fs ex H H h h' :=
 ⟨fun b ob q _ _ _=>k b ob q,fun b ob q _ _ _=>⟨ob.slots,k b ob q⟩,fun _ _ _ n _=>n,fun b ob q _=>⟨ob,k b ob q⟩,fun _ _ q=>q,fun _ _ _ q=>q,fun _ ps q=>⟨#[],by rw [q];simp⟩⟩
theorem Un.refl:Un fs ex H H h h:=Un.kept fun _ _ q=>q
theorem Un.laid (k:∀ b u,h.get? b=some u->h'.get? b=some u) (hp:h.objs.size<=a) (hn:H a=none):Un fs ex H (upd H a o) h h' where
 keep:=fun b u q _ _ _=>k b u q
 slot:=fun b u q _ _ _=>⟨u.slots,k b u q⟩
 free:=fun b u q n _=>by rw [aM (OC (Ob (Oe q) hp))];exact n
 there:=fun b u q _=>⟨u,k b u q⟩
 rP:=fun b xs q=>by rw [aM (a8 q hn)];exact q
 oZ:=fun b u xs q=>by rw [aM (a8 q hn)];exact q
 sv:=fun b ps q=>⟨#[],by rw [aM (a8 q hn),q];simp⟩
theorem Un.write (mu:Mut (H x)) (he:e=x\/H e=some (.own x)) (k:∀ b u,b≠e->h.get? b=some u->h'.get? b=some u) (heo:∃ u,h'.get? e=some u):Un fs ex H (upd H x o) h h':=by
 have hx:∀ b,H b=none->b≠x:=fun b n z=>by subst z;rw [n] at mu;exact mu
 have hb:∀ b,H b=none->b≠e:=fun b n z=>by
  subst z;rcases he with r | r
  ·exact hx b n r
  ·rw [n] at r;cases r
 have hm:∀ b u,H b=some u->¬Mut (some u)->b≠x:=fun b u q nm z=>by subst z;rw [q] at mu;exact nm mu
 refine ⟨fun b u q n _ _=>k b u (hb b n) q,fun b u q n _ _=>⟨u.slots,k b u (hb b n) q⟩,fun b u q n _=>by rw [aM (hx b n)];exact n,fun b u q _=>?_,
  fun b xs q=>by rw [aM (hm b _ q fun z=>z)];exact q,fun b u xs q=>by rw [aM (hm b _ q fun z=>z)];exact q,fun b ps q=>⟨#[],by rw [aM (hm b _ q fun z=>z),q];simp⟩⟩
 by_cases hbe:b=e
 ·subst hbe;exact heo
 ·exact ⟨u,k b u hbe q⟩
end
noncomputable def trk (h:Heap) (H:Hp):List Qz:=(List.range h.objs.size).filter fun a=>(H a).isSome
def Aj (h:Heap) (H:Hp):Heap:=PySem.W.hideAll h (trk h H)
theorem uI (h:Heap) (H:Hp):(Aj h H).objs.size=h.objs.size:=PySem.W.hideAll_size _ _
theorem Ay {h:Heap} {H:Hp} {b:Qz} {o:Obj} (e:h.get? b=some o) (n:H b=none):(Aj h H).get? b=some o :=
 PySem.W.hideAll_get _ e fun hm=>by
  have q:(H b).isSome=true:=(List.mem_filter.mp hm).2;rw [n] at q;simp at q
theorem Cs {h:Heap} {H:Hp} {b:Qz} {o:Obj} (e:(Aj h H).get? b=some o):h.get? b=some o/\H b=none:=by
 have e':h.get? b=some o:=PySem.W.of_hideAll (trk h H) e;refine ⟨e',?_⟩;cases q:H b with
 | none=>rfl
 | some x =>
  have hm:b∈trk h H:=List.mem_filter.mpr ⟨List.mem_range.mpr (Oe e'),by simp [q]⟩;have z:(Aj h H).get? b=none:=PySem.W.hideAll_none (trk h H) hm;rw [z] at e;cases e
noncomputable def Ct (g h:Heap) (L:Qz):List (Qz×Obj):=(List.range h.objs.size).filterMap fun a=>if a=L\/(g.get? a).isSome=true then none else (h.get? a).map fun o=>(a,o)
def rest (g h:Heap) (L d:Qz):List (Qz×Obj):=(Ct g h L).filter fun p=>decide (p.1≠d)
structure Mod (K:Fg) (mg:Str->Option Qj) (base:Heap):Prop where
 kin:K.In base
 glob:base.Ns mainGlobals mg
 blt:∃ mb,base.Ns builtinsNs mb/\∀ x:Str,x ≠ "__name__" -> mb x=bootBuiltins x
 nolimit:base.NoLimit
structure Cx where
 prog:Program
 w:World
 K:Fg
 mg:Str->Option Qj
 base:Heap
 A:Around
 N:List Str
 ZO:Qx
 ZW:Hp
 env:Env
 outer:List Env
 stack:List Env
 ex:List Qz
 fn:Str->Bool
 calm:Bool
 pn:List (Qz×Obj)
 xe:Qj->Qx->Prop
noncomputable def frs (l:List Env):List Qz:=l.filterMap (·.frame)
abbrev Cx.fs (X:Cx):List Qz:=frs X.outer
def Vis (sc:Scope) (x:Str):Prop:=sc.names.lookup x=some .local\/sc.names.lookup x=some .cell\/sc.names.lookup x=some .free
def Loc (sc:Scope) (x:Str):Prop:=sc.names.lookup x=some .local\/sc.names.lookup x=some .cell
def Look (env:Env) (h:Heap) (m:Str->Option Qj) (x:Str) (u:Qj):Prop :=
 (env.kindOf x=some .local/\m x=some u)\/((env.kindOf x=some .cell\/env.kindOf x=some .free)/\∃ c,env.cells.lookup x=some c/\h.IsCell c (some u))
structure Cx.Ok (X:Cx):Prop where
 mod:Mod X.K X.mg X.base
 kind:X.env.scope.kind=.function
 glob:X.env.globals=mainGlobals
 blt:X.env.builtins=builtinsNs
 above:X.ZO.heap.objs.size<=X.env.locals
 inj:∀ x y c,X.env.cells.lookup x=some c->X.env.cells.lookup y=some c->x=y
 has:∀ x,(X.env.kindOf x=some .cell\/X.env.kindOf x=some .free)->∃ c,X.env.cells.lookup x=some c
 cab:∀ x c,X.fn x=true->X.env.cells.lookup x=some c->X.ZO.heap.objs.size<=c
 hd:X.calm=true->X.A.handled=none
 frames:X.A.frames=some X.stack
 stk:X.stack=X.outer\/(X.stack=X.env :: X.outer/\X.env.frame=some X.env.locals)
 exf:∀ b∈X.ex,b≠X.env.locals/\∀ x c,X.env.cells.lookup x=some c->c≠b
 bs:∀ b o,X.base.get? b=some o->X.ZO.heap.get? b=some o/\X.ZW b=none
 bsz:X.base.objs.size<=X.ZO.heap.objs.size
 Ef:∀ b o,X.base.get? b=some o->b ∉ X.ex
 Er:∀ b∈X.ex,b ∉ X.fs
 o6:X.ZO.heap.FunFrames X.base X.outer
 frf:∀ b∈X.fs,X.ZW b=none
structure Inv (X:Cx) (pins:List (Qz×Obj)) (Z:List (Option V)) (H:Hp) (s:Qx):Prop where
 ok:X.Ok
 os:s.os=X.ZO.os
 bare:AllBare s.gens
 base:Un X.fs X.ex X.ZW H X.ZO.heap s.heap
 loc:∃ m,s.heap.Ns X.env.locals m/\∀ (i:Nat) (x:Str) (v:V),X.N[i]?=some x->Z[i]?=some (some v)->Vis X.env.scope x->∃ u,RelV v u/\Look X.env s.heap m x u
 cell:∀ x c,X.env.cells.lookup x=some c->∃ v,s.heap.IsCell c v
 free:H X.env.locals=none
 fT:∀ x c,X.env.cells.lookup x=some c->H c=none
 pin:∀ p∈X.pn++pins,s.heap.get? p.1=some p.2/\H p.1=none/\p.1≠X.env.locals/\p.1 ∉ X.fs/\∀ v,p.2.data≠.cell v
 hok:HOk X.prog X.w H s.heap
 len:Z.length=X.N.length
section
variable {X:Cx} {pins:List (Qz×Obj)} {Z:List (Option V)} {H H':Hp} {s:Qx} {h':Heap}
theorem Cx.Ok.NJ (ok:X.Ok) {b:Qz} {o:Obj} (e:X.base.get? b=some o):b ∉ X.fs:=fun hb=>by
 have:=(ok.o6.mem hb).1;rw [e] at this;cases this
theorem Inv.bs (I:Inv X pins Z H s):∀ b o,X.base.get? b=some o->s.heap.get? b=some o/\H b=none:=fun b o e =>
 ⟨I.base.keep b o (I.ok.bs b o e).1 (I.ok.bs b o e).2 (I.ok.NJ e) (I.ok.Ef b o e),I.base.free b o (I.ok.bs b o e).1 (I.ok.bs b o e).2 (I.ok.Ef b o e)⟩
theorem Inv.bk (I:Inv X pins Z H s):∀ b o,X.base.get? b=some o->s.heap.get? b=some o:=fun b o e=>(I.bs b o e).1
theorem Inv.mod (I:Inv X pins Z H s):Mod X.K X.mg X.base:=I.ok.mod
theorem Inv.kIn (I:Inv X pins Z H s):X.K.In s.heap:=I.ok.mod.kin.keeps I.bk
theorem Inv.lt (I:Inv X pins Z H s):X.env.locals < s.heap.objs.size:=let ⟨_,hn,_⟩:=I.loc;hn.lt
theorem Inv.sz (I:Inv X pins Z H s):X.ZO.heap.objs.size<=s.heap.objs.size:=Oi I.ok.above (Nat.le_of_lt I.lt)
theorem Inv.LP (I:Inv X pins Z H s) {a:Qz} (h:s.heap.objs.size<=a):a ∉ X.fs:=fun hb=>by
 obtain ⟨_,o,ho,_⟩:=I.ok.o6.mem hb;exact absurd (Ob (Oe ho) (Oi I.sz h)) (OJ _)
theorem Inv.cne (I:Inv X pins Z H s):∀ x c,X.env.cells.lookup x=some c->c≠X.env.locals:=fun x c e z=>by
 obtain ⟨v,o,ho,hd⟩:=I.cell x c e;obtain ⟨m,⟨o',es,ep,ho',hd',_⟩,_⟩:=I.loc;rw [z,ho'] at ho;cases ho;rw [hd'] at hd;cases hd
theorem Inv.o6 (I:Inv X pins Z H s):s.heap.FunFrames X.base X.outer:=by
 have all:∀ (l:List Env),(∀ b∈frs l,b∈X.fs)->X.ZO.heap.FunFrames X.base l->s.heap.FunFrames X.base l:=by
  intro l;induction l with
  | nil=>intro _ _;trivial
  | cons env r ih =>
   intro hs hl;obtain ⟨hk,⟨L,o,hf,hn,ho,hd⟩,hr⟩:=hl;have hL:L∈X.fs:=hs L (by unfold frs;rw [Pc,hf];exact N5);obtain ⟨sl,e⟩:=I.base.slot L o ho (I.ok.frf L hL) hL fun z=>I.ok.Er L z hL;exact ⟨hk,⟨L,_,hf,hn,e,hd⟩,ih (fun b hb=>hs b (by unfold frs;rw [Pc,hf];exact NZ _ hb)) hr⟩
 exact all X.outer (fun _ hb=>hb) I.ok.o6
theorem Inv.stack (I:Inv X pins Z H s):s.heap.FunFrames X.base X.stack:=by
 rcases I.ok.stk with e | ⟨e,hf⟩
 ·rw [e];exact I.o6
 ·rw [e];obtain ⟨m,hn,_⟩:=I.loc;refine .cons (by rw [I.ok.kind];decide) hf hn ?_ I.o6;exact Heap.get?_none_of_le (Oi I.ok.bsz I.ok.above)
theorem Inv.mR (I:Inv X pins Z H s):∀ b∈frs X.stack,b∈X.env.locals :: X.fs:=fun b hb=>by
 rcases I.ok.stk with e | ⟨e,hf⟩
 ·rw [e] at hb;exact NZ _ hb
 ·rw [e] at hb;unfold frs at hb;rw [Pc,hf] at hb;exact hb
theorem Inv.kX (I:Inv X pins Z H s):∀ b∈frs X.stack,H b=none:=fun b hb=>by
 rcases N9.mp (I.mR b hb) with e | hb
 ·rw [e];exact I.free
 ·obtain ⟨_,o,ho,_⟩:=I.ok.o6.mem hb;exact I.base.free b o ho (I.ok.frf b hb) fun z=>I.ok.Er b z hb
theorem Inv.step {g':Array GenState} {t':Nat} {d':Drawn} {ch:List Qz} (I:Inv X pins Z H s)
  (hch:∀ b∈ch,(b∈X.ex\/X.ZO.heap.objs.size<=b)/\b≠X.env.locals/\(∀ x c,X.env.cells.lookup x=some c->c≠b)/\∀ p∈X.pn++pins,p.1≠b)
  (keep:∀ b o,b≠X.env.locals->b ∉ X.fs->b ∉ ch->s.heap.get? b=some o->H b=none->h'.get? b=some o)
  (slot:∀ b o,b≠X.env.locals->b∈X.fs->b ∉ ch->s.heap.get? b=some o->H b=none->∃ sl,h'.get? b=some { o with slots:=sl }) (free:∀ b o,b ∉ ch->s.heap.get? b=some o->H b=none->H' b=none)
  (there:∀ b o,b ∉ ch->s.heap.get? b=some o->∃ o',h'.get? b=some o')
  (rP:∀ b xs,H b=some (.tup xs)->H' b=some (.tup xs)) (oZ:∀ b o u,H b=some (.frz o u)->H' b=some (.frz o u)) (sv:∀ b ps,H b=some (.tbl ps)->∃ more,H' b=some (.tbl (ps++more)))
  (ns:∀ m,s.heap.Ns X.env.locals m->h'.Ns X.env.locals m) (hok:HOk X.prog X.w H' h') (hg:AllBare g') :
  Inv X pins Z H' { s with heap:=h',gens:=g',drawn:=d',toks:=t' }:=by
 have neL:∀ b o,X.ZO.heap.get? b=some o->b≠X.env.locals:=fun b o e=>OC (Ob (Oe e) I.ok.above);have neC:∀ b o,X.ZO.heap.get? b=some o->b ∉ X.ex->b ∉ ch:=fun b o e hx hb=>by
  rcases (hch b hb).1 with z | z
  ·exact hx z
  ·exact absurd (Ob (Oe e) z) (OJ _)
 have cellK:∀ x c,X.env.cells.lookup x=some c->∀ v,s.heap.IsCell c v->h'.IsCell c v:=fun x c e v ⟨o,ho,hd⟩=>by
  have nch:c ∉ ch:=fun z=>(hch c z).2.2.1 x c e rfl;by_cases hc:c∈X.fs
  ·obtain ⟨sl,q⟩:=slot c o (I.cne x c e) hc nch ho (I.fT x c e);exact ⟨_,q,hd⟩
  ·exact ⟨o,keep c o (I.cne x c e) hc nch ho (I.fT x c e),hd⟩
 refine ⟨I.ok,I.os,hg,⟨fun b o e n hb hx=>?_,fun b o e n hb hx=>?_,fun b o e n hx=>?_,fun b o e hx=>?_,fun b xs e=>rP b xs (I.base.rP b xs e),fun b o xs e=>oZ b o xs (I.base.oZ b o xs e),fun b ps e=>?_⟩,?_,fun x c e=>?_,?_,fun x c e=>?_,fun p hp=>?_,hok,I.len⟩
 ·exact keep b o (neL b o e) hb (neC b o e hx) (I.base.keep b o e n hb hx) (I.base.free b o e n hx)
 ·obtain ⟨sl,e1⟩:=I.base.slot b o e n hb hx;obtain ⟨sl',e2⟩:=slot b _ (neL b o e) hb (neC b o e hx) e1 (I.base.free b o e n hx);exact ⟨sl',e2⟩
 ·obtain ⟨o',e1⟩:=I.base.there b o e hx;exact free b o' (neC b o e hx) e1 (I.base.free b o e n hx)
 ·obtain ⟨o',e1⟩:=I.base.there b o e hx;exact there b o' (neC b o e hx) e1
 ·obtain ⟨m1,e1⟩:=I.base.sv b ps e;obtain ⟨m2,e2⟩:=sv b _ e1;exact ⟨m1++m2,by rw [e2,Array.append_assoc]⟩
 ·obtain ⟨m,hn,hl⟩:=I.loc;refine ⟨m,ns m hn,fun i x v e1 e2 e3=>?_⟩;obtain ⟨u,r,l⟩:=hl i x v e1 e2 e3;refine ⟨u,r,?_⟩;rcases l with l | ⟨k,c,e,z⟩
  ·exact .inl l
  ·exact .inr ⟨k,c,e,cellK x c e _ z⟩
 ·obtain ⟨v,z⟩:=I.cell x c e;exact ⟨v,cellK x c e v z⟩
 ·obtain ⟨m,⟨o,_,_,ho,_⟩,_⟩:=I.loc;exact free _ o (fun z=>(hch _ z).2.1 rfl) ho I.free
 ·obtain ⟨v,o,ho,hd⟩:=I.cell x c e;exact free c o (fun z=>(hch c z).2.2.1 x c e rfl) ho (I.fT x c e)
 ·obtain ⟨e,n,ne,nf,d⟩:=I.pin p hp;have nch:p.1 ∉ ch:=fun z=>(hch p.1 z).2.2.2 p hp rfl;exact ⟨keep p.1 p.2 ne nf nch e n,free p.1 p.2 nch e n,ne,nf,d⟩
theorem Inv.un {t':Nat} (I:Inv X pins Z H s) (u:Un X.fs [] H H' s.heap h') (hok:HOk X.prog X.w H' h'):Inv X pins Z H' { s with heap:=h',toks:=t' }:=by
 obtain ⟨m,⟨o,es,ep,ho,r⟩,_⟩:=id I.loc;obtain ⟨sl,hL⟩:=u.any ho I.free (by simp)
 exact I.step (g':=s.gens) (d':=s.drawn) (ch:=[]) (fun _ z=>nomatch z) (fun b o _ hb _ e n=>u.keep b o e n hb (by simp)) (fun b o _ hb _ e n=>u.slot b o e n hb (by simp)) (fun b o _ e n=>u.free b o e n (by simp)) (fun b o _ e=>u.there b o e (by simp)) u.rP u.oZ u.sv (fun m' hm=>by
  obtain ⟨o',es',ep',ho',r'⟩:=hm;rw [ho] at ho';cases ho'
  exact ⟨_,es',ep',hL,r'⟩) hok I.bare
theorem Inv.call {g':Array GenState} {t':Nat} {d':Drawn} {ch:List Qz} (I:Inv X pins Z H s) (u:Un (frs X.stack) ch H H' s.heap h') (hok:HOk X.prog X.w H' h') (hg:AllBare g')
  (hch:∀ b∈ch,(b∈X.ex\/X.ZO.heap.objs.size<=b)/\b≠X.env.locals/\(∀ x c,X.env.cells.lookup x=some c->c≠b)/\∀ p∈X.pn++pins,p.1≠b) :
  Inv X pins Z H' { s with heap:=h',gens:=g',drawn:=d',toks:=t' }:=by
 obtain ⟨m,⟨o,es,ep,ho,r⟩,_⟩:=id I.loc;obtain ⟨sl,hL⟩:=u.any ho I.free fun z=>(hch _ z).2.1 rfl
 exact I.step (ch:=ch) hch (fun b o hL hb hc e n=>u.keep b o e n (fun z=>(N9.mp (I.mR b z)).elim hL hb) hc) (fun b o _ _ hc e n=>u.any e n hc) (fun b o hc e n=>u.free b o e n hc) (fun b o hc e=>u.there b o e hc) u.rP u.oZ u.sv (fun m' hm=>by
  obtain ⟨o',es',ep',ho',r'⟩:=hm;rw [ho] at ho';cases ho'
  exact ⟨_,es',ep',hL,r'⟩) hok hg
theorem Inv.turned {t':Nat} {it:Qz} (I:Inv X pins Z H s) (k:∀ b o,b≠it->s.heap.get? b=some o->h'.get? b=some o) (hn:H it=none) (hL:it≠X.env.locals)
  (h1:it∈X.ex\/X.ZO.heap.objs.size<=it) (h2:∀ x c,X.env.cells.lookup x=some c->c≠it) (h3:∀ p∈X.pn++pins,p.1≠it):Inv X pins Z H { s with heap:=h',toks:=t' }:=by
 have nit:∀ b u,H b=some u->b≠it:=fun b u e z=>by rw [z,hn] at e;cases e
 refine I.step (g':=s.gens) (d':=s.drawn) (ch:=[it]) (fun b hb=>?_) (fun b o _ _ hc e _=>k b o (fun z=>hc (by simp [z])) e) (fun b o _ _ hc e _=>⟨o.slots,k b o (fun z=>hc (by simp [z])) e⟩) (fun _ _ _ _ n=>n)
  (fun b o hc e=>⟨o,k b o (fun z=>hc (by simp [z])) e⟩) (fun _ _ e=>e) (fun _ _ _ e=>e) (fun b ps e=>⟨#[],by rw [e];simp⟩) (fun m hm=>?_) (fun b u e=>?_) I.bare
 ·have e:b=it:=by simpa using hb
  subst e;exact ⟨h1,hL,h2,h3⟩
 ·obtain ⟨o,es,ep,ho,r⟩:=hm;exact ⟨o,es,ep,k _ o (Ne.symm hL) ho,r⟩
 ·refine (I.hok b u e).mM (fun c v hc q=>k c v ?_ q) (fun _ q=>q) fun _ _ q=>q;rcases hc with z | z
  ·rw [z];exact nit b u e
  ·exact nit c _ z
theorem Inv.tok (I:Inv X pins Z H s) (t:Nat):Inv X pins Z H { s with toks:=t }:=I.un (h':=s.heap) (t':=t) Un.refl I.hok
theorem Inv.kept {t':Nat} (I:Inv X pins Z H s) (k:∀ b u,s.heap.get? b=some u->h'.get? b=some u):Inv X pins Z H { s with heap:=h',toks:=t' }:=I.un (Un.kept k) (I.hok.kept k)
theorem Inv.laid {a:Qz} {o:HO} {t':Nat} (I:Inv X pins Z H s) (k:∀ b u,s.heap.get? b=some u->h'.get? b=some u) (hp:s.heap.objs.size<=a) (new:cP X.prog X.w (upd H a o) h' a o) :
  Inv X pins Z (upd H a o) { s with heap:=h',toks:=t' }:=I.un (Un.laid k hp (I.hok.fresh hp)) (I.hok.laid k hp new)
theorem Inv.write {x e:Qz} {o:HO} {t':Nat} (I:Inv X pins Z H s) (mu:Mut (H x)) (he:e=x\/H e=some (.own x)) (k:∀ b u,b≠e->s.heap.get? b=some u->h'.get? b=some u) (heo:∃ u,h'.get? e=some u)
  (new:cP X.prog X.w (upd H x o) h' x o):Inv X pins Z (upd H x o) { s with heap:=h',toks:=t' }:=I.un (Un.write mu he k heo) (I.hok.write mu he k heo new)
theorem Inv.gj {pins':List (Qz×Obj)} (I:Inv X pins Z H s) (h:∀ p∈pins',s.heap.get? p.1=some p.2/\H p.1=none/\p.1≠X.env.locals/\p.1 ∉ X.fs/\∀ v,p.2.data≠.cell v):Inv X pins' Z H s :=
 ⟨I.ok,I.os,I.bare,I.base,I.loc,I.cell,I.free,I.fT,fun p hp=>(Pf.mp hp).elim (fun z=>I.pin p (PN _ z)) (h p),I.hok,I.len⟩
theorem qX {N:List Str} (hN:N.Nodup) {i j:Nat} {x:Str} (a:N[i]?=some x) (b:N[j]?=some x):i=j:=by
 obtain ⟨h1,e1⟩:=NW.mp a;obtain ⟨h2,e2⟩:=NW.mp b;exact (List.getElem_inj hN).mp (e1.trans e2.symm)
theorem vX {M:Model} {A:Around} {E:Qj->Qx->Prop} {i:Nat} {x:Str} {v:V} {u:Qj} {Q:Unit->Qx->Prop} (I:Inv X pins Z H s) (hN:X.N.Nodup) (hi:X.N[i]?=some x) (hx:Loc X.env.scope x) (r:RelV v u)
  (h:∀ s',Inv X pins (Z.set i (some v)) H s'->(∃ a,Heap.SameBut a s.heap s'.heap/\(a=X.env.locals\/X.env.cells.lookup x=some a))->Q () s') (hf:X.fn x=true\/X.env.scope.names.lookup x=some .local:=by first | exact .inl rfl | exact .inr rfl | assumption):wpAny M A (storeName X.env x u) Q E s:=by
 obtain ⟨m,hn,hl⟩:=id I.loc;have hcls:(X.env.scope.kind==.class||(X.env.scope.kind==.module&&X.env.locals != X.env.globals))=false:=by rw [I.ok.kind];rfl
 have hiZ:i < Z.length:=by rw [I.len];exact (NW.mp hi).1
 have cne:=I.cne;have tracked:∀ {a:Qz} {h':Heap},(∃ o,s.heap.get? a=some o/\H a=none)->Heap.SameBut a s.heap h'->HOk X.prog X.w H h':=fun {a h'} ha hs b ob e=>by
  obtain ⟨_,_,hfree⟩:=ha;refine (I.hok b ob e).mM (fun c w' hc q=>(hs.2 c ?_).trans q) (fun _ q=>q) fun _ _ q=>q;rintro rfl;rcases hc with rfl | hc
  ·rw [hfree] at e;cases e
  ·rw [hfree] at hc;cases hc
 rcases hx with hk | hk
 ·refine wpAny_storeName_local hk hn (fun h' hn' hs=>?_) hcls;obtain ⟨oL,_,_,hoL,_⟩:=id hn;refine h _ ⟨I.ok,I.os,I.bare,⟨fun b o e n hb hx=>?_,fun b o e n hb hx=>?_,I.base.free,fun b o e hx=>?_,I.base.rP,I.base.oZ,I.base.sv⟩,⟨_,hn',fun j y v' e1 e2 e3=>?_⟩,fun y c e=>?_,I.free,I.fT,fun p hp=>?_,tracked ⟨oL,hoL,I.free⟩ hs,by simpa using I.len⟩ ⟨_,hs,.inl rfl⟩
  ·exact (hs.2 b (OC (Ob (Oe e) I.ok.above))).trans (I.base.keep b o e n hb hx)
  ·obtain ⟨sl,e1⟩:=I.base.slot b o e n hb hx;exact ⟨sl,(hs.2 b (OC (Ob (Oe e) I.ok.above))).trans e1⟩
  ·obtain ⟨o',e1⟩:=I.base.there b o e hx;exact ⟨o',(hs.2 b (OC (Ob (Oe e) I.ok.above))).trans e1⟩
  ·by_cases hj:j=i
   ·subst hj;rw [hi] at e1;cases e1;rw [Oa hiZ] at e2;cases e2;exact ⟨u,r,.inl ⟨hk,by simp⟩⟩
   ·rw [NU (Ne.symm hj)] at e2;obtain ⟨u',r',q⟩:=hl j y v' e1 e2 e3;refine ⟨u',r',?_⟩;rcases q with ⟨k,e⟩ | ⟨k,c,e,z⟩
    ·refine .inl ⟨k,?_⟩;have:y≠x:=fun e=>hj (qX hN e1 (e▸hi));simp [this,e]
    ·exact .inr ⟨k,c,e,z.sameBut hs (cne y c e)⟩
  ·obtain ⟨w',z⟩:=I.cell y c e;exact ⟨w',z.sameBut hs (cne y c e)⟩
  ·obtain ⟨e,n,ne,nf,d⟩:=I.pin p hp;exact ⟨(hs.2 p.1 ne).trans e,n,ne,nf,d⟩
 ·have hfn:X.fn x=true:=by
   rcases hf with z | z
   ·exact z
   ·rw [z] at hk;cases hk
  obtain ⟨c,hc⟩:=I.ok.has x (.inl hk);obtain ⟨w',z⟩:=I.cell x c hc;refine wpAny_storeName_cell I.ok.kind hk hc z (fun h' hc' hs=>?_);obtain ⟨oc,hoc,hocd⟩:=id z;refine h { s with heap:=h' } ⟨I.ok,I.os,I.bare,⟨fun b o e n hb hx=>?_,fun b o e n hb hx=>?_,I.base.free,fun b o e hx=>?_,I.base.rP,I.base.oZ,I.base.sv⟩,⟨m,hn.sameBut hs (Ne.symm (cne x c hc)),fun j y v' e1 e2 e3=>?_⟩,fun y c' e=>?_,I.free,I.fT,fun p hp=>?_,tracked ⟨oc,hoc,I.fT x c hc⟩ hs,by simpa using I.len⟩ ⟨c,hs,.inr hc⟩
  ·exact (hs.2 b (OC (Ob (Oe e) (I.ok.cab x c hfn hc)))).trans (I.base.keep b o e n hb hx)
  ·obtain ⟨sl,e1⟩:=I.base.slot b o e n hb hx;exact ⟨sl,(hs.2 b (OC (Ob (Oe e) (I.ok.cab x c hfn hc)))).trans e1⟩
  ·obtain ⟨o',e1⟩:=I.base.there b o e hx;exact ⟨o',(hs.2 b (OC (Ob (Oe e) (I.ok.cab x c hfn hc)))).trans e1⟩
  ·by_cases hj:j=i
   ·subst hj;rw [hi] at e1;cases e1;rw [Oa hiZ] at e2;cases e2;exact ⟨u,r,.inr ⟨.inl hk,c,hc,hc'⟩⟩
   ·rw [NU (Ne.symm hj)] at e2;obtain ⟨u',r',q⟩:=hl j y v' e1 e2 e3;refine ⟨u',r',?_⟩;rcases q with q | ⟨k,c',e,z'⟩
    ·exact .inl q
    ·refine .inr ⟨k,c',e,z'.sameBut hs ?_⟩;rintro rfl;exact hj (qX hN e1 (I.ok.inj _ _ _ e hc▸hi))
  ·by_cases hcc:c'=c
   ·subst hcc;exact ⟨_,hc'⟩
   ·obtain ⟨w2,z2⟩:=I.cell y c' e;exact ⟨w2,z2.sameBut hs hcc⟩
  ·obtain ⟨e,n,ne,nf,d⟩:=I.pin p hp;refine ⟨(hs.2 p.1 ?_).trans e,n,ne,nf,d⟩;intro q;rw [q,hoc] at e;have q':oc=p.2:=OK e;exact d w' (by rw [<- q'];exact hocd)
theorem lF {M:Model} {A:Around} {E:Qj->Qx->Prop} {i:Nat} {x:Str} {v:V} {u:Qj} {Q:Unit->Qx->Prop} (I:Inv X pins Z H s) (hN:X.N.Nodup) (hi:X.N[i]?=some x) (hx:Loc X.env.scope x) (r:RelV v u)
  (h:∀ s',Inv X pins (Z.set i (some v)) H s'->Q () s') (hf:X.fn x=true\/X.env.scope.names.lookup x=some .local:=by first | exact .inl rfl | exact .inr rfl | assumption):wpAny M A (storeName X.env x u) Q E s :=
 vX I hN hi hx r (fun s' I' _=>h s' I') hf
theorem Inv.Ji {s':Qx} {ch:List Qz} (I:Inv X pins Z H s) (ho:s'.os=s.os) (u:Un (frs X.stack) ch H H' s.heap s'.heap) (hok:HOk X.prog X.w H' s'.heap) (hg:AllBare s'.gens)
  (hch:∀ b∈ch,(b∈X.ex\/X.ZO.heap.objs.size<=b)/\b≠X.env.locals/\(∀ x c,X.env.cells.lookup x=some c->c≠b)/\∀ p∈X.pn++pins,p.1≠b):Inv X pins Z H' s':=by
 obtain ⟨h',g',d',t',o'⟩:=s';have e:o'=s.os:=ho;subst e;exact I.call (g':=g') (t':=t') (d':=d') u hok hg hch
end
abbrev XK:=Qj->Option Qz->Hp->Prop
abbrev St:=List (Option V)
abbrev VK:=V->Hp->Prop
abbrev TE:=St->Hp->VK->Prop
abbrev TT:=St->Hp->(Bool->Hp->Prop)->Prop
abbrev TA:=St->Hp->(List V->Hp->Prop)->Prop
structure Ends where
 nx:St->Hp->Prop
 rt:VK
 bk:St->Hp->Prop:=fun _ _=>False
 ct:St->Hp->Prop:=fun _ _=>False
abbrev TS:=Ends->St->Hp->Prop
def EP (X:Cx) (pins:List (Qz×Obj)) (Z:St) (Q:VK) (u:Qj) (s':Qx):Prop:=∃ v H',Inv X pins Z H' s'/\RelV v u/\Q v H'
def TP (X:Cx) (pins:List (Qz×Obj)) (Z:St) (Q:Bool->Hp->Prop) (b:Bool) (s':Qx):Prop:=∃ H',Inv X pins Z H' s'/\Q b H'
def AP (X:Cx) (pins:List (Qz×Obj)) (Z:St) (Q:List V->Hp->Prop) (us:List Qj) (s':Qx):Prop:=∃ vs H',Inv X pins Z H' s'/\Vals vs us/\Q vs H'
def SP (X:Cx) (pins:List (Qz×Obj)) (D:Ends) (f:Flow) (s':Qx):Prop :=
 match f with
 | .next=>∃ Z' H',Inv X pins Z' H' s'/\D.nx Z' H'
 | .brk=>∃ Z' H',Inv X pins Z' H' s'/\D.bk Z' H'
 | .cont=>∃ Z' H',Inv X pins Z' H' s'/\D.ct Z' H'
 | .ret u=>∃ v Z' H',Inv X pins Z' H' s'/\RelV v u/\D.rt v H'
def PE (X:Cx) (e:Expr) (t:TE):Prop :=
 ∀ (pins:List (Qz×Obj)) (s:Qx) (Z:St) (H:Hp) (Q:VK),Inv X pins Z H s->t Z H Q->wpAny (model X.prog X.w) X.A (eval e X.env) (EP X pins Z Q) X.xe s
def PT (X:Cx) (e:Expr) (t:TT):Prop :=
 ∀ (pins:List (Qz×Obj)) (s:Qx) (Z:St) (H:Hp) (Q:Bool->Hp->Prop),Inv X pins Z H s->t Z H Q->wpAny (model X.prog X.w) X.A (isTrue e X.env (eval e X.env)) (TP X pins Z Q) X.xe s
def PW (X:Cx) (e:Expr) (t:TT):Prop :=
 ∀ (whole:Sem Qj) (pins:List (Qz×Obj)) (s:Qx) (Z:St) (H:Hp) (Q:Bool->Hp->Prop),Inv X pins Z H s->t Z H Q->wpAny (model X.prog X.w) X.A (isTrue e X.env whole) (TP X pins Z Q) X.xe s
theorem PW.pt {X:Cx} {e:Expr} {t:TT} (h:PW X e t):PT X e t:=h _
def PA (X:Cx) (es:List Expr) (t:TA):Prop :=
 ∀ (pos:Pos) (pins:List (Qz×Obj)) (s:Qx) (Z:St) (H:Hp) (Q:List V->Hp->Prop),Inv X pins Z H s->t Z H Q->wpAny (model X.prog X.w) X.A (spliced (backTo pos (starEach es X.env))) (AP X pins Z Q) X.xe s
def PS (X:Cx) (st:Stmt) (t:TS):Prop :=
 ∀ (pins:List (Qz×Obj)) (s:Qx) (Z:St) (H:Hp) (D:Ends),Inv X pins Z H s->t D Z H->wpAny (model X.prog X.w) X.A (exec st X.env) (SP X pins D) X.xe s
def PSs (X:Cx) (st:List Stmt) (t:TS):Prop :=
 ∀ (pins:List (Qz×Obj)) (s:Qx) (Z:St) (H:Hp) (D:Ends),Inv X pins Z H s->t D Z H->wpAny (model X.prog X.w) X.A (execs st X.env) (SP X pins D) X.xe s
theorem thn {α:Type} {t:Sem α} {Q Q':α->Qx->Prop} {M:Model} {A:Around} {E:Qj->Qx->Prop} {s:Qx} (h:wpAny M A t Q E s) (hQ:∀ a s,Q a s->Q' a s):wpAny M A t Q' E s:=OF h hQ fun _ _ x=>x
section
variable {X:Cx}
theorem bin {a b:Expr} {ta tb:TE} (ha:PE X a ta) (hb:PE X b tb) {pins:List (Qz×Obj)} {s:Qx} {Z:St} {H:Hp} {R:V->V->Hp->Prop} (I:Inv X pins Z H s) (h:ta Z H fun x H1=>tb Z H1 fun y H2=>R x y H2)
  {α:Type} {Q:α->Qx->Prop} {f:Qj->Qj->Sem α}
  (hf:∀ v u s2 x y H2,Inv X pins Z H2 s2->RelV x v->RelV y u->R x y H2->wpAny (model X.prog X.w) X.A (f v u) Q X.xe s2) :
  wpAny (model X.prog X.w) X.A (eval a X.env) (fun v ZZ=>wpAny (model X.prog X.w) X.A (eval b X.env) (fun u ZY=>wpAny (model X.prog X.w) X.A (f v u) Q X.xe ZY) X.xe ZZ) X.xe s:=by
 refine thn (ha pins s Z H _ I h) fun v s1 ⟨x,H1,I1,r1,q1⟩=>?_;refine thn (hb pins s1 Z H1 _ I1 q1) fun u s2 ⟨y,H2,I2,r2,q2⟩=>?_;exact hf v u s2 x y H2 I2 r1 r2 q2
def fE (i:Nat):TE:=fun Z H Q=>∃ v,Z[i]?=some (some v)/\Q v H
def tC (v:V):TE:=fun _ H Q=>Q v H
theorem jk {i:Nat} {x:Str} {pos:Pos} (hN:X.N[i]?=some x) (hv:Vis X.env.scope x) (hd:(x==("__debug__" : Str))=false:=by decide) (hcd:(x==("__classdict__" : Str))=false:=by decide):PE X (.Name x pos) (fE i):=by
 intro pins s Z H Q I h;obtain ⟨v,e,h⟩:=h;obtain ⟨m,hn,hl⟩:=I.loc;obtain ⟨u,r,l⟩:=hl i x v hN e hv;have fin:EP X pins Z Q u s:=⟨v,H,I,r,h⟩;rcases l with ⟨hk,hm⟩ | ⟨hk,c,hc,hcell⟩
 ·exact wpAny_Name (wpAny_loadName_local I.ok.kind hk hn hm fin) hd
 ·rcases hk with hk | hk
  ·exact wpAny_Name (wpAny_loadName_cell I.ok.kind hk hc hcell fin) hd
  ·exact wpAny_Name (wpAny_loadName_free I.ok.kind hk hc hcell fin hcd) hd
theorem HB {i j pos}:PE X (.Constant (.int i) j pos) (tC (.int i)):=fun _ _ _ H _ I h=>wpAny_Constant_int ⟨.int i,H,I.tok _,⟨_,rfl⟩,h⟩
theorem KW {b j pos}:PE X (.Constant (.bool b) j pos) (tC (.bl b)):=fun _ _ _ H _ I h=>Constant_bool ⟨.bl b,H,I,rfl,h⟩
theorem Hv {j pos}:PE X (.Constant .none j pos) (tC .non):=fun _ _ _ H _ I h=>Constant_none ⟨.non,H,I,rfl,h⟩
theorem Ft {x j pos}:PE X (.Constant (.str x) j pos) (tC (.str x)):=fun _ _ _ H _ I h=>Calls.Constant_str ⟨.str x,H,I.tok _,⟨_,rfl⟩,h⟩
def Gl (X:Cx) (x:Str):Prop:=X.env.kindOf x=some .globalImplicit
theorem gT {E:Qj->Qx->Prop} {pins:List (Qz×Obj)} {s:Qx} {Z:St} {H:Hp} {x:Str} {u:Qj} {pos:Pos} {Q:Qj->Qx->Prop} (I:Inv X pins Z H s) (hg:Gl X x) (hm:X.mg x=some u) (h:Q u s)
  (hd:(x==("__debug__" : Str))=false:=by decide):wpAny (model X.prog X.w) X.A (eval (.Name x pos) X.env) Q E s :=
 Calls.Name_function_global I.ok.kind hg (Calls.loadGlobal_global (by rw [I.ok.glob];exact I.mod.glob.keeps I.bk) hm h) hd
theorem qA {E:Qj->Qx->Prop} {pins:List (Qz×Obj)} {s:Qx} {Z:St} {H:Hp} {x:Str} {u:Qj} {pos:Pos} {Q:Qj->Qx->Prop} (I:Inv X pins Z H s) (hg:Gl X x) (hm:X.mg x=none) (hv:bootBuiltins x=some u) (h:Q u s)
  (hn:x ≠ "__name__" := by decide) (hd:(x==("__debug__" : Str))=false:=by decide):wpAny (model X.prog X.w) X.A (eval (.Name x pos) X.env) Q E s:=by
 obtain ⟨mb,h1,h2⟩:=I.mod.blt;exact Calls.Name_function_global I.ok.kind hg (Calls.loadGlobal_builtin (by rw [I.ok.glob];exact I.mod.glob.keeps I.bk) hm (by rw [I.ok.blt];exact h1.keeps I.bk) ((h2 x hn).trans hv) h) hd
theorem CZ {x:Str} {v:V} {u:Qj} {pos:Pos} (hg:Gl X x) (hm:X.mg x=some u) (r:RelV v u) (hd:(x==("__debug__" : Str))=false:=by decide):PE X (.Name x pos) (tC v) :=
 fun _ _ _ H _ I h=>gT I hg hm ⟨v,H,I,r,h⟩ hd
theorem B5 {x:Str} {v:V} {u:Qj} {pos:Pos} (hg:Gl X x) (hm:X.mg x=none) (hv:bootBuiltins x=some u) (r:RelV v u) (hn:x ≠ "__name__" := by decide) (hd:(x==("__debug__" : Str))=false:=by decide):PE X (.Name x pos) (tC v) :=
 fun _ _ _ H _ I h=>qA I hg hm hv ⟨v,H,I,r,h⟩ hn hd
variable {a b:Expr} {ta tb:TE} {pos:Pos}
def PC (X:Cx) (op:CmpOp) (a b:Expr) (t:TE):Prop :=
 ∀ (pins:List (Qz×Obj)) (s:Qx) (Z:St) (H:Hp) (Q:VK),Inv X pins Z H s->t Z H Q ->
  wpAny (model X.prog X.w) X.A (eval a X.env) (fun v ZZ=>wpAny (model X.prog X.w) X.A (eval b X.env) (fun u ZY=>wpAny (model X.prog X.w) X.A (compareOp op v u) (EP X pins Z Q) X.xe ZY) X.xe ZZ) X.xe s
theorem zN (b:Expr) {op:CmpOp} (h:op≠.In) (h2:op≠.NotIn):behindInMarks op b=false:=by
 have e1:(op==CmpOp.In)=false:=by cases op <;> first | rfl | exact absurd rfl h
 have e2:(op==CmpOp.NotIn)=false:=by cases op <;> first | rfl | exact absurd rfl h2
 cases b <;> simp [behindInMarks,e1,e2]
def tB (t:TE):TT:=fun Z H Q=>t Z H fun x H1=>∃ c,x=.bl c/\Q c H1
theorem L0 {op:CmpOp} {t:TE} (h:PC X op a b t) (h1:behindInMarks op b=false:=by first | exact zN _ (by decide) (by decide) | rfl):PT X (.Compare a [op] [b] pos) (tB t):=by
 intro pins s Z H Q I hw;refine wpAny_isTrue_Compare1 (thn (h pins s Z H _ I hw) fun v s1 h1=>thn h1 fun u s2 h2=>thn h2 fun c s3 ⟨x,H1,I1,r1,q1⟩=>?_) h1;obtain ⟨d,rfl,q⟩:=q1;cases r1;exact OU ⟨H1,I1,q⟩
theorem Gw {e:Expr} {t:TE} (h:PE X e t) (he:∀ whole,isTrue e X.env whole=(do let v<-whole;standAt e.pos;holding [v] (truthy v)):=by intro _;rfl):PT X e (tB t):=by
 intro pins s Z H Q I hw;refine isTrue_plain (thn (h pins s Z H _ I hw) fun v s1 ⟨x,H1,I1,r1,q1⟩=>?_) (he _);obtain ⟨d,rfl,q⟩:=q1;cases r1;exact OU ⟨H1,I1,q⟩
variable {tA tB':TT} {rest:List Expr}
def K2 (t u:TT):TT:=fun Z H Q=>t Z H fun c H1=>if c=true then u Z H1 Q else Q false H1
def tOr (t u:TT):TT:=fun Z H Q=>t Z H fun c H1=>if c=true then Q true H1 else u Z H1 Q
def Ju (t:TT):TT:=fun Z H Q=>t Z H fun c H1=>Q (!c) H1
theorem pw_and1 (ha:PT X a tA):PW X (.BoolOp .And [a] pos) tA:=by
 intro wh pins s Z H Q I h;refine isTrue_and (thn (ha pins s Z H Q I h) fun c s1 e=>?_);cases c with
 | true=>exact isTrue_and_nil e
 | false=>exact e
theorem pw_or1 (ha:PT X a tA):PW X (.BoolOp .Or [a] pos) tA:=by
 intro wh pins s Z H Q I h;refine isTrue_or (thn (ha pins s Z H Q I h) fun c s1 e=>?_);cases c with
 | false=>exact isTrue_or_nil e
 | true=>exact e
theorem pw_and (ha:PT X a tA) (hb:PW X (.BoolOp .And (b :: rest) pos) tB'):PW X (.BoolOp .And (a :: b :: rest) pos) (K2 tA tB'):=by
 intro wh pins s Z H Q I h;refine isTrue_and (thn (ha pins s Z H _ I h) fun c s1 ⟨H1,I1,q1⟩=>?_);cases c with
 | true=>exact hb wh pins s1 Z H1 Q I1 q1
 | false=>exact ⟨H1,I1,q1⟩
theorem pw_or (ha:PT X a tA) (hb:PW X (.BoolOp .Or (b :: rest) pos) tB'):PW X (.BoolOp .Or (a :: b :: rest) pos) (tOr tA tB'):=by
 intro wh pins s Z H Q I h;refine isTrue_or (thn (ha pins s Z H _ I h) fun c s1 ⟨H1,I1,q1⟩=>?_);cases c with
 | true=>exact ⟨H1,I1,q1⟩
 | false=>exact hb wh pins s1 Z H1 Q I1 q1
theorem ES (ha:PT X a tA):PT X (.UnaryOp .Not a pos) (Ju tA):=by
 intro pins s Z H Q I h;exact isTrue_not (ha pins s Z H (fun c H1=>Q (!c) H1) I h)
def Dw (ta tb:TE):TE:=fun Z H Q=>ta Z H fun x H1=>∃ c,x=.bl c/\if c=true then tb Z H1 Q else Q (.bl false) H1
def Li (ta tb:TE):TE:=fun Z H Q=>ta Z H fun x H1=>∃ c,x=.bl c/\if c=true then Q (.bl true) H1 else tb Z H1 Q
def CY (ta:TE):TE:=fun Z H Q=>ta Z H fun x H1=>∃ c,x=.bl c/\Q (.bl (!c)) H1
theorem E3 {op} {t:TE} (h:PE X a t):PE X (.BoolOp op [a] pos) t:=fun pins s Z H Q I hw=>BoolOp_one (h pins s Z H Q I hw)
theorem FP (ha:PE X a ta) (hb:PE X (.BoolOp .And (b :: rest) pos) tb):PE X (.BoolOp .And (a :: b :: rest) pos) (Dw ta tb):=by
 intro pins s Z H Q I h;refine BoolOp_and (thn (ha pins s Z H _ I h) fun v s1 ⟨x,H1,I1,r1,q1⟩=>?_);obtain ⟨c,rfl,q1⟩:=q1;cases r1;refine OU ?_;cases c with
 | true=>exact hb pins s1 Z H1 Q I1 q1
 | false=>exact ⟨.bl false,H1,I1,rfl,q1⟩
theorem Lv (ha:PE X a ta) (hb:PE X (.BoolOp .Or (b :: rest) pos) tb):PE X (.BoolOp .Or (a :: b :: rest) pos) (Li ta tb):=by
 intro pins s Z H Q I h;refine BoolOp_or (thn (ha pins s Z H _ I h) fun v s1 ⟨x,H1,I1,r1,q1⟩=>?_);obtain ⟨c,rfl,q1⟩:=q1;cases r1;refine OU ?_;cases c with
 | false=>exact hb pins s1 Z H1 Q I1 q1
 | true=>exact ⟨.bl true,H1,I1,rfl,q1⟩
theorem Fy (ha:PE X a ta):PE X (.UnaryOp .Not a pos) (CY ta):=by
 intro pins s Z H Q I h;refine UnaryOp_ (thn (ha pins s Z H _ I h) fun v s1 ⟨x,H1,I1,r1,q1⟩=>?_);obtain ⟨c,rfl,q1⟩:=q1;cases r1;exact not_of (OU ⟨.bl (!c),H1,I1,rfl,q1⟩)
def tIf (t:TT) (ta tb:TE):TE:=fun Z H Q=>t Z H fun c H1=>if c=true then ta Z H1 Q else tb Z H1 Q
theorem A0 {c:Expr} (hc:PT X c tA) (ha:PE X a ta) (hb:PE X b tb):PE X (.IfExp c a b pos) (tIf tA ta tb):=by
 intro pins s Z H Q I h;refine wpAny_IfExp (thn (hc pins s Z H _ I h) fun d s1 ⟨H1,I1,q1⟩=>?_);cases d with
 | true=>exact ha pins s1 Z H1 Q I1 q1
 | false=>exact hb pins s1 Z H1 Q I1 q1
end
def SqL (K:Fg) (H:Hp) (a:Qz) (xs:List V):Prop :=
 Rd H a (.lst xs) \/
  ∃ (o:Obj) (its:Array Qj) (n:Nat),K.lookup a=some o/\o.cls=.type "list" /\ o.dict=none/\o.data=.seq its n/\its.size<=sizeLine/\Vals xs its.toList
def SqT (K:Fg) (H:Hp) (a:Qz) (xs:List V):Prop :=
 Rd H a (.tup xs) \/
  ∃ (o:Obj) (its:Array Qj) (n:Nat),K.lookup a=some o/\o.cls=.type "tuple" /\ o.data=.seq its n/\its.size<=sizeLine/\Vals xs its.toList
noncomputable def M6:Qj->Option V
 | .none=>some .non
 | .bool b=>some (.bl b)
 | .int i _=>some (.int i)
 | .str x _=>some (.str x)
 | .bytes b _=>some (.byt b)
 | .float b _=>some (.flt b)
 | .ref a=>some (.ref a)
 | .type n=>some (.ty n)
 | _=>none
theorem RelV.abs {x:V} {u:Qj} (r:RelV x u):M6 u=some x:=by
 cases x with
 | non=>cases r;rfl
 | bl _=>cases r;rfl
 | int _=>obtain ⟨t,rfl⟩:=r;rfl
 | str _=>obtain ⟨t,rfl⟩:=r;rfl
 | byt _=>obtain ⟨t,rfl⟩:=r;rfl
 | flt _=>obtain ⟨t,rfl⟩:=r;rfl
 | ref _=>cases r;rfl
 | ty _=>cases r;rfl
theorem RelV.inj {x y:V} {u:Qj} (r:RelV x u) (q:RelV y u):x=y:=OK (r.abs.symm.trans q.abs)
theorem Vals.inj:∀ {xs ys:List V} {us:List Qj},Vals xs us->Vals ys us->xs=ys
 | _,_,_,.nil,.nil=>rfl
 | _,_,_,.cons r t,.cons r' t'=>by rw [r.inj r',Vals.inj t t']
section
variable {X:Cx} {pins:List (Qz×Obj)} {Z:St} {H:Hp} {s:Qx} {a:Qz} {xs ys:List V}
theorem SqT.of {K:Fg} (h:H a=some (.tup xs)):SqT K H a xs:=.inl (.inl h)
theorem Inv.list (I:Inv X pins Z H s) (h:SqL X.K H a xs):∃ its:List Qj,Vals xs its/\PlainL s.heap a its.toArray/\xs.length<=sizeLine:=by
 rcases h with h | ⟨o,its,n,hk,hc,hd,hs,hz,r⟩
 ·obtain ⟨z,its,n,r,e⟩:=h.ok I.hok;exact ⟨its,r,⟨_,n,e,rfl,rfl,rfl⟩,z⟩
 ·refine ⟨its.toList,r,⟨o,n,I.kIn a o hk,hc,hd,by simpa using hs⟩,?_⟩;have e:=r.length;simp only [Array.length_toList] at e;omega
theorem Inv.tuple (I:Inv X pins Z H s) (h:SqT X.K H a xs):∃ its:List Qj,Vals xs its/\IsTup s.heap a its.toArray/\xs.length<=sizeLine:=by
 rcases h with h | ⟨o,its,n,hk,hc,hs,hz,r⟩
 ·obtain ⟨z,its,r,p⟩:=h.ok I.hok;exact ⟨its,r,p,z⟩
 ·refine ⟨its.toList,r,⟨o,I.kIn a o hk,hc,n,by simpa using hs⟩,?_⟩;have e:=r.length;simp only [Array.length_toList] at e;omega
theorem Inv.AI (I:Inv X pins Z H s) (h:SqL X.K H a xs) (h':SqL X.K H a ys):xs=ys:=by
 obtain ⟨its,r,⟨o,n,e,_,_,d⟩,_⟩:=I.list h;obtain ⟨its',r',⟨o',n',e',_,_,d'⟩,_⟩:=I.list h';rw [e] at e';cases e';rw [d] at d';injection d' with d1 _;have:its=its':=by simpa using congrArg Array.toList d1
 subst this;exact r.inj r'
theorem Inv.uT (I:Inv X pins Z H s) (h:SqT X.K H a xs) (h':SqT X.K H a ys):xs=ys:=by
 obtain ⟨its,r,⟨o,e,_,n,d⟩,_⟩:=I.tuple h;obtain ⟨its',r',⟨o',e',_,n',d'⟩,_⟩:=I.tuple h';rw [e] at e';cases e';rw [d] at d';injection d' with d1 _;have:its=its':=by simpa using congrArg Array.toList d1
 subst this;exact r.inj r'
end
abbrev Cx.yU (X:Cx) (E:Qj->Qx->Prop):Cx:={ X with xe:=E }
abbrev Cx.nox (X:Cx):Cx:=X.yU fun _ _=>False
theorem Cx.Ok.yU {X:Cx} (ok:X.Ok) (E:Qj->Qx->Prop):(X.yU E).Ok :=
 ⟨ok.mod,ok.kind,ok.glob,ok.blt,ok.above,ok.inj,ok.has,ok.cab,ok.hd,ok.frames,ok.stk,ok.exf,ok.bs,ok.bsz,ok.Ef,ok.Er,ok.o6,ok.frf⟩
theorem Cx.Ok.iZ {X:Cx} {E:Qj->Qx->Prop} (ok:(X.yU E).Ok):X.Ok :=
 ⟨ok.mod,ok.kind,ok.glob,ok.blt,ok.above,ok.inj,ok.has,ok.cab,ok.hd,ok.frames,ok.stk,ok.exf,ok.bs,ok.bsz,ok.Ef,ok.Er,ok.o6,ok.frf⟩
section
variable {X:Cx} {pins:List (Qz×Obj)} {Z:St} {H:Hp} {s:Qx} {E:Qj->Qx->Prop}
theorem Inv.yU (I:Inv X pins Z H s) (E:Qj->Qx->Prop):Inv (X.yU E) pins Z H s:=⟨I.ok.yU E,I.os,I.bare,I.base,I.loc,I.cell,I.free,I.fT,I.pin,I.hok,I.len⟩
theorem Inv.iZ (I:Inv (X.yU E) pins Z H s):Inv X pins Z H s:=⟨I.ok.iZ,I.os,I.bare,I.base,I.loc,I.cell,I.free,I.fT,I.pin,I.hok,I.len⟩
theorem SP.iZ {D:Ends} {f:Flow} {s':Qx} (h:SP (X.yU E) pins D f s'):SP X pins D f s':=by
 cases f with
 | next=>obtain ⟨Z',H',I,q⟩:=h;exact ⟨Z',H',I.iZ,q⟩
 | brk=>obtain ⟨Z',H',I,q⟩:=h;exact ⟨Z',H',I.iZ,q⟩
 | cont=>obtain ⟨Z',H',I,q⟩:=h;exact ⟨Z',H',I.iZ,q⟩
 | ret u=>obtain ⟨v,Z',H',I,r,q⟩:=h;exact ⟨v,Z',H',I.iZ,r,q⟩
theorem PSs.nox {st:List Stmt} {t:TS} (h:PSs X.nox st t):PSs X st t:=fun pins s Z H D I hw =>
 OF (h pins s Z H D (I.yU _) hw) (fun _ _ q=>q.iZ) fun _ _ z=>False.elim z
end
section
variable {X:Cx} {st:Stmt} {rest:List Stmt} {t u:TS} {e:Expr} {te:TE} {pos:Pos}
def AE:TS:=fun D Z H=>D.nx Z H
def Ib (t u:TS):TS:=fun D Z H=>t { D with nx:=u D } Z H
theorem D3:PSs X [] AE:=fun _ _ Z H _ I h=>Pq ⟨Z,H,I,h⟩
theorem A5 (h1:PS X st t) (h2:PSs X rest u):PSs X (st :: rest) (Ib t u):=by
 intro pins s Z H D I h;refine Ph (thn (h1 pins s Z H { D with nx:=u D } I h) fun f s1 q=>?_);cases f with
 | next =>
  obtain ⟨Z',H',I',q⟩:=q;exact h2 pins s1 Z' H' D I' q
 | ret v=>exact q
 | brk=>exact q
 | cont=>exact q
theorem uX (h1:PS X st t):PSs X [st] t:=by
 intro pins s Z H D I h;refine Ph (thn (h1 pins s Z H D I h) fun f s1 q=>?_);cases f with
 | next=>exact Pq q
 | ret v=>exact q
 | brk=>exact q
 | cont=>exact q
theorem Inv.quiet {pins:List (Qz×Obj)} {Z:St} {H:Hp} {s:Qx} (I:Inv X pins Z H s):interactive X.env=false:=by simp [interactive,I.ok.kind]
def CC (te:TE):TS:=fun D Z H=>te Z H fun _ H1=>D.nx Z H1
theorem C9 (he:PE X e te) (hs:swapsWith e none pos.line X.env=pure false:=by rfl):PS X (.Expr e pos) (CC te):=by
 intro pins s Z H D I h;exact wpAny_Expr_any (thn (he pins s Z H _ I h) fun v s1 ⟨x,H1,I1,r1,q1⟩=>⟨Z,H1,I1,q1⟩) I.quiet hs
def Hs (te:TE):TS:=fun D Z H=>te Z H D.rt
theorem Ff (he:PE X e te):PS X (.Return (some e) pos) (Hs te):=by
 intro pins s Z H D I h;exact wpAny_Return_some (thn (he pins s Z H _ I h) fun v s1 ⟨x,H1,I1,r1,q1⟩=>⟨x,Z,H1,I1,r1,q1⟩)
def LY:TS:=fun D _ H=>D.rt .non H
def Ip (c:TT) (t u:TS):TS:=fun D Z H=>c Z H fun b H1=>if b=true then t D Z H1 else u D Z H1
theorem LA {c:Expr} {a b:List Stmt} {tc:TT} (hc:PT X c tc) (ha:PSs X a t) (hb:PSs X b u):PS X (.If c a b pos) (Ip tc t u):=by
 intro pins s Z H D I h;refine wpAny_If (thn (hc pins s Z H _ I h) fun d s1 ⟨H1,I1,q1⟩=>?_);cases d with
 | true=>exact ha pins s1 Z H1 D I1 q1
 | false=>exact hb pins s1 Z H1 D I1 q1
def xG:TS:=fun _ _ _=>False
end
abbrev TG:=V->St->Hp->(St->Hp->Prop)->Prop
abbrev TGs:=List V->St->Hp->(St->Hp->Prop)->Prop
def PG (X:Cx) (target:Expr) (t:TG):Prop :=
 ∀ (pins:List (Qz×Obj)) (s:Qx) (Z:St) (H:Hp) (v:V) (u:Qj) (Q:St->Hp->Prop),Inv X pins Z H s->RelV v u->t v Z H Q ->
  wpAny (model X.prog X.w) X.A (assign target X.env u) (fun _ s'=>∃ Z' H',Inv X pins Z' H' s'/\Q Z' H') X.xe s
def PGs (X:Cx) (ts:List Expr) (t:TGs):Prop :=
 ∀ (pins:List (Qz×Obj)) (s:Qx) (Z:St) (H:Hp) (vs:List V) (us:List Qj) (Q:St->Hp->Prop),Inv X pins Z H s->Vals vs us->t vs Z H Q ->
  wpAny (model X.prog X.w) X.A (assignInOrder ((assignEach ts X.env).map (·.2)) us) (fun _ s'=>∃ Z' H',Inv X pins Z' H' s'/\Q Z' H') X.xe s
abbrev HR:=V->V->V->Hp->(Hp->Prop)->Prop
def JM (X:Cx) (t:HR):Prop :=
 ∀ (pins:List (Qz×Obj)) (s:Qx) (Z:St) (H:Hp) (o i v:V) (ov iv u:Qj) (Q:Hp->Prop),Inv X pins Z H s->RelV o ov->RelV i iv->RelV v u->t o i v H Q ->
  wpAny (model X.prog X.w) X.A (setItem ov iv u) (fun _ s'=>∃ H',Inv X pins Z H' s'/\Q H') X.xe s
section
variable {X:Cx} {pos:Pos}
def e7 (i:Nat):TG:=fun v Z H Q=>Q (Z.set i (some v)) H
theorem kW {i:Nat} {x:Str} (hN:X.N.Nodup) (hi:X.N[i]?=some x) (hx:Loc X.env.scope x) (hf:X.fn x=true\/X.env.scope.names.lookup x=some .local:=by first | exact .inl rfl | exact .inr rfl | assumption):PG X (.Name x pos) (e7 i):=by
 intro pins s Z H v u Q I r h;exact wpAny_assign_Name (lF I hN hi hx r (fun s' I'=>⟨_,H,I',h⟩) hf)
def Lw:TGs:=fun vs Z H Q=>vs=[]/\Q Z H
def B9 (t:TG) (u:TGs):TGs:=fun vs Z H Q=>∃ v r,vs=v :: r/\t v Z H fun Z' H'=>u r Z' H' Q
theorem Dl:PGs X [] Lw:=by
 intro pins s Z H vs us Q I r h;obtain ⟨e,h⟩:=h;subst e;cases r;exact assignInOrder_nil ⟨Z,H,I,h⟩
theorem zM {e:Expr} {es:List Expr} {t:TG} {u:TGs} (h1:PG X e t) (h2:PGs X es u)
  (hs:(assignEach (e :: es) X.env).map (·.2)=assign e X.env :: (assignEach es X.env).map (·.2):=by rfl):PGs X (e :: es) (B9 t u):=by
 intro pins s Z H vs us Q I r h;obtain ⟨v,vr,e1,h⟩:=h;subst e1;cases r with
 | cons r rr =>
  rw [hs];refine assignInOrder_cons (thn (h1 pins s Z H _ _ _ I r h) fun _ s1 ⟨Z1,H1,I1,q1⟩=>?_);exact h2 pins s1 Z1 H1 _ _ Q I1 rr q1
def JD (K:Fg) (n:Nat) (t:TGs):TG:=fun v Z H Q=>∃ a xs,v=.ref a/\SqT K H a xs/\xs.length=n/\t xs Z H Q
theorem GO {es:List Expr} {k:Nat} {t:TGs} {n:Nat} (hc:X.calm=true) (h:PGs X es t)
  (hn:(assignEach es X.env).length=n:=by rfl) (hst:(assignEach es X.env).findIdx? (·.1)=none:=by rfl):PG X (.Tuple es k pos) (JD X.K n t):=by
 intro pins s Z H v u Q I r hw;obtain ⟨a,xs,e1,hq,hl,hw⟩:=hw;subst e1;cases r;obtain ⟨its,rv,ht,hz⟩:=I.tuple hq;refine assign_Tuple_tuple (I.ok.hd hc) ht (by simp [hn,<-hl,rv.length]) hst fun h' hx=>?_;have I1:Inv X pins Z H { s with heap:=h' }:=I.kept (t':=s.toks) fun b o e=>hx b o (OC (Oe e)) e;exact h pins _ Z H xs _ Q I1 (by simpa using rv) hw
def Mq (to ti:TE) (t:HR):TG:=fun v Z H Q=>to Z H fun o H1=>ti Z H1 fun i H2=>t o i v H2 fun H3=>Q Z H3
theorem FR {o i:Expr} {to ti:TE} {t:HR} (ho:PE X o to) (hi:PE X i ti) (hs:JM X t)
  (ha:∀ v,assign (.Subscript o i pos) X.env v=(do
   let ov<-holding [v] (eval o X.env)
   let iv<-holding [v,ov] (eval i X.env)
   standAt pos
   holding [v,ov,iv] (setItem ov iv v)
   release [v,ov,iv] []):=by intro _;rfl):PG X (.Subscript o i pos) (Mq to ti t):=by
 intro pins s Z H v u Q I r h;rw [ha];refine N3 (wpAny_holding (thn (ho pins s Z H _ I h) fun ov s1 ⟨x,H1,I1,r1,q1⟩=>?_));refine N3 (wpAny_holding (thn (hi pins s1 Z H1 _ I1 q1) fun iv s2 ⟨y,H2,I2,r2,q2⟩=>?_));refine N3 (wpAny_standAt (N3 (wpAny_holding (thn (hs pins s2 Z H2 x y v ov iv u _ I2 r1 r2 r q2) fun _ s3 ⟨H3,I3,q3⟩=>?_))));exact wpAny_release ⟨Z,H3,I3,q3⟩
def uC (te:TE) (g:TG):TS:=fun D Z H=>te Z H fun x H1=>g x Z H1 D.nx
theorem Hg {tg e:Expr} {te:TE} {g:TG} (he:PE X e te) (hg:PG X tg g) (hs:swapsWithSole [tg] e pos.line X.env=pure false:=by rfl) (hw:swappedStores [tg] e X.env=pure none:=by rfl)
  (h1:(assignEach [tg] X.env).map (·.2)=[assign tg X.env]:=by rfl):PS X (.Assign [tg] e pos) (uC te g):=by
 intro pins s Z H D I h;refine wpAny_Assign_stores (thn (he pins s Z H _ I h) fun v s1 ⟨x,H1,I1,r1,q1⟩=>?_) hs hw;rw [h1];exact thn (hg pins s1 Z H1 x v _ I1 r1 q1) fun _ s2 q=>q
theorem Bk {i:Nat} {x:Str} {e:Expr} {te:TE} {pos':Pos} (hN:X.N.Nodup) (hi:X.N[i]?=some x) (hx:Loc X.env.scope x) (he:PE X e te) (hs:swapsWith e (some (.Name x pos')) pos.line X.env=pure false:=by rfl) (hf:X.fn x=true\/X.env.scope.names.lookup x=some .local:=by first | exact .inl rfl | exact .inr rfl | assumption) :
  PS X (.Assign [.Name x pos'] e pos) (uC te (e7 i)):=by
 intro pins s Z H D I h;refine wpAny_Assign_Name (thn (he pins s Z H _ I h) fun v s1 ⟨y,H1,I1,r1,q1⟩=>?_) hs;exact lF I1 hN hi hx r1 (fun s2 I2=>⟨_,H1,I2,q1⟩) hf
end
section
variable {X:Cx} {pos:Pos}
def xw (c:TT) (tb:TS):TS:=fun D Z H=>∃ W:Nat->St->Hp->Prop,(∃ m,W m Z H)/\∀ m Z H,W m Z H ->
 c Z H fun b H1=>if b=true then ∃ N:St->Hp->Prop,(∀ Z' H',N Z' H'->∃ m',m' < m/\W m' Z' H')/\tb { D with nx:=N,ct:=N,bk:=D.nx } Z H1 else D.nx Z H1
theorem Af {c:Expr} {body:List Stmt} {tc:TT} {tb:TS} (hp:PassesOwn (model X.prog X.w) X.A X.env X.xe) (hc:PT X c tc) (hb:PSs X body tb):PS X (.While c body [] pos) (xw tc tb):=by
 intro pins s Z H D I h;obtain ⟨W,⟨m0,w0⟩,turn⟩:=h;refine wpAny_While (codeAny_whileLoop (fun n s'=>∃ Z' H',Inv X pins Z' H' s'/\W n Z' H') ?_ m0 ⟨Z,H,I,w0⟩);rintro n s1 ⟨Z1,H1,I1,w1⟩;refine Pp hp (thn (hc pins s1 Z1 H1 _ I1 (turn n Z1 H1 w1)) fun b s2 ⟨H2,I2,q2⟩=>?_);cases b with
 | true =>
  obtain ⟨N,hN,q2⟩:=q2;rw [N4 rfl];refine Pp hp (thn (hb pins s2 Z1 H2 _ I2 q2) fun f s3 q3=>?_);cases f with
  | next =>
   obtain ⟨Z3,H3,I3,n3⟩:=q3;obtain ⟨m',hm,w3⟩:=hN Z3 H3 n3;exact ⟨m',hm,Z3,H3,I3,w3⟩
  | cont =>
   obtain ⟨Z3,H3,I3,n3⟩:=q3;obtain ⟨m',hm,w3⟩:=hN Z3 H3 n3;exact ⟨m',hm,Z3,H3,I3,w3⟩
  | brk=>exact q3
  | ret v=>exact q3
 | false =>
  rw [Od O3];exact Pq ⟨Z1,H2,I2,q2⟩
end
structure It where
 go:Nat->Hp->Prop
 yld:Nat->Hp->V->Hp->Prop
 stop:Nat->Hp->Prop
def Bu (X:Cx) (pins:List (Qz×Obj)) (H:Hp) (b:Qz):Prop :=
 H b=none/\b≠X.env.locals/\b ∉ X.fs/\(b∈X.ex\/X.ZO.heap.objs.size<=b)/\(∀ x c,X.env.cells.lookup x=some c->c≠b)/\∀ p∈X.pn++pins,p.1≠b
theorem Inv.H9 {X:Cx} {pins:List (Qz×Obj)} {Z:St} {H H':Hp} {s:Qx} {b:Qz} (I:Inv X pins Z H s) (hb:s.heap.objs.size<=b) (hn:H' b=none):Bu X pins H' b:=by
 refine ⟨hn,Nat.ne_of_gt (Ob I.lt hb),I.LP hb,.inr (Oi I.sz hb),fun x c e z=>?_,fun p hp z=>?_⟩
 ·obtain ⟨v,q⟩:=I.cell x c e;exact absurd (Ob q.lt (by rw [z];exact hb)) (OJ _)
 ·exact absurd (Ob (Oe (I.pin p hp).1) (by rw [z];exact hb)) (OJ _)
structure Turn (P:Program) (w:World) (K:Fg) (tg:Expr) (J:It) (fp:List Qz) (it:Qz) (tn:Nat->Heap->Prop):Prop where
 mem:it∈fp
 obj:∀ i h,tn i h->∀ b∈fp,∃ o,h.get? b=some o/\∀ v,o.data≠.cell v
 keep:∀ i h h',tn i h->(∀ b∈fp,∀ o,h.get? b=some o->h'.get? b=some o)->tn i h'
 item:∀ (X:Cx),X.prog=P->X.w=w->X.K=K->X.calm=true->∀ (i:Nat) (pins:List (Qz×Obj)) (s:Qx) (Z:St) (H:Hp) (E:Qj->Qx->Prop),Inv X pins Z H s->(∀ b∈fp,Bu X pins H b)->tn i s.heap->J.go i H ->
  wpAny (model P w) X.A (pyNext (.ref it)) (fun r s1=>∃ u,r=some u /\
   wpAny (model P w) X.A (letOwnedTupleGo tg (.ref it) u) (fun _ s2=>∃ x H',Inv X pins Z H' s2/\RelV x u/\J.yld i H x H'/\tn (i+1) s2.heap/\∀ b∈fp,H' b=none) E s1) E s
 done:∀ (X:Cx),X.prog=P->X.w=w->X.K=K->X.calm=true->∀ (i:Nat) (pins:List (Qz×Obj)) (s:Qx) (Z:St) (H:Hp) (E:Qj->Qx->Prop),Inv X pins Z H s->(∀ b∈fp,Bu X pins H b)->tn i s.heap->J.stop i H ->
  wpAny (model P w) X.A (pyNext (.ref it)) (fun r s1=>r=none/\Inv X pins Z H s1) E s
 self:∀ (A:Around) (i:Nat) (s:Qx) (Q:Qj->Qx->Prop) (E:Qj->Qx->Prop),tn i s.heap->Q (.ref it) s->wpAny (model P w) A (pyIter (.ref it)) Q E s
abbrev TI:=St->Hp->(It->Hp->Prop)->Prop
def PIE (X:Cx) (pins:List (Qz×Obj)) (Z:St) (tg:Expr) (R:It->Hp->Prop) (itv:Qj) (s2:Qx):Prop :=
 ∃ (it:Qz) (fp:List Qz) (tn:Nat->Heap->Prop) (J:It) (H':Hp),itv=.ref it/\Inv X pins Z H' s2/\Turn X.prog X.w X.K tg J fp it tn/\tn 0 s2.heap/\(∀ b∈fp,Bu X pins H' b)/\R J H'
def PI (X:Cx) (tg iter:Expr) (wi:TI):Prop :=
 ∀ (pins:List (Qz×Obj)) (s:Qx) (Z:St) (H:Hp) (R:It->Hp->Prop),Inv X pins Z H s->wi Z H R ->
  wpAny (model X.prog X.w) X.A (eval iter X.env) (fun v s1=>wpAny (model X.prog X.w) X.A (pyIter v) (PIE X pins Z tg R) X.xe s1) X.xe s
theorem D6 {M:Model} {A:Around} {E:Qj->Qx->Prop} {s:Qx} {tg:Expr} {it:Qz} {u:Qj} {o:Obj} {n:String} {vs:Array Qj} {Q:Unit->Qx->Prop} (ho:s.heap.get? it=some o) (hc:o.cls=.type n) (hd:o.data=.fields vs)
    (hn:["enumerate", "zip", "dict_itemiterator", "dict_reverseitemiterator", "odict_iterator", "itertools.zip_longest", "itertools.pairwise"].contains n=false) (hQ:Q () s):wpAny M A (letOwnedTupleGo tg (.ref it) u) Q E s:=by
  unfold letOwnedTupleGo;cases tg <;> first
    | exact Om hQ
    | (cases u <;> first
        | exact Om hQ
        | (refine N3 (wpAny_load ho ?_)
           rw [hc,hd];show wpAny M A (if (["enumerate", "zip", "dict_itemiterator", "dict_reverseitemiterator", "odict_iterator", "itertools.zip_longest", "itertools.pairwise"].contains n&&vs[0]?==some (rawInt _))=true then _ else _) Q E s;rw [Od (by intro h;rw [hn,Bool.false_and] at h;cases h)]
           exact Om hQ))
def Itl (K:Fg) (a:Qz):It :=
 ⟨fun i H=>∃ xs x,SqL K H a xs/\xs[i]?=some x,fun i H x H'=>H'=H/\∀ xs,SqL K H a xs->xs[i]?=some x,fun i H=>∃ xs,SqL K H a xs/\xs.length<=i⟩
def Itt (K:Fg) (a:Qz):It :=
 ⟨fun i H=>∃ xs x,SqT K H a xs/\xs[i]?=some x,fun i H x H'=>H'=H/\∀ xs,SqT K H a xs->xs[i]?=some x,fun i H=>∃ xs,SqT K H a xs/\xs.length<=i⟩
def Itr (lo:Int) (n:Nat):It:=⟨fun i _=>i < n,fun i H x H'=>H'=H/\x=.int (lo+i),fun i _=>n<=i⟩
theorem yG {P:Program} {w:World} {K:Fg} {tg:Expr} (a it:Qz):Turn P w K tg (Itl K a) [it] it (fun i h=>h.IsListIter it a i) where
 mem:=by simp
 obj:=fun i h st b hb=>by
  have e:b=it:=by simpa using hb
  subst e;obtain ⟨o,e,c,d⟩:=st;exact ⟨o,e,fun v z=>by rw [d] at z;cases z⟩
 keep:=fun i h h' st k=>st.at fun o e=>k it (by simp) o e
 item:=by
  intro X hP hw hK hc i pins s Z H E I hf st hg;subst hP hw hK;obtain ⟨xs,x,hq,hx⟩:=hg;obtain ⟨its,rv,p,hz⟩:=I.list hq;obtain ⟨u,hu,ru⟩:=rv.get hx;obtain ⟨f0,f1,f2,f3,f4,f5⟩:=hf it (by simp);refine wpAny_pyNext_list_item st p.isList (x:=u) (by simpa using hu) fun h' st' sb=>?_;have I1:Inv X pins Z H { s with heap:=h' }:=I.turned (t':=s.toks) (fun b o hb e=>(sb.2 b hb).trans e) f0 f1 f3 f4 f5;obtain ⟨o,e,c,d⟩:=id st';exact ⟨u,rfl,D6 (s:={ s with heap:=h' }) e c d (by decide) ⟨x,H,I1,ru,⟨rfl,fun ys hy=>by rw [I.AI hy hq];exact hx⟩,st',fun b hb=>(hf b hb).1⟩⟩
 done:=by
  intro X hP hw hK hc i pins s Z H E I hf st hg;subst hP hw hK;obtain ⟨xs,hq,hx⟩:=hg;obtain ⟨its,rv,p,hz⟩:=I.list hq;obtain ⟨f0,f1,f2,f3,f4,f5⟩:=hf it (by simp);have hl:=rv.length;exact wpAny_pyNext_list_end (I.ok.hd hc) st p.isList (by simp;omega) fun h' eb=>⟨rfl,I.turned (t':=s.toks) (fun b o hb e=>eb b o hb e) f0 f1 f3 f4 f5⟩
 self:=fun _ _ _ _ _ st h=>wpAny_pyIter_listiter st h
theorem sX {P:Program} {w:World} {K:Fg} {tg:Expr} (a it:Qz):Turn P w K tg (Itt K a) [it] it (fun i h=>h.IsTupleIter it a i) where
 mem:=by simp
 obj:=fun i h st b hb=>by
  have e:b=it:=by simpa using hb
  subst e;obtain ⟨o,e,c,d⟩:=st;exact ⟨o,e,fun v z=>by rw [d] at z;cases z⟩
 keep:=fun i h h' st k=>st.at fun o e=>k it (by simp) o e
 item:=by
  intro X hP hw hK hc i pins s Z H E I hf st hg;subst hP hw hK;obtain ⟨xs,x,hq,hx⟩:=hg;obtain ⟨its,rv,p,hz⟩:=I.tuple hq;obtain ⟨u,hu,ru⟩:=rv.get hx;obtain ⟨f0,f1,f2,f3,f4,f5⟩:=hf it (by simp);refine wpAny_pyNext_tuple_item st (show s.heap.IsTuple a its.toArray from p) (x:=u) (by simpa using hu) fun h' st' sb=>?_;have I1:Inv X pins Z H { s with heap:=h' }:=I.turned (t':=s.toks) (fun b o hb e=>(sb.2 b hb).trans e) f0 f1 f3 f4 f5;obtain ⟨o,e,c,d⟩:=id st';exact ⟨u,rfl,D6 (s:={ s with heap:=h' }) e c d (by decide) ⟨x,H,I1,ru,⟨rfl,fun ys hy=>by rw [I.uT hy hq];exact hx⟩,st',fun b hb=>(hf b hb).1⟩⟩
 done:=by
  intro X hP hw hK hc i pins s Z H E I hf st hg;subst hP hw hK;obtain ⟨xs,hq,hx⟩:=hg;obtain ⟨its,rv,p,hz⟩:=I.tuple hq;obtain ⟨f0,f1,f2,f3,f4,f5⟩:=hf it (by simp);have hl:=rv.length;exact wpAny_pyNext_tuple_end (I.ok.hd hc) st (show s.heap.IsTuple a its.toArray from p) (by simp;omega) fun h' eb=>⟨rfl,I.turned (t':=s.toks) (fun b o hb e=>eb b o hb e) f0 f1 f3 f4 f5⟩
 self:=fun _ _ _ _ _ st h=>wpAny_pyIter_tupleiter st h
theorem tf {P:Program} {w:World} {K:Fg} {tg:Expr} (it:Qz) (lo:Int) (n:Nat):Turn P w K tg (Itr lo n) [it] it (fun i h=>IsRangeIter h it (lo+(i:Nat)*1) ((n:Int) - (i:Nat)) 1) where
 mem:=by simp
 obj:=fun i h st b hb=>by
  have e:b=it:=by simpa using hb
  subst e
  exact ⟨_,st,fun v z=>by
   have z':Data.fields _=Data.cell v:=z
   cases z'⟩
 keep:=fun i h h' st k=>k it (by simp) _ st
 item:=by
  intro X hP hw hK hc i pins s Z H E I hf st hg;subst hP hw hK;obtain ⟨f0,f1,f2,f3,f4,f5⟩:=hf it (by simp);have W:=Walks.range (prog:=X.prog) (w:=X.w) (I.ok.hd hc) it lo 1 n;refine W.item i s _ _ hg st fun v h' tk hv st' kk=>?_;obtain ⟨t,rfl⟩:=hv;have I1:Inv X pins Z H { s with heap:=h',toks:=tk }:=I.turned (fun b o hb e=>kk b o (by simpa using hb) e) f0 f1 f3 f4 f5;refine ⟨_,rfl,D6 (s:={ s with heap:=h',toks:=tk }) (n := "range_iterator") st' rfl rfl (by decide) ⟨.int (lo+i),H,I1,⟨t,?_⟩,⟨rfl,rfl⟩,st',fun b hb=>(hf b hb).1⟩⟩;rw [Int.mul_one]
 done:=by
  intro X hP hw hK hc i pins s Z H E I hf st hg;subst hP hw hK;obtain ⟨f0,f1,f2,f3,f4,f5⟩:=hf it (by simp);exact wpAny_pyNext_range_end (I.ok.hd hc) st (by have:n<=i:=hg;omega) fun h' eb=>⟨rfl,I.turned (t':=s.toks) (fun b o hb e=>eb b o hb e) f0 f1 f3 f4 f5⟩
 self:=fun _ _ _ _ _ st h=>wpAny_pyIter_rangeiter st h
section
variable {X:Cx} {tg:Expr}
def D9 (K:Fg) (tl:TE):TI:=fun Z H R=>tl Z H fun x H1=>∃ a,x=.ref a/\(∃ xs,SqL K H1 a xs)/\R (Itl K a) H1
def Kv (K:Fg) (tl:TE):TI:=fun Z H R=>tl Z H fun x H1=>∃ a,x=.ref a/\(∃ xs,SqT K H1 a xs)/\R (Itt K a) H1
theorem D5 {l:Expr} {tl:TE} (hl:PE X l tl):PI X tg l (D9 X.K tl):=by
 intro pins s Z H R I h;refine thn (hl pins s Z H _ I h) fun v s1 ⟨x,H1,I1,r1,q1⟩=>?_;obtain ⟨a,e,⟨xs,hq⟩,q⟩:=q1;subst e;cases r1;obtain ⟨its,rv,p,hz⟩:=I1.list hq;refine wpAny_pyIter_list p.isList ?_;refine ⟨s1.heap.objs.size,[s1.heap.objs.size],_,_,H1,rfl,I1.kept (t':=s1.toks) fun b o e=>N8 _ e,yG a _,⟨_,OA _ rfl,rfl,rfl⟩,fun b hb=>?_,q⟩;have e:b=s1.heap.objs.size:=by simpa using hb
 subst e;exact I1.H9 (Oc _) (I1.hok.fresh (Oc _))
theorem Gn {l:Expr} {tl:TE} (hl:PE X l tl):PI X tg l (Kv X.K tl):=by
 intro pins s Z H R I h;refine thn (hl pins s Z H _ I h) fun v s1 ⟨x,H1,I1,r1,q1⟩=>?_;obtain ⟨a,e,⟨xs,hq⟩,q⟩:=q1;subst e;cases r1;obtain ⟨its,rv,p,hz⟩:=I1.tuple hq;refine wpAny_pyIter_tuple (show s1.heap.IsTuple a its.toArray from p) ?_;refine ⟨s1.heap.objs.size,[s1.heap.objs.size],_,_,H1,rfl,I1.kept (t':=s1.toks) fun b o e=>N8 _ e,sX a _,⟨_,OA _ rfl,rfl,rfl⟩,fun b hb=>?_,q⟩;have e:b=s1.heap.objs.size:=by simpa using hb
 subst e;exact I1.H9 (Oc _) (I1.hok.fresh (Oc _))
theorem Ae {pins:List (Qz×Obj)} {Z:St} {H:Hp} {s:Qx} {R:It->Hp->Prop} {E:Qj->Qx->Prop} {lo hi:Int} {t u v:Tok} {tk:Nat} (I:Inv X pins Z H s) (h1:-(2 ^ 62)<=lo) (h2:lo < 2 ^ 62) (h3:-(2 ^ 62)<=hi) (h4:hi < 2 ^ 62)
  (q:R (Itr lo (hi - lo).toNat) H):wpAny (model X.prog X.w) X.A (pyIter (.ref s.heap.objs.size)) (PIE X pins Z tg R) E { s with heap:=s.heap.push { cls:=.type "range", data:=.fields #[.int lo t,.int hi u,.int 1 v] },toks:=tk }:=by
 refine wpAny_pyIter_range (IsRange.new ..) (small_one h1 h2 h3 h4) ?_;have I1:Inv X pins Z H { s with heap:=s.heap.push { cls:=.type "range", data:=.fields #[.int lo t,.int hi u,.int 1 v] },toks:=tk }:=I.kept fun b o e=>N8 _ e
 refine ⟨(s.heap.push { cls:=.type "range", data:=.fields #[.int lo t,.int hi u,.int 1 v] }).objs.size,[(s.heap.push { cls:=.type "range", data:=.fields #[.int lo t,.int hi u,.int 1 v] }).objs.size],_,_,H,rfl,
  I1.kept (t':=tk) fun b o e=>N8 _ e,tf _ lo (hi - lo).toNat,?_,fun b hb=>?_,q⟩
 ·have e1:lo+((0:Nat):Int)*1=lo:=by simp
  have e2:(((hi - lo).toNat:Nat):Int) - ((0:Nat):Int)=Builtin.Range.rangeSize lo hi 1:=by rw [rangeSize_one];split <;> omega
  show IsRangeIter _ _ (lo+((0:Nat):Int)*1) ((((hi - lo).toNat:Nat):Int) - ((0:Nat):Int)) 1;rw [e1,e2];exact OA _ rfl
 ·have e:b=(s.heap.push { cls:=.type "range", data:=.fields #[.int lo t,.int hi u,.int 1 v] }).objs.size:=by simpa using hb
  subst e;exact I1.H9 (Oc _) (I1.hok.fresh (Oc _))
def CJ (ta:TA):TI:=fun Z H R=>ta Z H fun vs H1=>∃ j:Int,vs=[.int j]/\-(2 ^ 62)<=j/\j < 2 ^ 62/\R (Itr 0 j.toNat) H1
theorem xR {a:Expr} {ta:TA} {p pos:Pos} (hg:Gl X "range") (hm:X.mg "range" = none) (ha:PA X [a] ta) (hs:starEach [a] X.env=[(false,eval a X.env)]:=by rfl):PI X tg (.Call (.Name "range" p) [a] [] pos) (CJ ta):=by
 intro pins s Z H R I h;refine Call_ (qA I hg hm boot_range (PyProof.Rows.callWith_type1 (thn (ha pos pins s Z H _ I h) fun us s1 ⟨vs,H1,I1,r1,q1⟩=>?_) hs rfl));obtain ⟨j,e,q1,q2,q⟩:=q1;subst e;cases r1 with
 | cons r rr =>
  cases rr;obtain ⟨t,rfl⟩:=r;exact call_range_1 (Ae I1 (by omega) (by omega) q1 q2 (by simpa using q))
def Ii (wi:TI) (g:TG) (tb:TS):TS:=fun D Z H=>wi Z H fun J H1=>∃ W:Nat->Nat->St->Hp->Prop,(∃ m,W 0 m Z H1)/\∀ i m Z H,W i m Z H ->
 (J.stop i H/\D.nx Z H)\/(J.go i H/\∃ N:St->Hp->Prop,(∀ Z' H',N Z' H'->∃ m',m' < m/\W (i+1) m' Z' H')/\∀ x H',J.yld i H x H'->g x Z H' fun ZJ H2=>tb { D with nx:=N,ct:=N,bk:=D.nx } ZJ H2)
noncomputable def nz (fp:List Qz) (h:Heap):List (Qz×Obj):=fp.filterMap fun b=>(h.get? b).map fun o=>(b,o)
theorem fw {fp:List Qz} {h:Heap} {b:Qz} {o:Obj} (hb:b∈fp) (e:h.get? b=some o):(b,o)∈nz fp h:=List.mem_filterMap.mpr ⟨b,hb,by rw [e];rfl⟩
theorem x5 {fp:List Qz} {h:Heap} {p:Qz×Obj} (hp:p∈nz fp h):p.1∈fp/\h.get? p.1=some p.2:=by
 obtain ⟨b,hb,e⟩:=List.mem_filterMap.mp hp;cases q:h.get? b with
 | none=>rw [q] at e;cases e
 | some o =>
  rw [q] at e;have e':(b,o)=p:=OK e;subst e';exact ⟨hb,q⟩
theorem Inv.pinned {pins:List (Qz×Obj)} {Z:St} {H:Hp} {s:Qx} {fp:List Qz} (I:Inv X pins Z H s) (hf:∀ b∈fp,Bu X pins H b) (ho:∀ b∈fp,∃ o,s.heap.get? b=some o/\∀ v,o.data≠.cell v):Inv X (pins++nz fp s.heap) Z H s :=
 I.gj fun p hp=>(Pf.mp hp).elim (fun z=>I.pin p (Ol _ z)) fun z=>by
  obtain ⟨hb,e⟩:=x5 z;obtain ⟨f0,f1,f2,_⟩:=hf p.1 hb;obtain ⟨o,e',d⟩:=ho p.1 hb;rw [e] at e';cases e';exact ⟨e,f0,f1,f2,d⟩
theorem Inv.jb {pins pl:List (Qz×Obj)} {Z:St} {H:Hp} {s:Qx} (I:Inv X (pins++pl) Z H s):Inv X pins Z H s:=I.gj fun p hp=>I.pin p (Ol _ (PN _ hp))
theorem EX {iter:Expr} {body:List Stmt} {wi:TI} {g:TG} {tb:TS} {pos:Pos} (hp:PassesOwn (model X.prog X.w) X.A X.env X.xe) (hc:X.calm=true) (hi:PI X tg iter wi) (hg:PG X tg g) (hb:PSs X body tb)
  (hs:∀ x,foldedSetIterable iter X.env x=pure x:=by intro _;rfl):PS X (.For tg iter body [] pos) (Ii wi g tb):=by
 intro pins s Z H D I h;refine wpAny_For (thn (hi pins s Z H _ I h) fun v s1 h1=>thn h1 fun itv s2 h2=>?_) hs;obtain ⟨it,fp,tn,J,H2,e,I2,T,st2,f2,W,⟨m0,w0⟩,turn⟩:=h2;subst e;have stat:∀ {H':Hp},(∀ b∈fp,H' b=none)->∀ b∈fp,Bu X pins H' b:=fun hn b hb=>⟨hn b hb,(f2 b hb).2⟩;refine codeAny_forLoop_any (fun n s'=>∃ i Z' H',Inv X pins Z' H' s'/\tn i s'.heap/\(∀ b∈fp,H' b=none)/\W i n Z' H') ?_ m0 ⟨0,Z,H2,I2,st2,fun b hb=>(f2 b hb).1,w0⟩;rintro n s3 ⟨i,Z3,H3,I3,st3,fr3,w3⟩;rcases turn i n Z3 H3 w3 with ⟨stop,qn⟩ | ⟨go,N,hN,step⟩
 ·refine Pp hp (thn (T.done X rfl rfl rfl hc i pins s3 Z3 H3 X.xe I3 (stat fr3) st3 stop) fun r s4 ⟨hr,I4⟩=>?_);subst hr;exact Pq ⟨Z3,H3,I4,qn⟩
 ·refine Pp hp (thn (T.item X rfl rfl rfl hc i pins s3 Z3 H3 X.xe I3 (stat fr3) st3 go) fun r s4 ⟨u,hr,h4⟩=>?_);subst hr;refine Pp hp (thn h4 fun _ s5 ⟨x,H5,I5,r5,y5,st5,fr5⟩=>?_);have I5':=I5.pinned (stat fr5) (T.obj _ _ st5);refine Pp hp (thn (hg _ s5 Z3 H5 x u _ I5' r5 (step x H5 y5)) fun _ s6 ⟨Z6,H6,I6,q6⟩=>?_);refine Pp hp (thn (hb _ s6 Z6 H6 _ I6 q6) fun f s7 q7=>?_);have again:∀ {Z7:St} {H7:Hp},Inv X (pins++nz fp s5.heap) Z7 H7 s7->N Z7 H7->∃ m,m < n/\∃ i Z' H',Inv X pins Z' H' s7/\tn i s7.heap/\(∀ b∈fp,H' b=none)/\W i m Z' H':=fun {Z7 H7} I7 n7=>by
   obtain ⟨m',hm,w7⟩:=hN Z7 H7 n7;refine ⟨m',hm,i+1,Z7,H7,I7.jb,T.keep _ _ _ st5 fun b hb o e=>(I7.pin (b,o) (Ol _ (Ol _ (fw hb e)))).1,fun b hb=>?_,w7⟩;obtain ⟨o,e,d⟩:=T.obj _ _ st5 b hb;exact (I7.pin (b,o) (Ol _ (Ol _ (fw hb e)))).2.1
  cases f with
  | next=>obtain ⟨Z7,H7,I7,n7⟩:=q7;exact again I7 n7
  | cont=>obtain ⟨Z7,H7,I7,n7⟩:=q7;exact again I7 n7
  | brk=>obtain ⟨Z7,H7,I7,q7⟩:=q7;exact ⟨Z7,H7,I7.jb,q7⟩
  | ret v=>obtain ⟨x7,Z7,H7,I7,r7,q7⟩:=q7;exact ⟨x7,Z7,H7,I7.jb,r7,q7⟩
end
abbrev R2:=V->V->Hp->VK->Prop
def OpR (X:Cx) (f:Qj->Qj->Sem Qj) (r:R2):Prop :=
 ∀ (pins:List (Qz×Obj)) (s:Qx) (Z:St) (H:Hp) (x y:V) (v u:Qj) (Q:VK),Inv X pins Z H s->RelV x v->RelV y u->r x y H Q ->
  wpAny (model X.prog X.w) X.A (f v u) (EP X pins Z Q) X.xe s
def UnR (X:Cx) (f:Qj->Sem Qj) (r:V->Hp->VK->Prop):Prop :=
 ∀ (pins:List (Qz×Obj)) (s:Qx) (Z:St) (H:Hp) (x:V) (v:Qj) (Q:VK),Inv X pins Z H s->RelV x v->r x H Q ->
  wpAny (model X.prog X.w) X.A (f v) (EP X pins Z Q) X.xe s
def bu (X:Cx) (f:Qj) (r:List V->Hp->VK->Prop):Prop :=
 ∀ (pins:List (Qz×Obj)) (s:Qx) (Z:St) (H:Hp) (xs:List V) (us:List Qj) (Q:VK),Inv X pins Z H s->Vals xs us->r xs H Q ->
  wpAny (model X.prog X.w) X.A (call f us) (EP X pins Z Q) X.xe s
def MO (X:Cx) (r:V->Hp->(Bool->Hp->Prop)->Prop):Prop :=
 ∀ (pins:List (Qz×Obj)) (s:Qx) (Z:St) (H:Hp) (x:V) (v:Qj) (Q:Bool->Hp->Prop),Inv X pins Z H s->RelV x v->r x H Q ->
  wpAny (model X.prog X.w) X.A (truthy v) (TP X pins Z Q) X.xe s
def tOp (r:R2) (ta tb:TE):TE:=fun Z H Q=>ta Z H fun x H1=>tb Z H1 fun y H2=>r x y H2 Q
def tUn (r:V->Hp->VK->Prop) (ta:TE):TE:=fun Z H Q=>ta Z H fun x H1=>r x H1 Q
def rI (C:Int->Int->Prop) (g:Int->Int->V):R2:=fun x y H Q=>∃ i j,x=.int i/\y=.int j/\C i j/\Q (g i j) H
def rI0 (g:Int->Int->V):R2:=fun x y H Q=>∃ i j,x=.int i/\y=.int j/\Q (g i j) H
def rU (g:Int->V):V->Hp->VK->Prop:=fun x H Q=>∃ i,x=.int i/\Q (g i) H
section
variable {X:Cx} {a b c:Expr} {ta tb tc:TE} {pos:Pos}
theorem Kt (ha:PE X a ta) (hb:PE X b tb) {pins:List (Qz×Obj)} {s:Qx} {Z:St} {H:Hp} {R:V->V->Hp->Prop} (I:Inv X pins Z H s)
  (h:ta Z H fun x H1=>tb Z H1 fun y H2=>R x y H2) {Q:Qj->Qx->Prop} {f:Qj->Qj->Sem Qj}
  (hf:∀ v u s2 x y H2,Inv X pins Z H2 s2->RelV x v->RelV y u->R x y H2->wpAny (model X.prog X.w) X.A (f v u) Q X.xe s2) :
  wpAny (model X.prog X.w) X.A (eval a X.env) (fun v ZZ=>wpAny (model X.prog X.w) X.A (eval b X.env) (fun u ZY=>wpAny (model X.prog X.w) X.A (f v u) Q X.xe ZY) X.xe ZZ) X.xe s:=by
 refine thn (ha pins s Z H _ I h) fun v s1 ⟨x,H1,I1,r1,q1⟩=>?_;refine thn (hb pins s1 Z H1 _ I1 q1) fun u s2 ⟨y,H2,I2,r2,q2⟩=>?_;exact hf v u s2 x y H2 I2 r1 r2 q2
theorem La {op:Operator} {r:R2} (ho:OpR X (binaryOp op) r) (ha:PE X a ta) (hb:PE X b tb):PE X (.BinOp a op b pos) (tOp r ta tb):=by
 intro pins s Z H Q I h;exact wpAny_BinOp (Kt ha hb I h fun v u s2 x y H2 I2 rx ry q=>ho pins s2 Z H2 x y v u Q I2 rx ry q)
theorem Ja {op:UnaryOp} {r:V->Hp->VK->Prop} (ho:UnR X (unaryOp op) r) (ha:PE X a ta):PE X (.UnaryOp op a pos) (tUn r ta):=by
 intro pins s Z H Q I h;exact UnaryOp_ (thn (ha pins s Z H _ I h) fun v s1 ⟨x,H1,I1,r1,q1⟩=>ho pins s1 Z H1 x v Q I1 r1 q1)
theorem opI {f:Qj->Qj->Sem Qj} {C:Int->Int->Prop} {g:Int->Int->Int}
  (rule:∀ (i j:Int) (t u:Tok) (s:Qx) (Q:Qj->Qx->Prop) (E:Qj->Qx->Prop),C i j->Q (.int (g i j) s.toks) { s with toks:=s.toks+1 }->wpAny (model X.prog X.w) X.A (f (.int i t) (.int j u)) Q E s) :
  OpR X f (rI C fun i j=>.int (g i j)):=by
 intro pins s Z H x y v u Q I rx ry h;obtain ⟨i,j,rfl,rfl,hc,q⟩:=h;obtain ⟨t,rfl⟩:=rx;obtain ⟨t',rfl⟩:=ry;exact rule i j t t' s _ _ hc ⟨.int (g i j),H,I.tok _,⟨_,rfl⟩,q⟩
theorem MG {f:Qj->Qj->Sem Qj} {g:Int->Int->Int}
  (rule:∀ (i j:Int) (t u:Tok) (s:Qx) (Q:Qj->Qx->Prop) (E:Qj->Qx->Prop),Q (.int (g i j) s.toks) { s with toks:=s.toks+1 }->wpAny (model X.prog X.w) X.A (f (.int i t) (.int j u)) Q E s) :
  OpR X f (rI0 fun i j=>.int (g i j)):=by
 intro pins s Z H x y v u Q I rx ry h;obtain ⟨i,j,rfl,rfl,q⟩:=h;obtain ⟨t,rfl⟩:=rx;obtain ⟨t',rfl⟩:=ry;exact rule i j t t' s _ _ ⟨.int (g i j),H,I.tok _,⟨_,rfl⟩,q⟩
theorem Io {f:Qj->Qj->Sem Qj} {g:Int->Int->Bool}
  (rule:∀ (i j:Int) (t u:Tok) (s:Qx) (Q:Qj->Qx->Prop) (E:Qj->Qx->Prop),Q (.bool (g i j)) s->wpAny (model X.prog X.w) X.A (f (.int i t) (.int j u)) Q E s) :
  OpR X f (rI0 fun i j=>.bl (g i j)):=by
 intro pins s Z H x y v u Q I rx ry h;obtain ⟨i,j,rfl,rfl,q⟩:=h;obtain ⟨t,rfl⟩:=rx;obtain ⟨t',rfl⟩:=ry;exact rule i j t t' s _ _ ⟨.bl (g i j),H,I,rfl,q⟩
def MB (i j:Int):Prop:=0<=j/\j<=1000000/\i.natAbs < 2 ^ 64
def FW (i j:Int):Prop:=(-(2 ^ 64) < i/\i < 2 ^ 64)\/(-(2 ^ 64) < j/\j < 2 ^ 64)
theorem FW.ok {i j:Int} (h:FW i j):IntMulOk i j:=by
 rcases h with ⟨h1,h2⟩ | ⟨h1,h2⟩
 ·exact .of_left (intBits_le_64 h1 h2)
 ·exact .of_right (intBits_le_64 h1 h2)
theorem GZ:OpR X (binaryOp .Add) (rI0 fun i j=>.int (i+j)):=MG fun _ _ _ _ _ _ _ q=>add_int q
theorem FV:OpR X (binaryOp .Sub) (rI0 fun i j=>.int (i - j)):=MG fun _ _ _ _ _ _ _ q=>sub_int q
theorem ER:OpR X (binaryOp .Mult) (rI FW fun i j=>.int (i*j)):=opI fun _ _ _ _ _ _ _ hc q=>mul_int q hc.ok
theorem HL:OpR X (binaryOp .Mod) (rI (fun _ j=>0 < j) fun i j=>.int (i % j)):=opI fun i j _ _ _ _ _ hc q=>by
 have h1:(0:Int) < j:=hc;exact mod_int' (by omega) (by rw [Int.fmod_eq_emod_of_nonneg i (by omega)];exact q)
theorem Fq:OpR X (binaryOp .Pow) (rI MB fun i j=>.int (i ^ j.toNat)):=opI fun _ _ _ _ _ _ _ hc q=>pow_int_small hc.1 hc.2.1 hc.2.2 q
theorem unI {f:Qj->Sem Qj} {g:Int->Int}
  (rule:∀ (i:Int) (t:Tok) (s:Qx) (Q:Qj->Qx->Prop) (E:Qj->Qx->Prop),Q (.int (g i) s.toks) { s with toks:=s.toks+1 }->wpAny (model X.prog X.w) X.A (f (.int i t)) Q E s) :
  UnR X f (rU fun i=>.int (g i)):=by
 intro pins s Z H x v Q I rx h;obtain ⟨i,rfl,q⟩:=h;obtain ⟨t,rfl⟩:=rx;exact rule i t s _ _ ⟨.int (g i),H,I.tok _,⟨_,rfl⟩,q⟩
theorem FA:UnR X (unaryOp .USub) (rU fun i=>.int (-i)):=unI fun _ _ _ _ _ q=>neg_int q
end
section
variable {X:Cx} {a b c:Expr} {ta tb tc:TE} {pos:Pos}
theorem rH {pins:List (Qz×Obj)} {Z:St} {H:Hp} {s:Qx} {Q:VK} {k k':Bool} (I:Inv X pins Z H s) (q:Q (.bl k) H) (e:k=k'):EP X pins Z Q (.bool k') s:=by
 subst e;exact ⟨.bl k,H,I,rfl,q⟩
theorem KL:OpR X (compareOp .Lt) (rI0 fun i j=>.bl (decide (i < j))):=Io fun _ _ _ _ _ _ _ q=>lt_int q
theorem LX:OpR X (compareOp .LtE) (rI0 fun i j=>.bl (decide (i<=j))):=Io fun _ _ _ _ _ _ _ q=>le_int q
theorem Ks:OpR X (compareOp .Gt) (rI0 fun i j=>.bl (decide (j < i))):=Io fun _ _ _ _ _ _ _ q=>gt_int q
theorem Jw:OpR X (compareOp .GtE) (rI0 fun i j=>.bl (decide (j<=i))):=Io fun _ _ _ _ _ _ _ q=>ge_int q
theorem uJ:OpR X (compareOp .Lt) (fun x y H Q=>∃ i j,x=.str i/\y=.str j/\Q (.bl (decide (i.cps.toList < j.cps.toList))) H):=by
 intro pins s Z H x y v u Q I rx ry h;obtain ⟨i,j,rfl,rfl,q⟩:=h;obtain ⟨t,rfl⟩:=rx;obtain ⟨t',rfl⟩:=ry;exact lt_str (rH I q rfl)
theorem xU:OpR X (compareOp .In) (fun x y H Q=>∃ i j,x=.str i/\y=.str j/\Q (.bl (!(Builtin.Str.occurrences j i 0 j.length 1).isEmpty)) H):=by
 intro pins s Z H x y v u Q I rx ry h;obtain ⟨i,j,rfl,rfl,q⟩:=h;obtain ⟨t,rfl⟩:=rx;obtain ⟨t',rfl⟩:=ry;exact in_str (rH I q rfl)
theorem E4:OpR X (compareOp .Is) (fun x y H Q=>y=.non/\Q (.bl (decide (x=.non))) H):=by
 intro pins s Z H x y v u Q I rx ry h;obtain ⟨rfl,q⟩:=h;cases ry;refine is_none_gen (rH I q ?_);cases x <;> first
  | (cases rx;rfl)
  | (obtain ⟨t,rfl⟩:=rx;rfl)
theorem Dp:OpR X (compareOp .IsNot) (fun x y H Q=>y=.non/\Q (.bl (!decide (x=.non))) H):=by
 intro pins s Z H x y v u Q I rx ry h;obtain ⟨rfl,q⟩:=h;cases ry;refine isnot_none_gen (rH I q ?_);cases x <;> first
  | (cases rx;rfl)
  | (obtain ⟨t,rfl⟩:=rx;rfl)
theorem b6 (b:Expr) {op:CmpOp} (h:op≠.In:=by decide) (h2:op≠.NotIn:=by decide):behindInMarks op b=false:=by
 have e1:(op==CmpOp.In)=false:=by cases op <;> first | rfl | exact absurd rfl h
 have e2:(op==CmpOp.NotIn)=false:=by cases op <;> first | rfl | exact absurd rfl h2
 cases b <;> simp [behindInMarks,e1,e2]
theorem Dz {op:CmpOp} {r:R2} (ho:OpR X (compareOp op) r) (ha:PE X a ta) (hb:PE X b tb) (hm:behindInMarks op b=false):PE X (.Compare a [op] [b] pos) (tOp r ta tb):=by
 intro pins s Z H Q I h;exact wpAny_Compare1 (Kt ha hb I h fun v u s2 x y H2 I2 rx ry q=>ho pins s2 Z H2 x y v u Q I2 rx ry q) hm
def t5 (t:TE):TT:=fun Z H Q=>t Z H fun x H'=>∃ k,x=.bl k/\Q k H'
theorem CI {op:CmpOp} {r:R2} (ho:OpR X (compareOp op) r) (ha:PE X a ta) (hb:PE X b tb) (hm:behindInMarks op b=false):PT X (.Compare a [op] [b] pos) (t5 (tOp r ta tb)):=by
 intro pins s Z H Q I h
 refine wpAny_isTrue_Compare1 (thn (ha pins s Z H _ I h) fun v s1 ⟨x,H1,I1,r1,q1⟩=>thn (hb pins s1 Z H1 _ I1 q1) fun u s2 ⟨y,H2,I2,r2,q2⟩ =>
  thn (ho pins s2 Z H2 x y v u _ I2 r1 r2 q2) fun c s3 ⟨z,H3,I3,r3,k,e,q3⟩=>?_) hm
 subst e;cases r3;exact OU ⟨H3,I3,q3⟩
def nV (r r':R2) (ta tb tc:TE):TE:=fun Z H Q=>ta Z H fun x H1=>tb Z H1 fun y H2=>r x y H2 fun z H3=>∃ k,z=.bl k /\
 (if k=true then tc Z H3 fun w' H4=>r' y w' H4 Q else Q (.bl false) H3)
theorem zH {op op':CmpOp} {r r':R2} (ho:OpR X (compareOp op) r) (ho':OpR X (compareOp op') r') (ha:PE X a ta) (hb:PE X b tb) (hc:PE X c tc)
  (hm:lastMarks [op,op'] [b,c]=false:=by with_unfolding_all rfl):PE X (.Compare a [op,op'] [b,c] pos) (nV r r' ta tb tc):=by
 intro pins s Z H Q I h
 refine Compare_chain (thn (ha pins s Z H _ I h) fun v s1 ⟨x,H1,I1,r1,q1⟩=>chain_link (thn (hb pins s1 Z H1 _ I1 q1) fun u s2 ⟨y,H2,I2,r2,q2⟩ =>
  thn (ho pins s2 Z H2 x y v u _ I2 r1 r2 q2) fun d s3 ⟨z,H3,I3,r3,k,e,q3⟩=>?_)) hm
 subst e;cases r3;refine OU ?_;cases k with
 | false=>exact ite_ff ⟨.bl false,H3,I3,rfl,q3⟩
 | true=>exact ite_tt (chain_last (thn (hc pins s3 Z H3 _ I3 q3) fun w' s4 ⟨z',H4,I4,r4,q4⟩=>ho' pins s4 Z H4 y z' u w' Q I4 r2 r4 q4))
theorem zX {op op':CmpOp} {r r':R2} (ho:OpR X (compareOp op) r) (ho':OpR X (compareOp op') r') (ha:PE X a ta) (hb:PE X b tb) (hc:PE X c tc)
  (hm:lastMarks [op,op'] [b,c]=false:=by with_unfolding_all rfl):PT X (.Compare a [op,op'] [b,c] pos) (t5 (nV r r' ta tb tc)):=by
 intro pins s Z H Q I h
 refine isTrue_chain (thn (ha pins s Z H _ I h) fun v s1 ⟨x,H1,I1,r1,q1⟩=>test_link (thn (hb pins s1 Z H1 _ I1 q1) fun u s2 ⟨y,H2,I2,r2,q2⟩ =>
  thn (ho pins s2 Z H2 x y v u _ I2 r1 r2 q2) fun d s3 ⟨z,H3,I3,r3,k,e,q3⟩=>?_)) hm
 subst e;cases r3;refine OU ?_;cases k with
 | false =>
  obtain ⟨k',e',q'⟩:=q3;cases e';exact ite_ff ⟨H3,I3,q'⟩
 | true =>
  refine ite_tt (test_last (thn (hc pins s3 Z H3 _ I3 q3) fun w' s4 ⟨z',H4,I4,r4,q4⟩=>thn (ho' pins s4 Z H4 y z' u w' _ I4 r2 r4 q4) fun d' s5 ⟨z2,H5,I5,r5,k2,e2,q5⟩=>?_));subst e2;cases r5;exact OU ⟨H5,I5,q5⟩
def HY (K:Fg) (x:V) (H:Hp) (k:Bool):Prop :=
 match x with
 | .non=>k=false
 | .bl b=>k=b
 | .int i=>k=(i != 0)
 | .str y=>y.length<=sizeLine/\k=((y.length:Int) != 0)
 | .byt y=>y.size<=sizeLine/\k=((y.size:Int) != 0)
 | .ref p=>(∃ xs,SqL K H p xs/\k=!xs.isEmpty)\/(∃ xs,SqT K H p xs/\k=!xs.isEmpty)\/∃ kvs,H p=some (.dK kvs)/\k=!kvs.isEmpty
 | _=>False
theorem tQ {κ:Type} {kvs:List (κ×V)} {vs:List (κ×Qj)} (r:KV kvs vs):(!vs.isEmpty)=!kvs.isEmpty:=by
 cases r <;> rfl
theorem kJ {xs:List V} {its:List Qj} (r:Vals xs its):(!its.toArray.isEmpty)=!xs.isEmpty:=by
 cases r <;> simp
theorem ku:(sizeLine:Nat) < 2 ^ 63:=by rw [PJ];decide
theorem EI:MO X (fun x H Q=>∃ k,HY X.K x H k/\Q k H):=by
 intro pins s Z H x v Q I rx h;obtain ⟨k,e,q⟩:=h;have hl:=ku;have hs:sizeLine=16777216:=PJ;cases x with
 | non =>
  cases rx;have e':k=false:=e;subst e';exact truthy_none ⟨H,I,q⟩
 | bl b =>
  cases rx;have e':k=b:=e;subst e';exact OU ⟨H,I,q⟩
 | int i =>
  obtain ⟨t,rfl⟩:=rx;have e':k=(i != 0):=e;subst e';exact PySem.P.truthy_int ⟨H,I,q⟩
 | str y =>
  obtain ⟨t,rfl⟩:=rx;obtain ⟨hy,e'⟩:y.length<=sizeLine/\k=((y.length:Int) != 0):=e;subst e';exact PySem.P.truthy_str (by omega) ⟨H,I.tok _,q⟩
 | byt y =>
  obtain ⟨t,rfl⟩:=rx;obtain ⟨hy,e'⟩:y.size<=sizeLine/\k=((y.size:Int) != 0):=e;subst e';exact PySem.W.truthy_bytes (by omega) ⟨H,I.tok _,q⟩
 | ref p =>
  cases rx;have e':(∃ xs,SqL X.K H p xs/\k=!xs.isEmpty)\/(∃ xs,SqT X.K H p xs/\k=!xs.isEmpty)\/∃ kvs,H p=some (.dK kvs)/\k=!kvs.isEmpty:=e;rcases e' with ⟨xs,hx,e'⟩ | ⟨xs,hx,e'⟩ | ⟨kvs,hx,e'⟩
  ·subst e';obtain ⟨its,r,pl,hz⟩:=I.list hx;have hlen:=r.length;exact wpAny_truthy_list pl.isList (by simp only [Of];omega) ⟨H,I.tok _,by rw [kJ r];exact q⟩
  ·subst e';obtain ⟨its,r,pl,hz⟩:=I.tuple hx;have hlen:=r.length;exact truthy_tuple pl (by simp only [Of];omega) ⟨H,I.tok _,by rw [kJ r];exact q⟩
  ·subst e';obtain ⟨hz,hS,vs,r,m⟩:kvs.length<=sizeLine/\(p==sysModules)=false/\∃ vs,KV kvs vs/\s.heap.DictOf (pe X.prog X.w) p vs:=I.hok p _ hx;have hlen:kvs.length=vs.length:=Paired.length r;exact wpAny_truthy_dict hS m (by omega) ⟨H,I.tok _,by rw [tQ r];exact q⟩
 | _=>exact (show False from e).elim
theorem AF (ha:PE X a ta) (he:∀ whole,isTrue a X.env whole=(do let v<-whole;standAt a.pos;holding [v] (truthy v))) :
  PT X a (fun Z H Q=>ta Z H fun x H'=>∃ k,HY X.K x H' k/\Q k H'):=by
 intro pins s Z H Q I h;exact isTrue_plain (thn (ha pins s Z H _ I h) fun v s1 ⟨x,H1,I1,r1,q1⟩=>EI pins s1 Z H1 x v Q I1 r1 q1) (he _)
theorem t8:OpR X (binaryOp .Add) (fun x y H Q=>∃ i j,x=.str i/\y=.str j/\i.length+j.length<=sizeLine/\Q (.str (i++j)) H):=by
 intro pins s Z H x y v u Q I rx ry h;obtain ⟨i,j,rfl,rfl,hz,q⟩:=h;obtain ⟨t,rfl⟩:=rx;obtain ⟨t',rfl⟩:=ry;exact add_str (fun t' tk=>⟨.str (i++j),H,I.tok _,⟨_,rfl⟩,q⟩) hz
theorem vals1 {x:V} {us:List Qj} (r:Vals [x] us):∃ u,us=[u]/\RelV x u:=by
 cases r with
 | cons r1 r2=>cases r2;exact ⟨_,rfl,r1⟩
theorem vals2 {x y:V} {us:List Qj} (r:Vals [x,y] us):∃ u w',us=[u,w']/\RelV x u/\RelV y w':=by
 cases r with
 | cons r1 r2 =>
  cases r2 with
  | cons r3 r4=>cases r4;exact ⟨_,_,rfl,r1,r3⟩
theorem zL:bu X (.builtin "abs") (fun xs H Q=>∃ i,xs=[.int i]/\Q (.int (if i < 0 then -i else i)) H):=by
 intro pins s Z H xs us Q I r h;obtain ⟨i,rfl,q⟩:=h;obtain ⟨u,rfl,t,rfl⟩:=vals1 r;exact call_abs_int fun u tk=>⟨.int (if i < 0 then -i else i),H,I.tok _,⟨_,rfl⟩,q⟩
theorem wI (hc:X.calm=true):bu X (.builtin "min") (fun xs H Q=>∃ i j,xs=[.int i,.int j]/\Q (.int (if j < i then j else i)) H):=by
 intro pins s Z H xs us Q I r h;obtain ⟨i,j,rfl,q⟩:=h;obtain ⟨u,w',rfl,⟨t,rfl⟩,⟨t',rfl⟩⟩:=vals2 r;refine min_two_ints (I.ok.hd hc) fun h' tk k=>⟨_,H,I.kept k,?_,q⟩;by_cases hj:j < i
 ·rw [N4 hj,N4 hj];exact ⟨_,rfl⟩
 ·rw [Od hj,Od hj];exact ⟨_,rfl⟩
theorem uF:bu X (.type "int") (fun xs H Q=>(∃ i,xs=[.int i]/\Q (.int i) H)\/∃ k,xs=[.bl k]/\Q (.int (if k then 1 else 0)) H):=by
 intro pins s Z H xs us Q I r h;rcases h with ⟨i,rfl,q⟩ | ⟨k,rfl,q⟩
 ·obtain ⟨u,rfl,t,rfl⟩:=vals1 r;exact call_int_int ⟨.int i,H,I,⟨_,rfl⟩,q⟩
 ·obtain ⟨u,rfl,r1⟩:=vals1 r;cases r1;exact call_int_bool ⟨.int (if k then 1 else 0),H,I.tok _,⟨_,rfl⟩,q⟩
def Mi (K:Fg) (x:V) (H:Hp) (n:Nat):Prop :=
 match x with
 | .str y=>y.length<=sizeLine/\n=y.length
 | .byt y=>y.size<=sizeLine/\n=y.size
 | .ref p=>(∃ xs,SqL K H p xs/\n=xs.length)\/∃ xs,SqT K H p xs/\n=xs.length
 | _=>False
theorem zJ:bu X (.builtin "len") (fun xs H Q=>∃ x n,xs=[x]/\Mi X.K x H n/\Q (.int n) H):=by
 intro pins s Z H xs us Q I r h;obtain ⟨x,n,rfl,e,q⟩:=h;obtain ⟨u,rfl,rx⟩:=vals1 r;have hl:=ku;have hs:sizeLine=16777216:=PJ;cases x with
 | str y =>
  obtain ⟨t,rfl⟩:=rx;obtain ⟨hy,e'⟩:y.length<=sizeLine/\n=y.length:=e;subst e';exact len_str (by omega) ⟨.int _,H,I.tok _,⟨_,rfl⟩,q⟩
 | byt y =>
  obtain ⟨t,rfl⟩:=rx;obtain ⟨hy,e'⟩:y.size<=sizeLine/\n=y.size:=e;subst e';exact PySem.W.len_bytes (by omega) ⟨.int _,H,I.tok _,⟨_,rfl⟩,q⟩
 | ref p =>
  cases rx;have e':(∃ xs,SqL X.K H p xs/\n=xs.length)\/∃ xs,SqT X.K H p xs/\n=xs.length:=e;rcases e' with ⟨xs,hx,e'⟩ | ⟨xs,hx,e'⟩
  ·subst e';obtain ⟨its,r',pl,hz⟩:=I.list hx;have hlen:=r'.length;exact Calls.call_len_list pl.isList (by simp only [Of];omega) ⟨.int xs.length,H,I.tok _,⟨_,by simp only [Of];rw [hlen]⟩,q⟩
  ·subst e';obtain ⟨its,r',pl,hz⟩:=I.tuple hx;have hlen:=r'.length;exact len_tuple pl (by simp only [Of];omega) ⟨.int xs.length,H,I.tok _,⟨_,by simp only [Of];rw [hlen]⟩,q⟩
 | _=>exact (show False from e).elim
end
structure DT (h:Heap) (x dx C:Qz) (mA:Str->Option Qj):Prop where
 obj:h.get? x=some (PySem.W.instObj C dx)
 ns:h.Ns1 dx mA
 ne:dx≠x
theorem wo {h:Heap} {dx:Qz} {mA:Str->Option Qj} (n:h.Ns1 dx mA):∃ od,h.get? dx=some od/\∀ name,PySem.W.lookIn name od=some (mA name):=by
 obtain ⟨o,es,ep,ho,hd,hk,_,hm⟩:=n;refine ⟨o,ho,fun name=>?_⟩;have e:=hm name;unfold nsFind findBy at e;rw [<- Array.find?_toList] at e;unfold PySem.W.lookIn;rw [hd];dsimp only;split
 ·rename_i y q;rw [q] at e;exact congrArg some e
 ·rename_i q;rw [q] at e;have a:es.toList.any (·.refKey)=false:=by
   rw [List.any_eq_false];intro y hy;obtain ⟨z,t,hkey⟩:=hk y (Array.mem_toList_iff.mp hy);simp [DictEntry.refKey,hkey]
  have a':¬es.toList.any (·.refKey)=true:=by rw [a];exact O3
  rw [Od a'];exact congrArg some e
theorem DT.look {h:Heap} {x dx C:Qz} {mA:Str->Option Qj} (I:DT h x dx C mA):∃ od,PySem.W.InstAt h x (PySem.W.instObj C dx) C (some od)/\∀ name,PySem.W.lookIn name od=some (mA name) :=
 let ⟨od,ho,hl⟩:=wo I.ns
 ⟨od,⟨I.obj,rfl,rfl,ho⟩,hl⟩
section
variable {prog:Program} {w:World} {A:Around} {E:Qj->Qx->Prop} {s:Qx} {K:Fg} {x dx C f:Qz} {mA:Str->Option Qj} {name:Str} {v:Qj}
theorem get_map {expr:Bool} {Q:Qj->Qx->Prop} (X:K.In s.heap) (I:DT s.heap x dx C mA) (hg:PySem.W.plainGet K C name=true) (hh:PySem.W.hasDictIn K C=true)
  (ha:PySem.W.findIn K (.ref C) name=some none) (hv:mA name=some v) (hv':PySem.W.handedIn v=true) (h:Q v { s with toks:=s.toks+1 }) :
  wpAny (model prog w) A (getAttr (.ref x) name expr) Q E s:=by
 obtain ⟨od,J,hl⟩:=I.look;exact PySem.W.get_value X J (PySem.W.plainGet_of hg).1 (PySem.W.findObj_own hh ha rfl (by rw [hl,hv])) hv' h
theorem Al {pl:Sem Bool} {Q:Qj×List Qj->Qx->Prop} (X:K.In s.heap) (I:DT s.heap x dx C mA) (hg:PySem.W.plainGet K C name=true)
  (hf:PySem.W.findIn K (.ref C) name=some (some (.ref f))) (ht:PySem.W.isFn K (.ref f)=true) (hv:mA name=none) (h:Q (.ref f,[.ref x]) s) :
  wpAny (model prog w) A (getMethod (.ref x) name pl) Q E s:=by
 obtain ⟨od,J,hl⟩:=I.look;exact PySem.W.method_fn X J (PySem.W.plainGet_of hg).1 (PySem.W.plainGet_of hg).2 hf (Pe.mp ht) (by show (PySem.W.lookIn name od).map (·.isSome)=some false;rw [hl,hv];rfl) h
theorem Dv {ns:List Str} {Q:Unit->Qx->Prop} (X:K.In s.heap) (I:DT s.heap x dx C mA)
  (hs:PySem.W.findIn K (.ref C) "__setattr__" = some (some (.builtin "object.__setattr__"))) (hp:PySem.W.plainOver K C=true) (ht:PySem.W.takerIn K C name=some none) (hh:PySem.W.hasDictIn K C=true)
  (hw:PySem.Within mA ns) (hsz:ns.length<=sizeLine)
  (h:∀ h',DT h' x dx C (fun y=>if y=name then some v else mA y)->Heap.SameBut dx s.heap h'->Q () { s with heap:=h',toks:=s.toks+2 }) :
  wpAny (model prog w) A (setAttr (.ref x) name v) Q E s:=by
 obtain ⟨od,J,hl⟩:=I.look;refine PySem.W.set_plain X J hs (PySem.W.osa_open (s:={ s with toks:=s.toks+1 }) (r:=none) X J hp ht fun b=>?_);obtain ⟨cd,hc,hd'⟩:=PySem.W.any_some hh;have hx:s.heap.get? x=some ⟨.ref C,some dx,.plain,#[]⟩:=I.obj;refine N3 (Om (N3 (N3 (wpAny_loadPart hx (N3 (PySem.W.Looks.here (s:={ s with toks:=s.toks+1 }) (PySem.W.looks_clsIn X hc) ?_))))));rw [hd'];refine Om (a:=some dx) (N3 (Om (N3 ?_)));refine wpAny_nsSet1 (s:={ s with toks:=s.toks+1 }) I.ns fun h' hn2 hs2=>?_;obtain ⟨oD,esD,epD,hoD,hdD,hcD⟩:=hn2.count (PySem.Within.cons name v hw);refine N3 (wpAny_lookBehind hoD (by rw [hdD];exact pastItsLine_dict (Oi hcD (by rw [NV];omega))) ?_);exact Om (h _ ⟨(hs2.2 _ (Ne.symm I.ne)).trans I.obj,hn2,I.ne⟩ hs2)
theorem zA {R:Result->Qx->Prop} {vs:List Qj} {kw:List (Str×Qj)} (X:K.In s.heap) (hm:PySem.W.makesIn K C=true)
    (hi:PySem.W.findIn K (.ref C) "__init__" = some (some (.ref f))) (hf:PySem.W.typeIn K (.ref f)=some (.type "function"))
    (h:codeAny (model prog w) (A.under (.builtin "type.__call__" ⟨.ref C :: vs,kw⟩)) (.call (.ref f) ⟨.ref (s.heap.objs.size+1) :: vs,kw⟩) (PySem.W.InitBack (s.heap.objs.size+1) R)
      { s with heap:=(s.heap.push PySem.W.emptyDict).push (PySem.W.instObj C s.heap.objs.size) }) :
    codeAny (model prog w) A (.call (.ref C) ⟨vs,kw⟩) R s:=by
  obtain ⟨hh,g,d,t,os⟩:=s;exact PySem.W.make_core (PySem.W.makes_of X hm) (Pa X hi) (fun self=>PySem.W.bind_fn X self hf) (.inl rfl) h
end
noncomputable def mK (f:Str) (v:V):List (Str×V)->List (Str×V)
 | []=>[(f,v)]
 | (g,x) :: r=>if g=f then (g,v) :: r else (g,x) :: mK f v r
theorem jo (f g:Str) (v:V):∀ fs:List (Str×V),(mK f v fs).lookup g=if g=f then some v else fs.lookup g
 | []=>by
  show List.lookup g [(f,v)]=_;by_cases h:g=f
  ·have hb:(g==f)=true:=Pe.mpr h;simp only [List.lookup,hb,N4 h]
  ·have hb:(g==f)=false:=Pn.mpr h;simp only [List.lookup,hb,Od h]
 | (k,x) :: r=>by
  have ih:=jo f g v r;rw [show mK f v ((k,x) :: r)=(if k=f then (k,v) :: r else (k,x) :: mK f v r) from rfl];by_cases hk:k=f
  ·rw [N4 hk];by_cases h:g=k
   ·have hb:(g==k)=true:=Pe.mpr h;simp only [List.lookup,hb,N4 (h.trans hk)]
   ·have hb:(g==k)=false:=Pn.mpr h;simp only [List.lookup,hb,Od (fun e:g=f=>h (e.trans hk.symm))]
  ·rw [Od hk];by_cases h:g=k
   ·have hb:(g==k)=true:=Pe.mpr h;simp only [List.lookup,hb,Od (fun e:g=f=>hk (h.symm.trans e))]
   ·have hb:(g==k)=false:=Pn.mpr h;simp only [List.lookup,hb];exact ih
theorem jz (f:Str) (v:V):∀ fs:List (Str×V),f∈(mK f v fs).map (·.1)/\∀ g,g∈fs.map (·.1)->g∈(mK f v fs).map (·.1)
 | []=>⟨by simp [mK],fun g h=>by simp at h⟩
 | (k,x) :: r=>by
  obtain ⟨i1,i2⟩:=jz f v r;rw [show mK f v ((k,x) :: r)=(if k=f then (k,v) :: r else (k,x) :: mK f v r) from rfl];by_cases hk:k=f
  ·rw [N4 hk];subst hk;exact ⟨by simp,fun g h=>by simpa using h⟩
  ·rw [Od hk];refine ⟨?_,fun g h=>?_⟩
   ·rw [List.map_cons];exact NZ _ i1
   ·rw [List.map_cons] at h ⊢;rcases N9.mp h with e | e
    ·exact N9.mpr (.inl e)
    ·exact NZ _ (i2 g e)
theorem jm (f:Str) (v:V):∀ fs:List (Str×V),(mK f v fs).length<=fs.length+1
 | []=>by simp [mK]
 | (k,x) :: r=>by
  have ih:=jm f v r;rw [show mK f v ((k,x) :: r)=(if k=f then (k,v) :: r else (k,x) :: mK f v r) from rfl];by_cases hk:k=f
  ·rw [N4 hk,NV,NV];omega
  ·rw [Od hk,NV,NV];omega
theorem uD.some_of {v:V} {o:Option Qj} (r:uD (some v) o):∃ u,o=some u/\RelV v u:=by
 cases o with
 | none=>exact (show False from r).elim
 | some u=>exact ⟨u,rfl,r⟩
theorem uD.none_of {o:Option Qj} (r:uD none o):o=none:=by
 cases o with
 | none=>rfl
 | some u=>exact (show False from r).elim
theorem xo {v:V} {u:Qj} (r:RelV v u):PySem.W.handedIn u=true:=by
 cases v with
 | non=>cases (show u=Value.none from r);rfl
 | bl b=>cases (show u=Value.bool b from r);rfl
 | int i=>obtain ⟨t,e⟩:=(show ∃ t,u=Value.int i t from r);cases e;rfl
 | str x=>obtain ⟨t,e⟩:=(show ∃ t,u=Value.str x t from r);cases e;rfl
 | byt b=>obtain ⟨t,e⟩:=(show ∃ t,u=Value.bytes b t from r);cases e;rfl
 | flt b=>obtain ⟨t,e⟩:=(show ∃ t,u=Value.float b t from r);cases e;rfl
 | ref a=>cases (show u=Value.ref a from r);rfl
 | ty n=>cases (show u=Value.type n from r);rfl
section
variable {P:Program} {w:World} {H H':Hp} {h h':Heap} {a C dx:Qz} {fs fs':List (Str×V)}
theorem pO (hok:HOk P w H h) (e:H a=some (.ins C dx fs)):∃ mA,DT h a dx C mA/\(∀ f,uD (fs.lookup f) (mA f))/\PySem.Within mA (fs.map (·.1))/\fs.length<=1000/\H dx=some (.own a):=by
 obtain ⟨d,z,ne,ob,mA,n,r,q⟩:=(show cP P w H h a (.ins C dx fs) from hok a _ e);exact ⟨mA,⟨ob,n,ne⟩,r,q,z,d⟩
end
structure Cls (K:Fg) (C:Qz):Prop where
 pg:PySem.W.plainGet K C Str.empty=true
 hd:PySem.W.hasDictIn K C=true
 po:PySem.W.plainOver K C=true
 sa:PySem.W.findIn K (.ref C) "__setattr__" = some (some (.builtin "object.__setattr__"))
theorem Cls.get {K:Fg} {C:Qz} (c:Cls K C) (f:Str):PySem.W.plainGet K C f=true:=c.pg
def eQ (K:Fg) (C:Qz) (f:Str):Prop:=PySem.W.findIn K (.ref C) f=some none
theorem eQ.JK {K:Fg} {C:Qz} {f:Str} (n:eQ K C f):PySem.W.takerIn K C f=some none:=by
 unfold PySem.W.takerIn;rw [show PySem.W.findIn K (.ref C) f=some none from n];rfl
structure Meth (K:Fg) (C:Qz) (m:Str) (f:Qz):Prop where
 at_:PySem.W.findIn K (.ref C) m=some (some (.ref f))
 fn:PySem.W.isFn K (.ref f)=true
 kp:PySem.W.keepIn K (.ref f)=true
section
variable {X:Cx} {pins:List (Qz×Obj)} {Z:St} {H:Hp} {s:Qx} {a C dx:Qz} {fs:List (Str×V)} {f:Str} {v:V} {A:Around} {E:Qj->Qx->Prop}
theorem tm {b:Bool} {Q:Qj->Qx->Prop} (I:Inv X pins Z H s) (e:H a=some (.ins C dx fs)) (c:Cls X.K C) (n:eQ X.K C f) (l:fs.lookup f=some v)
  (h:∀ u s',Inv X pins Z H s'->RelV v u->Q u s'):wpAny (model X.prog X.w) A (getAttr (.ref a) f b) Q E s:=by
 obtain ⟨mA,O,r,_,_,_⟩:=pO I.hok e;obtain ⟨u,hu,ru⟩:=uD.some_of (v:=v) (o:=mA f) (by rw [<- l];exact r f);exact get_map I.kIn O (c.get f) c.hd n hu (xo ru) (h u _ (I.tok _) ru)
theorem gQ {m:Str} {g:Qz} {pl:Sem Bool} {Q:Qj×List Qj->Qx->Prop} (I:Inv X pins Z H s) (e:H a=some (.ins C dx fs)) (c:Cls X.K C) (k:Meth X.K C m g) (l:fs.lookup m=none)
  (h:Q (.ref g,[.ref a]) s):wpAny (model X.prog X.w) A (getMethod (.ref a) m pl) Q E s:=by
 obtain ⟨mA,O,r,_,_,_⟩:=pO I.hok e;have hn:mA m=none:=uD.none_of (by rw [<- l];exact r m);exact Al I.kIn O (c.get m) k.at_ k.fn hn h
theorem sL {y:V} {u:Qj} {Q:Unit->Qx->Prop} (I:Inv X pins Z H s) (e:H a=some (.ins C dx fs)) (c:Cls X.K C) (n:eQ X.K C f) (hl:fs.length < 1000) (ry:RelV y u)
  (h:∀ s',Inv X pins Z (upd H a (.ins C dx (mK f y fs))) s'->Q () s'):wpAny (model X.prog X.w) A (setAttr (.ref a) f u) Q E s:=by
 obtain ⟨mA,O,r,wi,_,ho⟩:=pO I.hok e;have hz:(fs.map (·.1)).length<=sizeLine:=by rw [NT,PJ];omega
 refine Dv I.kIn O c.sa c.po n.JK c.hd wi hz fun h' O' sb=>h _ ?_;have hd:∃ o,h'.get? dx=some o:=let ⟨o,_,_,e',_⟩:=O'.ns;⟨o,e'⟩
 refine I.write (x:=a) (e:=dx) (by rw [e];exact True.intro) (.inr ho) (fun b q hb z=>(sb.2 b hb).trans z) hd ?_;refine ⟨by rw [aM O.ne];exact ho,?_,O.ne,O'.obj,_,O'.ns,fun g=>?_,fun g hg=>?_⟩
 ·have:=jm f y fs;omega
 ·show uD ((mK f y fs).lookup g) (if g=f then some u else mA g);rw [jo];by_cases q:g=f
  ·rw [N4 q,N4 q];exact ry
  ·rw [Od q,Od q];exact r g
 ·by_cases q:g=f
  ·rw [q];exact (jz f y fs).1
  ·refine (jz f y fs).2 g (wi g fun z=>hg ?_);show (if g=f then some u else mA g)=none;rw [Od q];exact z
theorem Inv.made (I:Inv X pins Z H s):Inv X pins Z (upd (upd H s.heap.objs.size (.own (s.heap.objs.size+1))) (s.heap.objs.size+1) (.ins C s.heap.objs.size []))
    { s with heap:=(s.heap.push PySem.W.emptyDict).push (PySem.W.instObj C s.heap.objs.size) }:=by
  have e1:(s.heap.push PySem.W.emptyDict).get? s.heap.objs.size=some PySem.W.emptyDict:=OA s.heap rfl;have e2:((s.heap.push PySem.W.emptyDict).push (PySem.W.instObj C s.heap.objs.size)).get? (s.heap.objs.size+1)=some (PySem.W.instObj C s.heap.objs.size):=by
    have:=OA (s.heap.push PySem.W.emptyDict) (o:=PySem.W.instObj C s.heap.objs.size) rfl
    rwa [Heap.size_push] at this
  have e3:(s.heap.push PySem.W.emptyDict).Ns s.heap.objs.size (fun _=>none):=⟨PySem.W.emptyDict,#[],_,e1,rfl,(fun e he=>absurd he (by simp)),fun _=>rfl⟩;have I1:=I.laid (a:=s.heap.objs.size) (o:=.own (s.heap.objs.size+1)) (h':=s.heap.push PySem.W.emptyDict) (t':=s.toks) (fun b u q=>N8 _ q) (Oc _) ⟨_,e1⟩;refine I1.laid (a:=s.heap.objs.size+1) (o:=.ins C s.heap.objs.size []) (t':=s.toks) (fun b u q=>N8 _ q) (Nat.le_of_eq (Heap.size_push _ _)) ?_;have ne:s.heap.objs.size≠s.heap.objs.size+1:=OC (O7 _);refine ⟨by rw [aM ne,aG],O0 _,ne,e2,fun _=>none,(Heap.Ns1.of_empty e3).at fun o q=>N8 _ q,fun _=>True.intro,fun y hy=>absurd rfl hy⟩
theorem vC {prog:Program} {w:World} {env:Env} {e:Expr} {f:Str} {pos:Pos} {s:Qx} {Q:Qj->Qx->Prop} (hb:attributeBase e f env (eval e env)=eval e env)
  (h:wpAny (model prog w) A (eval e env) (fun o ZZ=>wpAny (model prog w) A (getAttr o f true) Q E ZZ) E s):wpAny (model prog w) A (eval (.Attribute e f pos) env) Q E s :=
 Attribute_any_ h (by rw [arm_eval_Attribute,hb])
end
section
variable {X:Cx} {o e value:Expr} {f:Str} {pos pos' tpos:Pos} {ta tv:TE}
theorem Cr {pl:Sem Bool} {m:Str} {apos:Pos} {args:List Expr} {pins:List (Qz×Obj)} {s:Qx} {Z:St} {H:Hp} {Q:Qj->Qx->Prop} {te:TE} (he:PE X e te) (I:Inv X pins Z H s)
  (h:te Z H fun x H1=>∃ a C dx fs g,x=.ref a/\H1 a=some (.ins C dx fs)/\Cls X.K C/\Meth X.K C m g/\fs.lookup m=none /\
   ∀ s1,Inv X pins Z H1 s1->wpAny (model X.prog X.w) X.A (callWith pos (.ref g) [.ref a] (backTo pos (starEach args X.env)) (backToKw pos (keywordEach [] X.env))) Q X.xe s1)
  (ht:eval (.Call (.Attribute e m apos) args [] pos) X.env=(do
   let ov<-eval e X.env
   standAt apos.atName
   let (f,first)<-holding [ov] (getMethod ov m pl)
   callWith pos f first (backTo pos (starEach args X.env)) (backToKw pos (keywordEach [] X.env)))) :
  wpAny (model X.prog X.w) X.A (eval (.Call (.Attribute e m apos) args [] pos) X.env) Q X.xe s:=by
 refine Qb (pl:=pl) (thn (he pins s Z H _ I h) fun u s1 ⟨x,H1,I1,rx,a,C,dx,fs,g,ex,ea,c,k,l,q⟩=>?_) ht;subst ex;obtain rfl:u=Value.ref a:=rx;exact gQ I1 ea c k l (q s1 I1)
end
structure dh (k:Nat) (A:Around):Prop where
 hd:A.handled=none
 dp:A.depth+3*k+5 < recursionLimit
 un:A.units+16*k+200 < cLine
 gd:A.guards=some []
theorem dh.mono {j k:Nat} {A:Around} (r:dh k A) (h:j<=k):dh j A:=⟨r.hd,by have:=r.dp;omega,by have:=r.un;omega,r.gd⟩
theorem dh.deeper {k:Nat} {A:Around} (r:dh (k+1) A) (env:Env):dh k (A.deeper env) :=
 ⟨r.hd,by have:=r.dp;show A.depth+1+3*k+5 < _;omega,by have:=r.un;show A.units+3+16*k+200 < _;omega,r.gd⟩
theorem t7 {A:Around} {C:Qz} {us:List Qj} {kw:List (Str×Qj)}:(A.under (.builtin "type.__call__" ⟨.ref C :: us,kw⟩)).depth=A.depth+1:=by
 first | rfl | simp [Around.under,Code.weight,Code.isCreation,Code.isGuard,Code.isCaller,Code.frames,Code.isFrame,guardIds]
theorem sG {A:Around} {C:Qz} {us:List Qj} {kw:List (Str×Qj)}:(A.under (.builtin "type.__call__" ⟨.ref C :: us,kw⟩)).units=A.units+1:=by
 first | rfl | simp [Around.under,Code.cUnits,Code.frames,Code.isFrame]
theorem pS {A:Around} {C:Qz} {us:List Qj} {kw:List (Str×Qj)} (h:A.guards=some []):(A.under (.builtin "type.__call__" ⟨.ref C :: us,kw⟩)).guards=some []:=by
 first | simp [Around.under,Code.guards,Code.isGuard,guardIds,pushGuards,h]
theorem dh.make {k:Nat} {A:Around} (r:dh (k+1) A) (C:Qz) (us:List Qj) (kw:List (Str×Qj)):dh k (A.under (.builtin "type.__call__" ⟨.ref C :: us,kw⟩)) :=
 ⟨r.hd,by have:=r.dp;rw [t7];omega,by have:=r.un;rw [sG];omega,pS r.gd⟩
theorem dh.depth {k:Nat} {A:Around} (r:dh k A):A.depth < recursionLimit:=by have:=r.dp;omega
theorem dh.units {k:Nat} {A:Around} (r:dh k A):A.units+64 < cLine:=by have:=r.un;omega
def rl:TA:=fun _ H Q=>Q [] H
def fR (ta:TE) (tr:TA):TA:=fun Z H Q=>ta Z H fun x H1=>tr Z H1 fun xs H2=>Q (x :: xs) H2
section
variable {X:Cx} {e:Expr} {es:List Expr} {te:TE} {t:TA} {pos:Pos}
theorem vB:PA X [] rl:=fun _ _ _ _ H Q I h=>Calls.spliced_nil ⟨[],H,I,.nil,h⟩
theorem mE (ha:PE X e te) (hr:PA X es t) (hs:starEach (e :: es) X.env=(false,eval e X.env) :: starEach es X.env:=by rfl):PA X (e :: es) (fR te t):=by
 intro pos pins s Z H Q I h;rw [hs];show wpAny _ _ (spliced ((false,eval e X.env) :: backTo pos (starEach es X.env))) _ _ s;refine Calls.spliced_cons (thn (ha pins s Z H _ I h) fun u s1 ⟨x,H1,I1,r1,q1⟩=>?_);exact thn (hr pos pins s1 Z H1 _ I1 q1) fun us s2 ⟨xs,H2,I2,r2,q2⟩=>⟨x :: xs,H2,I2,.cons r1 r2,q2⟩
def J3 (t:TA):TE:=fun Z H Q=>t Z H fun xs H1=>xs.length<=sizeLine/\∀ p,H1 p=none->Q (.ref p) (upd H1 p (.tup xs))
def KU (t:TA):TE:=fun Z H Q=>t Z H fun xs H1=>xs.length<=sizeLine/\∀ p,H1 p=none->Q (.ref p) (upd H1 p (.lst xs))
theorem FQ {x1} (h:PA X es t):PE X (.Tuple es x1 pos) (J3 t):=by
 intro pins s Z H Q I hq;refine wpAny_Tuple_spliced (thn (h pos pins s Z H _ I hq) fun us s1 ⟨xs,H1,I1,r,z,q⟩=>⟨by rw [<- r.length];exact z,?_⟩);have hf:H1 s1.heap.objs.size=none:=I1.hok.fresh (Oc _);refine ⟨.ref s1.heap.objs.size,upd H1 s1.heap.objs.size (.tup xs),I1.laid (t':=s1.toks) (fun b u e=>N8 _ e) (Oc _) ?_,rfl,q _ hf⟩;exact ⟨z,us,r,⟨_,OA _ rfl,rfl,_,rfl⟩⟩
theorem Ht (h:PA X es t):PE X (.List es pos) (KU t):=by
 intro pins s Z H Q I hq;refine wpAny_List_spliced (thn (h pos pins s Z H _ I hq) fun us s1 ⟨xs,H1,I1,r,z,q⟩=>⟨by rw [<- r.length];exact z,?_⟩);have hf:H1 s1.heap.objs.size=none:=I1.hok.fresh (Oc _);refine ⟨.ref s1.heap.objs.size,upd H1 s1.heap.objs.size (.lst xs),I1.laid (t':=s1.toks) (fun b u e=>N8 _ e) (Oc _) ?_,rfl,q _ hf⟩;exact ⟨z,us,0,r,OA _ rfl⟩
end
abbrev Sp:=List V->Hp->VK->XK->Prop
abbrev CXT:=List Env->Hp->Qx->XK->Qj->Qx->Prop
structure DN (P:Program) (w:World) (K:Fg) (mg:Str->Option Qj) (base:Heap) (A:Around) (outer:List Env) (s:Qx) (H:Hp):Prop where
 frames:A.frames=some outer
 mod:Mod K mg base
 bs:∀ b o,base.get? b=some o->s.heap.get? b=some o/\H b=none
 bsz:base.objs.size<=s.heap.objs.size
 o6:s.heap.FunFrames base outer
 frf:∀ b∈frs outer,H b=none
 hok:HOk P w H s.heap
 bare:AllBare s.gens
def CE (outer:List Env) (P:Program) (w:World) (H:Hp) (s:Qx) (Q:VK) (u:Qj) (s':Qx):Prop :=
 ∃ v H',s'.os=s.os/\AllBare s'.gens/\Un (frs outer) [] H H' s.heap s'.heap/\HOk P w H' s'.heap/\RelV v u/\Q v H'
def CR (CX:CXT) (outer:List Env) (P:Program) (w:World) (H:Hp) (s:Qx) (Q:VK) (E:XK) (r:Result) (s':Qx):Prop :=
 match r with
 | .ok (.ret u)=>CE outer P w H s Q u s'
 | .ok _=>False
 | .error e=>CX outer H s E e s'
structure de (P:Program) (w:World) (K:Fg) (mg:Str->Option Qj) (base:Heap) (CX:CXT) (k:Nat) (f:Qz) (fd:FuncData) (ps:List Str) (sp:Sp):Prop where
 len:∀ vs H Q E,sp vs H Q E->vs.length=ps.length
 run:∀ (A:Around) (outer:List Env) (s:Qx) (H:Hp) (args:Args) (us:List Qj) (vs:List V) (Q:VK) (E:XK),dh k A->DN P w K mg base A outer s H->BindsTo s fd args (ps.zip us)->Vals vs us->sp vs H Q E ->
  codeAny (model P w) A (.call (.ref f) args) (CR CX outer P w H s Q E) s
theorem de.mono {P:Program} {w:World} {K:Fg} {mg:Str->Option Qj} {base:Heap} {CX:CXT} {j k:Nat} {f:Qz} {fd:FuncData} {ps:List Str} {sp:Sp} (F:de P w K mg base CX j f fd ps sp) (h:j<=k) :
  de P w K mg base CX k f fd ps sp:=⟨F.len,fun A outer s H args us vs Q E hr=>F.run A outer s H args us vs Q E (hr.mono h)⟩
theorem DN.make {P:Program} {w:World} {K:Fg} {mg:Str->Option Qj} {base:Heap} {A:Around} {outer:List Env} {s:Qx} {H:Hp} (e:DN P w K mg base A outer s H) (C:Qz) (us:List Qj) (kw:List (Str×Qj)) :
  DN P w K mg base (A.under (.builtin "type.__call__" ⟨.ref C :: us,kw⟩)) outer s H:=⟨by first | exact e.frames | (simpa [Around.under,Code.envs,Code.isFrame,pushEnvs] using e.frames),e.mod,e.bs,e.bsz,e.o6,e.frf,e.hok,e.bare⟩
section
variable {X:Cx} {pins:List (Qz×Obj)} {Z:St} {H:Hp} {s s':Qx}
theorem Inv.Eu (I:Inv X pins Z H s):DN X.prog X.w X.K X.mg X.base X.A X.stack s H :=
 ⟨I.ok.frames,I.ok.mod,I.bs,Oi I.ok.bsz I.sz,I.stack,I.kX,I.hok,I.bare⟩
theorem Inv.after {Q:VK} {u:Qj} (I:Inv X pins Z H s) (h:CE X.stack X.prog X.w H s Q u s'):EP X pins Z Q u s':=by
 obtain ⟨v,H',os,bare,un,hok,r,q⟩:=h;obtain ⟨hh,g,d,t,os'⟩:=s';obtain rfl:os'=s.os:=os;exact ⟨v,H',I.call (h':=hh) (g':=g) (d':=d) (t':=t) (ch:=[]) un hok bare (fun b z=>absurd z (by simp)),r,q⟩
end
def nY (sp:Sp) (dvs:List V) (E:XK) (t:TA):TE:=fun Z H Q=>t Z H fun vs H1=>sp (vs++dvs) H1 Q E
def Fz (C:Qz) (m:Str) (sp:Sp) (dvs:List V) (E:XK) (ta:TE) (t:TA):TE:=fun Z H Q=>ta Z H fun x H1=>∃ a dx fs,x=.ref a/\H1 a=some (.ins C dx fs)/\fs.lookup m=none /\
 t Z H1 fun vs H2=>sp (x :: (vs++dvs)) H2 Q E
def Jn (C:Qz) (sp:Sp) (dvs:List V) (E:XK) (t:TA):TE:=fun Z H Q=>t Z H fun vs H1=>∀ x dx,H1 x=none->H1 dx=none->dx≠x ->
 sp (.ref x :: (vs++dvs)) (upd (upd H1 dx (.own x)) x (.ins C dx [])) (fun v H2=>v=.non/\Q (.ref x) H2) E
def Binds (K:Fg) (fd:FuncData) (ps:List Str) (ds:List Qj):Prop :=
 ∀ (s:Qx) (us:List Qj),K.In s.heap->(us++ds).length=ps.length->BindsTo s fd ⟨us,[]⟩ (ps.zip (us++ds))
theorem Binds.all {K:Fg} {fd:FuncData} {ps:List Str} (h:∀ us:List Qj,us.length=ps.length->bindArgs fd ⟨us,[]⟩=pure (ps.zip us)):Binds K fd ps []:=fun s us _ hl=>by
 rw [Oz] at hl ⊢;exact .of_eq (h us hl)
def Passes (CX:CXT) (X:Cx) (E:XK):Prop:=∀ (pins:List (Qz×Obj)) (Z:St) (H:Hp) (s:Qx) (e:Qj) (s':Qx),Inv X pins Z H s->CX X.stack H s E e s'->X.xe e s'
section
variable {X:Cx} {CX:CXT} {k:Nat} {f C:Qz} {fd:FuncData} {ps:List Str} {sp:Sp} {dvs:List V} {ds:List Qj} {E:XK} {x m:Str} {p pos apos:Pos} {e o:Expr} {es:List Expr} {ta:TE} {t:TA}
theorem wR {pins:List (Qz×Obj)} {Z:St} {H:Hp} {s:Qx} {Q:VK} {us:List Qj} {vs:List V} (F:de X.prog X.w X.K X.mg X.base CX k f fd ps sp) (hr:dh k X.A) (hb:Binds X.K fd ps ds) (hd:Vals dvs ds) (hx:Passes CX X E)
  (I:Inv X pins Z H s) (r:Vals vs us) (h:sp (vs++dvs) H Q E):wpAny (model X.prog X.w) X.A (call (.ref f) us) (EP X pins Z Q) X.xe s:=by
 have r2:Vals (vs++dvs) (us++ds):=r.append hd;have hl:(us++ds).length=ps.length:=by rw [<- r2.length];exact F.len _ _ _ _ h
 refine wpAny_call (P8 (F.run X.A X.stack s H ⟨us,[]⟩ (us++ds) (vs++dvs) Q E hr I.Eu (hb s us I.kIn hl) r2 h) fun r s' hq=>?_);cases r with
 | error e=>exact hx pins Z H s e s' I hq
 | ok fl =>
  cases fl with
  | ret u=>exact I.after hq
  | next=>exact False.elim hq
  | brk=>exact False.elim hq
  | cont=>exact False.elim hq
theorem CW (F:de X.prog X.w X.K X.mg X.base CX k f fd ps sp) (hr:dh k X.A) (hg:Gl X x) (hm:X.mg x=some (.ref f)) (hk:PySem.W.keepIn X.K (.ref f)=true) (hb:Binds X.K fd ps ds) (hd:Vals dvs ds) (hx:Passes CX X E)
  (ha:PA X (e :: es) t) (hdb:(x==("__debug__" : Str))=false:=by decide) (he:starEach (e :: es) X.env=(false,eval e X.env) :: starEach es X.env:=by rfl) (hpl:(backTo pos (starEach es X.env)).any (·.1)=false:=by rfl) :
  PE X (.Call (.Name x p) (e :: es) [] pos) (nY sp dvs E t):=by
 intro pins s Z H Q I h;refine Pw (gT I hg hm ?_ hdb);refine PV (h₀:=X.base) I.ok.mod.kin hk (thn (ha pos pins s Z H _ I h) fun us s1 ⟨vs,H1,I1,r,q⟩=>⟨I1.kIn,?_⟩) he hpl;exact wR F hr hb hd hx I1 r q
theorem yO {pl:Sem Bool} (he:PE X o ta) (c:Cls X.K C) (hm:Meth X.K C m f) (F:de X.prog X.w X.K X.mg X.base CX k f fd ps sp) (hr:dh k X.A) (hb:Binds X.K fd ps ds) (hd:Vals dvs ds) (hx:Passes CX X E) (ha:PA X (e :: es) t)
  (hst:starEach (e :: es) X.env=(false,eval e X.env) :: starEach es X.env:=by rfl) (hpl:(backTo pos (starEach es X.env)).any (·.1)=false:=by rfl)
  (ht:eval (.Call (.Attribute o m apos) (e :: es) [] pos) X.env=(do
   let ov<-eval o X.env
   standAt apos.atName
   let (f,first)<-holding [ov] (getMethod ov m pl)
   callWith pos f first (backTo pos (starEach (e :: es) X.env)) (backToKw pos (keywordEach [] X.env))):=by rfl) :
  PE X (.Call (.Attribute o m apos) (e :: es) [] pos) (Fz C m sp dvs E ta t):=by
 intro pins s Z H Q I h;refine Qb (pl:=pl) (thn (he pins s Z H _ I h) fun u s1 ⟨x,H1,I1,rx,a,dx,fs,ex,ea,l,q⟩=>?_) ht;subst ex;obtain rfl:u=Value.ref a:=rx;refine gQ I1 ea c hm l ?_;refine PV (first:=[.ref a]) (h₀:=X.base) I.ok.mod.kin hm.kp (thn (ha pos pins s1 Z H1 _ I1 q) fun us s2 ⟨vs,H2,I2,r,q2⟩=>⟨I2.kIn,?_⟩) hst hpl;exact wR (us:=.ref a :: us) (vs:=.ref a :: vs) F hr hb hd hx I2 (.cons rfl r) q2
theorem zE {pl:Sem Bool} (he:PE X o ta) (c:Cls X.K C) (hm:Meth X.K C m f) (F:de X.prog X.w X.K X.mg X.base CX k f fd ps sp) (hr:dh k X.A) (hb:Binds X.K fd ps ds) (hd:Vals dvs ds) (hx:Passes CX X E)
  (ht:eval (.Call (.Attribute o m apos) [] [] pos) X.env=(do
   let ov<-eval o X.env
   standAt apos.atName
   let (f,first)<-holding [ov] (getMethod ov m pl)
   callWith pos f first (backTo pos (starEach [] X.env)) (backToKw pos (keywordEach [] X.env))):=by rfl) :
  PE X (.Call (.Attribute o m apos) [] [] pos) (Fz C m sp dvs E ta rl):=by
 intro pins s Z H Q I h;refine Qb (pl:=pl) (thn (he pins s Z H _ I h) fun u s1 ⟨x,H1,I1,rx,a,dx,fs,ex,ea,l,q⟩=>?_) ht;subst ex;obtain rfl:u=Value.ref a:=rx;refine gQ I1 ea c hm l ?_;exact PySem.W.callWith_K0 (first:=[.ref a]) I1.kIn hm.kp (wR (us:=[.ref a]) (vs:=[.ref a]) F hr hb hd hx I1 (.cons rfl .nil) q)
structure Mk (K:Fg) (C f:Qz):Prop where
 makes:PySem.W.makesIn K C=true
 init:PySem.W.findIn K (.ref C) "__init__" = some (some (.ref f))
 fn:PySem.W.isFn K (.ref f)=true
 kp:PySem.W.keepIn K (.ref C)=true
theorem zQ {pins:List (Qz×Obj)} {Z:St} {H:Hp} {s:Qx} {Q:VK} {us:List Qj} {vs:List V} (M:Mk X.K C f) (F:de X.prog X.w X.K X.mg X.base CX k f fd ps sp) (hr:dh (k+1) X.A) (hb:Binds X.K fd ps ds) (hd:Vals dvs ds)
  (hx:Passes CX X E) (I:Inv X pins Z H s) (r:Vals vs us)
  (h:∀ x dx,H x=none->H dx=none->dx≠x->sp (.ref x :: (vs++dvs)) (upd (upd H dx (.own x)) x (.ins C dx [])) (fun v H2=>v=.non/\Q (.ref x) H2) E) :
  wpAny (model X.prog X.w) X.A (call (.ref C) us) (EP X pins Z Q) X.xe s:=by
 have hq:=h (s.heap.objs.size+1) s.heap.objs.size (I.hok.fresh (P5 _)) (I.hok.fresh (Oc _)) (OC (O7 _));have I2:=Inv.made (C:=C) I;have r2:Vals (V.ref (s.heap.objs.size+1) :: (vs++dvs)) (Value.ref (s.heap.objs.size+1) :: (us++ds)):=.cons rfl (r.append hd);have hl:(Value.ref (s.heap.objs.size+1) :: us++ds).length=ps.length:=by
  have e:=r2.length;rw [F.len _ _ _ _ hq] at e;exact e.symm
 refine wpAny_call (zA (f:=f) I.kIn M.makes M.init (Pe.mp M.fn) (P8 (F.run _ X.stack _ _ ⟨Value.ref (s.heap.objs.size+1) :: us,[]⟩ (Value.ref (s.heap.objs.size+1) :: (us++ds)) _ _ E (hr.make C us [])
  (I2.Eu.make C us []) (hb _ (Value.ref (s.heap.objs.size+1) :: us) I2.kIn hl) r2 hq) fun r s' hq'=>?_))
 cases r with
 | error e=>exact hx pins Z _ _ e s' I2 hq'
 | ok fl =>
  cases fl with
  | ret u =>
   obtain ⟨v,H',I3,rv,ev,q3⟩:=I2.after hq';subst ev;exact ⟨rv,⟨V.ref (s.heap.objs.size+1),H',I3,rfl,q3⟩⟩
  | next=>exact False.elim hq'
  | brk=>exact False.elim hq'
  | cont=>exact False.elim hq'
theorem DC (M:Mk X.K C f) (F:de X.prog X.w X.K X.mg X.base CX k f fd ps sp) (hr:dh (k+1) X.A) (hg:Gl X x) (hm:X.mg x=some (.ref C)) (hb:Binds X.K fd ps ds) (hd:Vals dvs ds) (hx:Passes CX X E)
  (ha:PA X (e :: es) t) (hdb:(x==("__debug__" : Str))=false:=by decide) (he:starEach (e :: es) X.env=(false,eval e X.env) :: starEach es X.env:=by rfl) (hpl:(backTo pos (starEach es X.env)).any (·.1)=false:=by rfl) :
  PE X (.Call (.Name x p) (e :: es) [] pos) (Jn C sp dvs E t):=by
 intro pins s Z H Q I h;refine Pw (gT I hg hm ?_ hdb);refine PV (h₀:=X.base) I.ok.mod.kin M.kp (thn (ha pos pins s Z H _ I h) fun us s1 ⟨vs,H1,I1,r,q⟩=>⟨I1.kIn,?_⟩) he hpl;exact zQ M F hr hb hd hx I1 r q
end
structure bZ (N P:List Str) (sc:Scope):Prop where
 kind:sc.kind=.function
 co:sc.isCoroutine=false
 gen:sc.isGenerator=false
 nd:N.Nodup
 pre:N.take P.length=P
 par:∀ x∈P,sc.names.lookup x=some .local\/sc.names.lookup x=some .cell
 Gs:∀ y∈sc.names,y.2≠.free
theorem mW {kindOf:Str->Option NameKind} {x:Str}:∀ {binds:List (Str×Qj)} {m:Str->Option Qj},(∀ v,(x,v) ∉ binds)->bindL kindOf binds m x=m x
 | [],_,_=>rfl
 | (n,v) :: r,m,h=>by
  unfold bindL;rw [mW fun w hw=>h w (NZ _ hw)];split
  ·have:x≠n:=by rintro rfl;exact h v N5
   simp [this]
  ·rfl
theorem ou {kindOf:Str->Option NameKind} {x:Str}:∀ {binds:List (Str×Qj)} {m:Str->Option Qj},(∀ v,(x,v) ∉ binds)->bindC kindOf binds m x=m x
 | [],_,_=>rfl
 | (n,v) :: r,m,h=>by
  unfold bindC;rw [ou fun w hw=>h w (NZ _ hw)];split
  ·rfl
  ·have:x≠n:=by rintro rfl;exact h v N5
   simp [this]
theorem oz {kindOf:Str->Option NameKind} {x:Str} {v:Qj}:∀ {P:List Str} {vs:List Qj} {i:Nat} {m:Str->Option Qj},P.Nodup->P[i]?=some x->vs[i]?=some v->kindOf x=some .local ->
  bindL kindOf (P.zip vs) m x=some v
 | [],_,_,_,_,h,_,_=>by simp at h
 | _ :: _,[],_,_,_,_,h,_=>by simp at h
 | p :: P,w :: vs,0,m,nd,h1,h2,hk=>by
  simp at h1 h2;subst h1;subst h2;show bindL kindOf ((p,w) :: P.zip vs) m p=_;unfold bindL;rw [mW fun v hv=>(O1.mp nd).1 (List.of_mem_zip hv).1,N4 hk];simp
 | p :: P,w :: vs,i+1,m,nd,h1,h2,hk=>by
  show bindL kindOf ((p,w) :: P.zip vs) m x=_;unfold bindL;exact oz (i:=i) (O1.mp nd).2 (by simpa using h1) (by simpa using h2) hk
theorem nq {kindOf:Str->Option NameKind} {x:Str} {v:Qj}:∀ {P:List Str} {vs:List Qj} {i:Nat} {m:Str->Option Qj},P.Nodup->P[i]?=some x->vs[i]?=some v->kindOf x≠some .local ->
  bindC kindOf (P.zip vs) m x=some v
 | [],_,_,_,_,h,_,_=>by simp at h
 | _ :: _,[],_,_,_,_,h,_=>by simp at h
 | p :: P,w :: vs,0,m,nd,h1,h2,hk=>by
  simp at h1 h2;subst h1;subst h2;show bindC kindOf ((p,w) :: P.zip vs) m p=_;unfold bindC;rw [ou fun v hv=>(O1.mp nd).1 (List.of_mem_zip hv).1,Od hk];simp
 | p :: P,w :: vs,i+1,m,nd,h1,h2,hk=>by
  show bindC kindOf ((p,w) :: P.zip vs) m x=_;unfold bindC;exact nq (i:=i) (O1.mp nd).2 (by simpa using h1) (by simpa using h2) hk
noncomputable def start (N:List Str) (vs:List V):St:=vs.map some++List.replicate (N.length - vs.length) none
noncomputable def tN (CX:CXT) (P:Program) (w:World) (K:Fg) (mg:Str->Option Qj) (base:Heap) (N:List Str) (qual:Str) (scope:Scope) (f:Qz) (cd:Qj) (A:Around) (outer:List Env) (s:Qx) (H:Hp) (E:XK):Cx where
 prog:=P
 w:=w
 K:=K
 mg:=mg
 base:=base
 A:=A.deeper (envOfC qual scope s.heap.objs.size f cd)
 N:=N
 ZO:=s
 ZW:=H
 env:=envOfC qual scope s.heap.objs.size f cd
 outer:=outer
 stack:=envOfC qual scope s.heap.objs.size f cd :: outer
 ex:=[]
 calm:=true
 fn:=fun _=>true
 pn:=[]
 xe:=fun e s'=>wpAny (model P w) (A.deeper (envOfC qual scope s.heap.objs.size f cd)) (leaving (envOfC qual scope s.heap.objs.size f cd) e) (fun _ s''=>CX outer H s E e s'') (fun e' s''=>CX outer H s E e' s'') s'
theorem qI {sc:Scope} {n:Nat} {x:Str} (h:sc.names.lookup x=some .cell):∃ c,(cellsFrom n sc.names []).lookup x=some c:=by
 have q:=PySem.W.cellsFrom_some sc.names n [] (.inl h);exact Option.isSome_iff_exists.mp q
theorem xg {CX:CXT} {P:Program} {w:World} {K:Fg} {mg:Str->Option Qj} {base:Heap} {N ps:List Str} {qual:Str} {scope:Scope} {f:Qz} {cd:Qj} {A:Around} {outer:List Env} {s s1:Qx} {H:Hp} {E:XK} {us:List Qj} {vs:List V}
  (S:bZ N ps scope) (hd:A.handled=none) (e0:DN P w K mg base A outer s H) (hl:vs.length=ps.length) (r:Vals vs us)
  (x:InCallC s s.heap.objs.size (bindL (envOfC qual scope s.heap.objs.size f cd).kindOf (ps.zip us) fun _=>none) (cellsFrom (s.heap.objs.size+1) scope.names []) (bindC (envOfC qual scope s.heap.objs.size f cd).kindOf (ps.zip us) fun _=>none) s1) :
  Inv (tN CX P w K mg base N qual scope f cd A outer s H E) [] (start N vs) H s1:=by
 have hpl:ps.length<=N.length:=by have:=congrArg List.length S.pre;rw [OB] at this;omega
 obtain ⟨h1,tk,rfl,hk⟩:=x.done;have noA:∀ b:Qz,b ∉ (tN CX P w K mg base N qual scope f cd A outer s H E).ex:=fun b z=>absurd (show b∈([]:List Qz) from z) (by simp)
 refine ⟨⟨e0.mod,S.kind,rfl,rfl,Oc _,fun y z c h1 h2=>?_,fun y hy=>?_,fun y c _ h=>?_,fun _=>hd,Around.frames_deeper e0.frames,.inr ⟨rfl,rfl⟩,fun b z=>absurd z (noA b),e0.bs,e0.bsz,fun b _ _=>noA b,fun b z=>absurd z (noA b),e0.o6,e0.frf⟩,
  rfl,e0.bare,Un.kept hk,⟨_,x.toInCall.ns,fun i y v h1 h2 h3=>?_⟩,fun y c h=>⟨_,x.cell y c h⟩,e0.hok.fresh (Oc _),fun y c h=>?_,fun p hp=>absurd (show p∈([]:List (Qz×Obj)) from hp) (by simp),e0.hok.kept hk,?_⟩
 ·exact name_of_addr x.apart (Po h1) (Po h2)
 ·have hy:scope.names.lookup y=some .cell\/scope.names.lookup y=some .free:=hy;rcases hy with hy | hy
  ·exact qI hy
  ·exact absurd rfl (S.Gs _ (Po hy))
 ·exact Nat.le_of_lt (x.above y c (Po h))
 ·have hi:i < vs.length:=by
   unfold start at h2;by_cases hi:i < vs.length
   ·exact hi
   ·rw [NX (by simpa using hi)] at h2;rw [List.getElem?_replicate] at h2;split at h2 <;> cases h2
  have ha:vs[i]?=some v:=by
   unfold start at h2;rw [N1 (by simpa using hi),Oj] at h2;cases e:vs[i]? with
   | none=>rw [e] at h2;cases h2
   | some a=>rw [e] at h2;cases h2;rfl
  obtain ⟨u,hu,rv⟩:=r.get ha;have hp:ps[i]?=some y:=by
   rw [<- S.pre,P6 (by omega)];exact h1
  have ndP:ps.Nodup:=by rw [<- S.pre];exact S.nd.sublist (List.take_sublist _ _)
  refine ⟨u,rv,?_⟩;rcases S.par y (Ov hp) with k | k
  ·exact .inl ⟨k,oz ndP hp hu k⟩
  ·obtain ⟨c,e⟩:=qI (n:=s.heap.objs.size+1) k;refine .inr ⟨.inl k,c,e,?_⟩;have q:=x.cell y c e;rw [nq ndP hp hu (by show scope.names.lookup y≠_;rw [k];decide)] at q;exact q
 ·exact e0.hok.fresh (Nat.le_of_lt (x.above y c (Po h)))
 ·unfold start;show _=N.length;rw [NS,NT,Pg];omega
theorem FH {CX:CXT} {P:Program} {w:World} {K:Fg} {mg:Str->Option Qj} {base:Heap} {k:Nat} {f:Qz} {name qual:Str} {params:Arguments} {body:List Stmt} {scope:Scope} {dV kV doc pm cdv ct oc:Qj} {an od:Option Qz}
  {osl:Array (Option Qj)} {N ps:List Str} {sp:Sp} (lk:K.lookup f=some ⟨oc,od,.func (PySem.W.fnOf name qual params body scope dV kV doc pm an cdv ct),osl⟩) (hcd:PySem.W.codeIn K cdv qual=true) (S:bZ N ps scope)
  (len:∀ vs H Q E,sp vs H Q E->vs.length=ps.length)
  (hbody:∀ (A:Around) (outer:List Env) (s:Qx) (H:Hp) (vs:List V) (Q:VK) (E:XK),dh k (A.deeper (envOfC qual scope s.heap.objs.size f cdv))->sp vs H Q E ->
   ∃ t,PSs (tN CX P w K mg base N qual scope f cdv A outer s H E) body t/\t { nx:=fun _ H'=>Q .non H',rt:=Q } (start N vs) H) :
  de P w K mg base CX (k+1) f (PySem.W.fnOf name qual params body scope dV kV doc pm an cdv ct) ps sp:=by
 refine ⟨len,fun A outer s H args us vs Q E hr e0 hb r hsp=>?_⟩;have hl:=len _ _ _ _ hsp;have KX:K.In s.heap:=e0.mod.kin.keeps fun b o e=>(e0.bs b o e).1;have lim:s.heap.NoLimit:=e0.mod.nolimit.keeps fun b o e=>(e0.bs b o e).1;have hkind:∀ y∈ps.zip us,scope.names.lookup y.1=some .local\/(scope.names.lookup y.1=some .cell/\((cellsFrom (s.heap.objs.size+1) scope.names []).lookup y.1).isSome=true):=fun ⟨n,v⟩ hy=>by
  rcases S.par n (List.of_mem_zip hy).1 with q | q
  ·exact .inl q
  ·exact .inr ⟨q,PySem.W.cellsFrom_some _ _ _ (.inl q)⟩
 refine codeAny_call_function hr.depth (KX _ _ lk) rfl S.co S.gen rfl (PySem.W.codeRec_of KX hcd) (hb _ _ _ _ ?_);refine wpAny_newFunctionEnv_cells S.kind hkind fun env he s1 x=>?_;subst he;refine ⟨lim.keeps x.toInCall.keep,codeAny_func ?_⟩;obtain ⟨t,ht,hq⟩:=hbody A outer s H vs Q E (hr.deeper _) hsp;have I:Inv (tN CX P w K mg base N qual scope f cdv A outer s H E) [] (start N vs) H s1:=xg S hr.hd e0 hl r x;refine OF (ht [] s1 (start N vs) H _ I hq) (fun fl s' hs=>?_) fun e s' hs=>hs;have fin:∀ {Z':St} {H':Hp} {v:V} {u:Qj},Inv (tN CX P w K mg base N qual scope f cdv A outer s H E) [] Z' H' s'->RelV v u->Q v H'->CE outer P w H s Q u s' :=
  fun {Z' H' v u} J rv q=>⟨v,H',J.os,J.bare,J.base,J.hok,rv,q⟩
 cases fl with
 | ret u =>
  obtain ⟨v,Z',H',J,rv,q⟩:=hs;exact fin J rv q
 | next =>
  obtain ⟨Z',H',J,q⟩:=hs;exact fin (v:=V.non) (u:=Value.none) J rfl q
 | brk =>
  obtain ⟨_,_,_,q⟩:=hs;exact False.elim q
 | cont =>
  obtain ⟨_,_,_,q⟩:=hs;exact False.elim q
section
variable {X:Cx} {x:Str} {p pos:Pos} {e:Expr} {es:List Expr} {t:TA} {id T:String} {r:List V->Hp->VK->Prop}
def tCB (r:List V->Hp->VK->Prop) (t:TA):TE:=fun Z H Q=>t Z H fun vs H1=>r vs H1 Q
theorem AY (hc:bu X (.builtin id) r) (hg:Gl X x) (hm:X.mg x=none) (hv:bootBuiltins x=some (.builtin id)) (ha:PA X (e :: es) t) (hn:x ≠ "__name__" := by decide) (hdb:(x==("__debug__" : Str))=false:=by decide)
  (he:starEach (e :: es) X.env=(false,eval e X.env) :: starEach es X.env:=by rfl) (hpl:(backTo pos (starEach es X.env)).any (·.1)=false:=by rfl):PE X (.Call (.Name x p) (e :: es) [] pos) (tCB r t):=by
 intro pins s Z H Q I h;refine Pw (qA I hg hm hv ?_ hn hdb);exact PyProof.Rows.callWith_builtin1 (thn (ha pos pins s Z H _ I h) fun us s1 ⟨vs,H1,I1,r1,q1⟩=>hc pins s1 Z H1 vs us Q I1 r1 q1) he hpl
theorem x4 (hc:bu X (.type T) r) (hg:Gl X x) (hm:X.mg x=none) (hv:bootBuiltins x=some (.type T)) (ha:PA X (e :: es) t) (hn:x ≠ "__name__" := by decide) (hdb:(x==("__debug__" : Str))=false:=by decide)
  (he:starEach (e :: es) X.env=(false,eval e X.env) :: starEach es X.env:=by rfl) (hpl:(backTo pos (starEach es X.env)).any (·.1)=false:=by rfl):PE X (.Call (.Name x p) (e :: es) [] pos) (tCB r t):=by
 intro pins s Z H Q I h;refine Pw (qA I hg hm hv ?_ hn hdb);exact PyProof.Rows.callWith_type1 (thn (ha pos pins s Z H _ I h) fun us s1 ⟨vs,H1,I1,r1,q1⟩=>hc pins s1 Z H1 vs us Q I1 r1 q1) he hpl
end
end L2
namespace HT
open PySem PyProof.Rows
section
variable {prog:Program} {w:World} {A:Around} {E:Qj->Qx->Prop} {s:Qx}
theorem DO {t b:Qz} {vs ws:List Qj} {Q:Qj->Qx->Prop} (ht:IsTup s.heap t vs.toArray) (hb:IsTup s.heap b ws.toArray) (hv:vs≠[])
  (h1:ws=[]->Q (.ref t) s) (h2:ws≠[]->Q (.ref s.heap.objs.size) { s with heap:=s.heap.push { cls:=.type "tuple", data:=.seq (vs++ws).toArray } })
  (hsz:vs.length+ws.length<=sizeLine):wpAny (model prog w) A (binaryOp .Add (.ref t) (.ref b)) Q E s:=by
 obtain ⟨⟨cls,dd,data,sl⟩,ho,hc,n,hd⟩:=id ht;obtain ⟨⟨cls2,dd2,data2,sl2⟩,ho2,hc2,n2,hd2⟩:=id hb;simp only at hc hd hc2 hd2;subst hc hd hc2 hd2;have e:vs.toArray++ws.toArray=(vs++ws).toArray:=by simp
 by_cases hw:ws=[]
 ·exact concat_meets ⟨_,ho,rfl⟩ ⟨_,ho2,rfl⟩ noFill_tuple_add seq_tuple_add PySem.F.slot_tuple_add PySem.F.entry_tuple_add (PySem.F.args_tuple_add_2 _ _)
   (tuple_addW1 t b vs.toArray ws.toArray n n2 dd dd2 sl sl2 (by simpa using hv) (by simp [hw])) ⟨ho,ho2,h1 hw⟩
 ·refine concat_meets ⟨_,ho,rfl⟩ ⟨_,ho2,rfl⟩ noFill_tuple_add seq_tuple_add PySem.F.slot_tuple_add PySem.F.entry_tuple_add (PySem.F.args_tuple_add_2 _ _)
   (tuple_addW2 t b vs.toArray ws.toArray n n2 dd dd2 sl sl2 (by simpa using hv) (by simpa using hw) (by rw [Of,Of];exact hsz)) ⟨ho,ho2,?_⟩
  rw [e];exact h2 hw
noncomputable def sIx (n d:Nat):Option Int->Nat
 | none=>d
 | some v=>if v < 0 then (v+(n:Int)).toNat else min v.toNat n
theorem qL (n d:Nat) (hd:d<=n) (o:Option Int):sIx n d o<=n:=by
 cases o with
 | none=>exact hd
 | some v =>
  show (if v < 0 then (v+(n:Int)).toNat else min v.toNat n)<=n;by_cases hv:v < 0
  ·rw [N4 hv];omega
  ·rw [Od hv];exact Nat.min_le_right _ _
theorem yD (v:Int) (n d:Nat):(if v < 0 then max (v+(n:Int)) 0 else min v (n:Int))=((sIx n d (some v):Nat):Int):=by
 show (if v < 0 then max (v+(n:Int)) 0 else min v (n:Int))=(((if v < 0 then (v+(n:Int)).toNat else min v.toNat n):Nat):Int);by_cases hv:v < 0
 ·simp only [N4 hv];omega
 ·simp only [Od hv];omega
theorem tw (lo hi:Option Int) (n:Nat):Builtin.Slice.sliceAdjust lo hi 1 (n:Int)=(((sIx n 0 lo:Nat):Int),((sIx n n hi:Nat):Int)):=by
 have h1:¬((1:Int) < 0):=by omega
 unfold Builtin.Slice.sliceAdjust;simp only [h1,if_false];refine Prod.ext ?_ ?_
 ·cases lo with
  | none=>rfl
  | some v=>exact yD v n 0
 ·cases hi with
  | none=>rfl
  | some v=>exact yD v n n
theorem tT (i j:Nat):Builtin.Slice.slicePlaces (i:Int) (j:Int) 1=j - i:=by
 unfold Builtin.Slice.slicePlaces;have h1:(1:Int) > 0:=by omega
 simp only [h1,PQ,Int.ediv_one];split <;> omega
theorem kD {v:Qj} {o:Option Int} {Q:Option Int->Qx->Prop} (p:IsPart v o) (h:Q o s):wpAny (model prog w) A (Builtin.Slice.slicePartIndex v) Q E s:=by
 cases p with
 | none=>exact slicePart_none h
 | int i t=>exact slicePart_int h
theorem i6 {sl:Qz} {vl vu:Qj} {lo hi:Option Int} {n:Nat} {Q:Int×Int×Nat->Qx->Prop} (hs:s.heap.IsSliceOf sl vl vu .none) (pl:IsPart vl lo) (pu:IsPart vu hi)
  (h:Q (((sIx n 0 lo:Nat):Int),1,sIx n n hi - sIx n 0 lo) s):wpAny (model prog w) A (Builtin.Slice.sliceApplied (.ref sl) (pure (n:Int))) Q E s:=by
 obtain ⟨os,hos,hcs,hds⟩:=id hs;unfold Builtin.Slice.sliceApplied Builtin.Slice.sliceFields;refine N3 (N3 (P4 hos hds (x:=vl) rfl (N3 (P4 hos hds (x:=vu) rfl (N3 (P4 hos hds (x:=.none) rfl (Om ?_)))))));refine N3 (slicePart_none ?_);show wpAny _ _ (if ((1:Int)==0)=true then _ else _) _ _ s;rw [Od (by decide)];refine N3 (kD pl (N3 (kD pu (N3 (Om ?_)))));show wpAny _ _ (match Builtin.Slice.sliceAdjust lo hi 1 (n:Int) with | (lo,hi)=>pure (lo,(1:Int),Builtin.Slice.slicePlaces lo hi 1)) _ _ s;rw [tw lo hi n];show wpAny _ _ (pure (((sIx n 0 lo:Nat):Int),(1:Int),Builtin.Slice.slicePlaces ((sIx n 0 lo:Nat):Int) ((sIx n n hi:Nat):Int) 1)) _ _ s;rw [tT];exact Om h
theorem zT (xs:Array Qj) (i k:Nat):((List.range k).filterMap fun (m:Nat)=>xs[((i:Int)+(m:Int)*1).toNat]?).toArray=((xs.toList.drop i).take k).toArray:=by
 have e:(fun (m:Nat)=>xs[((i:Int)+(m:Int)*1).toNat]?)=fun m=>xs[i+m]?:=by
  funext m;have:((i:Int)+(m:Int)*1).toNat=i+m:=by omega
  rw [this]
 rw [e];have:=pick_run xs i k;rw [List.filterMap_map] at this;have e2:((fun x=>xs[x]?)∘fun x=>i+x)=fun m=>xs[i+m]?:=rfl;rw [e2] at this;rw [this]
theorem iq {t sl:Qz} {items:Array Qj} {vl vu:Qj} {lo hi:Option Int} {Q:Qj->Qx->Prop} (ht:IsTup s.heap t items) (hs:s.heap.IsSliceOf sl vl vu .none) (pl:IsPart vl lo) (pu:IsPart vu hi)
  (hw:¬(sIx items.size 0 lo=0/\sIx items.size items.size hi=items.size))
  (h:Q (.ref s.heap.objs.size) { s with heap:=s.heap.push { cls:=.type "tuple", data:=.seq ((items.toList.drop (sIx items.size 0 lo)).take (sIx items.size items.size hi - sIx items.size 0 lo)).toArray } })
  (hsz:items.size<=sizeLine):wpAny (model prog w) A (getItem (.ref t) (.ref sl)) Q E s:=by
 have htake:sizeOk (.seq ((items.toList.drop (sIx items.size 0 lo)).take (sIx items.size items.size hi - sIx items.size 0 lo)).toArray):=by
  show ((items.toList.drop (sIx items.size 0 lo)).take (sIx items.size items.size hi - sIx items.size 0 lo)).toArray.size<=sizeLine;rw [Of,OB,OR,Array.length_toList];omega
 have hj:sIx items.size items.size hi<=items.size:=qL _ _ (Oc _) hi;obtain ⟨os,hos,hcs,hds⟩:=id hs;have hTs:s.TypeIs (.ref sl) "slice" := ⟨os,hos,hcs⟩;unfold getItem;try with_reducible refine wpAny_holding ?_
 first | refine N3 (Om ?_) | skip
 refine N3 (wpAny_sequenceKey ht.typeIs (by decide) ?_)
 refine N3 (wpAny_callSpecial?_slot (name:=Str.ofString "__getitem__") ht.typeIs PyProof.Rows.slot_tuple_getitem
  (wpAny_call_entry PyProof.Rows.slot_tuple_getitem ht.typeIs entry_tuple_getitem ?_ (args_tuple_getitem _ _)))
 show wpAny _ _ (Builtin.Tuple.tupleItemsOf (.ref t)>>=_) _ _ s;refine N3 (tupleItemsOf_ ht ?_);refine N3 (wpAny_typeOf hTs ?_);rw [N4 (by decide)];refine N3 (i6 hs pl pu ?_);have hno:¬((((sIx items.size 0 lo:Nat):Int)==0&&(1:Int)==1&&(sIx items.size items.size hi - sIx items.size 0 lo)==items.size)=true):=by
  intro q;rw [Ot,Ot] at q;have q1:((sIx items.size 0 lo:Nat):Int)=0:=eq_of_beq q.1.1;have q2:sIx items.size items.size hi - sIx items.size 0 lo=items.size:=eq_of_beq q.2;exact hw ⟨by omega,by omega⟩
 show wpAny _ _ (if (((sIx items.size 0 lo:Nat):Int)==0&&(1:Int)==1&&(sIx items.size items.size hi - sIx items.size 0 lo)==items.size)=true then _ else _) _ _ s;rw [Od hno,zT];first
  | exact N3 (m:=Builtin.Tuple.tupleExact _) (Px (Om ⟨_,rfl,Om h⟩) htake)
  | exact N3 (m:=Builtin.Tuple.tupleExact _) (Px (N3 (Om (Om ⟨_,rfl,Om h⟩))) htake)
  | exact N3 (N3 (m:=Builtin.Tuple.tupleExact _) (Px (Om (Om ⟨_,rfl,Om h⟩)) htake))
  | exact N3 (N3 (m:=Builtin.Tuple.tupleExact _) (Px (Om ⟨_,rfl,Om h⟩) htake))
end
end HT
namespace L2
open PySem PySem.Spec PyProof.Rows
abbrev TO:=St->Hp->(Option Int->Hp->Prop)->Prop
def PO (X:Cx) (e:Option Expr) (t:TO):Prop :=
 ∀ (pins:List (Qz×Obj)) (s:Qx) (Z:St) (H:Hp) (Q:Option Int->Hp->Prop),Inv X pins Z H s->t Z H Q ->
  wpAny (model X.prog X.w) X.A (evalPart e X.env) (fun u s'=>∃ o H',Inv X pins Z H' s'/\IsPart u o/\Q o H') X.xe s
def yS:TO:=fun _ H Q=>Q none H
def Gg (t:TE):TO:=fun Z H Q=>t Z H fun x H1=>∃ i,x=.int i/\Q (some i) H1
section
variable {X:Cx} {e:Expr} {te:TE} {lo hi:Option Expr} {tl th:TO} {pos p2:Pos}
theorem C6:PO X none yS:=by
 intro pins s Z H Q I h;rw [evalPart_none];exact Om ⟨none,H,I,.none,h⟩
theorem Co (h:PE X e te):PO X (some e) (Gg te):=by
 intro pins s Z H Q I hw;rw [evalPart_some];refine thn (h pins s Z H _ I hw) fun u s1 ⟨x,H1,I1,r1,q1⟩=>?_;obtain ⟨i,rfl,q⟩:=q1;obtain ⟨t,rfl⟩:=r1;exact ⟨some i,H1,I1,.int i t,q⟩
def SlR (X:Cx) (r:V->Option Int->Option Int->Hp->VK->Prop):Prop :=
 ∀ (pins:List (Qz×Obj)) (s:Qx) (Z:St) (H:Hp) (x:V) (v vl vu:Qj) (lo hi:Option Int) (sl:Qz) (Q:VK),Inv X pins Z H s->RelV x v->s.heap.IsSliceOf sl vl vu .none->IsPart vl lo->IsPart vu hi->r x lo hi H Q ->
  ∃ T id,typeLookup (.type T) "__getitem__" = pure (some (.builtin id))/\s.TypeIs v T/\wpAny (model X.prog X.w) X.A (getItem v (.ref sl)) (EP X pins Z Q) X.xe s
theorem SlR.or {r r':V->Option Int->Option Int->Hp->VK->Prop} (h:SlR X r) (h':SlR X r'):SlR X (fun x lo hi H Q=>r x lo hi H Q\/r' x lo hi H Q):=by
 intro pins s Z H x v vl vu lo hi sl Q I rx hs pl pu q;rcases q with q | q
 ·exact h pins s Z H x v vl vu lo hi sl Q I rx hs pl pu q
 ·exact h' pins s Z H x v vl vu lo hi sl Q I rx hs pl pu q
def tSl (r:V->Option Int->Option Int->Hp->VK->Prop) (te:TE) (tl th:TO):TE:=fun Z H Q=>te Z H fun x H1=>tl Z H1 fun l H2=>th Z H2 fun u H3=>r x l u H3 Q
theorem zU {r:V->Option Int->Option Int->Hp->VK->Prop} (hr:SlR X r) (he:PE X e te) (hl:PO X lo tl) (hu:PO X hi th):PE X (.Subscript e (.Slice lo hi none p2) pos) (tSl r te tl th):=by
 intro pins s Z H Q I h;refine Subscript_ (thn (he pins s Z H _ I h) fun v s1 ⟨x,H1,I1,r1,q1⟩=>?_);refine wpAny_Slice (thn (hl pins s1 Z H1 _ I1 q1) fun vl s2 ⟨l,H2,I2,pl,q2⟩=>thn (hu pins s2 Z H2 _ I2 q2) fun vu s3 ⟨u,H3,I3,pu,q3⟩=>?_);rw [evalPart_none];refine Om ?_;have I4:Inv X pins Z H3 { s3 with heap:=s3.heap.push { cls:=.type "slice", data:=.fields #[vl,vu,.none] } }:=I3.kept (t':=s3.toks) fun b ob q=>N8 _ q;obtain ⟨T,id,hT,ht,hg⟩:=hr pins { s3 with heap:=s3.heap.push { cls:=.type "slice", data:=.fields #[vl,vu,.none] } } Z H3 x v vl vu l u s3.heap.objs.size Q I4 r1 (Heap.IsSliceOf.new ..) pl pu q3;show wpAny (model X.prog X.w) X.A (subscriptTail e (.Slice lo hi none p2) v (.ref s3.heap.objs.size)) (EP X pins Z Q) X.xe { s3 with heap:=s3.heap.push { cls:=.type "slice", data:=.fields #[vl,vu,.none] } };exact tail_any (ops:=[.ref s3.heap.objs.size,v]) ht hT hg (by with_unfolding_all rfl)
def yX (xs:List V) (lo hi:Option Int):List V:=(xs.drop (HT.sIx xs.length 0 lo)).take (HT.sIx xs.length xs.length hi - HT.sIx xs.length 0 lo)
theorem jA (xs:List V) (lo hi:Option Int):(yX xs lo hi).length<=xs.length:=by
 unfold yX;rw [OB,OR];omega
def L7 (K:Fg):V->Option Int->Option Int->Hp->VK->Prop:=fun x lo hi H Q=>∃ a xs,x=.ref a/\SqT K H a xs /\
 ¬(HT.sIx xs.length 0 lo=0/\HT.sIx xs.length xs.length hi=xs.length)/\∀ p,H p=none->Q (.ref p) (upd H p (.tup (yX xs lo hi)))
theorem dB:SlR X (L7 X.K):=by
 intro pins s Z H x v vl vu lo hi sl Q I rx hs pl pu h;obtain ⟨a,xs,rfl,hx,hw,q⟩:=h;cases rx;obtain ⟨its,r,ht,hz⟩:=I.tuple hx;have hlen:its.toArray.size=xs.length:=by rw [Of];exact r.length.symm
 refine ⟨"tuple", _,PyProof.Rows.slot_tuple_getitem.lookup,ht.typeIs,?_⟩;refine HT.iq ht hs pl pu (by rw [hlen];exact hw) ?_ (by rw [hlen];exact hz);rw [hlen];refine ⟨.ref s.heap.objs.size,_,I.laid (t':=s.toks) (o:=.tup (yX xs lo hi)) (fun b ob q=>N8 _ q) (Oc _) ?_,rfl,q _ (I.hok.fresh (Oc _))⟩;exact ⟨Oi (jA xs lo hi) hz,_,(r.drop (HT.sIx xs.length 0 lo)).take (HT.sIx xs.length xs.length hi - HT.sIx xs.length 0 lo),IsTup.new _ _⟩
def Ha (K:Fg):R2:=fun x y H Q=>∃ a b xs ys,x=.ref a/\y=.ref b/\SqT K H a xs/\SqT K H b ys/\xs≠[]/\xs.length+ys.length<=sizeLine /\
 (ys=[]->Q (.ref a) H)/\(ys≠[]->∀ p,H p=none->Q (.ref p) (upd H p (.tup (xs++ys))))
theorem Vals.pA {xs:List V} {us:List Qj} (r:Vals xs us):us=[]↔xs=[]:=by
 cases r with
 | nil=>simp
 | cons _ _=>simp
theorem CP:OpR X (binaryOp .Add) (Ha X.K):=by
 intro pins s Z H x y v u Q I rx ry h;obtain ⟨a,b,xs,ys,rfl,rfl,ha,hb,hx,hz,q1,q2⟩:=h;cases rx;cases ry;obtain ⟨its,r1,p1,_⟩:=I.tuple ha;obtain ⟨its2,r2,p2,_⟩:=I.tuple hb;refine HT.DO p1 p2 (fun z=>hx (r1.pA.mp z)) (fun z=>⟨.ref a,H,I,rfl,q1 (r2.pA.mp z)⟩) (fun z=>?_) (by rw [<- r1.length,<-r2.length];exact hz);refine ⟨.ref s.heap.objs.size,_,I.laid (t':=s.toks) (o:=.tup (xs++ys)) (fun b ob q=>N8 _ q) (Oc _) ?_,rfl,q2 (fun w=>z (r2.pA.mpr w)) _ (I.hok.fresh (Oc _))⟩;exact ⟨by rw [NS];exact hz,_,r1.append r2,IsTup.new _ _⟩
end
noncomputable def ixN (n:Nat) (i:Int):Option Nat:=if 0<=i then (if i < n then some i.toNat else none) else if -(n:Int)<=i then some (i+n).toNat else none
def atI {α:Type} (xs:List α) (i:Int):Option α:=(ixN xs.length i).bind fun j=>xs[j]?
theorem uM {n:Nat} {i:Int} {j:Nat} (h:ixN n i=some j):seqIndex? i n=some j/\j < n/\-(n:Int)<=i/\i < n:=by
 unfold ixN at h;by_cases h0:0<=i
 ·rw [N4 h0] at h;by_cases h1:i < n
  ·rw [N4 h1] at h;have e:i.toNat=j:=OK h;exact ⟨by rw [seqIndex_of h0 h1,e],by omega,by omega,h1⟩
  ·rw [Od h1] at h;cases h
 ·rw [Od h0] at h;by_cases h1:-(n:Int)<=i
  ·rw [N4 h1] at h;have e:(i+n).toNat=j:=OK h;exact ⟨by rw [seqIndex_neg (by omega) h1,e],by omega,h1,by omega⟩
  ·rw [Od h1] at h;cases h
theorem pR {α:Type} {xs:List α} {i:Int} {v:α} (h:atI xs i=some v):∃ j,seqIndex? i xs.length=some j/\xs[j]?=some v/\j < xs.length/\-(xs.length:Int)<=i/\i < xs.length:=by
 unfold atI at h;cases e:ixN xs.length i with
 | none=>rw [e] at h;cases h
 | some j =>
  rw [e] at h;obtain ⟨h1,h2,h3,h4⟩:=uM e;exact ⟨j,h1,h,h2,h3,h4⟩
theorem cz {α:Type} {xs:List α} {j:Nat} {v:α} (h:xs[j]?=some v):atI xs (j:Int)=some v:=by
 have hj:j < xs.length:=(NW.mp h).1;have e:ixN xs.length (j:Int)=some j:=by
  unfold ixN;rw [N4 (by omega),N4 (by omega)];simp
 unfold atI;rw [e];exact h
def o4 (b:Expr):Prop:=∀ o i,subscripted b false o i=operate [o,i] (getItem o i)
def IxR (X:Cx) (r:R2):Prop :=
 ∀ (value slice:Expr) (pins:List (Qz×Obj)) (s:Qx) (Z:St) (H:Hp) (x y:V) (v u:Qj) (Q:VK),Inv X pins Z H s->RelV x v->RelV y u->r x y H Q ->
  subscripted slice false v u=operate [v,u] (getItem v u)->wpAny (model X.prog X.w) X.A (subscriptTail value slice v u) (EP X pins Z Q) X.xe s
def MtR (X:Cx) (id:String) (r:V->List V->Hp->VK->Prop):Prop :=
 ∀ (pins:List (Qz×Obj)) (s:Qx) (Z:St) (H:Hp) (x:V) (xs:List V) (v:Qj) (us:List Qj) (Q:VK),Inv X pins Z H s->RelV x v->Vals xs us->r x xs H Q ->
  wpAny (model X.prog X.w) X.A (call (.builtin id) (v :: us)) (EP X pins Z Q) X.xe s
section
variable {X:Cx} {a b:Expr} {ta tb:TE} {pos:Pos}
theorem IxR.or {r r':R2} (h:IxR X r) (h':IxR X r'):IxR X (fun x y H Q=>r x y H Q\/r' x y H Q):=by
 intro value slice pins s Z H x y v u Q I rx ry q hs;rcases q with q | q
 ·exact h value slice pins s Z H x y v u Q I rx ry q hs
 ·exact h' value slice pins s Z H x y v u Q I rx ry q hs
theorem JQ {r:R2} (hr:IxR X r) (ha:PE X a ta) (hb:PE X b tb) (hs:o4 b):PE X (.Subscript a b pos) (tOp r ta tb):=by
 intro pins s Z H Q I h;exact Subscript_ (Kt ha hb I h fun v u s2 x y H2 I2 rx ry q=>hr a b pins s2 Z H2 x y v u Q I2 rx ry q (hs _ _))
def MF (K:Fg):R2:=fun x y H Q=>∃ p xs i v,x=.ref p/\y=.int i/\SqL K H p xs/\atI xs i=some v/\Q v H
def L5 (K:Fg):R2:=fun x y H Q=>∃ p xs i v,x=.ref p/\y=.int i/\SqT K H p xs/\atI xs i=some v/\Q v H
def L6:R2:=fun x y H Q=>∃ z i c,x=.str z/\y=.int i/\z.length<=sizeLine/\atI z.cps.toList i=some c/\Q (.str ⟨#[c]⟩) H
theorem C3:IxR X (MF X.K):=by
 intro value slice pins s Z H x y v u Q I rx ry h hs;obtain ⟨p,xs,i,z,rfl,rfl,hq,he,q⟩:=h;cases rx;obtain ⟨t,rfl⟩:=ry;obtain ⟨its,r,pl,hz⟩:=I.list hq;obtain ⟨j,h1,h2,h3,h4,h5⟩:=pR he;obtain ⟨w,ew,rw'⟩:=r.get h2;have hl:=r.length;have hn:=ku;have fin:EP X pins Z Q w s:=⟨z,H,I,rw',q⟩;by_cases h0:0<=i
 ·have hj:i.toNat=j:=by
   rw [seqIndex_of h0 h5] at h1;exact OK h1
  exact item_listR pl.isList h0 (by omega) (by rw [hj];simpa using ew) fin hs
 ·have hj:(i+(its.toArray.size:Int)).toNat=j:=by
   rw [seqIndex_neg (by omega) h4] at h1;rw [Of,<-hl];exact OK h1
  exact subscriptTail_builtinR (x:=w) pl.isList.typeIs slot_list_getitem.lookup
   (wpAny_getItem_list_neg (Q:=fun r s'=>r=w/\EP X pins Z Q r s') pl.isList (by omega) (by rw [Of] <;> omega) (by omega) (by rw [hj];simpa using ew) ⟨rfl,fin⟩) hs
theorem HG:IxR X (L5 X.K):=by
 intro value slice pins s Z H x y v u Q I rx ry h hs;obtain ⟨p,xs,i,z,rfl,rfl,hq,he,q⟩:=h;cases rx;obtain ⟨t,rfl⟩:=ry;obtain ⟨its,r,pl,hz⟩:=I.tuple hq;obtain ⟨j,h1,h2,h3,h4,h5⟩:=pR he;obtain ⟨w,ew,rw'⟩:=r.get h2;have hl:=r.length;have hn:=ku;have fin:EP X pins Z Q w s:=⟨z,H,I,rw',q⟩;exact subscriptTail_builtinR (x:=w) pl.typeIs slot_tuple_getitem.lookup
  (getItem_tuple (j:=j) (Q:=fun r s'=>r=w/\EP X pins Z Q r s') pl (by omega) (by omega) (by rw [Of,<-hl];exact h1) (by simpa using ew) ⟨rfl,fin⟩) hs
theorem Hb:IxR X L6:=by
 intro value slice pins s Z H x y v u Q I rx ry h hs;obtain ⟨z,i,c,rfl,rfl,hz,he,q⟩:=h;obtain ⟨t,rfl⟩:=rx;obtain ⟨t',rfl⟩:=ry;obtain ⟨j,h1,h2,h3,h4,h5⟩:=pR he;have hl:z.cps.toList.length=z.length:=by simp [Str.length]
 rw [hl] at h1 h4 h5;have hn:=ku
 exact tail_any (typeIs_str s z t) slot_str_getitem.lookup (getItem_str (c:=c) (by
  have e1:decide (i < -(2 ^ 63:Int))=false:=N6 (by omega);have e2:decide (i>=2 ^ 63)=false:=N6 (by omega)
  rw [e1,e2,Bool.or_false]) (by rw [h1];simpa using h2) ⟨.str ⟨#[c]⟩,H,I.tok _,⟨_,rfl⟩,q⟩) hs
def rIx (K:Fg):R2:=fun x y H Q=>MF K x y H Q\/L5 K x y H Q\/L6 x y H Q
theorem Hu:IxR X (rIx X.K):=C3.or (HG.or Hb)
theorem tD (its:List Qj) (n j:Nat) (u:Qj):Obj.mapSeq (·.setIfInBounds j u) { cls:=.type "list", data:=.seq its.toArray n }={ cls:=.type "list", data:=.seq (its.set j u).toArray n }:=by
 simp [Obj.mapSeq]
theorem Inv.lst {pins:List (Qz×Obj)} {Z:St} {H:Hp} {s:Qx} {p:Qz} {xs:List V} (I:Inv X pins Z H s) (h:H p=some (.lst xs)) :
  ∃ (its:List Qj) (n:Nat),Vals xs its/\s.heap.get? p=some { cls:=.type "list", data:=.seq its.toArray n }/\xs.length<=sizeLine:=by
 obtain ⟨z,its,n,r,e⟩:=I.hok p _ h;exact ⟨its,n,r,e,z⟩
theorem Inv.Gh {pins:List (Qz×Obj)} {Z:St} {H:Hp} {s:Qx} {p:Qz} {xs ys:List V} {its its':List Qj} {n n':Nat} {f:Obj->Obj} (I:Inv X pins Z H s) (h:H p=some (.lst xs))
  (ho:s.heap.get? p=some { cls:=.type "list", data:=.seq its.toArray n }) (hf:f { cls:=.type "list", data:=.seq its.toArray n }={ cls:=.type "list", data:=.seq its'.toArray n' }) (r:Vals ys its') (hz:ys.length<=sizeLine) (t:Nat) :
  Inv X pins Z (upd H p (.lst ys)) { s with heap:=s.heap.update p f,toks:=t }:=by
 have e:(s.heap.update p f).get? p=some { cls:=.type "list", data:=.seq its'.toArray n' }:=by
  rw [PH f ho (by rw [hf] <;> rfl),hf]
 refine I.write (x:=p) (e:=p) (by rw [h];trivial) (.inl rfl) (fun b u hb q=>(OT _ _ (Ne.symm hb)).trans q) ⟨_,e⟩ ?_;exact ⟨hz,its',n',r,e⟩
def Fb:V->V->V->Hp->(Hp->Prop)->Prop:=fun o i v H Q=>∃ p xs k j,o=.ref p/\i=.int k/\H p=some (.lst xs)/\ixN xs.length k=some j/\Q (upd H p (.lst (xs.set j v)))
theorem set_list:JM X Fb:=by
 intro pins s Z H o i v ov iv u Q I ro ri rv h;obtain ⟨p,xs,k,j,rfl,rfl,hp,hj,q⟩:=h;cases ro;obtain ⟨t,rfl⟩:=ri;obtain ⟨its,n,r,ho,hz⟩:=I.lst hp;obtain ⟨h1,h2,h3,h4⟩:=uM hj;have hl:=r.length;have hn:=ku;have I':Inv X pins Z (upd H p (.lst (xs.set j v))) { s with heap:=s.heap.update p (Obj.mapSeq (·.setIfInBounds j u)) } :=
  I.Gh hp ho (tD its n j u) (r.set rv j) (by rw [Oq];exact hz) s.toks
 by_cases h0:0<=k
 ·have hk:k.toNat=j:=by
   rw [seqIndex_of h0 h4] at h1;exact OK h1
  exact PySem.W.ki_setAt ho h0 (by omega) (by rw [Of,<-hl];exact h4) (by rw [hk];exact ⟨_,I',q⟩)
 ·have hk:(k+(its.toArray.size:Int)).toNat=j:=by
   rw [seqIndex_neg (by omega) h3] at h1;rw [Of,<-hl];exact OK h1
  exact PySem.W.ki_setBack ho (by omega) (by rw [Of,<-hl];exact h3) (by omega) (by rw [hk];exact ⟨_,I',q⟩)
theorem ow (lo hi:Option Int) (n:Nat):(sliceBounds lo hi none n).1=((HT.sIx n 0 lo:Nat):Int)/\(sliceBounds lo hi none n).2.1=((HT.sIx n n hi:Nat):Int)/\(sliceBounds lo hi none n).2.2=1:=by
 refine ⟨?_,?_,rfl⟩
 ·cases lo with
  | none=>simp [sliceBounds,HT.sIx]
  | some i =>
   simp only [sliceBounds,HT.sIx,Option.getD_none,show (1:Int) > 0 by decide,PQ];by_cases h:i < 0
   ·simp only [h,PQ] <;> omega
   ·simp only [h,if_false] <;> omega
 ·cases hi with
  | none=>simp [sliceBounds,HT.sIx]
  | some i =>
   simp only [sliceBounds,HT.sIx,Option.getD_none,show (1:Int) > 0 by decide,PQ];by_cases h:i < 0
   ·simp only [h,PQ] <;> omega
   ·simp only [h,if_false] <;> omega
theorem lr (its:List Qj) (lo hi:Option Int):slicePick its.toArray lo hi none=((its.drop (HT.sIx its.length 0 lo)).take (HT.sIx its.length its.length hi - HT.sIx its.length 0 lo)).toArray:=by
 obtain ⟨h1,h2,h3⟩:=ow lo hi its.toArray.size;unfold slicePick;rw [h1,h2,h3];simp only [sliceRange_one,pick_run,Of] <;> rfl
def Mo (K:Fg):V->Option Int->Option Int->Hp->VK->Prop:=fun x lo hi H Q=>∃ a xs,x=.ref a/\SqL K H a xs/\∀ p,H p=none->Q (.ref p) (upd H p (.lst (yX xs lo hi)))
theorem cf:SlR X (Mo X.K):=by
 intro pins s Z H x v vl vu lo hi sl Q I rx hs pl pu h;obtain ⟨a,xs,rfl,hx,q⟩:=h;cases rx;obtain ⟨its,r,ht,hz⟩:=I.list hx;have hlen:=r.length;refine ⟨"list", _,slot_list_getitem.lookup,ht.isList.typeIs,?_⟩;refine wpAny_getItem_list_slice ht.isList hs pl pu .none (by simp) ?_ (by rw [Of] <;> omega);rw [lr,<-hlen];refine ⟨.ref s.heap.objs.size,_,I.laid (t':=s.toks) (o:=.lst (yX xs lo hi)) (fun b ob q=>N8 _ q) (Oc _) ?_,rfl,q _ (I.hok.fresh (Oc _))⟩;exact ⟨Oi (jA xs lo hi) hz,_,0,(r.drop (HT.sIx xs.length 0 lo)).take (HT.sIx xs.length xs.length hi - HT.sIx xs.length 0 lo),OA _ rfl⟩
theorem oB:OpR X (compareOp .NotIn) (fun x y H Q=>∃ i j,x=.str i/\y=.str j/\Q (.bl (!(!(Builtin.Str.occurrences j i 0 j.length 1).isEmpty))) H):=by
 intro pins s Z H x y v u Q I rx ry h;obtain ⟨i,j,rfl,rfl,q⟩:=h;obtain ⟨t,rfl⟩:=rx;obtain ⟨t',rfl⟩:=ry;exact notIn_str ⟨.bl _,H,I,rfl,q⟩
theorem mf:bu X (.type "tuple") (fun xs H Q=>∃ p ys,xs=[.ref p]/\((SqL X.K H p ys/\∀ l,H l=none->Q (.ref l) (upd H l (.tup ys)))\/(SqT X.K H p ys/\Q (.ref p) H))):=by
 intro pins s Z H xs us Q I r h;obtain ⟨p,ys,rfl,h⟩:=h;obtain ⟨u,rfl,rx⟩:=vals1 r;cases rx;rcases h with ⟨hq,q⟩ | ⟨hq,q⟩
 ·obtain ⟨its,r',pl,hz⟩:=I.list hq;have hlen:=r'.length;refine call_tuple_list pl.isList (fun h' kp=>?_) (by simp only [Of] <;> omega);have I1:Inv X pins Z H { s with heap:=h' }:=I.kept (t':=s.toks) kp;have I2:Inv X pins Z (upd H h'.objs.size (.tup ys)) { s with heap:=h'.push { cls:=.type "tuple", data:=.seq its.toArray } } :=
   I1.laid (t':=s.toks) (fun b o e=>N8 _ e) (Oc _) (show cP X.prog X.w _ _ _ (.tup ys) from ⟨hz,its,r',IsTup.new _ _⟩)
  exact ⟨.ref h'.objs.size,_,I2,rfl,q _ (I1.hok.fresh (Oc _))⟩
 ·obtain ⟨its,r',pl,hz⟩:=I.tuple hq;exact call_tuple_same pl ⟨.ref p,H,I,rfl,q⟩
def tyV (K:Fg) (T:String) (x:V) (H:Hp):Prop:=match x with
 | .str _=>T = "str"
 | .int _=>T = "int"
 | .ref p=>(T = "list" /\ ∃ xs,SqL K H p xs)\/(T = "tuple" /\ ∃ o,K.lookup p=some o/\o.cls=.type "tuple" /\ o.dict=none) \/
   (T = "dict" /\ ((∃ kvs,H p=some (.dK kvs))\/(∃ kvs,H p=some (.dT kvs))\/∃ ep xs,H p=some (.dD ep xs)))\/(T = "set" /\ ∃ S n,H p=some (.set S n))
 | _=>False
theorem Hm {pins:List (Qz×Obj)} {Z:St} {H:Hp} {s:Qx} {T:String} {x:V} {v:Qj} (I:Inv X pins Z H s) (r:RelV x v) (ty:tyV X.K T x H) :
  s.TypeIs v T/\∀ a,v=.ref a->∃ ob,s.heap.get? a=some ob/\ob.dict=none:=by
 cases x with
 | str z =>
  obtain ⟨t,rfl⟩:=r;cases (show T = "str" from ty);exact ⟨typeIs_str s z t,fun _ e=>nomatch e⟩
 | int i =>
  obtain ⟨t,rfl⟩:=r;cases (show T = "int" from ty);exact ⟨typeIs_int s i t,fun _ e=>nomatch e⟩
 | ref p =>
  cases r;rcases ty with ⟨rfl,xs,hq⟩ | ⟨rfl,o,hk,hc,hd⟩ | ⟨rfl,hk⟩ | ⟨rfl,S,n,hk⟩
  ·obtain ⟨its,_,pl,_⟩:=I.list hq;refine ⟨pl.isList.typeIs,fun a e=>?_⟩;cases e;obtain ⟨o,n,e,c,hd,_⟩:=pl;exact ⟨o,e,hd⟩
  ·refine ⟨⟨o,I.kIn p o hk,hc⟩,fun a e=>?_⟩;cases e;exact ⟨o,I.kIn _ o hk,hd⟩
  ·have z:∃ o,s.heap.get? p=some o/\o.ExactDict:=by
    rcases hk with ⟨kvs,hk⟩ | ⟨kvs,hk⟩ | ⟨ep,xs,hk⟩
    ·obtain ⟨_,_,_,_,o,_,_,e,ex,_⟩:=I.hok p _ hk;exact ⟨o,e,ex⟩
    ·obtain ⟨_,_,_,_,o,_,_,e,ex,_⟩:=I.hok p _ hk;exact ⟨o,e,ex⟩
    ·obtain ⟨_,_,_,o,_,e,ex,_⟩:=I.hok p _ hk;exact ⟨o,e,ex⟩
   obtain ⟨o,e,ex⟩:=z;refine ⟨⟨o,e,ex.1⟩,fun a e2=>?_⟩;cases e2;exact ⟨o,e,ex.2.1⟩
  ·obtain ⟨o,_,_,_,e,ex,_⟩:=I.hok p _ hk;refine ⟨⟨o,e,ex.1⟩,fun a e2=>?_⟩;cases e2;exact ⟨o,e,ex.2.1⟩
 | _=>exact False.elim ty
def tBM (K:Fg) (T:String) (r:V->List V->Hp->VK->Prop) (to:TE) (t:TA):TE:=fun Z H Q=>to Z H fun x H1=>tyV K T x H1/\t Z H1 fun xs H2=>r x xs H2 Q
variable {o e:Expr} {es:List Expr} {to:TE} {t:TA} {name:Str} {apos cpos:Pos} {T id:String} {r:V->List V->Hp->VK->Prop}
theorem KN (pa:PlainAttrs T) (slot:Slot T name id) (hty:typeOf (.builtin id)=pure (.type "method_descriptor")) (hm:MtR X id r) (ho:PE X o to) (ha:PA X (e :: es) t)
  (hbase:attributeBase o name X.env (eval o X.env)=eval o X.env:=by rfl)
  (hfew:((backTo cpos (starEach (e :: es) X.env)).all (fun x=>!x.1)&&(backToKw cpos (keywordEach [] X.env)).all (fun x=>x.1.isSome)
   && decide ((e :: es).length+([]:List Keyword).length+(if ([]:List Keyword).isEmpty then 0 else 1) < 30))=true:=by rfl)
  (hline:(apos.endLine==cpos.line)=true:=by rfl) (hs:starEach (e :: es) X.env=(false,eval e X.env) :: starEach es X.env:=by rfl) (hplain:(backTo cpos (starEach es X.env)).any (·.1)=false:=by rfl) :
  PE X (.Call (.Attribute o name apos) (e :: es) [] cpos) (tBM X.K T r to t):=by
 intro pins s Z H Q I h;refine wpAny_Call_method_late hbase hfew hline rfl (thn (ho pins s Z H _ I h) fun v s1 ⟨x,H1,I1,r1,ty,q1⟩=>?_);obtain ⟨h1,h2⟩:=Hm I1 r1 ty;refine ⟨T,id,pa,slot,hty,h1,h2,?_⟩;have hA:=ha cpos pins s1 Z H1 _ I1 q1;rw [hs] at hA ⊢;refine Calls.callWith_builtin (by show (false||(backTo cpos (starEach es X.env)).any (·.1))=false;rw [hplain] <;> rfl) (Calls.evalArgs_plain ?_);exact thn hA fun us s2 ⟨vs,H2,I2,r2,q2⟩=>hm pins s2 Z H2 x vs v us Q I2 r1 r2 q2
end
def MtM (X:Cx) (id:String) (r:V->List V->Hp->VK->Prop):Prop :=
 ∀ (pins:List (Qz×Obj)) (s:Qx) (Z:St) (H:Hp) (x:V) (xs:List V) (v:Qj) (us:List Qj) (Q:VK),Inv X pins Z H s->RelV x v->Vals xs us->r x xs H Q ->
  wpAny (model X.prog X.w) X.A (call (.builtin id) (v :: us)) (EP X pins Z Q) X.xe s
theorem Vals.one:∀ {x:V} {us:List Qj},Vals [x] us->∃ u,us=[u]/\RelV x u
 | _,_,.cons r .nil=>⟨_,rfl,r⟩
section
variable {X:Cx} {pins:List (Qz×Obj)} {Z:St} {H:Hp} {s:Qx} {l b:Qz} {xs ys zs:List V}
theorem Inv.MA {its its':List Qj} {n:Nat} {f:Array Qj->Array Qj} {t':Nat} (I:Inv X pins Z H s) (hH:H l=some (.lst xs))
  (e:s.heap.get? l=some { cls:=.type "list", data:=.seq its.toArray n }) (hf:f its.toArray=its'.toArray) (hv:Vals ys its') (hz:ys.length<=sizeLine) :
  Inv X pins Z (upd H l (.lst ys)) { s with heap:=s.heap.update l (Obj.mapSeq f),toks:=t' }:=by
 have q:=PySem.IsL.update e f;rw [hf] at q;refine I.write (x:=l) (e:=l) (by rw [hH];exact trivial) (.inl rfl) (fun b' u hb hu=>(OT s.heap (Obj.mapSeq f) (Ne.symm hb)).trans hu) ⟨_,q⟩ ?_;exact ⟨hz,its',_,hv,q⟩
theorem Inv.MS {its:List Qj} {t':Nat} (I:Inv X pins Z H s) (hv:Vals ys its) (hz:ys.length<=sizeLine) :
  Inv X pins Z (upd H s.heap.objs.size (.lst ys)) { s with heap:=s.heap.push { cls:=.type "list", data:=.seq its.toArray },toks:=t' } :=
 I.laid (fun _ _ q=>N8 _ q) (Oc _) ⟨hz,its,0,hv,OA _ rfl⟩
theorem Inv.fresh (I:Inv X pins Z H s):H s.heap.objs.size=none:=I.hok.fresh (Oc _)
theorem Inv.Ma (I:Inv X pins Z H s) (hH:H l=some (.lst xs)):xs.length<=sizeLine/\∃ (its:List Qj) (n:Nat),Vals xs its/\xs.length=its.length/\s.heap.get? l=some { cls:=.type "list", data:=.seq its.toArray n }:=by
 obtain ⟨z,its,n,r,e⟩:=I.hok l _ hH;exact ⟨z,its,n,r,r.length,e⟩
theorem zK {n:Nat} (h:n<=sizeLine):Builtin.List.listTooLong n=false:=by
 unfold Builtin.List.listTooLong;exact N6 (by omega)
end
section
variable {X:Cx}
def vO:V->List V->Hp->VK->Prop:=fun x vs H Q=>∃ l xs y,x=.ref l/\vs=[y]/\H l=some (.lst xs)/\xs.length < sizeLine/\Q .non (upd H l (.lst (xs++[y])))
theorem bQ:MtM X "list.append" vO:=by
 intro pins s Z H x vs v us Q I rx rv h;obtain ⟨l,xs,y,rfl,rfl,hH,hz,q⟩:=h;cases rx;obtain ⟨u,rfl,ru⟩:=rv.one;obtain ⟨z,its,n,r,hl,e⟩:=I.Ma hH;refine call_meets F.slot_list_append ⟨_,e,rfl⟩ F.entry_list_append (F.args_list_append_2 _ _) (PySem.list_append l its.toArray n u (by rw [Of];omega)) ⟨e,?_⟩;refine ⟨.non,_,I.MA (its':=its++[u]) hH e (by simp) (r.append (.cons ru .nil)) ?_,rfl,q⟩;rw [NS,Ow];omega
end
structure M1 (X:Cx) (o:Expr) (m:Str) (apos:Pos) (e:Expr) (cpos:Pos):Prop where
 base:attributeBase o m X.env (eval o X.env)=eval o X.env
 few:((backTo cpos (starEach [e] X.env)).all (fun x=>!x.1)&&(backToKw cpos (keywordEach [] X.env)).all (fun x=>x.1.isSome)
  && decide (([e]:List Expr).length+([]:List Keyword).length+(if ([]:List Keyword).isEmpty then 0 else 1) < 30))=true
 line:(apos.endLine==cpos.line)=true
 trees:backTo cpos (starEach [e] X.env)=[(false,eval e X.env)]
end L2
namespace Att
open PySem PySem.W PySem.Calls PyProof.Rows
theorem jj {P:Params} {h:Heap}:∀ (ns:List Int) (vs:List Qj),WellAll P h vs (ns.map WData.int)->IntsAre vs ns:=by
 intro ns;induction ns with
 | nil =>
  intro vs w;rw [List.map_nil] at w;cases w;exact .nil
 | cons n ns ih =>
  intro vs w;rw [List.map_cons] at w;cases w with
  | cons a b =>
   cases a;exact .cons _ _ (ih _ b)
theorem xO {l:OpenLaw} {n:Nat} (hn:l.most=some n) {P:Params} {h:Heap} {args:List WData} {vals:List Qj}
  (hpre:l.row.toRowW.claim.pre args=true) (hwl:WellAll P h vals args) :
  ∃ a vs ns,vals=[Value.ref a]/\args=[WData.list (ns.map WData.int)]/\h.get? a=some { cls:=.type "list", data:=.seq vs.toArray }/\IntsAre vs ns/\ns.length<=n:=by
 have hsh:WShape.hasAll [] args [.list .int]=true:=(pre_splitW hpre).1;have hc:l.pre.holds [] { args:=args }=true:=(pre_splitW hpre).2;obtain ⟨d,r,rfl,h1,h2⟩:=hasAllW_cons hsh;obtain rfl:=hasAllW_nil h2;obtain ⟨xs,rfl,h3⟩:=hasW_list h1;obtain ⟨ns,rfl⟩:=items_int h3;have hlen:ns.length<=n:=by
  unfold OpenLaw.pre at hc;have h4:(WTm.not (.lt (.lit (.int (n:Int))) (.len (.arg 0)))).holds [] { args:=[.list (ns.map .int)] }=true:=by
   have h4:=(holds_andW hc).1;rw [hn] at h4;exact h4
  have h5:=condW_of h4 (w_not (w_lt w_lit (w_len_list (w_arg rfl))));rw [NT] at h5;refine Nat.le_of_not_lt fun q=>?_;have q':(n:Int) < ((ns.length:Nat):Int):=by omega
  first
   | (rw [NY q'] at h5;exact absurd h5 (by decide))
   | (simp at h5;omega)
 cases hwl with
 | cons w1 w2 =>
  cases w2;cases w1 with
  | list ho hall=>exact ⟨_,_,ns,rfl,rfl,ho,jj ns _ hall,hlen⟩
theorem vZ (l:OpenLaw) (args:List WData):l.row.toRowW.claim.post args (.bool true) args=true :=
 postW_of (r:=l.row.toRowW) (X:=(true==true))
  (show WShape.has [] (.bool true) .bool=true by first | rfl | decide | simp [WShape.has,WShape.arms,WShape.armsAll])
  (show (WTm.eq .res (.lit (.bool true))).value [] { args:=args,res:=some (.bool true),after:=args }=some (.bool (true==true)) from w_eq_bool (w_res rfl) w_lit) rfl
theorem oY {l:OpenLaw} {n:Nat} {q:Program} {loose:List Str} {XP:(Str->Option Qj)->Heap->Prop} {YP:World->Heap->Prop} {d:DefRec}
  (hn:l.most=some n) (hdf:d.params.defaults=[])
  (call:∀ (w:World) (ZO ZZ:Qx) (mg mb:Str->Option Qj) (fa:Qz) (o:Obj) (pm cd doc:Qj) (a:Qz) (vs:List Qj) (ns:List Int),
   Ground q loose [] XP w ZO mg mb ZZ.heap->YP w ZZ.heap ->
   ZZ.heap.get? fa=some o->o.data=.func (docDef d.name d.params d.body d.scope pm cd doc)->ZZ.heap.CodeRec cd d.name->mg d.name=some (.ref fa) ->
   ZZ.heap.get? a=some { cls:=.type "list", data:=.seq vs.toArray }->IntsAre vs ns->ns.length<=n->ZZ.gens=#[] ->
   codeAny (model l.prog w) callerA (.call (.ref fa) ⟨[.ref a],[]⟩) (fun r s'=>r=.ok (.ret (.bool true))/\OldK ZZ.heap s'.heap/\s'.os=ZZ.os/\AllBare s'.gens) ZZ) :
  WalkO q loose XP YP l.row.toRowW d [] (fun f vs=>PySem.call f vs):=by
 intro w ZO ZZ mg mb G Y fa o pm cd doc dV kV ho hd hcd hD hmg hg args vals as hpre hlay hrd hwl hlo;obtain rfl:dV=.none:=Dflts.none hD hdf;obtain rfl:kV=.none:=Dflts.noKw hD;obtain ⟨a,vs,ns,rfl,rfl,hobj,hints,hlen⟩:=xO hn hpre hwl;refine enter_call (P8 (call w ZO ZZ mg mb fa o pm cd doc a vs ns G Y ho (fd_plain hd) hcd hmg hobj hints hlen hg) fun r s' hq=>?_);obtain ⟨rfl,h2,h3,h4⟩:=hq;exact ⟨.inl ⟨.bool true,.bool true,[],rfl,fun _=>rfl,.bool true,vZ l _,fun _=>⟨List.Pairwise.nil,fun _ hm=>(nomatch hm)⟩⟩,h2,h3,h4⟩
end Att
namespace L2
open PySem PySem.Spec PyProof.Rows
theorem ny:∀ {vs:List Qj} {ns:List Int},IntsAre vs ns->Vals (ns.map V.int) vs
 | _,_,.nil=>.nil
 | _,_,.cons n t h=>.cons ⟨t,rfl⟩ (ny h)
def Ic (H:Hp):Prop:=∀ b,H b=none\/∃ o xs,H b=some (.frz o (.lst xs))
theorem AL {P:Program} {w:World} {K:Fg} {mg mb:Str->Option Qj} {CX:CXT} {k:Nat} {fa a:Qz} {fd:FuncData} {x:Str} {sp:Sp} {ZZ:Qx} {vs:List Qj} {ns:List Int}
  (KX:K.In ZZ.heap) (hns:ZZ.heap.Ns mainGlobals mg) (hb:ZZ.heap.Ns builtinsNs mb) (hbb:∀ x:Str,x ≠ "__name__" -> mb x=bootBuiltins x) (hlim:ZZ.heap.NoLimit) (hg:ZZ.gens=#[])
  (ha:ZZ.heap.get? a=some { cls:=.type "list", data:=.seq vs.toArray }) (hi:IntsAre vs ns) (hl:ns.length<=sizeLine) (hr:dh k callerA)
  (F:∀ base:Heap,K.In base->base.Ns mainGlobals mg->de P w K mg base CX k fa fd [x] sp) (hbind:∀ (s:Qx) (u:Qj),BindsTo s fd ⟨[u],[]⟩ [(x,u)])
  (hsp:∀ H:Hp,Ic H->SqL K H a (ns.map V.int)->sp [.ref a] H (fun v _=>v=.bl true) fun _ _ _=>False)
  (hCX:∀ H e s',CX [] H ZZ (fun _ _ _=>False) e s'->False) :
  codeAny (model P w) callerA (.call (.ref fa) ⟨[.ref a],[]⟩) (fun r s'=>r=.ok (.ret (.bool true))/\OldK ZZ.heap s'.heap/\s'.os=ZZ.os/\AllBare s'.gens) ZZ:=by
 have rv:=ny hi;have lenV:=hi.length;have core:∀ H:Hp,Ic H->SqL K H a (ns.map V.int)->HOk P w H ZZ.heap->(∀ b,H b≠none->b=a)->(H a≠none->K.lookup a=none) ->
   codeAny (model P w) callerA (.call (.ref fa) ⟨[.ref a],[]⟩) (fun r s'=>r=.ok (.ret (.bool true))/\OldK ZZ.heap s'.heap/\s'.os=ZZ.os/\AllBare s'.gens) ZZ:=by
  intro H hO hS hok hA hK;have base_of:∀ {b:Qz} {o:Obj},ZZ.heap.get? b=some o->H b=none->(Aj ZZ.heap H).get? b=some o:=fun e n=>Ay e n;have noA:∀ {b:Qz} {o:Obj} {es:Array DictEntry} {ep:Nat},ZZ.heap.get? b=some o->o.data=.dict es ep->H b=none:=fun {b o es ep} e d=>by
   cases q:H b with
   | none=>rfl
   | some u =>
    have e':b=a:=hA b (by rw [q];simp);subst e';rw [ha] at e;cases e;have d':Data.seq vs.toArray _=Data.dict es ep:=d;cases d'
  have nsK:∀ {b:Qz} {m:Str->Option Qj},ZZ.heap.Ns b m->(Aj ZZ.heap H).Ns b m:=fun {b m} ⟨o,es,ep,e,d,r⟩=>⟨o,es,ep,base_of e (noA e d),d,r⟩
  have hKb:K.In (Aj ZZ.heap H):=fun b o e=>base_of (KX b o e) (by
   cases q:H b with
   | none=>rfl
   | some u =>
    have e':b=a:=hA b (by rw [q];simp);subst e'
    rw [hK (by rw [q];simp)] at e;cases e)
  have hM:Mod K mg (Aj ZZ.heap H):=⟨hKb,nsK hns,⟨mb,nsK hb,hbb⟩,let ⟨mc,h1,h2⟩:=hlim;⟨mc,nsK h1,h2⟩⟩;have e0:DN P w K mg (Aj ZZ.heap H) callerA [] ZZ H:=⟨rfl,hM,fun b o e=>Cs e,Nat.le_of_eq (uI _ _),trivial,fun b hb=>absurd (show b∈([]:List Qz) from hb) (by simp),hok,.of_eq hg⟩;refine P8 ((F _ hKb (nsK hns)).run callerA [] ZZ H ⟨[.ref a],[]⟩ [.ref a] [.ref a] _ _ hr e0 (hbind ZZ (.ref a)) (.cons rfl .nil) (hsp H hO hS)) fun r s' h=>?_;cases r with
  | error e=>exact (hCX H e s' h).elim
  | ok fl =>
   cases fl with
   | next=>exact False.elim h
   | brk=>exact False.elim h
   | cont=>exact False.elim h
   | ret u =>
    obtain ⟨v,H',os,bare,un,hok',r',q⟩:=h;have q':v=.bl true:=q;subst q';obtain rfl:u=Value.bool true:=r';refine ⟨rfl,OldK.of_keep fun b o e=>?_,os,bare⟩;cases q:H b with
    | none=>exact un.keep b o e q (by intro z;exact absurd (show b∈([]:List Qz) from z) (by simp)) (by simp)
    | some u =>
     rcases hO b with z | ⟨ob,xs,z⟩
     ·rw [q] at z;cases z
     ·have z2:=un.oZ b ob _ z;obtain ⟨e1,_⟩:=hok b _ z;obtain ⟨e2,_⟩:=hok' b _ z2;rw [e] at e1;cases e1;exact e2
 cases hk:K.lookup a with
 | some o =>
  have e:=KX a o hk;rw [ha] at e;cases e;refine core (fun _=>none) (fun _=>.inl rfl) (.inr ⟨_,vs.toArray,_,hk,rfl,rfl,rfl,by rw [Of,lenV];exact hl,by simpa using rv⟩) (fun b u z=>by have z':(none:Option HO)=some u:=z;cases z') (fun b z=>absurd rfl z) fun z=>absurd rfl z
 | none =>
  refine core (fun b=>if b=a then some (.frz { cls:=.type "list", data:=.seq vs.toArray } (.lst (ns.map V.int))) else none) (fun b=>?_) (.inl (.inr ⟨{ cls:=.type "list", data:=.seq vs.toArray },N4 rfl⟩)) (fun b u z=>?_) (fun b z=>?_) fun _=>hk
  ·by_cases hb:b=a
   ·exact .inr ⟨_,_,N4 hb⟩
   ·exact .inl (Od hb)
  ·by_cases hb:b=a
   ·have z':=(N4 hb).symm.trans z;cases z';subst hb;exact ⟨ha,by rw [NT];exact hl,vs,_,rv,ha⟩
   ·have z':=(Od hb).symm.trans z;cases z'
  ·by_cases hb:b=a
   ·exact hb
   ·exact absurd (Od hb) z
abbrev KOf {K:Fg} {h:Heap} (_:K.In h):Fg:=K
theorem Ck {l:PySem.W.OpenLaw} {n k:Nat} {q:Program} {loose:List Str} {XP:(Str->Option Qj)->Heap->Prop} {YP:World->Heap->Prop} {d:DefRec} {K:Params->Fg} {CX:World->CXT} {sp:World->Sp} {x:Str}
  (hn:l.most=some n) (hn2:n<=sizeLine) (hdf:d.params.defaults=[]) (hr:dh k callerA)
  (hY:∀ (w:World) (h:Heap),YP w h->(K w.params).In h)
  (F:∀ (w:World) (mg:Str->Option Qj) (fa:Qz) (h:Heap),(K w.params).In h->h.Ns mainGlobals mg->mg d.name=some (.ref fa) ->
   ∃ fd:FuncData,(∀ (s:Qx) (u:Qj),BindsTo s fd ⟨[u],[]⟩ [(x,u)]) /\
    ∀ base:Heap,(K w.params).In base->base.Ns mainGlobals mg->de l.prog w (K w.params) mg base (CX w) k fa fd [x] (sp w))
  (hsp:∀ (w:World) (H:Hp) (a:Qz) (ns:List Int),ns.length<=n->Ic H->SqL (K w.params) H a (ns.map V.int)->sp w [.ref a] H (fun v _=>v=.bl true) fun _ _ _=>False)
  (hCX:∀ (w:World) (H:Hp) (s:Qx) (e:Qj) (s':Qx),CX w [] H s (fun _ _ _=>False) e s'->False) :
  PySem.W.WalkO q loose XP YP l.row.toRowW d [] (fun f vs=>PySem.call f vs):=by
 refine Att.oY hn hdf fun w ZO ZZ mg mb fa o pm cd doc a vs ns G Y ho hd hcd hmg hobj hints hlen hg=>?_;have KX:=hY w _ Y;obtain ⟨fd,hb,hF⟩:=F w mg fa _ KX G.T.g hmg;exact AL KX G.T.g G.T.b G.T.builtins G.T.nolimit hg hobj hints (Oi hlen hn2) hr hF hb (fun H hO hS=>hsp w H a ns hlen hO hS) fun H e s'=>hCX w H ZZ e s'
theorem Ah {l:PySem.W.OpenLaw} {n k:Nat} {q:Program} {loose:List Str} {XP:(Str->Option Qj)->Heap->Prop} {YP:World->Heap->Prop} {d:DefRec} {K:Params->Fg} {CX:CXT} {sp:Fg->Sp} {x:Str}
  (hn:l.most=some n) (hn2:n<=sizeLine) (hdf:d.params.defaults=[]) (hr:dh k callerA)
  (hY:∀ (w:World) (h:Heap),YP w h->(K w.params).In h)
  (F:∀ (w:World) (mg:Str->Option Qj) (fa:Qz) (h:Heap),(K w.params).In h->h.Ns mainGlobals mg->mg d.name=some (.ref fa) ->
   ∃ fd:FuncData,(∀ (s:Qx) (u:Qj),BindsTo s fd ⟨[u],[]⟩ [(x,u)]) /\
    ∀ base:Heap,(K w.params).In base->base.Ns mainGlobals mg->de l.prog w (K w.params) mg base CX k fa fd [x] (sp (K w.params)))
  (hsp:∀ (K:Fg) (H:Hp) (a:Qz) (ns:List Int),ns.length<=n->Ic H->SqL K H a (ns.map V.int)->sp K [.ref a] H (fun v _=>v=.bl true) fun _ _ _=>False)
  (hCX:∀ (H:Hp) (s:Qx) (e:Qj) (s':Qx),CX [] H s (fun _ _ _=>False) e s'->False) :
  PySem.W.WalkO q loose XP YP l.row.toRowW d [] (fun f vs=>PySem.call f vs) :=
 Ck (K:=K) (CX:=fun _=>CX) (sp:=fun w=>sp (K w.params)) hn hn2 hdf hr hY F (fun w H a ns h1 h2 h3=>hsp (K w.params) H a ns h1 h2 h3) fun _ H s e s'=>hCX H s e s'
noncomputable def bJ (s:Stmt):Arguments:=match s with
 | .FunctionDef _ a _ _ _ _ _ _ _ _=>a
 | _=>{ posonlyargs:=[],args:=[],vararg:=none,kwonlyargs:=[],kw_defaults:=[],kwarg:=none,defaults:=[] }
noncomputable def aU (s:Stmt):List Stmt:=match s with
 | .FunctionDef _ _ b _ _ _ _ _ _ _=>b
 | _=>[]
noncomputable def ag (s:Stmt):Scope:=match s with
 | .FunctionDef _ _ _ _ _ _ sc _ _ _=>sc
 | _=>{ kind:=.function,names:=[],isGenerator:=false,isCoroutine:=false }
abbrev CX0:CXT:=fun _ _ _ _ _ _=>False
abbrev E0:XK:=fun _ _ _=>False
theorem vI {X:Cx}:Passes CX0 X E0:=fun _ _ _ _ _ _ _ h=>h.elim
structure Fun (K:Fg) (x qual:Str) (st:Stmt) (f:Qz) (fd:FuncData):Prop where
 ex:∃ (oc:Qj) (od:Option Qz) (kV doc pm:Qj) (an:Option Qz) (cdv ct:Qj) (osl:Array (Option Qj)),
  fd=PySem.W.fnOf x qual (bJ st) (aU st) (ag st) .none kV doc pm an cdv ct/\K.lookup f=some ⟨oc,od,.func fd,osl⟩/\PySem.W.codeIn K cdv qual=true
 kp:PySem.W.keepIn K (.ref f)=true
section
variable {P:Program} {w:World} {K:Fg} {mg:Str->Option Qj} {base:Heap}
theorem Fun.ok {x qual:Str} {st:Stmt} {f:Qz} {fd:FuncData} {N ps:List Str} {k:Nat} {sp:Sp} (F:Fun K x qual st f fd) (S:bZ N ps (ag st)) (len:∀ vs H Q E,sp vs H Q E->vs.length=ps.length)
  (hbody:∀ (cdv:Qj) (A:Around) (outer:List Env) (s:Qx) (H:Hp) (vs:List V) (Q:VK) (E:XK),dh k (A.deeper (envOfC qual (ag st) s.heap.objs.size f cdv))->sp vs H Q E ->
   ∃ t,PSs (tN CX0 P w K mg base N qual (ag st) f cdv A outer s H E).nox (aU st) t/\t { nx:=fun _ H'=>Q .non H',rt:=Q } (start N vs) H):de P w K mg base CX0 (k+1) f fd ps sp:=by
 obtain ⟨oc,od,kV,doc,pm,an,cdv,ct,osl,rfl,lk,hcd⟩:=F.ex;refine FH lk hcd S len fun A outer s H vs Q E hr hsp=>?_;obtain ⟨t,h,q⟩:=hbody cdv A outer s H vs Q E hr hsp;exact ⟨t,h.nox,q⟩
theorem Fun.binds {x qual:Str} {st:Stmt} {f:Qz} {fd:FuncData} {ps:List Str} (F:Fun K x qual st f fd)
  (h:∀ (kV doc pm:Qj) (an:Option Qz) (cdv ct:Qj) (us:List Qj),us.length=ps.length->bindArgs (PySem.W.fnOf x qual (bJ st) (aU st) (ag st) .none kV doc pm an cdv ct) ⟨us,[]⟩=pure (ps.zip us)):Binds K fd ps []:=by
 obtain ⟨oc,od,kV,doc,pm,an,cdv,ct,osl,rfl,lk,hcd⟩:=F.ex;exact .all (h kV doc pm an cdv ct)
theorem e8 {x qual:Str} {st:Stmt} {f:Qz} {oc:Qj} {od an:Option Qz} {osl:Array (Option Qj)} {kV doc pm cdv ct:Qj} (l:K.lookup f=some ⟨oc,od,.func (PySem.W.fnOf x qual (bJ st) (aU st) (ag st) .none kV doc pm an cdv ct),osl⟩)
  (c:PySem.W.codeIn K cdv qual=true) (k:PySem.W.keepIn K (.ref f)=true):Fun K x qual st f (PySem.W.fnOf x qual (bJ st) (aU st) (ag st) .none kV doc pm an cdv ct):=⟨⟨oc,od,kV,doc,pm,an,cdv,ct,osl,rfl,l,c⟩,k⟩
end
def aY (H H':Hp):Prop:=∀ b o,H b=some o->H' b=some o
noncomputable def oU (env:Env):List (Str×NameKind)->List (Str×Qz)->List (Str×Qz)
 | [],cs=>cs
 | (n,k) :: r,cs=>oU env r (if k==.free then (n,(env.cells.lookup n).getD 0) :: cs else cs)
theorem eV {env:Env}:∀ (ns:List (Str×NameKind)) (cs:List (Str×Qz)),(∀ y∈ns,y.2=.free->∃ c,env.cells.lookup y.1=some c) ->
  (forIn ns cs (fun (x:Str×NameKind) (r:List (Str×Qz))=>if (x.2==NameKind.free)=true then (cellOf env x.1>>=fun a=>pure (ForInStep.yield ((x.1,a) :: r)):Sem _) else pure (ForInStep.yield r)):Sem (List (Str×Qz)))=pure (oU env ns cs)
 | [],_,_=>rfl
 | (n,k) :: r,cs,h=>by
  rw [List.forIn_cons];by_cases hk:k=.free
  ·subst hk;obtain ⟨c,e⟩:=h (n,.free) N5 rfl;have e':env.cells.lookup n=some c:=e;have q:=eV (env:=env) r ((n,c) :: cs) fun y hy=>h y (NZ _ hy);have z:oU env ((n,NameKind.free) :: r) cs=oU env r ((n,c) :: cs):=by
    show oU env r (if (NameKind.free==NameKind.free)=true then (n,(env.cells.lookup n).getD 0) :: cs else cs)=_;rw [N4 (by decide),e'];rfl
   have k:cellOf env n=pure c:=by
    unfold cellOf;rw [e']
   rw [z,<-q];dsimp only;rw [N4 (by decide),k];rfl
  ·have hb:(k==NameKind.free)=false:=by simpa using hk
   have q:=eV (env:=env) r cs fun y hy=>h y (NZ _ hy);have z:oU env ((n,k) :: r) cs=oU env r cs:=by
    show oU env r (if (k==NameKind.free)=true then (n,(env.cells.lookup n).getD 0) :: cs else cs)=_;rw [hb,Od O3]
   rw [z,<-q];dsimp only;rw [hb,Od O3];rfl
theorem kG {scope:Scope} {env:Env} (h:∀ y∈scope.names,y.2=.free->∃ c,env.cells.lookup y.1=some c):closureFor scope env=pure (oU env scope.names []):=by
 have q:=eV (env:=env) scope.names [] h;unfold closureFor;show (forIn scope.names [] _>>=_:Sem _)=_;refine Eq.trans (congrArg (fun m:Sem (List (Str×Qz))=>m>>=fun r=>pure r) (Eq.trans ?_ q)) rfl;rfl
theorem qD {env:Env}:∀ (ns:List (Str×NameKind)) (cs:List (Str×Qz)),(∀ y∈ns,y.2=.free->∃ c,env.cells.lookup y.1=some c)->(∀ y c,cs.lookup y=some c->env.cells.lookup y=some c) ->
  ∀ y c,(oU env ns cs).lookup y=some c->env.cells.lookup y=some c
 | [],_,_,g,y,c,e=>g y c e
 | (n,k) :: r,cs,h,g,y,c,e=>by
  refine qD r _ (fun z hz=>h z (NZ _ hz)) (fun z d e'=>?_) y c e;by_cases hk:(k==NameKind.free)=true
  ·rw [N4 hk] at e';rw [OW] at e';obtain ⟨c',ec⟩:=h (n,k) N5 (by simpa using hk);have ec':env.cells.lookup n=some c':=ec;cases hz:z==n with
   | true =>
    rw [hz] at e';have hzn:z=n:=by simpa using hz
    subst hzn;rw [ec'] at e' ⊢;exact e'
   | false=>rw [hz] at e';exact g z d e'
  ·rw [Od hk] at e';exact g z d e'
theorem n8 {env:Env} {y:Str}:∀ (ns:List (Str×NameKind)) (cs:List (Str×Qz)),(∃ c,cs.lookup y=some c)->∃ c,(oU env ns cs).lookup y=some c
 | [],_,h=>h
 | (n,k) :: r,cs,h=>by
  refine n8 r _ ?_;by_cases hk:(k==NameKind.free)=true
  ·rw [N4 hk,OW];cases y==n
   ·exact h
   ·exact ⟨_,rfl⟩
  ·rw [Od hk];exact h
theorem i8 {env:Env} {y:Str}:∀ (ns:List (Str×NameKind)) (cs:List (Str×Qz)),(y,NameKind.free)∈ns->∃ c,(oU env ns cs).lookup y=some c
 | [],_,h=>by simp at h
 | (n,k) :: r,cs,h=>by
  rcases N9.mp h with e | h
  ·cases e;show ∃ c,(oU env r (if (NameKind.free==NameKind.free)=true then (y,(env.cells.lookup y).getD 0) :: cs else cs)).lookup y=some c;refine n8 r _ ⟨(env.cells.lookup y).getD 0,?_⟩;rw [N4 (by decide),OW,P7]
  ·exact i8 r _ h
theorem c8 {env:Env} {y:Str} {k:NameKind}:∀ (ns:List (Str×NameKind)),
  (ns.map fun (n,k)=>if (k==NameKind.free&&env.scope.kind==.function&&env.kindOf n==some .cell) then (n,NameKind.cell) else (n,k)).lookup y=some k->(y,k)∈ns\/(k=.cell/\(y,NameKind.free)∈ns)
 | [],h=>by simp at h
 | (n,k') :: r,h=>by
  have ih:=fun q=>c8 (env:=env) (y:=y) (k:=k) r q;rw [List.map_cons] at h;have h2:=h;have again:=fun q=>(ih q).elim (fun q=>Or.inl (NZ (n,k') q)) fun q=>(Or.inr ⟨q.1,NZ (n,k') q.2⟩:(y,k)∈(n,k') :: r\/(k=.cell/\(y,NameKind.free)∈(n,k') :: r));dsimp only at h2;clear h;by_cases hc:(k'==NameKind.free&&env.scope.kind==.function&&env.kindOf n==some .cell)=true
  ·rw [N4 hc,OW] at h2;cases hy:y==n with
   | true =>
    rw [hy] at h2;have e1:y=n:=by simpa using hy
    have hk:k'=.free:=by
     have:=hc;simp at this;exact this.1.1
    have e2:k=.cell:=(OK h2).symm;exact .inr ⟨e2,by rw [e1,hk];exact N5⟩
   | false=>rw [hy] at h2;exact again h2
  ·rw [Od hc,OW] at h2;cases hy:y==n with
   | true =>
    rw [hy] at h2;have e1:y=n:=by simpa using hy
    have e2:k'=k:=OK h2;exact .inl (by rw [e1,e2];exact N5)
   | false=>rw [hy] at h2;exact again h2
def cxB (X:Cx) (N':List Str) (scope:Scope) (C:Qz) (s3:Qx) (H3:Hp) (ex:List Qz):Cx :=
  { prog:=X.prog,w:=X.w,K:=X.K,mg:=X.mg,base:=X.base,A:=X.A,N:=N',ZO:=s3,ZW:=H3,env:=compEnvC scope (oU X.env scope.names []) C X.env,outer:=X.stack,stack:=X.stack,ex:=ex,
    fn:=fun _=>false,calm:=true,pn:=[],xe:=fun _ _=>False }
def gL (X:Cx) (scope:Scope):List Str->List Nat->Prop
 | [],[]=>True
 | y :: ys,j :: js=>X.N[j]?=some y/\(X.env.scope.names.lookup y=some .cell/\scope.names.lookup y=some .free)/\gL X scope ys js
 | _,_=>False
theorem gL.get {X:Cx} {scope:Scope}:∀ {ys:List Str} {js:List Nat} {k:Nat} {y:Str},gL X scope ys js->ys[k]?=some y->∃ j,js[k]?=some j/\X.N[j]?=some y/\X.env.scope.names.lookup y=some .cell/\scope.names.lookup y=some .free
 | [],_,_,_,_,e=>by simp at e
 | _ :: _,[],_,_,h,_=>False.elim h
 | y :: ys,j :: js,0,z,h,e=>by simp at e;subst e;exact ⟨j,rfl,h.1,h.2.1⟩
 | y :: ys,j :: js,k+1,z,h,e=>by
  obtain ⟨j',e1,e2⟩:=gL.get (k:=k) h.2.2 (by simpa using e);exact ⟨j',by simpa using e1,e2⟩
theorem gL.len {X:Cx} {scope:Scope}:∀ {ys:List Str} {js:List Nat},gL X scope ys js->ys.length=js.length
 | [],[],_=>rfl
 | _ :: _,_ :: _,h=>by simp [gL.len h.2.2]
 | [],_ :: _,h=>False.elim h
 | _ :: _,[],h=>False.elim h
noncomputable def cS (js:List Nat) (Z:St):St:=js.map fun j=>(Z[j]?).getD none
structure iL (X:Cx) (scope:Scope) (x:Str):Prop where
 kind:scope.kind=.function
 cells:∀ y∈scope.names,y.2≠.cell
 locs:∀ y∈scope.names,y.2=.local->scope.names.lookup y.1=some .local
 var:scope.names.lookup x=some .local
 free:∀ y∈scope.names,y.2=.free->X.env.scope.names.lookup y.1=some .cell
def PTs (X:Cx) (ifs:List Expr) (t:TT):Prop :=
 ∀ (pins:List (Qz×Obj)) (s:Qx) (Z:St) (H:Hp) (Q:Bool->Hp->Prop),Inv X pins Z H s->t Z H Q ->
  wpAny (model X.prog X.w) X.A (forIn ifs true fun c r=>if r=true then do let ok<-isTrue c X.env (eval c X.env);pure (ForInStep.yield ok) else pure (ForInStep.yield r)) (TP X pins Z Q) X.xe s
def JN:TT:=fun _ H Q=>Q true H
theorem Cw {X:Cx}:PTs X [] JN:=fun _ _ _ H _ I h=>wpAny_tests_nil ⟨H,I,h⟩
theorem wX {X:Cx} {pins:List (Qz×Obj)} {Z:St} {H:Hp} {s3:Qx} {h1:Heap} {tk:Nat} {scope:Scope} {x:Str} {ys:List Str} {js:List Nat} {ex:List Qz} (I:Inv X pins Z H s3) (hc:X.calm=true) (B:iL X scope x) (cap:gL X scope ys js)
  (hns:h1.Ns s3.heap.objs.size (fun _=>none)) (hk:∀ b o,s3.heap.get? b=some o->h1.get? b=some o)
  (hex:∀ b∈ex,b ∉ frs X.stack/\b < s3.heap.objs.size/\(∀ y c,X.env.cells.lookup y=some c->c≠b)/\X.base.get? b=none) :
  Inv (cxB X (x :: ys) scope s3.heap.objs.size s3 H ex) [] (none :: cS js Z) H { s3 with heap:=h1,toks:=tk }:=by
 have hfree:∀ y∈scope.names,y.2=.free->∃ c,X.env.cells.lookup y.1=some c:=fun y hy hf=>I.ok.has y.1 (.inl (B.free y hy hf));have sub:=qD (env:=X.env) scope.names [] hfree (fun _ _ e=>by simp at e)
 refine ⟨⟨I.ok.mod,B.kind,I.ok.glob,I.ok.blt,Oc _,fun y z c h1 h2=>I.ok.inj y z c (sub _ _ h1) (sub _ _ h2),fun y hy=>?_,fun y c hf _=>?_,fun _=>I.ok.hd hc,I.ok.frames,.inl rfl,fun b hb=>?_,fun b o e=>I.bs b o e,Oi I.ok.bsz I.sz,fun b o e hb=>?_,fun b hb=>(hex b hb).1,I.stack,I.kX⟩,
  rfl,I.bare,Un.kept hk,⟨_,hns,fun i y v e1 e2 e3=>?_⟩,fun y c e=>?_,I.hok.fresh (Oc _),fun y c e=>I.fT y c (sub _ _ e),fun p hp=>absurd (show p∈([]:List (Qz×Obj)) from hp) (by simp),I.hok.kept hk,?_⟩
 ·have hy:(relabel scope X.env).names.lookup y=some .cell\/(relabel scope X.env).names.lookup y=some .free:=hy;rcases hy with hy | hy
  ·rcases c8 _ hy with q | ⟨_,q⟩
   ·exact absurd rfl (B.cells _ q)
   ·exact i8 _ _ q
  ·rcases c8 _ hy with q | ⟨q,_⟩
   ·exact i8 _ _ q
   ·cases q
 ·exact absurd (show false=true from hf) (by simp)
 ·exact ⟨OC (hex b hb).2.1,fun y c e=>(hex b hb).2.2.1 y c (sub _ _ e)⟩
 ·have e':X.base.get? b=some o:=e;have:=(hex b hb).2.2.2;rw [e'] at this;cases this
 ·cases i with
  | zero=>simp at e2
  | succ i =>
   have e1':ys[i]?=some y:=by simpa [cxB] using e1
   have e2':(cS js Z)[i]?=some (some v):=by simpa using e2
   obtain ⟨j,ej,en,ec,ef⟩:=cap.get e1';have e4:Z[j]?=some (some v):=by
    unfold cS at e2';rw [Oj,ej] at e2';simp only [Option.map_some,Option.some.injEq] at e2';cases q:Z[j]? with
    | none=>rw [q] at e2';cases e2'
    | some w=>rw [q] at e2';simp at e2';rw [e2']
   obtain ⟨m,hn,hl⟩:=I.loc;obtain ⟨u,r,l⟩:=hl j y v en e4 (.inr (.inl ec));refine ⟨u,r,.inr ?_⟩;rcases l with ⟨kl,_⟩ | ⟨kc,c,ecl,cell⟩
   ·have kl:X.env.scope.names.lookup y=some .local:=kl;rw [ec] at kl;cases kl
   ·have e3:(relabel scope X.env).names.lookup y=some .local\/(relabel scope X.env).names.lookup y=some .cell\/(relabel scope X.env).names.lookup y=some .free:=e3;refine ⟨?_,?_⟩
    ·rcases e3 with q | q | q
     ·rcases c8 _ q with q | ⟨q,_⟩
      ·have:=B.locs _ q rfl;rw [ef] at this;cases this
      ·cases q
     ·exact .inl q
     ·exact .inr q
    ·have mem:(y,NameKind.free)∈scope.names:=Po ef;obtain ⟨c',ec'⟩:=i8 (env:=X.env) scope.names [] mem;have:=sub _ _ ec';rw [ecl] at this;cases this;obtain ⟨o,ho,hd⟩:=cell;exact ⟨c,ec',o,hk _ _ ho,hd⟩
 ·obtain ⟨v,o,ho,hd⟩:=I.cell y c (sub _ _ e);exact ⟨v,o,hk _ _ ho,hd⟩
 ·show (none :: cS js Z).length=(x :: ys).length;rw [NV,NV,cap.len];unfold cS;rw [NT]
def tJ (js:List Nat) (wi:TI) (tt:TT) (te:TE):TE:=fun Z H Q=>wi Z H fun J H1=>∃ W:Nat->Nat->List V->Hp->Prop,(∃ m,W 0 m [] H1)/\∀ i m acc H,W i m acc H ->
 (J.stop i H/\acc.length<=sizeLine/\∀ p,H p=none->Q (.ref p) (upd H p (.lst acc)))\/(J.go i H/\acc.length < sizeLine/\∀ x H',J.yld i H x H' ->
  tt (some x :: cS js Z) H' fun b H2=>if b=true then te (some x :: cS js Z) H2 fun y H3=>∃ m',m' < m/\W (i+1) m' (acc++[y]) H3 else ∃ m',m' < m/\W (i+1) m' acc H2)
theorem AB {M:Model} {A:Around} {α β:Type} {E E':Qj->Qx->Prop} {a:α} {t:Sem α} {u:Sem β} {Q:α->Qx->Prop} {R:β->Qx->Prop} {s s':Qx} (e:t=pure a) (h:wpAny M A t Q E s) (k:Q a s->wpAny M A u R E' s'):wpAny M A u R E' s':=by
 subst e;exact fun Γ p ZM=>k (h Γ p ZM) Γ p ZM
theorem rn {X:Cx} {pins:List (Qz×Obj)} {Z:St} {H:Hp} {s2:Qx} {elt iter:Expr} {x:Str} {px pos:Pos} {ifs:List Expr} {scope:Scope} {tt:TT} {te:TE} {ys:List Str} {js:List Nat} {it:Qz} {fp:List Qz} {tn:Nat->Heap->Prop} {J:It}
    {Q:VK} {E:Qj->Qx->Prop} {RR:Qj->Qz->Result->Qx->Prop} (hc:X.calm=true) (B:iL X scope x) (nd:(x :: ys).Nodup) (cap:gL X scope ys js)
    (ht:∀ C s3 H3 ex,PTs (cxB X (x :: ys) scope C s3 H3 ex) ifs tt) (he:∀ C s3 H3 ex,PE (cxB X (x :: ys) scope C s3 H3 ex) elt te)
    (I:Inv X pins Z H s2) (T:Turn X.prog X.w X.K (.Name x px) J fp it tn) (h0:tn 0 s2.heap) (hf:∀ b∈fp,Bu X pins H b)
    (W:Nat->Nat->List V->Hp->Prop) (w0:∃ m,W 0 m [] H)
    (turn:∀ i m acc H,W i m acc H->(J.stop i H/\acc.length<=sizeLine/\∀ p,H p=none->Q (.ref p) (upd H p (.lst acc)))\/(J.go i H/\acc.length < sizeLine/\∀ x H',J.yld i H x H' ->
      tt (some x :: cS js Z) H' fun b H2=>if b=true then te (some x :: cS js Z) H2 fun y H3=>∃ m',m' < m/\W (i+1) m' (acc++[y]) H3 else ∃ m',m' < m/\W (i+1) m' acc H2))
    (hRR:∀ (D C:Qz) (H':Hp) (s':Qx) (m':Str->Option Qj),s'.heap.Ns C m'->s2.heap.objs.size<=C->C≠D->H' C=none->Inv X pins Z H' s'->Q (.ref D) H'->RR (.ref D) C (.ok .next) s') :
    wpAny (model X.prog X.w) X.A (newList []) (fun acc ZU=>wpAny (model X.prog X.w) X.A (newFunctionEnv scope X.env.globals (oU X.env scope.names []) [] X.env.qual none .none (some X.env)) (fun cenv s₄ =>
      codeAny (model X.prog X.w) X.A (.compStart (.ListComp elt [⟨.Name x px,iter,ifs,0⟩] scope pos) 0 (.ref it) acc { cenv with scope:=relabel scope X.env }) (RR acc cenv.locals) s₄) E ZU) E s2:=by
  refine Px (wpAny_newFunctionEnv B.cells (by intro y hy;simp at hy) (fun h1 hns hsb=>?_) B.kind);dsimp only at hns hsb ⊢;have hD:H s2.heap.objs.size=none:=I.hok.fresh (Oc _);generalize hH2:s2.heap.push { cls:=.type "list", dict:=none,data:=.seq ([]:List Qj).toArray }=P2 at hns hsb ⊢;have hgetD:P2.get? s2.heap.objs.size=some { cls:=.type "list", dict:=none,data:=.seq ([]:List Qj).toArray }:=by rw [<- hH2];exact OA _ rfl
  have hold:∀ b o,s2.heap.get? b=some o->P2.get? b=some o:=fun b o e=>by rw [<- hH2];exact N8 _ e
  have hsz:P2.objs.size=s2.heap.objs.size+1:=by rw [<- hH2,Heap.size_push]
  have I3:Inv X pins Z H { s2 with heap:=P2,toks:=s2.toks }:=I.kept hold;generalize hDe:s2.heap.objs.size=D at *;have keep1:∀ b o,P2.get? b=some o->h1.get? b=some o:=fun b o e=>hsb.extBut b o (OC (Oe e)) (N8 _ e);have hfp:∀ b∈fp,b < D:=fun b hb=>by
    obtain ⟨o,e,_⟩:=T.obj _ _ h0 b hb;rw [<- hDe];exact Oe e
  have hstk:∀ b,b≠X.env.locals->b ∉ X.fs->b ∉ frs X.stack:=fun b h1 h2 z=>(N9.mp (I.mR b z)).elim h1 h2;have hDl:D≠X.env.locals:=fun z=>absurd I.lt (by rw [hDe,z];exact OJ _);have hDfs:D ∉ X.fs:=I.LP (by rw [hDe];exact Oc _);have hDc:∀ y c,X.env.cells.lookup y=some c->c≠D:=fun y c e z=>by
    obtain ⟨v,q⟩:=I.cell y c e;have:=q.lt;rw [z,hDe] at this;exact absurd this (OJ _)
  have hex:∀ b∈D :: fp,b ∉ frs X.stack/\b < ({ s2 with heap:=P2,toks:=s2.toks }:Qx).heap.objs.size/\(∀ y c,X.env.cells.lookup y=some c->c≠b)/\X.base.get? b=none:=fun b hb=>by
    rcases N9.mp hb with rfl | hb
    · refine ⟨hstk _ hDl hDfs,by show _ < P2.objs.size;rw [hsz];exact O7 _,hDc,?_⟩;cases q:X.base.get? b with
      | none=>rfl
      | some o =>
        have:=Oe (I.bk b o q);rw [hDe] at this;exact absurd this (OJ _)
    · obtain ⟨f0,f1,f2,f3,f4,f5⟩:=hf b hb;refine ⟨hstk _ f1 f2,by show _ < P2.objs.size;rw [hsz];exact Nat.lt_succ_of_lt (hfp b hb),f4,?_⟩;cases q:X.base.get? b with
      | none=>rfl
      | some o =>
        rcases f3 with z | z
        · exact absurd z (I.ok.Ef b o q)
        · exact absurd (Ob (Oe q) (Oi I.ok.bsz z)) (OJ _)
  have IB:=wX (tk:=s2.toks) (ex:=D :: fp) I3 hc B cap (h1:=h1) hns keep1 hex;have hCD:P2.objs.size≠D:=by rw [hsz];exact Nat.succ_ne_self _
  have start:codeAny (model X.prog X.w) X.A (.compLoop (.ListComp elt [⟨.Name x px,iter,ifs,0⟩] scope pos) 0 (.ref it) (.ref D) (compEnvC scope (oU X.env scope.names []) P2.objs.size X.env)) (RR (.ref D) P2.objs.size) { s2 with heap:=h1,toks:=s2.toks }:=by
    obtain ⟨m0,w0⟩:=w0;refine codeAny_compLoop_tests (fun n s=>∃ i v0 H' acc its k,Inv (cxB X (x :: ys) scope P2.objs.size { s2 with heap:=P2,toks:=s2.toks } H (D :: fp)) [] (v0 :: cS js Z) H' s/\tn i s.heap/\(∀ b∈D :: fp,H' b=none)/\s.heap.get? D=some { cls:=.type "list", data:=.seq its k }/\Vals acc its.toList/\acc.length<=sizeLine/\W i n acc H') ?_ m0 ?_
    · rintro n s ⟨i,v0,H3,acc,its,k,I4,t4,fr4,g4,va,hl4,w4⟩;have hDm:D∈D :: fp:=N5;have exf:=I4.ok.exf;have fsub:∀ b∈D :: fp,b ∉ (cxB X (x :: ys) scope P2.objs.size { s2 with heap:=P2,toks:=s2.toks } H (D :: fp)).fs:=fun b hb=>(hex b hb).1;have stat:∀ {H':Hp} {ob:Obj},(∀ b∈fp,H' b=none)->∀ b∈fp,Bu (cxB X (x :: ys) scope P2.objs.size { s2 with heap:=P2,toks:=s2.toks } H (D :: fp)) [(D,ob)] H' b:=fun {H' ob} hn b hb =>
        ⟨hn b hb,(exf b (NZ _ hb)).1,fsub b (NZ _ hb),.inl (NZ _ hb),(exf b (NZ _ hb)).2,fun p hp z=>by
          have hp':p∈[(D,ob)]:=hp;have e:=Oh.mp hp';rw [e] at z
          exact absurd (hfp b hb) (by rw [<- show D=b from z];exact OJ _)⟩
      have frp:∀ b∈fp,H3 b=none:=fun b hb=>fr4 b (NZ _ hb);have I5:Inv (cxB X (x :: ys) scope P2.objs.size { s2 with heap:=P2,toks:=s2.toks } H (D :: fp)) [(D,{ cls:=.type "list", data:=.seq its k })] (v0 :: cS js Z) H3 s:=I4.gj fun p hp=>by
        rw [Oh.mp hp];exact ⟨g4,fr4 D hDm,(exf D hDm).1,fsub D hDm,fun v z=>nomatch z⟩
      rcases turn i n acc H3 w4 with ⟨stop,hacc,q⟩ | ⟨go,hacc,step⟩
      · refine OF (T.done (cxB X (x :: ys) scope P2.objs.size { s2 with heap:=P2,toks:=s2.toks } H (D :: fp)) rfl rfl rfl rfl i _ s _ H3 (fun _ _=>False) I5 (stat frp) t4 stop) (fun r s1 ⟨hr,I6⟩=>?_) (fun _ _ z=>z.elim);subst hr;obtain ⟨m',hn',_⟩:=id I6.loc;have pD:=(I6.pin (D,{ cls:=.type "list", data:=.seq its k }) (Ol _ (Oh.mpr rfl))).1;have nD:H3 D=none:=fr4 D hDm;have u:=I6.base;have uu:Un (frs X.stack) (D :: fp) H (upd H3 D (.lst acc)) P2 s1.heap :=
          ⟨u.keep,u.slot,fun b o q n hx=>by rw [aM fun z=>hx (by rw [z];exact hDm)];exact u.free b o q n hx,u.there,
           fun b xs q=>by rw [aM (a8 (u.rP b xs q) nD)];exact u.rP b xs q,fun b o v q=>by rw [aM (a8 (u.oZ b o v q) nD)];exact u.oZ b o v q,
           fun b ps q=>by
            obtain ⟨more,z⟩:=u.sv b ps q
            exact ⟨more,by rw [aM (a8 z nD)];exact z⟩⟩
        have hok:HOk X.prog X.w (upd H3 D (.lst acc)) s1.heap:=fun b o e=>by
          by_cases hb:b=D
          · subst hb;rw [aG] at e;cases e;exact ⟨hacc,its.toList,k,va,by rw [Array.toArray_toList];exact pD⟩
          · rw [aM hb] at e;exact (I6.hok b o e).mM (fun c v _ q=>q) (fun c q=>by rw [aM (a8 q nD)];exact q) fun c xs q=>by rw [aM (a8 q nD)];exact q
        have fin:=I3.call (g':=s1.gens) (t':=s1.toks) (d':=s1.drawn) uu hok I6.bare (fun b hb=>by
          rcases N9.mp hb with z | hb
          · rw [z];refine ⟨.inr (by rw [<- hDe];exact I.sz),hDl,hDc,fun p hp z=>?_⟩;have:=Oe (I.pin p hp).1;rw [z,hDe] at this;exact OJ _ this
          · exact ⟨(hf b hb).2.2.2.1,(hf b hb).2.1,(hf b hb).2.2.2.2.1,(hf b hb).2.2.2.2.2⟩)
        have es:({ heap:=s1.heap,gens:=s1.gens,drawn:=s1.drawn,toks:=s1.toks,os:=s2.os }:Qx)=s1:=by
          have:=I6.os;obtain ⟨a1,a2,a3,a4,a5⟩:=s1;have e5:a5=s2.os:=this;rw [e5]
        have fin':Inv X pins Z (upd H3 D (.lst acc)) s1:=es▸fin;exact hRR D P2.objs.size (upd H3 D (.lst acc)) s1 m' hn' (by rw [hsz];exact P5 _) hCD (by rw [aM hCD];exact I6.free) fin' (q D nD)
      · refine OF (T.item (cxB X (x :: ys) scope P2.objs.size { s2 with heap:=P2,toks:=s2.toks } H (D :: fp)) rfl rfl rfl rfl i _ s _ H3 (fun _ _=>False) I5 (stat frp) t4 go) (fun r s1 ⟨u,hr,h4⟩=>?_) (fun _ _ z=>z.elim);subst hr;refine AB (a:=()) rfl h4 fun ⟨x',H5,I6,r6,y6,t6,fr6⟩=>?_;have I7:=I6.pinned (stat fr6) (T.obj _ _ t6);have kx:(relabel scope X.env).names.lookup x=some .local:=lookup_relabel_local B.var;have pg:PG (cxB X (x :: ys) scope P2.objs.size { s2 with heap:=P2,toks:=s2.toks } H (D :: fp)) (.Name x px) (e7 0):=kW nd rfl (.inl kx) (.inr kx);refine OF (pg _ s1 _ H5 x' u (fun Z' H'=>Z'=some x' :: cS js Z/\H'=H5) I7 r6 ⟨rfl,rfl⟩) (fun _ s2' ⟨Z6,H6,I8,e1,e2⟩=>?_) (fun _ _ z=>z.elim);subst e1 e2;refine OF (ht _ _ _ _ _ s2' _ _ _ I8 (step x' H6 y6)) (fun b s3' ⟨H7,I9,q9⟩=>?_) (fun _ _ z=>z.elim);have pinsKeep:∀ {Z':St} {H':Hp} {s':Qx},Inv (cxB X (x :: ys) scope P2.objs.size { s2 with heap:=P2,toks:=s2.toks } H (D :: fp)) ([(D,{ cls:=.type "list", data:=.seq its k })]++nz fp s1.heap) Z' H' s' ->
            s'.heap.get? D=some { cls:=.type "list", data:=.seq its k }/\(∀ b∈D :: fp,H' b=none)/\∀ b∈fp,∀ o,s1.heap.get? b=some o->s'.heap.get? b=some o:=fun {Z' H' s'} J=>by
          have pd:=J.pin (D,{ cls:=.type "list", data:=.seq its k }) (Ol _ (PN _ (Oh.mpr rfl)));refine ⟨pd.1,fun b hb=>?_,fun b hb o e=>(J.pin (b,o) (Ol _ (Ol _ (fw hb e)))).1⟩;rcases N9.mp hb with rfl | hb
          · exact pd.2.1
          · obtain ⟨o,e,_⟩:=T.obj _ _ t6 b hb;exact (J.pin (b,o) (Ol _ (Ol _ (fw hb e)))).2.1
        cases b with
        | false =>
          rw [Od O3] at q9;obtain ⟨m',hm,w9⟩:=q9;obtain ⟨p1,p2,p3⟩:=pinsKeep I9;rw [Od O3];exact ⟨m',hm,i+1,some x',H7,acc,its,k,I9.gj (fun p hp=>absurd hp (by simp)),T.keep _ _ _ t6 p3,p2,p1,va,hl4,w9⟩
        | true =>
          rw [N4 rfl] at q9;rw [N4 rfl];refine OF (he _ _ _ _ _ s3' _ _ _ I9 q9) (fun y s4' ⟨yv,H8,I10,ry,m',hm,w10⟩=>?_) (fun _ _ z=>z.elim);obtain ⟨p1,p2,p3⟩:=pinsKeep I10;have hsize:its.size=acc.length:=by rw [va.length];simp
          have I11:=I10.gj (pins':=[]) (fun p hp=>absurd hp (by simp));refine wpAny_list_append_plain ⟨k,p1⟩ (fun h' hpl hsame=>?_) (by rw [hsize];exact Nat.le_of_lt hacc);obtain ⟨k',e'⟩:=hpl;have neD:∀ {b:Qz} {o:HO},H8 b=some o->b≠D:=fun e z=>by rw [z,p2 D hDm] at e;cases e
          refine ⟨m',hm,i+1,some x',H8,acc++[yv],its.push y,k',?_,?_,p2,e',?_,?_,w10⟩
          · refine I11.step (g':=s4'.gens) (t':=s4'.toks) (d':=s4'.drawn) (ch:=[D]) (fun b hb=>?_) (fun b o _ _ hc' e _=>?_) (fun b o _ _ hc' e _=>⟨o.slots,?_⟩) (fun b o hc' e n=>n) (fun b o hc' e=>⟨o,?_⟩) (fun _ _ z=>z) (fun _ _ _ z=>z) (fun b ps z=>⟨#[],by rw [z];simp⟩) (fun m hn=>hn.sameBut hsame (Ne.symm (exf D hDm).1)) (fun b o e=>?_) I11.bare
            · rw [Oh.mp hb];exact ⟨.inl hDm,(exf D hDm).1,(exf D hDm).2,fun p hp=>absurd (show p∈([]:List (Qz×Obj)) from hp) (by simp)⟩
            · exact (hsame.2 b fun z=>hc' (Oh.mpr z)).trans e
            · exact (hsame.2 b fun z=>hc' (Oh.mpr z)).trans e
            · exact (hsame.2 b fun z=>hc' (Oh.mpr z)).trans e
            · refine (I11.hok b o e).mM (fun c v hc' q=>(hsame.2 c ?_).trans q) (fun _ q=>q) fun _ _ q=>q;rcases hc' with z | z
              · rw [z];exact neD e
              · exact neD z
          · refine T.keep _ _ _ t6 fun b hb o e=>(hsame.2 b ?_).trans (p3 b hb o e);exact OC (hfp b hb)
          · rw [Array.toList_push];exact va.append (.cons ry .nil)
          · rw [NS,Ow];exact hacc
    · refine ⟨0,none,H,[],#[],_,IB,T.keep _ _ _ h0 (fun b hb o e=>keep1 b o (hold b o e)),fun b hb=>?_,keep1 _ _ hgetD,.nil,O0 _,w0⟩;rcases N9.mp hb with rfl | hb
      · exact hD
      · exact (hf b hb).1
  exact codeAny_compStart_list start (T.self _ 0 _ _ _ (T.keep _ _ _ h0 (fun b hb o e=>keep1 b o (hold b o e))) start)
theorem Cz {X:Cx} {elt iter:Expr} {x:Str} {px pos:Pos} {ifs:List Expr} {scope:Scope} {wi:TI} {tt:TT} {te:TE} {ys:List Str} {js:List Nat} (hc:X.calm=true) (hi:PI X (.Name x px) iter wi) (B:iL X scope x) (nd:(x :: ys).Nodup) (cap:gL X scope ys js)
  (ht:∀ C s3 H3 ex,PTs (cxB X (x :: ys) scope C s3 H3 ex) ifs tt) (he:∀ C s3 H3 ex,PE (cxB X (x :: ys) scope C s3 H3 ex) elt te) (hs:∀ x,foldedSetIterable iter X.env x=pure x:=by intro _;rfl) :
  PE X (.ListComp elt [⟨.Name x px,iter,ifs,0⟩] scope pos) (tJ js wi tt te):=by
 intro pins s Z H Q I h;have hcl:=kG (scope:=scope) (env:=X.env) fun y hy hf=>I.ok.has y.1 (.inl (B.free y hy hf));rw [eval_ListComp];refine wpAny_comprehension_free (use:=none) rfl hs hcl B.kind B.locs (OF (hi pins s Z H _ I h) (fun xv s1 h1=>OF h1 (fun itv s2 h2=>?_) fun _ _ e=>e) fun _ _ e=>e);obtain ⟨it,fp,tn,J,H2,e,I2,T,st2,f2,W,w0,turn⟩:=h2;subst e;refine rn (RR:=fun acc C=>compPost (model X.prog X.w) X.A X.xe none (EP X pins Z Q) acc C) hc B nd cap ht he I2 T st2 f2 W w0 turn ?_;intro D C H' s' m' hn hC hCD hCn I' q;refine ⟨m',hn,fun h' hs'=>⟨.ref D,H',?_,rfl,q⟩⟩;have hL:X.env.locals≠C:=OC (Ob I2.lt hC);have neC:∀ {b:Qz} {o:HO},H' b=some o->b≠C:=fun e z=>by rw [z,hCn] at e;cases e
 refine I'.step (g':=s'.gens) (t':=s'.toks) (d':=s'.drawn) (ch:=[C]) (fun b hb=>?_) (fun b o _ _ hc' e _=>?_) (fun b o _ _ hc' e _=>⟨o.slots,?_⟩) (fun b o hc' e n=>n) (fun b o hc' e=>⟨o,?_⟩) (fun _ _ z=>z) (fun _ _ _ z=>z) (fun b ps z=>⟨#[],by rw [z];simp⟩) (fun m hn=>hn.sameBut hs' hL) (fun b o e=>?_) I'.bare
 ·rw [Oh.mp hb];refine ⟨.inr (Oi I2.sz hC),Ne.symm hL,fun y c e z=>?_,fun p hp z=>?_⟩
  ·obtain ⟨v,q⟩:=I2.cell y c e;have:=q.lt;rw [z] at this;exact absurd (Ob this hC) (OJ _)
  ·have:=Oe (I2.pin p hp).1;rw [z] at this;exact absurd (Ob this hC) (OJ _)
 ·exact (hs'.2 b fun z=>hc' (Oh.mpr z)).trans e
 ·exact (hs'.2 b fun z=>hc' (Oh.mpr z)).trans e
 ·exact (hs'.2 b fun z=>hc' (Oh.mpr z)).trans e
 ·refine (I'.hok b o e).mM (fun c v hc' q=>(hs'.2 c ?_).trans q) (fun _ q=>q) fun _ _ q=>q;rcases hc' with z | z
  ·rw [z];exact neC e
  ·exact neC z
theorem Cf {X:Cx} {elt iter:Expr} {x y:Str} {px py pos spos:Pos} {ifs:List Expr} {scope:Scope} {wi:TI} {tt:TT} {te:TE} {ys:List Str} {js:List Nat} {i:Nat} (hN:X.N.Nodup) (hi':X.N[i]?=some y) (hy:X.env.scope.names.lookup y=some .local)
  (hsw:swapsWith (.ListComp elt [⟨.Name x px,iter,ifs,0⟩] scope pos) (some (.Name y py)) spos.line X.env=pure true) (hc:X.calm=true) (hi:PI X (.Name x px) iter wi) (B:iL X scope x) (nd:(x :: ys).Nodup) (cap:gL X scope ys js)
  (ht:∀ C s3 H3 ex,PTs (cxB X (x :: ys) scope C s3 H3 ex) ifs tt) (he:∀ C s3 H3 ex,PE (cxB X (x :: ys) scope C s3 H3 ex) elt te) (hs:∀ x,foldedSetIterable iter X.env x=pure x:=by intro _;rfl) :
  PS X (.Assign [.Name y py] (.ListComp elt [⟨.Name x px,iter,ifs,0⟩] scope pos) spos) (uC (tJ js wi tt te) (e7 i)):=by
 intro pins s Z H Dn I h;have hcl:=kG (scope:=scope) (env:=X.env) fun y hy hf=>I.ok.has y.1 (.inl (B.free y hy hf));rw [exec_Assign_Name_used _ _ _ _ hsw];refine N3 (wpAny_standAt (N3 ?_));show wpAny _ X.A (do let _<-comprehension (.ListComp elt [⟨.Name x px,iter,ifs,0⟩] scope pos) scope X.env _ (newList []) false (eval iter X.env) (some (assign (.Name y py) X.env))) _ _ s
 refine N3 (OF (wpAny_comprehension_free (use:=some (assign (.Name y py) X.env)) (Q:=fun _ s'=>SP X pins Dn .next s') rfl hs hcl B.kind B.locs
  (OF (hi pins s Z H _ I h) (fun xv s1 h1=>OF h1 (fun itv s2 h2=>?_) fun _ _ e=>e) fun _ _ e=>e)) (fun _ s' hq=>Om (Om hq)) fun _ _ e=>e)
 obtain ⟨it,fp,tn,J,H2,e,I2,T,st2,f2,W,w0,turn⟩:=h2;subst e;refine rn (Q:=fun x H1=>e7 i x Z H1 Dn.nx) (RR:=fun acc C=>compPost (model X.prog X.w) X.A X.xe (some (assign (.Name y py) X.env)) (fun _ s'=>SP X pins Dn .next s') acc C) hc B nd cap ht he I2 T st2 f2 W w0 turn ?_;intro D C H' s' m' hn hC hCD hCn I' q;have hL:X.env.locals≠C:=OC (Ob I2.lt hC);have hCfs:C ∉ X.fs:=I2.LP hC;obtain ⟨oC,esC,epC,hoC,hdC,restC⟩:=id hn;have I'':Inv X (pins++[(C,oC)]) Z H' s':=I'.gj fun p hp=>by
  rcases Pf.mp hp with z | z
  ·exact I'.pin p (Ol _ z)
  ·rw [Oh.mp z];exact ⟨hoC,hCn,Ne.symm hL,hCfs,fun v z=>by rw [hdC] at z;cases z⟩
 show wpAny _ X.A (assign (.Name y py) X.env (.ref D)) _ _ _;refine OF (kW (pos:=py) hN hi' (.inl hy) (.inr hy) _ s' Z H' (.ref D) (.ref D) Dn.nx I'' rfl q) (fun _ s3 ⟨Z3,H3,I3,q3⟩=>?_) fun _ _ e=>e;have pC:=I3.pin (C,oC) (Ol _ (Ol _ (Oh.mpr rfl)));have hn3:s3.heap.Ns C m':=⟨oC,esC,epC,pC.1,hdC,restC⟩;have hCn3:H3 C=none:=pC.2.1;refine ⟨m',hn3,fun h' hs'=>⟨Z3,H3,?_,q3⟩⟩;have I4:=I3.jb;have neC:∀ {b:Qz} {o:HO},H3 b=some o->b≠C:=fun e z=>by rw [z,hCn3] at e;cases e
 refine I4.step (g':=s3.gens) (t':=s3.toks) (d':=s3.drawn) (ch:=[C]) (fun b hb=>?_) (fun b o _ _ hc' e _=>?_) (fun b o _ _ hc' e _=>⟨o.slots,?_⟩) (fun b o hc' e n=>n) (fun b o hc' e=>⟨o,?_⟩) (fun _ _ z=>z) (fun _ _ _ z=>z) (fun b ps z=>⟨#[],by rw [z];simp⟩) (fun m hn=>hn.sameBut hs' hL) (fun b o e=>?_) I4.bare
 ·rw [Oh.mp hb];refine ⟨.inr (Oi I2.sz hC),Ne.symm hL,fun y c e z=>?_,fun p hp z=>?_⟩
  ·obtain ⟨v,q⟩:=I2.cell y c e;have:=q.lt;rw [z] at this;exact absurd (Ob this hC) (OJ _)
  ·have:=Oe (I2.pin p hp).1;rw [z] at this;exact absurd (Ob this hC) (OJ _)
 ·exact (hs'.2 b fun z=>hc' (Oh.mpr z)).trans e
 ·exact (hs'.2 b fun z=>hc' (Oh.mpr z)).trans e
 ·exact (hs'.2 b fun z=>hc' (Oh.mpr z)).trans e
 ·refine (I4.hok b o e).mM (fun c v hc' q=>(hs'.2 c ?_).trans q) (fun _ q=>q) fun _ _ q=>q;rcases hc' with z | z
  ·rw [z];exact neC e
  ·exact neC z
def Its (x:Str):It:=⟨fun i _=>i < x.length,fun i H v H'=>H'=H/\∃ c,x.cps[i]?=some c/\v=.str ⟨#[c]⟩,fun i _=>x.length<=i⟩
theorem zS {P:Program} {w:World} {K:Fg} {y:Str} {py:Pos} {x:Str} {it:Qz} {St:Nat->Heap->Prop} (W:∀ A':Around,A'.handled=none->Walks P w A' it [it] [it] x.cps.size (SignAt x) St)
  (ob:∀ i h,St i h->∃ o,h.get? it=some o/\∀ v,o.data≠.cell v) (hs:∀ (A:Around) i (s:Qx) (Q:Qj->Qx->Prop) (E:Qj->Qx->Prop),St i s.heap->Q (.ref it) s->wpAny (model P w) A (pyIter (.ref it)) Q E s) :
  Turn P w K (.Name y py) (Its x) [it] it (fun i h=>i<=x.cps.size/\St i h) where
 mem:=by simp
 obj:=fun i h st b hb=>by
  have e:b=it:=by simpa using hb
  subst e;exact ob i h st.2
 keep:=fun i h h' st k=>⟨st.1,(W { depth:=0,frames:=none,guards:=none,units:=0,handled:=none } rfl).frame i h h' st.2 fun b hb o e=>k b hb o e⟩
 item:=by
  intro X hP hw hK hc i pins s Z H E I hf st hg;subst hP hw hK;obtain ⟨f0,f1,f2,f3,f4,f5⟩:=hf it (by simp);refine (W X.A (I.ok.hd hc)).item i s _ _ hg st.2 fun v h' tk hv st' kk=>?_;obtain ⟨c,t,hcps,rfl⟩:=hv;have I1:Inv X pins Z H { s with heap:=h',toks:=tk }:=I.turned (fun b o hb e=>kk b o (by simpa using hb) e) f0 f1 f3 f4 f5;exact ⟨_,rfl,Om (show _ from ⟨.str ⟨#[c]⟩,H,I1,⟨t,rfl⟩,⟨rfl,c,hcps,rfl⟩,⟨hg,st'⟩,fun b hb=>(hf b hb).1⟩)⟩
 done:=by
  intro X hP hw hK hc i pins s Z H E I hf st hg;subst hP hw hK;obtain ⟨f0,f1,f2,f3,f4,f5⟩:=hf it (by simp);have e:i=x.cps.size:=Nat.le_antisymm st.1 hg;subst e;exact (W X.A (I.ok.hd hc)).done s _ _ st.2 fun h' tk kk=>⟨rfl,I.turned (fun b o hb e=>kk b o (by simpa using hb) e) f0 f1 f3 f4 f5⟩
 self:=fun A i s Q E st h=>hs A i s Q E st.2 h
def JB (tl:TE):TI:=fun Z H R=>tl Z H fun x H1=>∃ z,x=.str z/\R (Its z) H1
theorem Fl {X:Cx} {y:Str} {py:Pos} {l:Expr} {tl:TE} (hl:PE X l tl):PI X (.Name y py) l (JB tl):=by
 intro pins s Z H R I h;refine thn (hl pins s Z H _ I h) fun v s1 ⟨x,H1,I1,r1,q1⟩=>?_;obtain ⟨z,e,q⟩:=q1;subst e;obtain ⟨t,rfl⟩:=r1;have hn:H1 s1.heap.objs.size=none:=I1.hok.fresh (Oc _);have key:∀ (T:String) (sz:T = "str_ascii_iterator" \/ T = "str_iterator"),PIE X pins Z (.Name y py) R (.ref s1.heap.objs.size) { s1 with heap:=s1.heap.push { cls:=.type T,data:=.fields #[.str z t,.int 0 0] } }:=fun T sz=>by
  have I2:Inv X pins Z H1 { s1 with heap:=s1.heap.push { cls:=.type T,data:=.fields #[.str z t,.int 0 0] },toks:=s1.toks }:=I1.kept fun b o e=>N8 _ e;have st0:(s1.heap.push { cls:=.type T,data:=.fields #[.str z t,.int 0 0] }).IsStrIter s1.heap.objs.size T z t 0:=⟨_,OA _ rfl,rfl,rfl⟩;refine ⟨s1.heap.objs.size,[s1.heap.objs.size],fun i h=>i<=z.cps.size/\h.IsStrIter s1.heap.objs.size T z t i,Its z,H1,rfl,I2,?_,⟨O0 _,st0⟩,fun b hb=>?_,q⟩
  ·refine zS (fun A' hA=>?_) (fun i h st=>?_) fun A i s Q E st hq=>?_
   ·rcases sz with rfl | rfl
    ·exact Walks.strAscii hA _ z t
    ·exact Walks.strWide hA _ z t
   ·obtain ⟨o,e,c,d⟩:=st;exact ⟨o,e,fun v z=>by rw [d] at z;cases z⟩
   ·rcases sz with rfl | rfl
    ·exact wpAny_pyIter_striter_ascii st hq
    ·exact wpAny_pyIter_striter_wide st hq
  ·rw [Oh.mp hb];exact I1.H9 (Oc _) hn
 cases ha:z.cps.all (· < 128)
 ·exact wpAny_pyIter_wide ha (key _ (.inr rfl))
 ·exact wpAny_pyIter_ascii ha (key _ (.inl rfl))
section
variable {X:Cx}
theorem uQ:OpR X (compareOp .LtE) (fun x y H Q=>∃ i j,x=.str i/\y=.str j/\Q (.bl (!(decide (j.cps.toList < i.cps.toList)))) H):=by
 intro pins s Z H x y v u Q I rx ry h;obtain ⟨i,j,rfl,rfl,q⟩:=h;obtain ⟨t,rfl⟩:=rx;obtain ⟨t',rfl⟩:=ry;exact P.le_str ⟨.bl _,H,I,rfl,q⟩
theorem OpR.or' {f:Qj->Qj->Sem Qj} {r r':R2} (h:OpR X f r) (h':OpR X f r'):OpR X f (fun x y H Q=>r x y H Q\/r' x y H Q):=by
 intro pins s Z H x y v u Q I rx ry q;rcases q with q | q
 ·exact h pins s Z H x y v u Q I rx ry q
 ·exact h' pins s Z H x y v u Q I rx ry q
theorem Am:OpR X (binaryOp .FloorDiv) (rI (fun _ j=>0 < j/\j.natAbs.log2 < 9000) fun i j=>.int (i / j)):=opI fun i j _ _ _ _ _ hc q=>by
 have h1:(0:Int) < j:=hc.1;exact floordiv_int (by omega) (by rw [Int.fdiv_eq_ediv_of_nonneg i (by omega)];exact q) (.inl (PyProof.noPylong_of_log2 hc.2))
theorem uS (hc:X.calm=true):bu X (.builtin "all") (fun xs H Q=>∃ (a:Qz) (bs:List Bool),xs=[.ref a]/\SqL X.K H a (bs.map V.bl)/\Q (.bl (bs.all id)) H):=by
 intro pins s Z H xs us Q I r h;obtain ⟨a,bs,rfl,hq,q⟩:=h;obtain ⟨u,rfl,r1⟩:=vals1 r;cases (show u=Value.ref a from r1);obtain ⟨its,rv,p,hz⟩:=I.list hq;have ha:a < s.heap.objs.size:=by
  obtain ⟨o,e,_⟩:=p.isList;exact Oe e
 refine call_all_walk (wpAny_pyIter_list p.isList ?_);refine ⟨s.heap.objs.size,_,_,_,_,_,fun i=>(bs[i]?).getD true,rfl,Walks.list (show X.A.in1.handled=none from I.ok.hd hc) s.heap.objs.size a (OC ha) its.toArray,⟨⟨_,OA _ rfl,rfl,rfl⟩,p.isList.push _⟩,?_,?_⟩
 ·intro i v s' Q' E' hv hQ;have hv':its[i]?=some v:=by simpa using hv
  have hi:i < its.length:=(NW.mp hv').1;have hb:i < bs.length:=by have:=rv.length;rw [NT] at this;omega
  obtain ⟨u,hu,ru⟩:=rv.get (i:=i) (x:=.bl bs[i]) (by rw [Oj,N7 hb];rfl);rw [hv'] at hu;cases hu;cases (show v=Value.bool bs[i] from ru);dsimp only at hQ;rw [N7 hb] at hQ;exact OU hQ
 ·intro h' tk kk;have e:(List.range its.toArray.size).all (fun i=>(bs[i]?).getD true)=bs.all id:=by
   have hl:its.toArray.size=bs.length:=by rw [Of,<-rv.length,NT]
   rw [hl,Bool.eq_iff_iff,O8,O8];constructor
   ·intro h b hb;obtain ⟨i,hi,e⟩:=List.mem_iff_getElem.mp hb;have:=h i (List.mem_range.mpr hi);rw [N7 hi,e] at this;exact this
   ·intro h i hi;rw [N7 (List.mem_range.mp hi)];exact h _ (List.getElem_mem _)
  rw [e];have I1:Inv X pins Z H { s with heap:=s.heap.push { cls:=.type "list_iterator", data:=.fields #[.ref a,rawInt 0] },toks:=s.toks }:=I.kept fun b o e=>N8 _ e;have hn:H s.heap.objs.size=none:=I.hok.fresh (Oc _)
  have I2:Inv X pins Z H { s with heap:=h',toks:=tk }:=I.kept fun b o e=>kk b o (by
   intro z;have:=Oh.mp z;rw [this] at e
   exact absurd (Oe e) (OJ _)) (N8 _ e)
  exact ⟨.bl _,H,I2,rfl,q⟩
def g9 (x:Str) (lo hi:Option Int):Str:=⟨((x.cps.toList.drop (HT.sIx x.length 0 lo)).take (HT.sIx x.length x.length hi - HT.sIx x.length 0 lo)).toArray⟩
theorem LU (lo hi:Option Int) (n:Nat):Builtin.Str.strSliceIndices lo hi 1 n=(List.range (HT.sIx n n hi - HT.sIx n 0 lo)).map (HT.sIx n 0 lo+·):=by
 rw [<- sliceRange_one];unfold Builtin.Str.strSliceIndices;dsimp only;have h1:(1:Int) > 0:=by decide
 have e0:(match lo with | none=>(if (1:Int) > 0 then 0 else (n:Int) - 1) | some i=>if (1:Int) > 0 then max 0 (min (if i < 0 then i+(n:Int) else i) (n:Int)) else max (-1) (min (if i < 0 then i+(n:Int) else i) ((n:Int) - 1)))=((HT.sIx n 0 lo:Nat):Int):=by
  cases lo with
  | none=>simp [HT.sIx]
  | some i =>
   simp only [HT.sIx,h1,PQ];by_cases h:i < 0
   ·simp only [h,PQ] <;> omega
   ·simp only [h,if_false] <;> omega
 have e1:(match hi with | none=>(if (1:Int) > 0 then (n:Int) else -1) | some i=>if (1:Int) > 0 then max 0 (min (if i < 0 then i+(n:Int) else i) (n:Int)) else max (-1) (min (if i < 0 then i+(n:Int) else i) ((n:Int) - 1)))=((HT.sIx n n hi:Nat):Int):=by
  cases hi with
  | none=>simp [HT.sIx]
  | some i =>
   simp only [HT.sIx,h1,PQ];by_cases h:i < 0
   ·simp only [h,PQ] <;> omega
   ·simp only [h,if_false] <;> omega
 rw [<- e0,<-e1];cases lo <;> cases hi <;> rfl
theorem qL (n:Nat) (v:Option Int):HT.sIx n n v<=n/\HT.sIx n 0 v<=n:=by
 cases v with
 | none=>simp [HT.sIx]
 | some i =>
  simp only [HT.sIx];split <;> omega
def MD:V->Option Int->Option Int->Hp->VK->Prop:=fun x lo hi H Q=>∃ z,x=.str z/\z.length<=sizeLine/\Q (.str (g9 z lo hi)) H
theorem d3 (x:Str) (lo hi:Option Int):(g9 x lo hi).length<=x.length:=by
 have e:x.cps.toList.length=x.length:=by simp [Str.length]
 show (((x.cps.toList.drop _).take _).toArray).size<=x.length;rw [Of,OB,OR,e];omega
theorem dP:SlR X MD:=by
 intro pins s Z H x v vl vu lo hi sl Q I rx hs pl pu h;obtain ⟨z,rfl,hz,q⟩:=h;obtain ⟨t,rfl⟩:=rx;refine ⟨"str", _,F.slot_str_getitem.lookup,typeIs_str _ _ _,?_⟩;obtain ⟨l,el,el'⟩:∃ l:Option (Int×Tok),l.map (·.1)=lo/\vl=partValue l:=by
  cases pl with
  | none=>exact ⟨none,rfl,rfl⟩
  | int i t=>exact ⟨some (i,t),rfl,rfl⟩
 obtain ⟨u,eu,eu'⟩:∃ l:Option (Int×Tok),l.map (·.1)=hi/\vu=partValue l:=by
  cases pu with
  | none=>exact ⟨none,rfl,rfl⟩
  | int i t=>exact ⟨some (i,t),rfl,rfl⟩
 subst el' eu';obtain ⟨o,h1,h2,h3⟩:=hs;refine wpAny_getItem_str_slice (l:=l) (u:=u) (st:=none) ⟨o,h1,h2,h3⟩ rfl ?_;have pk:slicePicked z l u none=(List.range (HT.sIx z.length z.length hi - HT.sIx z.length 0 lo)).map (HT.sIx z.length 0 lo+·):=by
  rw [<- LU,<-el,<-eu];rfl
 have ez:z.cps.toList.length=z.length:=by simp [Str.length]
 have cut:(⟨((slicePicked z l u none).filterMap (z.cps[·]?)).toArray⟩:Str)=g9 z lo hi:=by
  rw [pk,pick_run];rfl
 unfold sliceMade;split
 ·rename_i hc;have hl:(slicePicked z l u none).length=z.length:=by
   have:=(Bool.and_eq_true_iff.mp hc).2;simpa using this
  rw [pk,NT,PB] at hl;have b1:=qL z.length hi;have b2:=qL z.length lo;have h0:HT.sIx z.length 0 lo=0\/z.length=0:=by omega
  have e:g9 z lo hi=z:=by
   unfold g9;rcases h0 with h0 | h0
   ·rw [h0,List.drop_zero,O6 (by omega)]
   ·have hn:z.cps.toList=[]:=List.eq_nil_of_length_eq_zero (by omega);rw [hn];have:z.cps=#[]:=by
     have:=congrArg List.toArray hn;simpa using this
    obtain ⟨c⟩:=z;simp only at this;subst this;simp
  rw [e] at q;exact ⟨.str z,H,I,⟨t,rfl⟩,q⟩
 ·rw [cut];exact ⟨Oi (d3 _ _ _) hz,⟨.str _,H,I.tok _,⟨_,rfl⟩,q⟩⟩
end
mutual
def Dn (p:Qz) (H:Hp):Qq->V->Prop
 | .none,v=>v=.non
 | .bool b,v=>v=.bl b
 | .int i,v=>v=.int i
 | .str x,v=>v=.str x
 | .list ds,v=>∃ a xs,v=.ref a/\a≠p/\H a=some (.lst xs)/\DnL p H ds xs
 | .tuple ds,v=>∃ a xs,v=.ref a/\a≠p/\H a=some (.tup xs)/\DnL p H ds xs
 | .dict kvs,v=>kvs=[]/\∃ a,v=.ref a/\a≠p/\H a=some (.dK [])
def DnL (p:Qz) (H:Hp):List Qq->List V->Prop
 | [],vs=>vs=[]
 | d :: ds,vs=>∃ v r,vs=v :: r/\Dn p H d v/\DnL p H ds r
end
open PySem PySem.Spec PyProof.Rows
def rOr (r r':R2):R2:=fun x y H Q=>r x y H Q\/r' x y H Q
def KI (r r':V->Option Int->Option Int->Hp->VK->Prop):V->Option Int->Option Int->Hp->VK->Prop:=fun x l u H Q=>r x l u H Q\/r' x l u H Q
def FG:R2:=fun x y H Q=>∃ i j,x=.str i/\y=.str j/\i.length+j.length<=sizeLine/\Q (.str (i++j)) H
def Md:R2:=fun x y H Q=>∃ i j,x=.str i/\y=.str j/\Q (.bl (decide (i.cps.toList < j.cps.toList))) H
def Mu:R2:=fun x y H Q=>∃ i j,x=.str i/\y=.str j/\Q (.bl (!(decide (j.cps.toList < i.cps.toList)))) H
def NP:R2:=fun x y H Q=>∃ i j,x=.str i/\y=.str j/\Q (.bl (!(Builtin.Str.occurrences j i 0 j.length 1).isEmpty)) H
def Cb:R2:=fun x y H Q=>∃ i j,x=.str i/\y=.str j/\Q (.bl (!(!(Builtin.Str.occurrences j i 0 j.length 1).isEmpty))) H
def Mg (K:Fg):List V->Hp->VK->Prop:=fun xs H Q=>∃ (a:Qz) (bs:List Bool),xs=[.ref a]/\SqL K H a (bs.map V.bl)/\Q (.bl (bs.all id)) H
def GH (K:Fg):List V->Hp->VK->Prop:=fun xs H Q=>∃ x n,xs=[x]/\Mi K x H n/\Q (.int n) H
def K1:List V->Hp->VK->Prop:=fun xs H Q=>∃ i,xs=[.int i]/\Q (.int (if i < 0 then -i else i)) H
def DB:List V->Hp->VK->Prop:=fun xs H Q=>(∃ i,xs=[.int i]/\Q (.int i) H)\/∃ k,xs=[.bl k]/\Q (.int (if k then 1 else 0)) H
section
variable {X:Cx}
theorem orR {f:Qj->Qj->Sem Qj} {r r':R2} (h:OpR X f r) (h':OpR X f r'):OpR X f (rOr r r'):=OpR.or' h h'
theorem orS {r r':V->Option Int->Option Int->Hp->VK->Prop} (h:SlR X r) (h':SlR X r'):SlR X (KI r r'):=SlR.or h h'
theorem Ca:OpR X (binaryOp .Add) FG:=t8
theorem FD:OpR X (compareOp .Lt) Md:=uJ
theorem EB:OpR X (compareOp .LtE) Mu:=uQ
theorem EV:OpR X (compareOp .In) NP:=xU
theorem xM:OpR X (compareOp .NotIn) Cb:=oB
theorem yL (hc:X.calm=true):bu X (.builtin "all") (Mg X.K):=uS hc
theorem wg:bu X (.builtin "len") (GH X.K):=zJ
theorem uV:bu X (.builtin "abs") K1:=zL
theorem xj:bu X (.type "int") DB:=uF
end
end L2
namespace L2
open PySem
noncomputable def rD (sc scope:Scope) (x:Str):Bool :=
 (scope.kind==.function)&&scope.names.all (fun y=>y.2 != .cell)&&scope.names.all (fun y=>y.2 != .local||scope.names.lookup y.1==some .local)&&(scope.names.lookup x==some .local)&&scope.names.all (fun y=>y.2 != .free||sc.names.lookup y.1==some .cell)
theorem bsc {X:Cx} {sc scope:Scope} {x:Str} (e:X.env.scope=sc) (h:rD sc scope x=true):iL X scope x:=by
 unfold rD at h;simp only [Ot,O8,Pu,bne_iff_ne,Pe,ne_eq] at h;obtain ⟨⟨⟨⟨h1,h2⟩,h3⟩,h4⟩,h5⟩:=h;exact ⟨h1,fun y hy=>h2 y hy,fun y hy e=>(h3 y hy).resolve_left fun z=>z e,h4,fun y hy e'=>by rw [e];exact (h5 y hy).resolve_left fun z=>z e'⟩
theorem aV {e:Expr} {es:List Expr} {env:Env} (h:PySem.W.isStarred e=false):starEach (e :: es) env=(false,eval e env) :: starEach es env:=by
 cases e <;> first | rfl | exact absurd h (by simp [PySem.W.isStarred])
theorem bM {pos:Pos} {env:Env}:∀ {es:List Expr},es.all (fun e=>!PySem.W.isStarred e)=true->(backTo pos (starEach es env)).any (·.1)=false
 | [],_=>rfl
 | e :: es,h=>by
  rw [List.all_cons,Ot] at h;rw [aV (by simpa using h.1)];have ih:=bM (pos:=pos) (env:=env) h.2;unfold backTo at ih ⊢;rw [List.map_cons,List.any_cons,ih];rfl
structure JE (X:Cx) (e:Expr) (t:TE):Prop where
 h:PE X e t
structure JT (X:Cx) (e:Expr) (t:TT):Prop where
 h:PT X e t
structure JW (X:Cx) (e:Expr) (t:TT):Prop where
 h:PW X e t
structure JA (X:Cx) (es:List Expr) (t:TA):Prop where
 h:PA X es t
structure JS (X:Cx) (s:Stmt) (t:TS):Prop where
 h:PS X s t
structure JSs (X:Cx) (s:List Stmt) (t:TS):Prop where
 h:PSs X s t
structure JG (X:Cx) (e:Expr) (t:TG):Prop where
 h:PG X e t
structure JI (X:Cx) (tg e:Expr) (t:TI):Prop where
 h:PI X tg e t
structure JO (X:Cx) (e:Option Expr) (t:TO):Prop where
 h:PO X e t
structure JC (X:Cx) (N:List Str) (scope:Scope) (e:Expr) (t:TE):Prop where
 h:∀ C s3 H3 ex,PE (cxB X N scope C s3 H3 ex) e t
structure JTs (X:Cx) (N:List Str) (scope:Scope) (e:List Expr) (t:TT):Prop where
 h:∀ C s3 H3 ex,PTs (cxB X N scope C s3 H3 ex) e t
section
variable {X:Cx} {e a b c:Expr} {es rest:List Expr} {te ta tb tc:TE} {tA tB':TT} {t:TA} {x:Str} {p pos:Pos} {id T:String} {r:List V->Hp->VK->Prop} {CX:CXT} {k:Nat} {f:Qz} {fd:FuncData} {ps:List Str} {sp:Sp} {ds:List Qj} {dvs:List V} {E:XK}
theorem GC (i:Nat) (hN:X.N[i]?=some x) (hv:Vis X.env.scope x) (hd:(x==("__debug__" : Str))=false) (hcd:(x==("__classdict__" : Str))=false):JE X (.Name x pos) (fE i):=⟨jk hN hv hd hcd⟩
theorem ai {i j}:JE X (.Constant (.int i) j pos) (tC (.int i)):=⟨HB⟩
theorem eBl {b j}:JE X (.Constant (.bool b) j pos) (tC (.bl b)):=⟨KW⟩
theorem mJ {j}:JE X (.Constant .none j pos) (tC .non):=⟨Hv⟩
theorem aD {x j}:JE X (.Constant (.str x) j pos) (tC (.str x)):=⟨Ft⟩
theorem ae:JA X [] rl:=⟨vB⟩
theorem eA (ha:JE X e te) (hr:JA X es t) (h:PySem.W.isStarred e=false):JA X (e :: es) (fR te t):=⟨mE ha.h hr.h (aV h)⟩
theorem CQ (F:de X.prog X.w X.K X.mg X.base CX k f fd ps sp) (hr:dh k X.A) (hg:Gl X x) (hm:X.mg x=some (.ref f)) (hk:PySem.W.keepIn X.K (.ref f)=true) (hb:Binds X.K fd ps ds) (hd:Vals dvs ds) (hx:Passes CX X E)
  (ha:JA X (e :: es) t) (h1:PySem.W.isStarred e=false) (h2:es.all (fun e=>!PySem.W.isStarred e)=true) (hdb:(x==("__debug__" : Str))=false):JE X (.Call (.Name x p) (e :: es) [] pos) (nY sp dvs E t) :=
 ⟨CW F hr hg hm hk hb hd hx ha.h hdb (aV h1) (bM h2)⟩
theorem eB (hc:bu X (.builtin id) r) (hg:Gl X x) (hm:X.mg x=none) (hv:bootBuiltins x=some (.builtin id)) (ha:JA X (e :: es) t) (h1:PySem.W.isStarred e=false) (h2:es.all (fun e=>!PySem.W.isStarred e)=true)
  (hn:x ≠ "__name__") (hdb:(x==("__debug__" : Str))=false):JE X (.Call (.Name x p) (e :: es) [] pos) (tCB r t):=⟨AY hc hg hm hv ha.h hn hdb (aV h1) (bM h2)⟩
theorem eTy (hc:bu X (.type T) r) (hg:Gl X x) (hm:X.mg x=none) (hv:bootBuiltins x=some (.type T)) (ha:JA X (e :: es) t) (h1:PySem.W.isStarred e=false) (h2:es.all (fun e=>!PySem.W.isStarred e)=true)
  (hn:x ≠ "__name__") (hdb:(x==("__debug__" : Str))=false):JE X (.Call (.Name x p) (e :: es) [] pos) (tCB r t):=⟨x4 hc hg hm hv ha.h hn hdb (aV h1) (bM h2)⟩
theorem eR1 {tg a:Expr} {ta:TA} (hg:Gl X "range") (hm:X.mg "range" = none) (ha:JA X [a] ta) (h:PySem.W.isStarred a=false):JI X tg (.Call (.Name "range" p) [a] [] pos) (CJ ta):=⟨xR hg hm ha.h (aV h)⟩
theorem eIL {tg:Expr} (h:JE X e te):JI X tg e (D9 X.K te):=⟨D5 h.h⟩
theorem eIT {tg:Expr} (h:JE X e te):JI X tg e (Kv X.K te):=⟨Gn h.h⟩
theorem eIS {y:Str} {py:Pos} (h:JE X e te):JI X (.Name y py) e (JB te):=⟨Fl h.h⟩
theorem bg {v:V} {u:Qj} (hg:Gl X x) (hm:X.mg x=some u) (r:RelV v u) (hd:(x==("__debug__" : Str))=false):JE X (.Name x pos) (tC v):=⟨CZ hg hm r hd⟩
theorem HW {v:V} {u:Qj} (hg:Gl X x) (hm:X.mg x=none) (hv:bootBuiltins x=some u) (r:RelV v u) (hn:x ≠ "__name__") (hd:(x==("__debug__" : Str))=false):JE X (.Name x pos) (tC v):=⟨B5 hg hm hv r hn hd⟩
theorem eOp {op:Operator} {r:R2} (ho:OpR X (binaryOp op) r) (ha:JE X a ta) (hb:JE X b tb):JE X (.BinOp a op b pos) (tOp r ta tb):=⟨La ho ha.h hb.h⟩
theorem eUn {op:UnaryOp} {r:V->Hp->VK->Prop} (ho:UnR X (unaryOp op) r) (ha:JE X a ta):JE X (.UnaryOp op a pos) (tUn r ta):=⟨Ja ho ha.h⟩
theorem NA (ha:JE X a ta):JE X (.UnaryOp .Not a pos) (CY ta):=⟨Fy ha.h⟩
theorem sZ {op} (h:JE X a te):JE X (.BoolOp op [a] pos) te:=⟨E3 h.h⟩
theorem uB (ha:JE X a ta) (hb:JE X (.BoolOp .And (b :: rest) pos) tb):JE X (.BoolOp .And (a :: b :: rest) pos) (Dw ta tb):=⟨FP ha.h hb.h⟩
theorem eOr (ha:JE X a ta) (hb:JE X (.BoolOp .Or (b :: rest) pos) tb):JE X (.BoolOp .Or (a :: b :: rest) pos) (Li ta tb):=⟨Lv ha.h hb.h⟩
theorem eIf (hc:JT X c tA) (ha:JE X a ta) (hb:JE X b tb):JE X (.IfExp c a b pos) (tIf tA ta tb):=⟨A0 hc.h ha.h hb.h⟩
theorem j5 {op:CmpOp} {r:R2} (ho:OpR X (compareOp op) r) (ha:JE X a ta) (hb:JE X b tb) (hm:behindInMarks op b=false):JE X (.Compare a [op] [b] pos) (tOp r ta tb):=⟨Dz ho ha.h hb.h hm⟩
theorem d4 {op:CmpOp} {r:R2} (ho:OpR X (compareOp op) r) (ha:JE X a ta) (hb:JE X b tb) (hm:behindInMarks op b=false):JT X (.Compare a [op] [b] pos) (t5 (tOp r ta tb)):=⟨CI ho ha.h hb.h hm⟩
theorem uL {op op':CmpOp} {r r':R2} (ho:OpR X (compareOp op) r) (ho':OpR X (compareOp op') r') (ha:JE X a ta) (hb:JE X b tb) (hc:JE X c tc) (hm:lastMarks [op,op'] [b,c]=false):JE X (.Compare a [op,op'] [b,c] pos) (nV r r' ta tb tc):=⟨zH ho ho' ha.h hb.h hc.h hm⟩
theorem pj {op op':CmpOp} {r r':R2} (ho:OpR X (compareOp op) r) (ho':OpR X (compareOp op') r') (ha:JE X a ta) (hb:JE X b tb) (hc:JE X c tc) (hm:lastMarks [op,op'] [b,c]=false):JT X (.Compare a [op,op'] [b,c] pos) (t5 (nV r r' ta tb tc)):=⟨zX ho ho' ha.h hb.h hc.h hm⟩
theorem Ax (h:JE X e te) (he:∀ whole,isTrue e X.env whole=(do let v<-whole;standAt e.pos;holding [v] (truthy v))):JT X e (tB te):=⟨Gw h.h he⟩
theorem fF (ha:JT X a tA):JT X (.UnaryOp .Not a pos) (Ju tA):=⟨ES ha.h⟩
theorem gz (ha:JT X a tA):JW X (.BoolOp .And [a] pos) tA:=⟨pw_and1 ha.h⟩
theorem g6 (ha:JT X a tA):JW X (.BoolOp .Or [a] pos) tA:=⟨pw_or1 ha.h⟩
theorem jY (ha:JT X a tA) (hb:JW X (.BoolOp .And (b :: rest) pos) tB'):JW X (.BoolOp .And (a :: b :: rest) pos) (K2 tA tB'):=⟨pw_and ha.h hb.h⟩
theorem oV (ha:JT X a tA) (hb:JW X (.BoolOp .Or (b :: rest) pos) tB'):JW X (.BoolOp .Or (a :: b :: rest) pos) (tOr tA tB'):=⟨pw_or ha.h hb.h⟩
theorem eW (h:JW X e tA):JT X e tA:=⟨PW.pt h.h⟩
theorem fG {x1} (h:JA X es t):JE X (.Tuple es x1 pos) (J3 t):=⟨FQ h.h⟩
theorem cH (h:JA X es t):JE X (.List es pos) (KU t):=⟨Ht h.h⟩
theorem eIx {r:R2} (hr:IxR X r) (ha:JE X a ta) (hb:JE X b tb) (hs:o4 b):JE X (.Subscript a b pos) (tOp r ta tb):=⟨JQ hr ha.h hb.h hs⟩
theorem wO:JO X none yS:=⟨C6⟩
theorem eP (h:JE X e te):JO X (some e) (Gg te):=⟨Co h.h⟩
theorem eSl {p2:Pos} {lo hi:Option Expr} {tl th:TO} {r:V->Option Int->Option Int->Hp->VK->Prop} (hr:SlR X r) (he:JE X e te) (hl:JO X lo tl) (hu:JO X hi th):JE X (.Subscript e (.Slice lo hi none p2) pos) (tSl r te tl th):=⟨zU hr he.h hl.h hu.h⟩
theorem Ki {i:Nat} {pos':Pos} (he:JE X e te) (hN:X.N.Nodup) (hi:X.N[i]?=some x) (hx:Loc X.env.scope x) (hs:swapsWith e (some (.Name x pos')) pos.line X.env=pure false) (hf:X.fn x=true\/X.env.scope.names.lookup x=some .local) :
  JS X (.Assign [.Name x pos'] e pos) (uC te (e7 i)):=⟨Bk hN hi hx he.h hs hf⟩
theorem AG {tg:Expr} {g:TG} (he:JE X e te) (hg:JG X tg g) (hs:swapsWithSole [tg] e pos.line X.env=pure false) (hw:swappedStores [tg] e X.env=pure none) (h1:(assignEach [tg] X.env).map (·.2)=[assign tg X.env]):JS X (.Assign [tg] e pos) (uC te g):=⟨Hg he.h hg.h hs hw h1⟩
theorem NL {iter tg:Expr} {body:List Stmt} {wi:TI} {g:TG} {tb:TS} (hi:JI X tg iter wi) (hg:JG X tg g) (hb:JSs X body tb) (hp:PassesOwn (model X.prog X.w) X.A X.env X.xe) (hc:X.calm=true) (hs:∀ x,foldedSetIterable iter X.env x=pure x):JS X (.For tg iter body [] pos) (Ii wi g tb):=⟨EX hp hc hi.h hg.h hb.h hs⟩
theorem qK {c:Expr} {body:List Stmt} {tc:TT} {tb:TS} (hc:JT X c tc) (hb:JSs X body tb) (hp:PassesOwn (model X.prog X.w) X.A X.env X.xe):JS X (.While c body [] pos) (xw tc tb):=⟨Af hp hc.h hb.h⟩
theorem bt {a b:List Stmt} {tc:TT} {t u:TS} (hc:JT X c tc) (ha:JSs X a t) (hb:JSs X b u):JS X (.If c a b pos) (Ip tc t u):=⟨LA hc.h ha.h hb.h⟩
theorem aN (he:JE X e te):JS X (.Return (some e) pos) (Hs te):=⟨Ff he.h⟩
theorem eGN {i:Nat} (hN:X.N.Nodup) (hi:X.N[i]?=some x) (hx:Loc X.env.scope x) (hf:X.fn x=true\/X.env.scope.names.lookup x=some .local):JG X (.Name x pos) (e7 i):=⟨kW hN hi hx hf⟩
theorem bV (he:JE X e te) (hs:swapsWith e none pos.line X.env=pure false):JS X (.Expr e pos) (CC te):=⟨C9 he.h hs⟩
theorem Em {o i:Expr} {to ti:TE} {t:HR} (ho:JE X o to) (hi:JE X i ti) (hs:JM X t) (ha:∀ v,assign (.Subscript o i pos) X.env v=(do
   let ov<-holding [v] (eval o X.env)
   let iv<-holding [v,ov] (eval i X.env)
   standAt pos
   holding [v,ov,iv] (setItem ov iv v)
   release [v,ov,iv] [])):JG X (.Subscript o i pos) (Mq to ti t):=⟨FR ho.h hi.h hs ha⟩
theorem bC:JSs X [] AE:=⟨D3⟩
theorem aF {s:Stmt} {t:TS} (h:JS X s t):JSs X [s] t:=⟨uX h.h⟩
theorem au {s:Stmt} {rest:List Stmt} {t u:TS} (h:JS X s t) (hr:JSs X rest u):JSs X (s :: rest) (Ib t u):=⟨A5 h.h hr.h⟩
theorem Kf {elt iter:Expr} {px:Pos} {ifs:List Expr} {scope:Scope} {wi:TI} {tt:TT} {js:List Nat} (ys:List Str) (hi:JI X (.Name x px) iter wi) (ht:JTs X (x :: ys) scope ifs tt) (he:JC X (x :: ys) scope elt te)
  (hc:X.calm=true) (B:iL X scope x) (nd:(x :: ys).Nodup) (cap:gL X scope ys js) (hs:∀ x,foldedSetIterable iter X.env x=pure x):JE X (.ListComp elt [⟨.Name x px,iter,ifs,0⟩] scope pos) (tJ js wi tt te):=⟨Cz hc hi.h B nd cap ht.h he.h hs⟩
theorem LQ {elt iter:Expr} {y:Str} {px py spos:Pos} {ifs:List Expr} {scope:Scope} {wi:TI} {tt:TT} {js:List Nat} {i:Nat} (ys:List Str) (hi:JI X (.Name x px) iter wi) (ht:JTs X (x :: ys) scope ifs tt) (he:JC X (x :: ys) scope elt te)
  (hN:X.N.Nodup) (hi':X.N[i]?=some y) (hy:X.env.scope.names.lookup y=some .local) (hsw:swapsWith (.ListComp elt [⟨.Name x px,iter,ifs,0⟩] scope pos) (some (.Name y py)) spos.line X.env=pure true)
  (hc:X.calm=true) (B:iL X scope x) (nd:(x :: ys).Nodup) (cap:gL X scope ys js) (hs:∀ x,foldedSetIterable iter X.env x=pure x):JS X (.Assign [.Name y py] (.ListComp elt [⟨.Name x px,iter,ifs,0⟩] scope pos) spos) (uC (tJ js wi tt te) (e7 i)):=⟨Cf hN hi' hy hsw hc hi.h B nd cap ht.h he.h hs⟩
theorem eC {N:List Str} {scope:Scope} (h:∀ C s3 H3 ex,JE (cxB X N scope C s3 H3 ex) e te):JC X N scope e te:=⟨fun C s3 H3 ex=>(h C s3 H3 ex).h⟩
theorem eT0 {N:List Str} {scope:Scope}:JTs X N scope [] JN:=⟨fun _ _ _ _=>Cw⟩
theorem eBM {apos cpos:Pos} {o:Expr} {name:Str} {to:TE} {r:V->List V->Hp->VK->Prop} (ho:JE X o to) (ha:JA X (e :: es) t) (hm:MtR X id r) (pa:PlainAttrs T) (slot:Slot T name id) (hty:typeOf (.builtin id)=pure (.type "method_descriptor"))
  (hbase:attributeBase o name X.env (eval o X.env)=eval o X.env)
  (hfew:((backTo cpos (starEach (e :: es) X.env)).all (fun x=>!x.1)&&(backToKw cpos (keywordEach [] X.env)).all (fun x=>x.1.isSome)
   && decide ((e :: es).length+([]:List Keyword).length+(if ([]:List Keyword).isEmpty then 0 else 1) < 30))=true)
  (hline:(apos.endLine==cpos.line)=true) (h1:PySem.W.isStarred e=false) (h2:es.all (fun e=>!PySem.W.isStarred e)=true):JE X (.Call (.Attribute o name apos) (e :: es) [] cpos) (tBM X.K T r to t):=⟨KN pa slot hty hm ho.h ha.h hbase hfew hline (aV h1) (bM h2)⟩
end
open PySem.Spec PyProof.Rows
noncomputable def tyN:Qq->String
 | .none => "NoneType" | .bool _ => "bool" | .int _ => "int" | .str _ => "str" | .list _ => "list" | .tuple _ => "tuple" | .dict _ => "dict"
noncomputable def isS:Qq->Bool | .str _=>true | _=>false
noncomputable def isI:Qq->Bool | .int _=>true | .bool _=>true | _=>false
noncomputable def isB:Qq->Bool | .bool _=>true | _=>false
noncomputable def isT:Qq->Bool | .tuple _=>true | _=>false
noncomputable def isL:Qq->Bool | .list _=>true | _=>false
section
variable {K:Fg}
theorem LG (d:Qq):PySem.W.kitOne K (.type (tyN d)) (.type "str")=some (isS d):=by cases d <;> with_unfolding_all rfl
theorem Iw (d:Qq):PySem.W.kitOne K (.type (tyN d)) (.type "int")=some (isI d):=by cases d <;> with_unfolding_all rfl
theorem Ls (d:Qq):PySem.W.kitOne K (.type (tyN d)) (.type "bool")=some (isB d):=by cases d <;> with_unfolding_all rfl
theorem Kj (d:Qq):PySem.W.kitOne K (.type (tyN d)) (.type "tuple")=some (isT d):=by cases d <;> with_unfolding_all rfl
theorem K0 (d:Qq):PySem.W.kitOne K (.type (tyN d)) (.type "list")=some (isL d):=by cases d <;> with_unfolding_all rfl
variable {p:Qz} {H:Hp} {d:Qq} {v:V} {Q:VK}
end
theorem d7 {b:Bool} {A B:Prop} (e:b=true) (h:A):if b=true then A else B:=by rw [N4 e];exact h
theorem cC {b:Bool} {A B:Prop} (e:b=false) (h:B):if b=true then A else B:=by rw [Od (by rw [e];exact O3)];exact h
theorem fH {b:Bool} {A B:Prop} (h1:b=true->A) (h2:b=false->B):if b=true then A else B:=by
 cases b with
 | true=>rw [N4 rfl];exact h1 rfl
 | false=>rw [Od O3];exact h2 rfl
section
variable {r r':R2} {x y:V} {H:Hp} {Q:VK}
theorem Fv {K:Fg} {z:Str} (l:z.length<=sizeLine) (h:Q (.int z.length) H):GH K [.str z] H Q:=⟨_,_,rfl,⟨l,rfl⟩,h⟩
theorem Gr {K:Fg} {p:Qz} {xs:List V} (s:SqL K H p xs) (h:Q (.int xs.length) H):GH K [.ref p] H Q:=⟨_,_,rfl,.inl ⟨xs,s,rfl⟩,h⟩
theorem E8 {K:Fg} {p:Qz} {xs:List V} (s:SqT K H p xs) (h:Q (.int xs.length) H):GH K [.ref p] H Q:=⟨_,_,rfl,.inr ⟨xs,s,rfl⟩,h⟩
theorem Jp {i:Int} (h:Q (.int (if i < 0 then -i else i)) H):K1 [.int i] H Q:=⟨i,rfl,h⟩
end
theorem Fun.okJ {P:Program} {w:World} {K:Fg} {mg:Str->Option Qj} {base:Heap} {x qual:Str} {st:Stmt} {f:Qz} {fd:FuncData} {N ps:List Str} {k:Nat} {sp:Sp} (F:Fun K x qual st f fd) (S:bZ N ps (ag st)) (len:∀ vs H Q E,sp vs H Q E->vs.length=ps.length)
  (hbody:∀ (cdv:Qj) (A:Around) (outer:List Env) (s:Qx) (H:Hp) (vs:List V) (Q:VK) (E:XK),dh k (A.deeper (envOfC qual (ag st) s.heap.objs.size f cdv))->sp vs H Q E ->
   ∃ t,JSs (tN CX0 P w K mg base N qual (ag st) f cdv A outer s H E).nox (aU st) t/\t { nx:=fun _ H'=>Q .non H',rt:=Q } (start N vs) H):de P w K mg base CX0 (k+1) f fd ps sp :=
 F.ok S len fun cdv A outer s H vs Q E hr h=>let ⟨t,j,q⟩:=hbody cdv A outer s H vs Q E hr h;⟨t,j.h,q⟩
theorem ft:∀ {ss:List Str} {us:List Qj},Vals (ss.map V.str) us->StrsAre us ss
 | [],_,r=>by cases r;exact .nil
 | s :: ss,_,r=>by
  cases r with
  | cons r1 r2 =>
   obtain ⟨t,rfl⟩:=r1;exact .cons _ _ (ft r2)
theorem wU:∀ {ss:List Str} {us:List Qj},StrsAre us ss->Vals (ss.map V.str) us
 | [],_,r=>by cases r;exact .nil
 | s :: ss,_,r=>by
  cases r with
  | cons _ _ r2=>exact .cons ⟨_,rfl⟩ (wU r2)
section
variable {X:Cx}
def BK (K:Fg):List V->Hp->VK->Prop:=fun xs H Q=>∃ (a:Qz) (ss:List Str),xs=[.ref a]/\SqL K H a (ss.map V.str)/\ss.length < 64/\∀ p ss',H p=none->ss'.Perm ss->sortedS ss'=true->Q (.ref p) (upd H p (.lst (ss'.map V.str)))
theorem mZ:bu X (.builtin "sorted") (BK X.K):=by
 intro pins s Z H xs us Q I r h;obtain ⟨a,ss,rfl,hq,h64,q⟩:=h;obtain ⟨u,rfl,r1⟩:=vals1 r;cases (show u=Value.ref a from r1);obtain ⟨its,rv,p,hz⟩:=I.list hq;have hS:=ft rv;have hl:its.length=ss.length:=by rw [<- rv.length,NT]
 refine sorted_strs p.isList hS (by omega) fun out ss' h1 h2 h3=>?_;obtain ⟨e,he⟩:=sortedAll_at s.heap its out;have hn:H (s.heap.objs.size+1)=none:=I.hok.fresh (P5 _);have hl':ss'.length<=sizeLine:=by rw [h2.length_eq];exact Oi (Nat.le_of_lt h64) (by decide)
 refine ⟨.ref (s.heap.objs.size+1),_,I.laid (t':=s.toks) (o:=.lst (ss'.map V.str)) (fun b o hb=>sortedAll_old hb) (P5 _) ?_,rfl,q _ ss' hn h2 h3⟩;exact ⟨by rw [NT];exact hl',out.toList,e,wU h1,by rw [Array.toArray_toList];exact he⟩
def xB:V->List V->Hp->VK->Prop:=fun x vs H Q=>∃ z y:Str,x=.str z/\vs=[.str y]/\Q (.bl (decide (y.length<=z.length)&&Builtin.Str.subAt z y 0)) H
theorem oy:MtM X "str.startswith" xB:=by
 intro pins s Z H x vs v us Q I rx rv h;obtain ⟨z,y,rfl,rfl,q⟩:=h;obtain ⟨t,rfl⟩:=rx;obtain ⟨u,rfl,ru⟩:=rv.one;obtain ⟨t',rfl⟩:=ru;refine call_meets F.slot_str_startswith (typeIs_str _ _ _) F.entry_str_startswith (F.args_str_startswith_2 _ _) (gives_str_startswith z y t t').meets ?_;exact ⟨.bl _,H,I,by simp only [P9];rfl,q⟩
def BG (K:Fg):List V->Hp->VK->Prop:=fun xs H Q=>∃ p ys,xs=[.ref p]/\((SqL K H p ys/\∀ l,H l=none->Q (.ref l) (upd H l (.tup ys)))\/(SqT K H p ys/\Q (.ref p) H))
def Fj:List V->Hp->VK->Prop:=fun xs H Q=>∃ i j,xs=[.int i,.int j]/\Q (.int (if j < i then j else i)) H
def Km:R2:=fun x y H Q=>y=.non/\Q (.bl (decide (x=.non))) H
def GR:R2:=fun x y H Q=>y=.non/\Q (.bl (!decide (x=.non))) H
theorem pv:bu X (.type "tuple") (BG X.K):=mf
theorem tY (hc:X.calm=true):bu X (.builtin "min") Fj:=wI hc
theorem pL:OpR X (compareOp .Is) Km:=E4
theorem yZ:OpR X (compareOp .IsNot) GR:=Dp
end
def Mm (K:Fg) (te:TE):TT:=fun Z H Q=>te Z H fun x H'=>∃ k,HY K x H' k/\Q k H'
theorem Mv {X:Cx} {e:Expr} {te:TE} (h:JE X e te) (he:∀ whole,isTrue e X.env whole=(do let v<-whole;standAt e.pos;holding [v] (truthy v))):JT X e (Mm X.K te):=⟨AF h.h he⟩
structure JGl (X:Cx) (es:List Expr) (t:TGs):Prop where
 h:PGs X es t
section
variable {X:Cx} {es:List Expr} {t:TGs} {pos:Pos} {x:Str} {i:Nat}
theorem JX:JGl X [] Lw:=⟨Dl⟩
theorem Ek (hN:X.N.Nodup) (hi:X.N[i]?=some x) (hx:Loc X.env.scope x) (hf:X.fn x=true\/X.env.scope.names.lookup x=some .local) (h:JGl X es t):JGl X (.Name x pos :: es) (B9 (e7 i) t):=⟨zM (kW hN hi hx hf) h.h rfl⟩
theorem eGT {n:Nat} {k} (hc:X.calm=true) (h:JGl X es t) (hn:(assignEach es X.env).length=n) (hst:(assignEach es X.env).findIdx? (·.1)=none):JG X (.Tuple es k pos) (JD X.K n t):=⟨GO hc h.h hn hst⟩
end
section
variable {X:Cx}
def Fp:List V->Hp->VK->Prop:=fun xs H Q=>(∃ i:Int,xs=[.int i]/\i.natAbs.log2 < 1920/\Q (.str (toString i)) H)\/(xs=[.non]/\Q (.str "None") H)\/∃ x,xs=[.str x]/\Q (.str x) H
theorem wu:bu X (.type "str") Fp:=by
 intro pins s Z H xs us Q I r h;rcases h with ⟨i,rfl,hz,q⟩ | ⟨rfl,q⟩ | ⟨x,rfl,q⟩
 ·obtain ⟨u,rfl,t,rfl⟩:=vals1 r;exact PySem.P.str_of_int hz ⟨.str _,H,I.tok _,⟨_,rfl⟩,q⟩
 ·obtain ⟨u,rfl,r1⟩:=vals1 r;cases r1;exact PySem.P.str_of_none ⟨.str _,H,I.tok _,⟨_,rfl⟩,q⟩
 ·obtain ⟨u,rfl,t,rfl⟩:=vals1 r;exact PySem.P.str_of_str ⟨.str _,H,I,⟨_,rfl⟩,q⟩
def tFv (te:TE):TE:=fun Z H Q=>te Z H fun x H1=>∃ y,x=.str y/\y.length<=sizeLine/\Q (.str y) H1
def tFs:List TE->Str->TE
 | [],out=>fun _ H Q=>out.length<=sizeLine/\Q (.str out) H
 | t :: ts,out=>fun Z H Q=>t Z H fun x H1=>∃ y,x=.str y/\(out++y).length<=sizeLine/\tFs ts (out++y) Z H1 Q
def PFs (X:Cx) (vs:List Expr) (ts:List TE):Prop :=
 ∀ (pins:List (Qz×Obj)) (s:Qx) (Z:St) (H:Hp) (Q:VK) (out:Str),Inv X pins Z H s->tFs ts out Z H Q->wpAny (model X.prog X.w) X.A (joinParts out (evalEach vs X.env)) (EP X pins Z Q) X.xe s
theorem CL:PFs X [] []:=by
 intro pins s Z H Q out I h;exact joinParts_nil ⟨.str out,H,I.tok _,⟨_,rfl⟩,h.2⟩ h.1
theorem zF {v:Expr} {vs:List Expr} {t:TE} {ts:List TE} (hv:PE X v t) (hr:PFs X vs ts):PFs X (v :: vs) (t :: ts):=by
 intro pins s Z H Q out I h;show wpAny _ _ (joinParts out (eval v X.env :: evalEach vs X.env)) _ _ s;refine joinParts_cons (thn (hv pins s Z H _ I h) fun u s1 ⟨x,H1,I1,r1,y,ex,hz,q⟩=>?_);subst ex;obtain ⟨t',rfl⟩:=r1;exact ⟨hz,hr pins s1 Z H1 Q _ I1 q⟩
theorem LC {e:Expr} {te:TE} {pos:Pos} (he:PE X e te):PE X (.FormattedValue e (-1) none pos) (tFv te):=by
 intro pins s Z H Q I h;refine FormattedValue_plain (thn (he pins s Z H _ I h) fun u s1 ⟨x,H1,I1,r1,y,ex,hz,q⟩=>?_);subst ex;obtain ⟨t',rfl⟩:=r1;exact formatField_str (fun t2 tk=>⟨.str y,H1,I1.tok _,⟨_,rfl⟩,q⟩) hz
theorem J5 {v1 v2:Expr} {rest:List Expr} {pos:Pos} {ts:List TE} (h:PFs X (v1 :: v2 :: rest) ts):PE X (.JoinedStr (v1 :: v2 :: rest) pos) (tFs ts Str.empty):=by
 intro pins s Z H Q I hw;exact JoinedStr_many (h pins s Z H Q Str.empty I hw)
end
structure JF (X:Cx) (vs:List Expr) (ts:List TE):Prop where
 h:PFs X vs ts
section
variable {X:Cx}
theorem eF0:JF X [] []:=⟨CL⟩
theorem eFc {v:Expr} {vs:List Expr} {t:TE} {ts:List TE} (hv:JE X v t) (hr:JF X vs ts):JF X (v :: vs) (t :: ts):=⟨zF hv.h hr.h⟩
theorem eFv {e:Expr} {te:TE} {pos:Pos} (he:JE X e te):JE X (.FormattedValue e (-1) none pos) (tFv te):=⟨LC he.h⟩
theorem eFs {v1 v2:Expr} {rest:List Expr} {pos:Pos} {ts:List TE} (h:JF X (v1 :: v2 :: rest) ts):JE X (.JoinedStr (v1 :: v2 :: rest) pos) (tFs ts Str.empty):=⟨J5 h.h⟩
end
def Bd (K:Fg):V->List V->Hp->VK->Prop:=fun x vs H Q=>∃ (z:Str) (a:Qz) (ss:List Str),x=.str z/\vs=[.ref a]/\(SqL K H a (ss.map V.str)\/SqT K H a (ss.map V.str))/\(ss.map (·.length)).sum+ss.length*z.length<=16777216/\Q (.str (Txt.join z ss)) H
theorem kS {X:Cx}:MtM X "str.join" (Bd X.K):=by
 intro pins s Z H x vs v us Q I rx rv h;obtain ⟨z,a,ss,rfl,rfl,hq,hok,q⟩:=h;obtain ⟨t,rfl⟩:=rx;obtain ⟨u,rfl,ru⟩:=rv.one;cases (show u=Value.ref a from ru);rcases hq with hq | hq
 ·obtain ⟨its,r,p,hz⟩:=I.list hq;exact join_list p.isList (by simpa using ft r) hok fun t' k=>⟨.str _,H,I.tok k,⟨t',rfl⟩,q⟩
 ·obtain ⟨its,r,p,hz⟩:=I.tuple hq;exact join_tuple p (by simpa using ft r) hok fun t' k=>⟨.str _,H,I.tok k,⟨t',rfl⟩,q⟩
section
variable {X:Cx}
def Hl (K:Fg):R2:=fun x y H Q=>∃ l b xs zs,x=.ref l/\y=.ref b/\SqL K H l xs/\SqL K H b zs/\xs.length+zs.length<=sizeLine/\∀ p,H p=none->Q (.ref p) (upd H p (.lst (xs++zs)))
theorem Df:OpR X (binaryOp .Add) (Hl X.K):=by
 intro pins s Z H x y v u Q I rx ry h;obtain ⟨l,b,xs,zs,rfl,rfl,hH,hB,hz,q⟩:=h;cases rx;cases ry;obtain ⟨its,r,p,_⟩:=I.list hH;obtain ⟨its2,r2,p2,_⟩:=I.list hB;obtain ⟨⟨cls,dd,data,sl⟩,n,ho,hc,hd0,hd⟩:=p;obtain ⟨⟨cls2,dd2,data2,sl2⟩,n2,ho2,hc2,hd02,hd2⟩:=p2;simp only at hc hd hc2 hd2;subst hc hd hc2 hd2;have e:its.toArray++its2.toArray=(its++its2).toArray:=by simp
 refine concat_meets ⟨_,ho,rfl⟩ ⟨_,ho2,rfl⟩ noFill_list_add seq_list_add PySem.F.slot_list_add PySem.F.entry_list_add (PySem.F.args_list_add_2 _ _) (list_addW l b its.toArray its2.toArray n n2 dd dd2 sl sl2 (by rw [Of,Of,<-r.length,<-r2.length];exact hz)) ⟨ho,ho2,?_⟩;rw [e];exact ⟨.ref _,_,I.MS (t':=s.toks) (r.append r2) (by rw [NS];omega),rfl,q _ I.fresh⟩
theorem nj (l:Qz) (items:Array Qj) (n:Nat) (b:Qz) (items2:Array Qj) (n2:Nat) (dd2:Option Qz) (sl2:Array (Option Qj)) (hc0:¬(!items.isEmpty&&Builtin.List.listTooLong (items.size+items2.size))=true) (hc1:items.size<=sizeLine) (hs2:items.size+items2.size<=sizeLine+1) :
  Meets (Builtin.«list.extend» ⟨[.ref l,.ref b],[]⟩) (fun _ R s=>s.heap.get? l=some { cls:=.type "list", dict:=none,data:=.seq items n,slots:=#[] }/\s.heap.get? b=some { cls:=.type "list", dict:=dd2,data:=.seq items2 n2,slots:=sl2 }/\R (.ok (.ret Value.none)) { s with heap:=s.heap.update l (Obj.mapSeq fun x=>x++items2),toks:=s.toks }) :=
 .of_wp fun prog w A R s h=>by
  obtain ⟨hp,g,d,tk,os⟩:=s;obtain ⟨hl,hb,h⟩:=h;have f1:=AutoSeq1.idx_int;have f2:=AutoSeq1.sub_tuple_tuple;have f3:=AutoSeq1.sub_list_list;have f4:=AutoSeq1.sub_tuple_list;have f5:=AutoSeq1.sub_list_tuple;have hz':(items++items2).size<=sizeLine+1:=by rw [Array.size_append];exact hs2
  wp_walk using (wpAny_updateSeq hl rfl (hz:=hc1) (_hz':=hz')),wpAny_loadPart' hl,wpAny_loadPart' hb;exact ⟨_,rfl,h⟩
def qM (K:Fg):V->List V->Hp->VK->Prop:=fun x vs H Q=>∃ l b xs zs,x=.ref l/\vs=[.ref b]/\H l=some (.lst xs)/\SqL K H b zs/\xs.length+zs.length<=sizeLine/\Q .non (upd H l (.lst (xs++zs)))
theorem tS:MtM X "list.extend" (qM X.K):=by
 intro pins s Z H x vs v us Q I rx rv h;obtain ⟨l,b,xs,zs,rfl,rfl,hH,hB,hz,q⟩:=h;cases rx;obtain ⟨u,rfl,ru⟩:=rv.one;cases ru;obtain ⟨z,its,n,r,hl,e⟩:=I.Ma hH;obtain ⟨its2,r2,p2,z2⟩:=I.list hB;have hl2:=r2.length;obtain ⟨⟨cls2,dd2,data2,sl2⟩,n2,e2,hc2,hd02,hd2⟩:=p2;simp only at hc2 hd2;subst hc2 hd2;have hsz:its.toArray.size+its2.toArray.size<=sizeLine:=by rw [Of,Of];omega
 have hlong:¬(!its.toArray.isEmpty&&Builtin.List.listTooLong (its.toArray.size+its2.toArray.size))=true:=by
  rw [zK hsz,Bool.and_false];exact O3
 refine call_meets F.slot_list_extend ⟨_,e,rfl⟩ F.entry_list_extend (F.args_list_extend_2 _ _) (nj l its.toArray n b its2.toArray n2 dd2 sl2 hlong (by rw [Of];omega) (by omega)) ⟨e,e2,?_⟩;refine ⟨.non,_,I.MA (its':=its++its2) hH e (by simp) (r.append r2) ?_,rfl,q⟩;rw [NS];omega
end
mutual
noncomputable def hkB:Qq->Bool
 | .int _=>true
 | .str _=>true
 | .tuple ds=>Mz ds
 | _=>false
noncomputable def Mz:List Qq->Bool
 | []=>true
 | d :: ds=>hkB d&&Mz ds
end
def hk6 (d:Qq):Bool:=hkB d&&decide (d.depth<=6)
end L2
namespace L2
open PySem
def NG (K:Fg) (a:Qz) (xs:List V):Prop:=∃ (o:Obj) (its:Array Qj) (n:Nat),K.lookup a=some o/\o.cls=.type "list" /\ o.dict=none/\o.data=.seq its n/\its.size<=sizeLine/\Vals xs its.toList
def LsF (K:Fg) (F:Qz->Prop) (H:Hp) (a:Qz) (xs:List V):Prop:=(¬F a/\Rd H a (.lst xs))\/NG K a xs
def clsAt:Qz:=403
noncomputable def NK:Qq->Str
 | .str f=>f
 | _=>Str.empty
def pW (xs:List (Qq×V×V)):List (Str×V):=xs.map fun x=>(NK x.1,x.2.2)
mutual
def Dm (K:Fg) (F:Qz->Prop) (H:Hp):Qq->V->Prop
 | .none,v=>v=.non
 | .bool b,v=>v=.bl b
 | .int i,v=>v=.int i
 | .str x,v=>v=.str x/\x.length<=sizeLine/\PyData.strOk x=true
 | .list ds,v=>∃ a xs,v=.ref a/\LsF K F H a xs/\xs.length<=sizeLine/\DmL K F H ds xs
 | .tuple ds,v=>∃ a xs,v=.ref a/\SqT K H a xs/\xs.length<=sizeLine/\DmL K F H ds xs
 | .dict kvs,v=>∃ a ep xs,v=.ref a/\¬F a/\H a=some (.ins clsAt ep (pW xs))/\xs.length<=sizeLine/\DmP K F H kvs xs
def DmL (K:Fg) (F:Qz->Prop) (H:Hp):List Qq->List V->Prop
 | [],vs=>vs=[]
 | d :: ds,vs=>∃ v r,vs=v :: r/\Dm K F H d v/\DmL K F H ds r
def DmP (K:Fg) (F:Qz->Prop) (H:Hp):List (Qq×Qq)->List (Qq×V×V)->Prop
 | [],vs=>vs=[]
 | (k,d) :: ds,vs=>∃ j v r,vs=(k,j,v) :: r/\hk6 k=true/\Dm K F H k j/\Dm K F H d v/\DmP K F H ds r
end
noncomputable def Wr:HO->Bool | .lst _=>true | .ins _ _ _=>true | _=>false
def Pr (F:Qz->Prop) (H H':Hp):Prop:=∀ b o,H b=some o->(¬F b\/Wr o=false)->H' b=some o
section
variable {K:PySem.W.Frag} {F F':Qz->Prop} {H H':Hp}
theorem SqT.pr (p:Pr F H H') (h:SqT K H a xs):SqT K H' a xs:=by
 rcases h with (h | ⟨o,h⟩) | h
 ·exact .inl (.inl (p _ _ h (.inr rfl)))
 ·exact .inl (.inr ⟨o,p _ _ h (.inr rfl)⟩)
 ·exact .inr h
theorem LsF.pr (p:Pr F H H') (hf:∀ b,F' b->F b) (h:LsF K F H a xs):LsF K F' H' a xs:=by
 rcases h with ⟨n,h | ⟨o,h⟩⟩ | h
 ·exact .inl ⟨fun z=>n (hf _ z),.inl (p _ _ h (.inl n))⟩
 ·exact .inl ⟨fun z=>n (hf _ z),.inr ⟨o,p _ _ h (.inl n)⟩⟩
 ·exact .inr h
mutual
theorem Dm.pr (p:Pr F H H') (hf:∀ b,F' b->F b):∀ {d:Qq} {v:V},Dm K F H d v->Dm K F' H' d v
 | .none,v,h=>h
 | .bool b,v,h=>h
 | .int i,v,h=>h
 | .str x,v,h=>h
 | .list ds,v,h=>by
  obtain ⟨a,xs,e,l,z,r⟩:=h;exact ⟨a,xs,e,l.pr p hf,z,DmL.pr p hf r⟩
 | .tuple ds,v,h=>by
  obtain ⟨a,xs,e,l,z,r⟩:=h;exact ⟨a,xs,e,l.pr p,z,DmL.pr p hf r⟩
 | .dict kvs,v,h=>by
  obtain ⟨a,ep,xs,e,n,l,z,r⟩:=h;exact ⟨a,ep,xs,e,fun q=>n (hf _ q),p _ _ l (.inl n),z,DmP.pr p hf r⟩
theorem DmL.pr (p:Pr F H H') (hf:∀ b,F' b->F b):∀ {ds:List Qq} {vs:List V},DmL K F H ds vs->DmL K F' H' ds vs
 | [],vs,h=>h
 | d :: ds,vs,h=>by
  obtain ⟨v,r,e,h1,h2⟩:=h;exact ⟨v,r,e,Dm.pr p hf h1,DmL.pr p hf h2⟩
theorem DmP.pr (p:Pr F H H') (hf:∀ b,F' b->F b):∀ {ds:List (Qq×Qq)} {vs:List (Qq×V×V)},DmP K F H ds vs->DmP K F' H' ds vs
 | [],vs,h=>h
 | (k,d) :: ds,vs,h=>by
  obtain ⟨j,v,r,e,e2,h0,h1,h2⟩:=h;exact ⟨j,v,r,e,e2,Dm.pr p hf h0,Dm.pr p hf h1,DmP.pr p hf h2⟩
end
theorem LsF.fresh (hc:H c=none) (h:LsF K F H a xs):LsF K (fun b=>F b\/b=c) H a xs:=by
 rcases h with ⟨n,h⟩ | h
 ·refine .inl ⟨fun z=>z.elim n fun e=>?_,h⟩;subst e;rcases h with h | ⟨o,h⟩ <;> (rw [hc] at h;cases h)
 ·exact .inr h
mutual
theorem Dm.fresh (hc:H c=none):∀ {d:Qq} {v:V},Dm K F H d v->Dm K (fun b=>F b\/b=c) H d v
 | .none,v,h=>h
 | .bool b,v,h=>h
 | .int i,v,h=>h
 | .str x,v,h=>h
 | .list ds,v,h=>by
  obtain ⟨a,xs,e,l,z,r⟩:=h;exact ⟨a,xs,e,l.fresh hc,z,DmL.fresh hc r⟩
 | .tuple ds,v,h=>by
  obtain ⟨a,xs,e,l,z,r⟩:=h;exact ⟨a,xs,e,l,z,DmL.fresh hc r⟩
 | .dict kvs,v,h=>by
  obtain ⟨a,ep,xs,e,n,l,z,r⟩:=h;exact ⟨a,ep,xs,e,fun q=>q.elim n fun q=>(by subst q;rw [hc] at l;cases l),l,z,DmP.fresh hc r⟩
theorem DmL.fresh (hc:H c=none):∀ {ds:List Qq} {vs:List V},DmL K F H ds vs->DmL K (fun b=>F b\/b=c) H ds vs
 | [],vs,h=>h
 | d :: ds,vs,h=>by
  obtain ⟨v,r,e,h1,h2⟩:=h;exact ⟨v,r,e,Dm.fresh hc h1,DmL.fresh hc h2⟩
theorem DmP.fresh (hc:H c=none):∀ {ds:List (Qq×Qq)} {vs:List (Qq×V×V)},DmP K F H ds vs->DmP K (fun b=>F b\/b=c) H ds vs
 | [],vs,h=>h
 | (k,d) :: ds,vs,h=>by
  obtain ⟨j,v,r,e,e2,h0,h1,h2⟩:=h;exact ⟨j,v,r,e,e2,Dm.fresh hc h0,Dm.fresh hc h1,DmP.fresh hc h2⟩
end
theorem Pr.refl:Pr F H H:=fun _ _ h _=>h
theorem Pr.trans (a:Pr F H H1) (b:Pr F' H1 H2) (hf:∀ b,F' b->F b):Pr F H H2:=fun c o h n=>b c o (a c o h n) (n.imp (fun z q=>z (hf _ q)) id)
theorem Pr.of_same (a:aY H H'):Pr F H H':=fun c o h _=>a c o h
theorem Dm.mono (hf:∀ b,F' b->F b) (h:Dm K F H d v):Dm K F' H d v:=h.pr Pr.refl hf
theorem DmL.mono (hf:∀ b,F' b->F b) (h:DmL K F H d v):DmL K F' H d v:=h.pr Pr.refl hf
theorem DmL.len:∀ {ds:List Qq} {vs:List V},DmL K F H ds vs->vs.length=ds.length
 | [],vs,h=>by rw [show vs=[] from h];rfl
 | d :: ds,vs,h=>by
  obtain ⟨v,r,e,h1,h2⟩:=h;rw [e,NV,NV,DmL.len h2]
theorem DmL.get:∀ {ds:List Qq} {vs:List V} {i:Nat} {d:Qq},DmL K F H ds vs->ds[i]?=some d->∃ v,vs[i]?=some v/\Dm K F H d v
 | [],vs,_,_,h,e=>by simp at e
 | d :: ds,vs,0,d',h,e=>by
  obtain ⟨v,r,e1,h1,h2⟩:=h;simp at e;subst e;subst e1;exact ⟨v,rfl,h1⟩
 | d :: ds,vs,i+1,d',h,e=>by
  obtain ⟨v,r,e1,h1,h2⟩:=h;subst e1;obtain ⟨w,q1,q2⟩:=DmL.get (i:=i) h2 (by simpa using e);exact ⟨w,by simpa using q1,q2⟩
theorem DmL.get' {ds:List Qq} {vs:List V} {i:Nat} {v:V} (h:DmL K F H ds vs) (e:vs[i]?=some v):∃ d,ds[i]?=some d/\Dm K F H d v:=by
 have hl:=h.len;have hi:i < vs.length:=(NW.mp e).1;have hd:ds[i]?=some (ds[i]'(by omega)):=N7 _;obtain ⟨w,e2,q⟩:=h.get hd;rw [e] at e2;cases e2;exact ⟨_,hd,q⟩
theorem DmL.app:∀ {ds es:List Qq} {vs ws:List V},DmL K F H ds vs->DmL K F H es ws->DmL K F H (ds++es) (vs++ws)
 | [],es,vs,ws,h,q=>by rw [show vs=[] from h];exact q
 | d :: ds,es,vs,ws,h,q=>by
  obtain ⟨v,r,e,h1,h2⟩:=h;subst e;exact ⟨v,r++ws,rfl,h1,DmL.app h2 q⟩
theorem DmL.snoc (h:DmL K F H ds vs) (q:Dm K F H d v):DmL K F H (ds++[d]) (vs++[v]):=h.app ⟨v,[],rfl,q,rfl⟩
def Top (K:PySem.W.Frag) (F:Qz->Prop) (H:Hp):Qq->Qz->Prop
 | .list ds,a=>∃ xs,H a=some (.lst xs)/\xs.length<=sizeLine/\DmL K F H ds xs
 | .dict kvs,a=>∃ ep xs,H a=some (.ins clsAt ep (pW xs))/\xs.length<=sizeLine/\DmP K F H kvs xs
 | _,_=>False
def Ep (K:PySem.W.Frag) (F:Qz->Prop) (H:Hp):Qq->Qz->Prop
 | .list ds,a=>∃ xs,SqL K H a xs/\xs.length<=sizeLine/\DmL K F H ds xs
 | .dict kvs,a=>∃ ep xs,H a=some (.ins clsAt ep (pW xs))/\xs.length<=sizeLine/\DmP K F H kvs xs
 | _,_=>False
def Vw (K:PySem.W.Frag) (F:Qz->Prop) (H:Hp):Qq->V->Prop
 | .list ds,v=>∃ a,v=.ref a/\Ep K F H (.list ds) a
 | .dict ds,v=>∃ a,v=.ref a/\Ep K F H (.dict ds) a
 | d,v=>Dm K F H d v
theorem Top.r (h:Top K F H d a):Ep K F H d a:=by
 cases d with
 | list ds=>obtain ⟨xs,e,z,r⟩:=h;exact ⟨xs,.inl (.inl e),z,r⟩
 | dict ds=>exact h
 | _=>exact h
theorem Ep.vw (h:Ep K F H d a):Vw K F H d (.ref a):=by
 cases d with
 | list ds=>exact ⟨a,rfl,h⟩
 | dict ds=>exact ⟨a,rfl,h⟩
 | _=>exact absurd h id
theorem Dm.vw (h:Dm K F H d v):Vw K F H d v:=by
 cases d with
 | list ds =>
  obtain ⟨a,xs,e,l,z,r⟩:=h;refine ⟨a,e,xs,?_,z,r⟩;rcases l with ⟨n,l⟩ | l
  ·exact .inl l
  ·exact .inr l
 | dict ds=>obtain ⟨a,ep,xs,e,n,l,z,r⟩:=h;exact ⟨a,e,ep,xs,l,z,r⟩
 | _=>exact h
theorem Top.dm (h:Top K F H d a) (n:¬F a):Dm K F H d (.ref a):=by
 cases d with
 | list ds=>obtain ⟨xs,e,z,r⟩:=h;exact ⟨a,xs,rfl,.inl ⟨n,.inl e⟩,z,r⟩
 | dict ds=>obtain ⟨ep,xs,e,z,r⟩:=h;exact ⟨a,ep,xs,rfl,n,e,z,r⟩
 | _=>exact absurd h id
theorem Top.wr (h:Top K F H d a):∃ o,H a=some o/\Wr o=true:=by
 cases d with
 | list ds=>obtain ⟨xs,e,_⟩:=h;exact ⟨_,e,rfl⟩
 | dict ds=>obtain ⟨ep,xs,e,_⟩:=h;exact ⟨_,e,rfl⟩
 | _=>exact absurd h id
theorem Top.pr (h:Top K F H d a) (p:Pr F H H') (hf:∀ b,F' b->F b) (ha:∀ o,H a=some o->H' a=some o):Top K F' H' d a:=by
 cases d with
 | list ds=>obtain ⟨xs,e,z,r⟩:=h;exact ⟨xs,ha _ e,z,r.pr p hf⟩
 | dict ds=>obtain ⟨ep,xs,e,z,r⟩:=h;exact ⟨ep,xs,ha _ e,z,r.pr p hf⟩
 | _=>exact absurd h id
theorem Top.fresh (hc:H c=none) (h:Top K F H d a):Top K (fun b=>F b\/b=c) H d a:=by
 cases d with
 | list ds=>obtain ⟨xs,e,z,r⟩:=h;exact ⟨xs,e,z,r.fresh hc⟩
 | dict ds=>obtain ⟨ep,xs,e,z,r⟩:=h;exact ⟨ep,xs,e,z,r.fresh hc⟩
 | _=>exact absurd h id
end
inductive Sl where | un | dat (d:Qq) | own (d:Qq) | ino (d:Qq) | ro (d:Qq)
abbrev En:=List Sl
inductive RV where | dat (d:Qq) | bor (i:Nat) | frs (d:Qq)
inductive PR where | dat (d:Qq) | frs (d:Qq)
inductive AV where | dat (d:Qq) | bor (i:Nat)
inductive PM where | dat | bor | ino
def PR.rv:PR->RV | .dat d=>.dat d | .frs d=>.frs d
def RV.av:RV->AV | .dat d=>.dat d | .frs d=>.dat d | .bor i=>.bor i
structure Fn where
 ms:List PM
 F:List Qq->Option (PR×List Qq)
 X:List Qq->Option Int:=fun _=>none
noncomputable def cont (env:En) (i:Nat):Option Qq:=match env[i]? with | some (.own d)=>some d | some (.ino d)=>some d | some (.ro d)=>some d | _=>none
noncomputable def aR (env:En) (i:Nat):Option Qq:=match env[i]? with | some (.own d)=>some d | some (.ino d)=>some d | _=>none
noncomputable def gr (env:En) (i:Nat) (d:Qq):En:=match env[i]? with | some (.own _)=>env.set i (.own d) | some (.ino _)=>env.set i (.ino d) | _=>env
def AV.view (env:En):AV->Option Qq | .dat d=>some d | .bor i=>cont env i
def RV.view (env:En) (r:RV):Option Qq:=r.av.view env
def mu (env:En) (i:Nat):Prop:=∃ d,env[i]?=some (.own d)\/env[i]?=some (.ino d)
def IA (env:En) (Z:St) (b:Qz):Prop:=∃ i,mu env i/\Z[i]?=some (some (.ref b))
def FF (F0:Qz->Prop) (env:En) (Z:St) (b:Qz):Prop:=F0 b\/∃ (i:Nat) (d:Qq),env[i]?=some (.own d)/\Z[i]?=some (some (.ref b))
def jW (K:Fg) (F I:Qz->Prop) (H:Hp):Qq->Qz->Prop
 | .list ds,a=>∃ xs,LsF K I H a xs/\xs.length<=sizeLine/\DmL K F H ds xs
 | .dict kvs,a=>∃ ep xs,¬I a/\H a=some (.ins clsAt ep (pW xs))/\xs.length<=sizeLine/\DmP K F H kvs xs
 | _,_=>False
structure Rel (K:Fg) (F0:Qz->Prop) (ZW:Hp) (I:Qz->Prop) (env:En) (Z:St) (H:Hp):Prop where
 len:env.length=Z.length
 dat:∀ (i:Nat) (d:Qq),env[i]?=some (.dat d)->∃ v,Z[i]?=some (some v)/\Dm K (FF F0 env Z) H d v
 own:∀ (i:Nat) (d:Qq),env[i]?=some (.own d)->∃ a,Z[i]?=some (some (.ref a))/\¬F0 a/\(ZW a=none\/I a)/\Top K (FF F0 env Z) H d a
 ino:∀ (i:Nat) (d:Qq),env[i]?=some (.ino d)->∃ a,Z[i]?=some (some (.ref a))/\F0 a/\I a/\Top K (FF F0 env Z) H d a
 ro:∀ (i:Nat) (d:Qq),env[i]?=some (.ro d)->∃ a,Z[i]?=some (some (.ref a))/\jW K (FF F0 env Z) (IA env Z) H d a
 sep:∀ i j a,mu env i->mu env j->Z[i]?=some (some (.ref a))->Z[j]?=some (some (.ref a))->i=j
 dom:∀ b,F0 b->H b≠none
 hG:∀ b o,ZW b=some o->¬I b->H b=some o
section
variable {K:Fg} {F F' I I' F0:Qz->Prop} {H H' ZW:Hp} {env env':En} {Z Z':St}
theorem jW.r (h:jW K F I H d a):Ep K F H d a:=by
 cases d with
 | list ds =>
  obtain ⟨xs,l,z,r⟩:=h;exact ⟨xs,l.elim (fun q=>.inl q.2) .inr,z,r⟩
 | dict ds=>obtain ⟨ep,xs,n,l,z,r⟩:=h;exact ⟨ep,xs,l,z,r⟩
 | _=>exact absurd h id
theorem jW.pr (h:jW K F I H d a) (p:Pr F H H') (hf:∀ b,F' b->F b) (hi:∀ b,I' b->I b) (k:∀ b o,H b=some o->¬I b->H' b=some o):jW K F' I' H' d a:=by
 cases d with
 | list ds =>
  obtain ⟨xs,l,z,r⟩:=h;refine ⟨xs,?_,z,r.pr p hf⟩;rcases l with ⟨n,l | ⟨o,l⟩⟩ | l
  ·exact .inl ⟨fun q=>n (hi _ q),.inl (k _ _ l n)⟩
  ·exact .inl ⟨fun q=>n (hi _ q),.inr ⟨o,k _ _ l n⟩⟩
  ·exact .inr l
 | dict ds=>obtain ⟨ep,xs,n,l,z,r⟩:=h;exact ⟨ep,xs,fun q=>n (hi _ q),k _ _ l n,z,r.pr p hf⟩
 | _=>exact absurd h id
theorem jW.fresh (hc:H c=none) (h:jW K F I H d a):jW K (fun b=>F b\/b=c) I H d a:=by
 cases d with
 | list ds=>obtain ⟨xs,e,z,r⟩:=h;exact ⟨xs,e,z,r.fresh hc⟩
 | dict ds=>obtain ⟨ep,xs,n,e,z,r⟩:=h;exact ⟨ep,xs,n,e,z,r.fresh hc⟩
 | _=>exact absurd h id
theorem Dm.ro (h:Dm K F H d v) (hi:∀ b,I b->F b) (l:(∃ ds,d=.list ds)\/∃ ds,d=.dict ds):∃ a,v=.ref a/\jW K F I H d a:=by
 rcases l with ⟨ds,rfl⟩ | ⟨ds,rfl⟩
 ·obtain ⟨a,xs,e,l,z,r⟩:=h;exact ⟨a,e,xs,l.elim (fun q=>.inl ⟨fun z=>q.1 (hi _ z),q.2⟩) .inr,z,r⟩
 ·obtain ⟨a,ep,xs,e,n,l,z,r⟩:=h;exact ⟨a,e,ep,xs,fun q=>n (hi _ q),l,z,r⟩
theorem Top.ro (h:Top K F H d a) (n:¬I a):jW K F I H d a:=by
 cases d with
 | list ds=>obtain ⟨xs,e,z,r⟩:=h;exact ⟨xs,.inl ⟨n,.inl e⟩,z,r⟩
 | dict ds=>obtain ⟨ep,xs,e,z,r⟩:=h;exact ⟨ep,xs,n,e,z,r⟩
 | _=>exact absurd h id
theorem Rel.ia (R:Rel K F0 ZW I env Z H) (h:IA env Z b):FF F0 env Z b:=by
 obtain ⟨i,⟨d,e | e⟩,s⟩:=h
 ·exact .inr ⟨i,d,e,s⟩
 ·obtain ⟨a,s',f,_⟩:=R.ino i d e;rw [s] at s';cases s';exact .inl f
theorem Rel.iaT (R:Rel K F0 ZW I env Z H) (h:IA env Z b):∃ o,H b=some o/\Wr o=true:=by
 obtain ⟨i,⟨d,e | e⟩,s⟩:=h
 ·obtain ⟨a,s',_,_,t⟩:=R.own i d e;rw [s] at s';cases s';exact t.wr
 ·obtain ⟨a,s',_,_,t⟩:=R.ino i d e;rw [s] at s';cases s';exact t.wr
theorem Rel.iaI (R:Rel K F0 ZW I env Z H) (h:IA env Z b):ZW b=none\/I b:=by
 obtain ⟨i,⟨d,e | e⟩,s⟩:=h
 ·obtain ⟨a,s',_,q,t⟩:=R.own i d e;rw [s] at s';cases s';exact q
 ·obtain ⟨a,s',_,q,t⟩:=R.ino i d e;rw [s] at s';cases s';exact .inr q
theorem Rel.eG (R:Rel K F0 ZW I env Z H) (h:FF F0 env Z b):H b≠none:=by
 rcases h with h | ⟨i,d,e,s⟩
 ·exact R.dom b h
 ·obtain ⟨o,q,_⟩:=R.iaT ⟨i,⟨d,.inl e⟩,s⟩;rw [q];exact nofun
theorem Rel.uH (R:Rel K F0 ZW I env Z H) (k:∀ b o,H b=some o->¬IA env Z b->H' b=some o):Pr (FF F0 env Z) H H':=fun b o h n=>k b o h fun q=>by
 rcases n with n | n
 ·exact n (R.ia q)
 ·obtain ⟨o',h',w⟩:=R.iaT q;rw [h] at h';cases h';rw [n] at w;cases w
theorem Rel.rebase (R:Rel K F0 ZW I env Z H):Rel K F0 H (IA env Z) env Z H :=
 ⟨R.len,R.dat,fun i d e=>let ⟨a,s,n,_,t⟩:=R.own i d e;⟨a,s,n,.inr ⟨i,⟨d,.inl e⟩,s⟩,t⟩,fun i d e=>let ⟨a,s,n,_,t⟩:=R.ino i d e;⟨a,s,n,⟨i,⟨d,.inr e⟩,s⟩,t⟩,R.ro,R.sep,R.dom,fun _ _ h _=>h⟩
theorem Rel.oi (R:Rel K F0 ZW I env Z H) (h:H a=none\/IA env Z a):ZW a=none\/I a:=by
 rcases h with h | h
 ·cases e:ZW a with
  | none=>exact .inl rfl
  | some o =>
   by_cases z:I a
   ·exact .inr z
   ·have:=R.hG a o e z;rw [h] at this;cases this
 ·exact R.iaI h
theorem Rel.cw (R:Rel K F0 ZW I env Z H) (S:Rel K F0 H (IA env Z) env' Z' H'):Rel K F0 ZW I env' Z' H':=by
 refine ⟨S.len,S.dat,fun i d e=>?_,fun i d e=>?_,S.ro,S.sep,S.dom,fun b o h n=>?_⟩
 ·obtain ⟨a,s,n,q,t⟩:=S.own i d e;exact ⟨a,s,n,R.oi q,t⟩
 ·obtain ⟨a,s,n,q,t⟩:=S.ino i d e;refine ⟨a,s,n,?_,t⟩;obtain ⟨j,⟨d',e' | e'⟩,s'⟩:=q
  ·obtain ⟨a',s2,n',_⟩:=R.own j d' e';rw [s'] at s2;cases s2;exact absurd n n'
  ·obtain ⟨a',s2,_,n',_⟩:=R.ino j d' e';rw [s'] at s2;cases s2;exact n'
 ·refine S.hG b o (R.hG b o h n) fun q=>?_;rcases R.iaI q with z | z
  ·rw [h] at z;cases z
  ·exact n z
def Evo:Sl->Sl->Prop
 | .un,s=>s=.un
 | .dat d,s=>s=.dat d
 | .own _,s=>(∃ d,s=.own d)\/(∃ d,s=.dat d)\/s=.un
 | .ino _,s=>∃ d,s=.ino d
 | .ro d,s=>s=.ro d
def KpE (env env':En):Prop:=env'.length=env.length/\∀ (i:Nat) (s:Sl),env[i]?=some s->∃ s',env'[i]?=some s'/\Evo s s'
theorem Evo.refl:∀ s,Evo s s
 | .un=>rfl
 | .dat _=>rfl
 | .own d=>.inl ⟨d,rfl⟩
 | .ino d=>⟨d,rfl⟩
 | .ro _=>rfl
theorem Evo.trans:∀ {a b c:Sl},Evo a b->Evo b c->Evo a c
 | .un,b,c,h,q=>by rw [show b=.un from h] at q;exact q
 | .dat d,b,c,h,q=>by rw [show b=.dat d from h] at q;exact q
 | .own d,b,c,h,q=>by
  rcases h with ⟨d,rfl⟩ | ⟨d,rfl⟩ | rfl
  ·exact q
  ·exact .inr (.inl ⟨d,q⟩)
  ·exact .inr (.inr q)
 | .ino d,b,c,h,q=>by obtain ⟨d,rfl⟩:=h;exact q
 | .ro d,b,c,h,q=>by rw [show b=.ro d from h] at q;exact q
theorem KpE.refl (env:En):KpE env env:=⟨rfl,fun i s e=>⟨s,e,.refl s⟩⟩
theorem KpE.trans (a:KpE e1 e2) (b:KpE e2 e3):KpE e1 e3:=⟨b.1.trans a.1,fun i s e=>by
 obtain ⟨s1,h1,v1⟩:=a.2 i s e;obtain ⟨s2,h2,v2⟩:=b.2 i s1 h1
 exact ⟨s2,h2,v1.trans v2⟩⟩
theorem KpE.back (k:KpE env env') {i:Nat} {s':Sl} (e:env'[i]?=some s'):∃ s,env[i]?=some s/\Evo s s':=by
 have hi:i < env'.length:=(NW.mp e).1;have:env[i]?=some (env[i]'(by rw [<- k.1];exact hi)):=N7 _;obtain ⟨s2,h2,v⟩:=k.2 i _ this;rw [e] at h2;cases h2;exact ⟨_,this,v⟩
theorem KpE.own (k:KpE env env') {i:Nat} {d:Qq} (e:env'[i]?=some (.own d)):∃ d',env[i]?=some (.own d'):=by
 obtain ⟨s,h,v⟩:=k.back e;cases s with
 | un=>cases v
 | dat _=>cases v
 | own d'=>exact ⟨d',h⟩
 | ino _=>obtain ⟨_,v⟩:=v;cases v
 | ro _=>cases v
theorem KpE.ff (k:KpE env env') {b:Qz} (h:FF F0 env' Z b):FF F0 env Z b:=by
 rcases h with h | ⟨i,d,e,s⟩
 ·exact .inl h
 ·obtain ⟨d',e'⟩:=k.own e;exact .inr ⟨i,d',e',s⟩
theorem KpE.mu (k:KpE env env') {i:Nat} (h:mu env' i):mu env i:=by
 obtain ⟨d,h | h⟩:=h
 ·obtain ⟨d',e⟩:=k.own h;exact ⟨d',.inl e⟩
 ·obtain ⟨s,h,v⟩:=k.back h;cases s with
  | un=>cases v
  | dat _=>cases v
  | own d'=>rcases v with ⟨_,v⟩ | ⟨_,v⟩ | v <;> cases v
  | ino d'=>exact ⟨d',.inr h⟩
  | ro _=>cases v
theorem KpE.ia (k:KpE env env') (h:IA env' Z b):IA env Z b:=let ⟨i,m,s⟩:=h;⟨i,k.mu m,s⟩
theorem Rel.xT (R:Rel K F0 ZW I env Z H) (S:Rel K F0 H (IA env Z) env' Z H') (k:KpE env env') (h:Dm K (FF F0 env Z) H d v):Dm K (FF F0 env' Z) H' d v :=
 h.pr (R.uH fun b o e n=>S.hG b o e n) fun _ z=>k.ff z
theorem Rel.same (R:Rel K F0 ZW I env Z H) (s:aY H H'):Rel K F0 ZW I env Z H':=by
 have p:Pr (FF F0 env Z) H H':=Pr.of_same s;refine ⟨R.len,fun i d e=>?_,fun i d e=>?_,fun i d e=>?_,fun i d e=>?_,R.sep,fun b h=>?_,fun b o h n=>s _ _ (R.hG b o h n)⟩
 ·obtain ⟨v,q,r⟩:=R.dat i d e;exact ⟨v,q,r.pr p fun _ z=>z⟩
 ·obtain ⟨a,q,n,w,t⟩:=R.own i d e;exact ⟨a,q,n,w,t.pr p (fun _ z=>z) (fun o z=>s _ _ z)⟩
 ·obtain ⟨a,q,n,w,t⟩:=R.ino i d e;exact ⟨a,q,n,w,t.pr p (fun _ z=>z) (fun o z=>s _ _ z)⟩
 ·obtain ⟨a,q,t⟩:=R.ro i d e;exact ⟨a,q,t.pr p (fun _ z=>z) (fun _ z=>z) (fun b o z _=>s _ _ z)⟩
 ·cases e:H b with
  | none=>exact absurd e (R.dom b h)
  | some o=>rw [s _ _ e];exact nofun
theorem oO:FF (fun b=>F0 b\/b=c) env Z=fun b=>FF F0 env Z b\/b=c:=by
 funext b;apply propext;constructor
 ·rintro ((h | h) | h)
  ·exact .inl (.inl h)
  ·exact .inr h
  ·exact .inl (.inr h)
 ·rintro ((h | h) | h)
  ·exact .inl (.inl h)
  ·exact .inr h
  ·exact .inl (.inr h)
theorem Rel.fresh (R:Rel K F0 ZW I env Z H) (hc:H c=none) (s:aY H H') (hc':H' c≠none):Rel K (fun b=>F0 b\/b=c) ZW I env Z H':=by
 have p:Pr (fun b=>FF F0 env Z b\/b=c) H H':=Pr.of_same s;have na:∀ i a,mu env i->Z[i]?=some (some (.ref a))->a≠c:=fun i a m q z=>by
  obtain ⟨o,h,_⟩:=R.iaT ⟨i,m,q⟩;rw [z,hc] at h;cases h
 refine ⟨R.len,fun i d e=>?_,fun i d e=>?_,fun i d e=>?_,fun i d e=>?_,R.sep,fun b h=>?_,fun b o h n=>s _ _ (R.hG b o h n)⟩
 ·obtain ⟨v,q,r⟩:=R.dat i d e;rw [oO];exact ⟨v,q,(r.fresh hc).pr p fun _ z=>z⟩
 ·obtain ⟨a,q,n,w,t⟩:=R.own i d e;rw [oO];exact ⟨a,q,fun z=>z.elim n (na i a ⟨d,.inl e⟩ q),w,(t.fresh hc).pr p (fun _ z=>z) (fun o z=>s _ _ z)⟩
 ·obtain ⟨a,q,n,w,t⟩:=R.ino i d e;rw [oO];exact ⟨a,q,.inl n,w,(t.fresh hc).pr p (fun _ z=>z) (fun o z=>s _ _ z)⟩
 ·obtain ⟨a,q,t⟩:=R.ro i d e;rw [oO];exact ⟨a,q,(t.fresh hc).pr p (fun _ z=>z) (fun _ z=>z) (fun b o z _=>s _ _ z)⟩
 ·rcases h with h | h
  ·cases e:H b with
   | none=>exact absurd e (R.dom b h)
   | some o=>rw [s _ _ e];exact nofun
  ·rw [h];exact hc'
theorem Rel.less (R:Rel K (fun b=>F0 b\/b=c) ZW I env Z H) (hi:∀ (i:Nat) (d:Qq),env[i]?=some (.ino d)->Z[i]?≠some (some (.ref c))):Rel K F0 ZW I env Z H:=by
 have hf:∀ b,FF F0 env Z b->FF (fun b=>F0 b\/b=c) env Z b:=fun b z=>by rw [oO];exact .inl z
 refine ⟨R.len,fun i d e=>?_,fun i d e=>?_,fun i d e=>?_,fun i d e=>?_,R.sep,fun b h=>R.dom b (.inl h),R.hG⟩
 ·obtain ⟨v,q,r⟩:=R.dat i d e;exact ⟨v,q,r.mono hf⟩
 ·obtain ⟨a,q,n,w,t⟩:=R.own i d e;exact ⟨a,q,fun z=>n (.inl z),w,t.pr Pr.refl hf fun _ z=>z⟩
 ·obtain ⟨a,q,n,w,t⟩:=R.ino i d e;refine ⟨a,q,?_,w,t.pr Pr.refl hf fun _ z=>z⟩;rcases n with n | n
  ·exact n
  ·exact absurd (n▸q) (hi i d e)
 ·obtain ⟨a,q,t⟩:=R.ro i d e;exact ⟨a,q,t.pr Pr.refl hf (fun _ z=>z) fun _ _ z _=>z⟩
end
def Bp (K:Fg) (F:Qz->Prop) (H H':Hp):PR->V->Prop
 | .dat d,v=>Dm K F H' d v
 | .frs d,v=>∃ a,v=.ref a/\H a=none/\Top K (fun b=>F b\/b=a) H' d a
def VwL (K:Fg) (F:Qz->Prop) (H:Hp):List Qq->List V->Prop
 | [],vs=>vs=[]
 | d :: ds,vs=>∃ v r,vs=v :: r/\Vw K F H d v/\VwL K F H ds r
structure Cst where
 d:Qq
 v:V
 ok:∀ (K:Fg) (F:Qz->Prop) (H:Hp),Dm K F H d v
def Cst.i (i:Int):Cst:=⟨.int i,.int i,fun _ _ _=>rfl⟩
def Cst.s (x:Str) (h:x.length<=sizeLine) (h2:PyData.strOk x=true):Cst:=⟨.str x,.str x,fun _ _ _=>⟨rfl,h,h2⟩⟩
def Cst.b (b:Bool):Cst:=⟨.bool b,.bl b,fun _ _ _=>rfl⟩
def Cst.n:Cst:=⟨.none,.non,fun _ _ _=>rfl⟩
structure Prm where
 r:Fg->List V->Hp->VK->Prop
 f:List Qq->Option PR
 ok:∀ (K:Fg) (F:Qz->Prop) (H:Hp) (ds:List Qq) (vs:List V) (pr:PR) (Q:VK),f ds=some pr->VwL K F H ds vs->(∀ b,F b->H b≠none)->(∀ v H',aY H H'->Bp K F H H' pr v->Q v H')->r K vs H Q
structure Mtd where
 T:String
 r:Fg->V->List V->Hp->VK->Prop
 ty:Qq->Bool
 f:Qq->List Qq->Option PR
 yV:∀ (K:Fg) (F:Qz->Prop) (H:Hp) (d:Qq) (v:V),ty d=true->Vw K F H d v->tyV K T v H
 ok:∀ (K:Fg) (F:Qz->Prop) (H:Hp) (d:Qq) (v:V) (ds:List Qq) (vs:List V) (pr:PR) (Q:VK),f d ds=some pr->Vw K F H d v->VwL K F H ds vs->(∀ b,F b->H b≠none)->(∀ v H',aY H H'->Bp K F H H' pr v->Q v H')->r K v vs H Q
def MvL (K:Fg) (F:Qz->Prop) (H:Hp):List (Bool×Qq)->List V->Prop
 | [],vs=>vs=[]
 | (true,d) :: ds,vs=>∃ v r,vs=v :: r/\Dm K F H d v/\MvL K F H ds r
 | (false,d) :: ds,vs=>∃ v r,vs=v :: r/\Vw K F H d v/\MvL K F H ds r
structure Mtr where
 T:String
 r:Fg->V->List V->Hp->VK->Prop
 ty:Qq->Bool
 f:Qq->List (Bool×Qq)->Option (Qq×Qq)
 tq:Fg->V->Hp->Prop:=fun K x H=>tyV K T x H
 yV:∀ (K:Fg) (F:Qz->Prop) (H:Hp) (d:Qq) (a:Qz),ty d=true->Top K F H d a->tq K (.ref a) H
 ok:∀ (K:Fg) (F:Qz->Prop) (H:Hp) (d:Qq) (a:Qz) (as:List (Bool×Qq)) (vs:List V) (d' x:Qq) (Q:VK),f d as=some (d',x)->F a->Top K F H d a->(∀ b,F b->H b≠none)->MvL K F H as vs ->
  (∀ v H',(∀ b o,b≠a->H b=some o->H' b=some o)->Top K F H' d' a->Dm K F H' x v->Q v H')->r K (.ref a) vs H Q
structure C5 where
 r:Fg->V->V->V->Hp->(Hp->Prop)->Prop
 f:Qq->Qq->Qq->Option Qq
 ok:∀ (K:Fg) (F:Qz->Prop) (H:Hp) (d:Qq) (a:Qz) (k x:Qq) (vk vx:V) (d':Qq) (Q:Hp->Prop),f d k x=some d'->F a->Top K F H d a->Vw K F H k vk->Dm K F H x vx ->
  (∀ H',(∀ b o,b≠a->H b=some o->H' b=some o)->Top K F H' d' a->Q H')->r K (.ref a) vk vx H Q
mutual
inductive XE where
 | var (i:Nat) | mov (i:Nat) | tke (i:Nat) | cst (c:Cst) | glb (g:Nat)
 | prm (p:Prm) (as:XA) | met (m:Mtd) (o:XE) (as:XA) | mtr (m:Mtr) (i:Nat) (as:XA) | call (f:Fn) (as:XA) | bY (f:Fn) (as:XA) | mtx (m:Str) (f:Fn) (i:Nat) (as:XA)
 | tup (as:XA) | lst (as:XA) | fst (as:XA)
 | ifx (c:XT) (a b:XE) | mL (a b:XE) | orv (a b:XE) | Et (a:XE) | chn (p q:Prm) (a b c:XE) | sl2 (p:Int->Int->Prm) (a b c:XE)
 | cmp (js:List Nat) (it:XI) (c:XT) (e:XE) | gho (i j h:Nat) (l e:XE)
inductive XA where | nil | cons (e:XE) (r:XA)
inductive XT where | tst (e:XE) | tru (e:XE) | and (a b:XT) | or (a b:XT) | not (a:XT) | yes
inductive XI where | lst (e:XE) | tup (e:XE) | str (e:XE) | rng1 (as:XA)
end
inductive XS where
 | skip | seq (a b:XS) | aX (i:Nat) (e:XE) | tZ (i:Nat) (e:XE) | BZ (is:List Nat) (e:XE) | drop (e:XE) | ret (e:XE) | HZ
 | ifs (c:XT) (a b:XS) | fr (i:Nat) (it:XI) (b:XS) | wh (n:Nat) (c:XT) (b:XS) | nev | rse (e:XE) | sto (m:C5) (i:Nat) (k e:XE)
def excAt:Qz:=104
def cD:Str := "at"
noncomputable def dY:V->Bool
 | .int i=>decide (i.natAbs.log2 < 1920/\(Str.ofString (toString i)).length<=1000)
 | _=>false
structure Gv where
 v:Nat->V
 E:XK
instance:CoeFun Gv fun _=>Nat->V:=⟨Gv.v⟩
noncomputable def Be (m:Str):List (Qq×Qq)->Bool
 | []=>true
 | (.str g,_) :: r=>!(g==m)&&Be m r
 | _=>false
def gNs:List Nat->TGs
 | []=>Lw
 | i :: r=>B9 (e7 i) (gNs r)
def gTp (K:PySem.W.Frag) (is:List Nat):TG:=JD K is.length (gNs is)
noncomputable def NQ:Nat->List Nat:=List.range
def Nz:List TE->TE:=fun ts=>tFs ts Str.empty
def L9 (i j h:Nat) (tl te:TE):TE:=fun Z H Q=>(∃ v,Z[i]?=some (some v))/\(∃ v,Z[j]?=some (some v))/\tl Z H fun v H1=>te (Z.set h (some v)) H1 Q
def NoE:XK:=fun _ _ _=>False
def Ci (K:PySem.W.Frag) (G I:Qz->Prop) (H:Hp) (d:Qq) (v:V):Prop:=match d with
 | .tuple ds=>Dm K G H (.tuple ds) v
 | d=>∃ a,v=.ref a/\jW K G I H d a
def bH (K:PySem.W.Frag) (G I:Qz->Prop) (H:Hp):List PM->List Qq->List V->List Qz->Prop
 | [],[],[],is=>is=[]
 | .dat :: ms,d :: ds,v :: vs,is=>Dm K G H d v/\bH K G I H ms ds vs is
 | .bor :: ms,d :: ds,v :: vs,is=>Ci K G I H d v/\bH K G I H ms ds vs is
 | .ino :: ms,d :: ds,v :: vs,is=>∃ a r,v=.ref a/\is=a :: r/\G a/\Top K G H d a/\a ∉ r/\bH K G I H ms ds vs r
 | _,_,_,_=>False
def jl (K:PySem.W.Frag) (G:Qz->Prop) (H:Hp):List Qq->List Qz->Prop
 | [],[]=>True
 | d :: ds,a :: r=>Top K G H d a/\jl K G H ds r
 | _,_=>False
def JJ (K:PySem.W.Frag) (G:Qz->Prop) (H H':Hp) (outs:List Qq) (is:List Qz):PR->V->Prop
 | .dat d,v=>Dm K G H' d v/\jl K G H' outs is
 | .frs d,v=>∃ a,v=.ref a/\H a=none/\Top K (fun b=>G b\/b=a) H' d a/\jl K (fun b=>G b\/b=a) H' outs is
def jS (f:Fn) (K:PySem.W.Frag):Sp:=fun vs H Q _=>∃ (G:Qz->Prop) (ds:List Qq) (is:List Qz) (pr:PR) (outs:List Qq),f.F ds=some (pr,outs)/\bH K G (·∈is) H f.ms ds vs is/\(∀ b,G b->H b≠none) /\
 ∀ v' H',(∀ b o,H b=some o->b ∉ is->H' b=some o)->JJ K G H H' outs is pr v'->Q v' H'
section
def spX (f:Fn) (K:PySem.W.Frag):Sp:=fun vs H Q E=>jS f K vs H Q NoE\/∃ (G:Qz->Prop) (ds:List Qq) (is:List Qz) (p:Int),f.X ds=some p/\bH K G (·∈is) H f.ms ds vs is/\(∀ b,G b->H b≠none) /\
 ∀ dx H',(∀ b o,H b=some o->b ∉ is->H' b=some o)->H' dx=none->dY (.int p)=true->E (.ref excAt) (some dx) (upd H' dx (.xd [(cD,.int p)]))
variable (K:PySem.W.Frag) (ga:Gv)
mutual
noncomputable def rE:XE->TE
 | .var i=>fE i | .mov i=>fE i | .tke i=>fE i | .cst c=>tC c.v | .glb g=>tC (ga g)
 | .prm p as=>tCB (p.r K) (rA as) | .met m o as=>tBM K m.T (m.r K) (rE o) (rA as) | .mtr m i as=>fun Z H Q=>fE i Z H fun x H1=>m.tq K x H1/\rA as Z H1 fun xs H2=>m.r K x xs H2 Q | .call f as=>nY (jS f K) [] NoE (rA as) | .bY f as=>nY (spX f K) [] ga.E (rA as)
 | .mtx m f i as=>fun Z H Q=>fE i Z H fun x H1=>(∃ a dx fs,x=.ref a/\H1 a=some (.ins clsAt dx fs)/\fs.lookup m=none)/\rA as Z H1 fun xs H2=>spX f K (x :: xs) H2 Q ga.E
 | .tup as=>J3 (rA as) | .lst as=>KU (rA as) | .fst as=>Nz (rF as)
 | .ifx c a b=>tIf (rT c) (rE a) (rE b) | .mL a b=>Dw (rE a) (rE b) | .orv a b=>Li (rE a) (rE b) | .Et a=>CY (rE a)
 | .chn p q a b c=>nV (fun x y=>p.r K [x,y]) (fun x y=>q.r K [x,y]) (rE a) (rE b) (rE c)
 | .sl2 p a b c=>fun Z H Q=>rE a Z H fun x H1=>rE b Z H1 fun y H2=>∃ i,y=.int i/\rE c Z H2 fun z H3=>∃ j,z=.int j/\(p i j).r K [x] H3 Q
 | .cmp js it c e=>tJ js (rI_ it) (rT c) (rE e) | .gho i j h l e=>L9 i j h (rE l) (rE e)
noncomputable def rA:XA->TA
 | .nil=>rl | .cons e r=>fR (rE e) (rA r)
noncomputable def rF:XA->List TE
 | .nil=>[] | .cons e r=>rE e :: rF r
noncomputable def rT:XT->TT
 | .tst e=>tB (rE e) | .tru e=>Mm K (rE e) | .and a b=>K2 (rT a) (rT b) | .or a b=>tOr (rT a) (rT b) | .not a=>Ju (rT a) | .yes=>JN
noncomputable def rI_:XI->TI
 | .lst e=>D9 K (rE e) | .tup e=>Kv K (rE e) | .str e=>JB (rE e) | .rng1 as=>CJ (rA as)
end
def rS:XS->TS
 | .skip=>AE | .seq a b=>Ib (rS a) (rS b) | .aX i e=>uC (rE K ga e) (e7 i) | .tZ i e=>uC (rE K ga e) (e7 i) | .BZ is e=>uC (rE K ga e) (gTp K is) | .drop e=>CC (rE K ga e) | .ret e=>Hs (rE K ga e) | .HZ=>LY
 | .ifs c a b=>Ip (rT K ga c) (rS a) (rS b) | .fr i it b=>Ii (rI_ K ga it) (e7 i) (rS b) | .wh n c b=>xw (rT K ga c) (rS b) | .nev=>xG | .rse e=>fun _ Z H=>rE K ga e Z H fun v H1=>dY v=true/\∀ dx,H1 dx=none->ga.E (.ref excAt) (some dx) (upd H1 dx (.xd [(cD,v)]))
 | .sto m i k e=>fun D Z H=>rE K ga e Z H fun x H1=>fE i Z H1 fun o H2=>rE K ga k Z H2 fun y H3=>m.r K o y x H3 (D.nx Z)
end
noncomputable def Jk:Qq->Bool
 | .none=>false | .bool b=>b | .int i=>i != 0 | .str x=>(x.length:Int) != 0 | .list ds=>!ds.isEmpty | .tuple ds=>!ds.isEmpty | .dict ds=>!ds.isEmpty
noncomputable def Ih:Qq->Bool | .dict _=>true | _=>false
noncomputable def pV (lk:Bool):Sl->Sl
 | .own d=>if lk then .ro d else .ino d
 | .ino d=>if lk then .ro d else .ino d
 | s=>s
def gq (env:En) (lock:Option Nat) (js:List Nat):En:=js.map fun j=>pV (decide (lock=some j)) (env[j]?.getD .un)
def bq:En->List Nat->En->En
 | env,j :: js,.ino d :: es=>bq (gr env j d) js es
 | env,_ :: js,_ :: es=>bq env js es
 | env,_,_=>env
noncomputable def AZ (step:Qq->En->Option (Option Qq×En)):List Qq->En->Option (List Qq×En)
 | [],env=>some ([],env)
 | d :: ds,env=>match step d env with
  | some (y,e1)=>match AZ step ds e1 with
   | some (ys,e2)=>some (y.toList++ys,e2)
   | none=>none
  | none=>none
def Lk (env:En):PM->AV->Option Qq
 | .dat,.dat d=>some d
 | .bor,.dat (.list d)=>some (.list d)
 | .bor,.dat (.dict d)=>some (.dict d)
 | .bor,.dat (.tuple d)=>some (.tuple d)
 | .bor,.bor i=>cont env i
 | .ino,.bor i=>aR env i
 | _,_=>none
def iu (env:En):List PM->List AV->Option (List Qq)
 | [],[]=>some []
 | m :: ms,a :: as=>match Lk env m a,iu env ms as with
  | some d,some ds=>some (d :: ds)
  | _,_=>none
 | _,_=>none
noncomputable def cU:List PM->List AV->List Nat
 | .ino :: ms,.bor i :: as=>i :: cU ms as
 | _ :: ms,_ :: as=>cU ms as
 | _,_=>[]
noncomputable def rz:List PM->List AV->List Nat
 | .bor :: ms,.bor i :: as=>i :: rz ms as
 | _ :: ms,_ :: as=>rz ms as
 | _,_=>[]
def dJ:En->List Nat->List Qq->En
 | env,i :: is,d :: ds=>dJ (gr env i d) is ds
 | env,_,_=>env
noncomputable def Ew:List Nat->Bool
 | []=>true
 | x :: xs=>!xs.contains x&&Ew xs
def ckA (is bs:List Nat) (n:Nat):Bool:=Ew is&&(bs.all (fun i=>!is.contains i)&&n==is.length)
def lh (f:Fn) (avs:List AV) (env:En):Option (RV×En) :=
 match iu env f.ms avs with
 | none=>none
 | some ds=>match f.F ds with
  | none=>none
  | some (pr,outs)=>if ckA (cU f.ms avs) (rz f.ms avs) outs.length=true then some (pr.rv,dJ env (cU f.ms avs) outs) else none
def aK (env:En):List AV->Option (List Qq)
 | []=>some []
 | a :: as=>match a.view env,aK env as with
  | some d,some ds=>some (d :: ds)
  | _,_=>none
noncomputable def AV.K7:AV->Bool | .dat _=>true | .bor _=>false
def cO (env:En):List AV->Option (List (Bool×Qq))
 | []=>some []
 | a :: as=>match a.view env,cO env as with
  | some d,some ds=>some ((a.K7,d) :: ds)
  | _,_=>none
noncomputable def lU:List AV->Option (List Qq)
 | []=>some []
 | .dat d :: as=>match lU as with | some ds=>some (d :: ds) | none=>none
 | .bor _ :: _=>none
noncomputable def IJ (env:En):Option Nat->En
 | some i=>match env[i]? with | some (.own d)=>env.set i (.ro d) | some (.ino d)=>env.set i (.ro d) | _=>env
 | none=>env
noncomputable def CO (Eu:En) (lock:Option Nat) (env:En):En:=match lock with
 | some i=>match Eu[i]?,env[i]? with
  | some (.own _),some (.ro d)=>env.set i (.own d)
  | some (.ino _),some (.ro d)=>env.set i (.ino d)
  | _,_=>env
 | none=>env
def fP (t:En->Option (Bool×En)) (b:En->Option (RV×En)) (d:Qq) (ec:En):Option (Option Qq×En):=match t (.dat d :: ec) with
 | some (true,e2)=>match b e2 with
  | some (rv,e3)=>match rv.av with | .dat y=>some (some y,e3.tail) | .bor _=>none
  | none=>none
 | some (false,e2)=>some (none,e2.tail)
 | none=>none
noncomputable def bnd (env:En) (i:Nat):Bool:=match env[i]? with | some .un=>false | some _=>true | none=>false
mutual
noncomputable def dE (gd:List Qq):XE->En->Option (RV×En)
 | .var i,env=>match env[i]? with | some (.dat d)=>some (.dat d,env) | some (.own _)=>some (.bor i,env) | some (.ino _)=>some (.bor i,env) | some (.ro _)=>some (.bor i,env) | _=>none
 | .mov i,env=>match env[i]? with | some (.own d)=>some (.dat d,env.set i (.dat d)) | _=>none
 | .tke i,env=>match env[i]? with | some (.own d)=>some (.frs d,env.set i .un) | _=>none
 | .cst c,env=>some (.dat c.d,env)
 | .glb g,env=>match gd[g]? with | some d=>some (.dat d,env) | none=>none
 | .prm p as,env=>match dA gd as env with
  | some (avs,e1)=>match aK e1 avs with
   | some ds=>match p.f ds with | some pr=>some (pr.rv,e1) | none=>none
   | none=>none
  | none=>none
 | .met m o as,env=>match dE gd o env with
  | some (rv,e1)=>match rv.view e1 with
   | some d0=>if m.ty d0=true then match dA gd as e1 with
     | some (avs,e2)=>match rv.view e2,aK e2 avs with
      | some d,some ds=>match m.f d ds with | some pr=>some (pr.rv,e2) | none=>none
      | _,_=>none
     | none=>none
    else none
   | none=>none
  | none=>none
 | .mtr m i as,env=>match aR env i with
  | some d0=>if m.ty d0=true then match dA gd as env with
    | some (avs,e1)=>match aR e1 i,cO e1 avs with
     | some d,some ds=>match m.f d ds with | some (d',x)=>some (.dat x,gr e1 i d') | none=>none
     | _,_=>none
    | none=>none
   else none
  | none=>none
 | .call f as,env=>match dA gd as env with
  | some (avs,e1)=>lh f avs e1
  | none=>none
 | .bY f as,env=>match dA gd as env with
  | some (avs,e1)=>lh f avs e1
  | none=>none
 | .mtx m f i as,env=>match aR env i with
  | some (.dict kvs)=>if Be m kvs=true then match dA gd as env with
    | some (avs,e1)=>lh f (.bor i :: avs) e1
    | none=>none
   else none
  | _=>none
 | .tup as,env=>match dA gd as env with
  | some (avs,e1)=>match lU avs with | some ds=>if ds.length<=sizeLine then some (.dat (.tuple ds),e1) else none | none=>none
  | none=>none
 | .lst as,env=>match dA gd as env with
  | some (avs,e1)=>match lU avs with | some ds=>if ds.length<=sizeLine then some (.frs (.list ds),e1) else none | none=>none
  | none=>none
 | .fst as,env=>match dF gd as Str.empty env with
  | some (x,e1)=>some (.dat (.str x),e1)
  | none=>none
 | .ifx c a b,env=>match dT gd c env with
  | some (true,e1)=>dE gd a e1
  | some (false,e1)=>dE gd b e1
  | none=>none
 | .mL a b,env=>match dE gd a env with
  | some (.dat (.bool true),e1)=>dE gd b e1
  | some (.dat (.bool false),e1)=>some (.dat (.bool false),e1)
  | _=>none
 | .orv a b,env=>match dE gd a env with
  | some (.dat (.bool true),e1)=>some (.dat (.bool true),e1)
  | some (.dat (.bool false),e1)=>dE gd b e1
  | _=>none
 | .Et a,env=>match dE gd a env with
  | some (.dat (.bool x),e1)=>some (.dat (.bool (!x)),e1)
  | _=>none
 | .chn p q a b c,env=>match dE gd a env with
  | some (ra,e1)=>match dE gd b e1 with
   | some (rb,e2)=>match ra.av,rb.av with
    | .dat x,.dat y=>match p.f [x,y] with
     | some (.dat (.bool true))=>match dE gd c e2 with
      | some (rc,e3)=>match rc.av with
       | .dat z=>match q.f [y,z] with | some pr=>some (pr.rv,e3) | none=>none
       | _=>none
      | none=>none
     | some (.dat (.bool false))=>some (.dat (.bool false),e2)
     | _=>none
    | _,_=>none
   | none=>none
  | none=>none
 | .sl2 p a b c,env=>match dE gd a env with
  | some (ra,e1)=>match dE gd b e1 with
   | some (.dat (.int i),e2)=>match dE gd c e2 with
    | some (.dat (.int j),e3)=>match ra.view e3 with
     | some d=>match (p i j).f [d] with | some pr=>some (pr.rv,e3) | none=>none
     | none=>none
    | _=>none
   | _=>none
  | none=>none
 | .cmp js it c e,env=>match dI gd it env with
  | some (ds,lock,e1)=>if js.Nodup then match AZ (fP (dT gd c) (dE gd e)) ds (gq e1 lock js) with
    | some (ys,ec)=>some (.frs (.list ys),bq e1 js ec)
    | none=>none
   else none
  | none=>none
 | .gho i j h l e,env=>if (bnd env i&&bnd env j)=true then match dE gd l env with
   | some (.frs d,e1)=>match e1[h]? with
    | some .un=>match dE gd e (e1.set h (.own d)) with | some (.dat x,e2)=>some (.dat x,e2.set h .un) | _=>none
    | _=>none
   | _=>none
  else none
noncomputable def dA (gd:List Qq):XA->En->Option (List AV×En)
 | .nil,env=>some ([],env)
 | .cons e r,env=>match dE gd e env with
  | some (rv,e1)=>match dA gd r e1 with
   | some (avs,e2)=>some (rv.av :: avs,e2)
   | none=>none
  | none=>none
noncomputable def dF (gd:List Qq):XA->Str->En->Option (Str×En)
 | .nil,out,env=>if out.length<=sizeLine then some (out,env) else none
 | .cons e r,out,env=>match dE gd e env with
  | some (.dat (.str x),e1)=>if (out++x).length<=sizeLine then dF gd r (out++x) e1 else none
  | _=>none
noncomputable def dT (gd:List Qq):XT->En->Option (Bool×En)
 | .tst e,env=>match dE gd e env with | some (.dat (.bool b),e1)=>some (b,e1) | _=>none
 | .tru e,env=>match dE gd e env with
  | some (rv,e1)=>match rv.view e1 with | some d=>if Ih d=true then none else some (Jk d,e1) | none=>none
  | none=>none
 | .and a b,env=>match dT gd a env with | some (true,e1)=>dT gd b e1 | some (false,e1)=>some (false,e1) | none=>none
 | .or a b,env=>match dT gd a env with | some (true,e1)=>some (true,e1) | some (false,e1)=>dT gd b e1 | none=>none
 | .not a,env=>match dT gd a env with | some (b,e1)=>some (!b,e1) | none=>none
 | .yes,env=>some (true,env)
noncomputable def dI (gd:List Qq):XI->En->Option (List Qq×Option Nat×En)
 | .lst e,env=>match dE gd e env with
  | some (rv,e1)=>match rv.av with
   | .dat (.list ds)=>some (ds,none,e1)
   | .dat _=>none
   | .bor i=>match cont e1 i with | some (.list ds)=>some (ds,some i,e1) | _=>none
  | none=>none
 | .tup e,env=>match dE gd e env with
  | some (rv,e1)=>match rv.av with | .dat (.tuple ds)=>some (ds,none,e1) | _=>none
  | none=>none
 | .str e,env=>match dE gd e env with
  | some (rv,e1)=>match rv.av with | .dat (.str x)=>some (x.cps.toList.map fun c=>.str ⟨#[c]⟩,none,e1) | _=>none
  | none=>none
 | .rng1 as,env=>match dA gd as env with
  | some (avs,e1)=>match avs with | [.dat (.int j)]=>if -(2 ^ 62)<=j/\j<=2 ^ 24 then some ((List.range j.toNat).map fun (k:Nat)=>.int ((0:Int)+(k:Int)),none,e1) else none | _=>none
  | none=>none
end
inductive Out where | nx (env:En) | rt (rv:RV) (env:En) | bk (env:En) | ct (env:En)
noncomputable def forL (b:Qq->En->Option Out):List Qq->En->Option Out
 | [],env=>some (.nx env)
 | d :: ds,env=>match b d env with
  | some (.nx e)=>forL b ds e
  | some (.ct e)=>forL b ds e
  | some (.bk e)=>some (.nx e)
  | some (.rt r e)=>some (.rt r e)
  | none=>none
noncomputable def whL (t:En->Option (Bool×En)) (b:En->Option Out):Nat->En->Option Out
 | 0,_=>none
 | n+1,env=>match t env with
  | some (true,e1)=>match b e1 with
   | some (.nx e)=>whL t b n e
   | some (.ct e)=>whL t b n e
   | some (.bk e)=>some (.nx e)
   | some (.rt r e)=>some (.rt r e)
   | none=>none
  | some (false,e1)=>some (.nx e1)
  | none=>none
noncomputable def free (env:En) (i:Nat):Bool:=match env[i]? with | some .un=>true | some (.dat _)=>true | some (.own _)=>true | _=>false
def nQ:En->List Nat->List Qq->Option En
 | env,[],[]=>some env
 | env,i :: is,d :: ds=>if free env i=true then nQ (env.set i (.dat d)) is ds else none
 | _,_,_=>none
def nG (i:Nat) (b:En->Option Out) (d:Qq) (e:En):Option Out:=if free e i=true then b (e.set i (.dat d)) else none
def dS (gd:List Qq):XS->En->Option Out
 | .skip,env=>some (.nx env)
 | .seq a b,env=>match dS gd a env with
  | some (.nx e)=>dS gd b e
  | o=>o
 | .aX i e,env=>match dE gd e env with
  | some (rv,e1)=>match rv.av with | .dat d=>if free e1 i=true then some (.nx (e1.set i (.dat d))) else none | .bor _=>none
  | none=>none
 | .tZ i e,env=>match dE gd e env with
  | some (.frs d,e1)=>if free e1 i=true then some (.nx (e1.set i (.own d))) else none
  | _=>none
 | .BZ is e,env=>match dE gd e env with
  | some (rv,e1)=>match rv.av with
   | .dat (.tuple ds)=>match nQ e1 is ds with | some e2=>some (.nx e2) | none=>none
   | _=>none
  | none=>none
 | .drop e,env=>match dE gd e env with | some (_,e1)=>some (.nx e1) | none=>none
 | .ret e,env=>match dE gd e env with | some (rv,e1)=>some (.rt rv e1) | none=>none
 | .HZ,env=>some (.rt (.dat .none) env)
 | .ifs c a b,env=>match dT gd c env with
  | some (true,e1)=>dS gd a e1
  | some (false,e1)=>dS gd b e1
  | none=>none
 | .fr i it b,env=>match dI gd it env with
  | some (ds,none,e1)=>forL (nG i (dS gd b)) ds e1
  | _=>none
 | .wh n c b,env=>whL (dT gd c) (dS gd b) n env
 | .nev,_=>none
 | .rse _,_=>none
 | .sto m i k e,env=>match dE gd e env with
  | some (rv,e1)=>match rv.av with
   | .dat x=>match aR e1 i with
    | some _=>match dE gd k e1 with
     | some (rk,e2)=>match rk.view e2,aR e2 i with
      | some dk,some d=>match m.f d dk x with | some d'=>some (.nx (gr e2 i d')) | none=>none
      | _,_=>none
     | none=>none
    | none=>none
   | .bor _=>none
  | none=>none
def tE (f:Fn) (avs:List AV) (env:En):Option Int:=match iu env f.ms avs with
 | none=>none
 | some ds=>if ckA (cU f.ms avs) (rz f.ms avs) (cU f.ms avs).length=true then f.X ds else none
mutual
noncomputable def xE (gd:List Qq):XE->En->Option Int
 | .bY f as,env=>match dA gd as env with
  | some (avs,e1)=>tE f avs e1
  | none=>xA gd as env
 | .mtx m f i as,env=>match aR env i with
  | some (.dict kvs)=>if Be m kvs=true then match dA gd as env with
    | some (avs,e1)=>tE f (.bor i :: avs) e1
    | none=>xA gd as env
   else none
  | _=>none
 | .prm _ as,env=>xA gd as env
 | .mtr m i as,env=>match aR env i with
  | some d0=>if m.ty d0=true then xA gd as env else none
  | none=>none
 | .tup as,env=>xA gd as env
 | _,_=>none
noncomputable def xA (gd:List Qq):XA->En->Option Int
 | .nil,_=>none
 | .cons e r,env=>match dE gd e env with
  | some (_,e1)=>xA gd r e1
  | none=>xE gd e env
end
noncomputable def whX (t:En->Option (Bool×En)) (b:En->Option Out) (x:En->Option Int):Nat->En->Option Int
 | 0,_=>none
 | n+1,env=>match t env with
  | some (true,e1)=>match b e1 with
   | some (.nx e)=>whX t b x n e
   | some _=>none
   | none=>x e1
  | _=>none
def xS (gd:List Qq):XS->En->Option Int
 | .seq a b,env=>match dS gd a env with
  | some (.nx e)=>xS gd b e
  | some _=>none
  | none=>xS gd a env
 | .aX _ e,env=>xE gd e env
 | .drop e,env=>xE gd e env
 | .ret e,env=>xE gd e env
 | .ifs c a b,env=>match dT gd c env with
  | some (true,e1)=>xS gd a e1
  | some (false,e1)=>xS gd b e1
  | none=>none
 | .wh n c b,env=>whX (dT gd c) (dS gd b) (xS gd b) n env
 | .rse e,env=>match dE gd e env with
  | some (rv,_)=>match rv.av with | .dat (.int i)=>if dY (.int i)=true then some i else none | _=>none
  | none=>none
 | _,_=>none
noncomputable def B4:Qq->Sl | .tuple ds=>.dat (.tuple ds) | d=>.ro d
def aC:List PM->List Qq->Nat->En
 | .dat :: ms,d :: ds,n=>.dat d :: aC ms ds (n - 1)
 | .bor :: ms,d :: ds,n=>B4 d :: aC ms ds (n - 1)
 | .ino :: ms,d :: ds,n=>.ino d :: aC ms ds (n - 1)
 | _,_,n=>List.replicate n .un
noncomputable def ix:List PM->En->Option (List Qq)
 | .ino :: ms,.ino d :: es=>match ix ms es with | some ds=>some (d :: ds) | none=>none
 | .ino :: _,_=>none
 | _ :: ms,_ :: es=>ix ms es
 | _,_=>some []
def RV.pr:RV->Option PR | .dat d=>some (.dat d) | .frs d=>some (.frs d) | .bor _=>none
def bO (gd:List Qq) (ms:List PM) (n:Nat) (b:XS):Fn where
 ms:=ms
 F:=fun ds=>if ds.length=ms.length then match dS gd b (aC ms ds n) with
   | some (.rt rv env)=>match rv.pr,ix ms env with | some pr,some outs=>some (pr,outs) | _,_=>none
   | some (.nx env)=>match ix ms env with | some outs=>some (.dat .none,outs) | none=>none
   | _=>none
  else none
 X:=fun ds=>if ds.length=ms.length then xS gd b (aC ms ds n) else none
theorem aY.rf (H:Hp):aY H H:=fun _ _ h=>h
theorem aY.tr (a:aY H H1) (b:aY H1 H2):aY H H2:=fun c o h=>b c o (a c o h)
theorem aY.nw (o:HO) (h:H a=none):aY H (upd H a o):=fun b u q=>by rw [aM (a8 q h)];exact q
section
variable {K:Fg} {F F' I I' F0:Qz->Prop} {H H' ZW:Hp} {env env':En} {Z Z':St} {ga:Gv} {gd:List Qq}
def mO (K:Fg) (F0:Qz->Prop) (ZW:Hp) (I:Qz->Prop) (env:En) (Z:St) (H:Hp):RV->V->Prop
 | .dat d,v=>Dm K (FF F0 env Z) H d v
 | .bor i,v=>Z[i]?=some (some v)
 | .frs d,v=>∃ a,v=.ref a/\Rel K (fun b=>F0 b\/b=a) ZW I env Z H/\Top K (fun b=>FF F0 env Z b\/b=a) H d a/\(ZW a=none\/I a)/\¬FF F0 env Z a/\(∀ (i:Nat) (d':Qq),env[i]?=some (.ino d')->Z[i]?≠some (some (.ref a))) /\
   ∀ (i:Nat) (d':Qq),env[i]?=some (.ro d')->∃ b,Z[i]?=some (some (.ref b))/\jW K (fun b=>FF F0 env Z b\/b=a) (fun b=>IA env Z b\/b=a) H d' b
def CH (K:Fg) (F0:Qz->Prop) (env:En) (Z:St) (H:Hp):AV->V->Prop
 | .dat d,v=>Dm K (FF F0 env Z) H d v
 | .bor i,v=>Z[i]?=some (some v)
def gK (K:Fg) (F0:Qz->Prop) (env:En) (Z:St) (H:Hp):List AV->List V->Prop
 | [],vs=>vs=[]
 | a :: as,vs=>∃ v r,vs=v :: r/\CH K F0 env Z H a v/\gK K F0 env Z H as r
theorem mO.av (h:mO K F0 ZW I env Z H rv v):CH K F0 env Z H rv.av v:=by
 cases rv with
 | dat d=>exact h
 | bor i=>exact h
 | frs d =>
  obtain ⟨a,e,R,t,_,n,_⟩:=h;subst e;exact (t.pr Pr.refl (F':=FF F0 env Z) (fun _ z=>.inl z) (fun _ z=>z)).dm n
theorem CH.keep (R:Rel K F0 ZW I env Z H) (S:Rel K F0 H (IA env Z) env' Z H') (k:KpE env env') (h:CH K F0 env Z H a v):CH K F0 env' Z H' a v:=by
 cases a with
 | dat d=>exact R.xT S k h
 | bor i=>exact h
theorem Rel.Kw (R:Rel K F0 ZW I env Z H) (h:cont env i=some d) (s:Z[i]?=some (some v)):Vw K (FF F0 env Z) H d v:=by
 unfold cont at h;cases e:env[i]? with
 | none=>rw [e] at h;cases h
 | some sl =>
  rw [e] at h;cases sl with
  | un=>cases h
  | dat _=>cases h
  | own d' =>
   cases h;obtain ⟨a,q,_,_,t⟩:=R.own i d e;rw [s] at q;cases q;exact t.r.vw
  | ino d' =>
   cases h;obtain ⟨a,q,_,_,t⟩:=R.ino i d e;rw [s] at q;cases q;exact t.r.vw
  | ro d' =>
   cases h;obtain ⟨a,q,t⟩:=R.ro i d e;rw [s] at q;cases q;exact t.r.vw
theorem Rel.dG (R:Rel K F0 ZW I env Z H) (h:aR env i=some d):mu env i/\∃ a,Z[i]?=some (some (.ref a))/\FF F0 env Z a/\Top K (FF F0 env Z) H d a:=by
 unfold aR at h;cases e:env[i]? with
 | none=>rw [e] at h;cases h
 | some sl =>
  rw [e] at h;cases sl with
  | un=>cases h
  | dat _=>cases h
  | own d' =>
   cases h;obtain ⟨a,q,_,_,t⟩:=R.own i d e;exact ⟨⟨d,.inl e⟩,a,q,.inr ⟨i,d,e,q⟩,t⟩
  | ino d' =>
   cases h;obtain ⟨a,q,f,_,t⟩:=R.ino i d e;exact ⟨⟨d,.inr e⟩,a,q,.inl f,t⟩
  | ro d'=>cases h
theorem CH.vw (R:Rel K F0 ZW I env Z H) (h:CH K F0 env Z H a v) (e:a.view env=some d):Vw K (FF F0 env Z) H d v:=by
 cases a with
 | dat d'=>cases e;exact Dm.vw h
 | bor i=>exact R.Kw e h
theorem gK.vw (R:Rel K F0 ZW I env Z H):∀ {as:List AV} {vs:List V} {ds:List Qq},gK K F0 env Z H as vs->aK env as=some ds->VwL K (FF F0 env Z) H ds vs
 | [],_,ds,h,e=>by cases e;exact h
 | a :: as,_,ds,h,e=>by
  obtain ⟨v,r,rfl,h1,h2⟩:=h;unfold aK at e;cases e1:a.view env with
  | none=>rw [e1] at e;cases e
  | some d =>
   cases e2:aK env as with
   | none=>rw [e1,e2] at e;cases e
   | some ds' =>
    rw [e1,e2] at e;cases e;exact ⟨v,r,rfl,h1.vw R e1,gK.vw R h2 e2⟩
theorem gK.mv (R:Rel K F0 ZW I env Z H):∀ {as:List AV} {vs:List V} {ds:List (Bool×Qq)},gK K F0 env Z H as vs->cO env as=some ds->MvL K (FF F0 env Z) H ds vs
 | [],_,ds,h,e=>by cases e;exact h
 | a :: as,_,ds,h,e=>by
  obtain ⟨v,r,rfl,h1,h2⟩:=h;unfold cO at e;cases e1:a.view env with
  | none=>rw [e1] at e;cases e
  | some d =>
   cases e2:cO env as with
   | none=>rw [e1,e2] at e;cases e
   | some ds' =>
    rw [e1,e2] at e;cases e;have ih:=gK.mv R h2 e2;cases a with
    | dat d'=>cases e1;exact ⟨v,r,rfl,h1,ih⟩
    | bor i=>exact ⟨v,r,rfl,h1.vw R e1,ih⟩
theorem gK.K3:∀ {as:List AV} {vs:List V} {ds:List Qq},gK K F0 env Z H as vs->lU as=some ds->DmL K (FF F0 env Z) H ds vs
 | [],_,ds,h,e=>by cases e;exact h
 | .dat d :: as,_,ds,h,e=>by
  obtain ⟨v,r,rfl,h1,h2⟩:=h;unfold lU at e;cases e2:lU as with
  | none=>rw [e2] at e;cases e
  | some ds' =>
   rw [e2] at e;cases e;exact ⟨v,r,rfl,h1,gK.K3 h2 e2⟩
 | .bor i :: as,_,ds,h,e=>by unfold lU at e;cases e
theorem jW.Bo (hc:H c=none) (h:jW K F I H d a):jW K F (fun b=>I b\/b=c) H d a:=by
 cases d with
 | list ds=>obtain ⟨xs,e,z,r⟩:=h;exact ⟨xs,e.fresh hc,z,r⟩
 | dict ds =>
  obtain ⟨ep,xs,n,e,z,r⟩:=h;exact ⟨ep,xs,fun q=>q.elim n fun q=>(by subst q;rw [hc] at e;cases e),e,z,r⟩
 | _=>exact absurd h id
theorem Rel.sy (R:Rel K F0 ZW I env Z H) (s:aY H H') (h:Bp K (FF F0 env Z) H H' pr v):mO K F0 ZW I env Z H' pr.rv v:=by
 cases pr with
 | dat d=>exact h
 | frs d =>
  obtain ⟨a,e,hn,t⟩:=h;refine ⟨a,e,R.fresh hn s ?_,t,R.oi (.inl hn),fun z=>R.eG z hn,fun i d' e' q=>?_,fun i d' e'=>?_⟩
  ·obtain ⟨o,q,_⟩:=t.wr;rw [q];exact nofun
  ·obtain ⟨o,z,_⟩:=R.iaT ⟨i,⟨d',.inr e'⟩,q⟩;rw [hn] at z;cases z
  ·obtain ⟨b,q,t'⟩:=R.ro i d' e';exact ⟨b,q,((t'.fresh hn).Bo hn).pr (Pr.of_same s) (fun _ z=>z) (fun _ z=>z) fun b o z _=>s _ _ z⟩
theorem xx (env:En) (i:Nat) (d:Qq):KpE env (gr env i d):=by
 unfold gr;cases e:env[i]? with
 | none=>exact KpE.refl _
 | some sl =>
  have hi:i < env.length:=(NW.mp e).1;cases sl with
  | un=>exact KpE.refl _
  | dat _=>exact KpE.refl _
  | ro _=>exact KpE.refl _
  | own d' =>
   refine ⟨Oq,fun j s h=>?_⟩;by_cases z:i=j
   ·subst z;rw [e] at h;cases h;exact ⟨.own d,by rw [Oa hi],.inl ⟨d,rfl⟩⟩
   ·exact ⟨s,by rw [NU z];exact h,.refl s⟩
  | ino d' =>
   refine ⟨Oq,fun j s h=>?_⟩;by_cases z:i=j
   ·subst z;rw [e] at h;cases h;exact ⟨.ino d,by rw [Oa hi],⟨d,rfl⟩⟩
   ·exact ⟨s,by rw [NU z];exact h,.refl s⟩
def SmK (env env':En):Prop:=env'.length=env.length/\∀ i:Nat,env'[i]?=env[i]?\/(∃ d d',env[i]?=some (.own d)/\env'[i]?=some (.own d'))\/∃ d d',env[i]?=some (.ino d)/\env'[i]?=some (.ino d')
theorem SmK.refl (env:En):SmK env env:=⟨rfl,fun _=>.inl rfl⟩
theorem SmK.trans (a:SmK e1 e2) (b:SmK e2 e3):SmK e1 e3:=⟨b.1.trans a.1,fun i=>by
 rcases b.2 i with h | ⟨d,d',h,h'⟩ | ⟨d,d',h,h'⟩
 ·rw [h];exact a.2 i
 ·rcases a.2 i with q | ⟨c,c',q,q'⟩ | ⟨c,c',q,q'⟩
  ·exact .inr (.inl ⟨d,d',by rw [<- q];exact h,h'⟩)
  ·exact .inr (.inl ⟨c,d',q,h'⟩)
  ·rw [h] at q';cases q'
 ·rcases a.2 i with q | ⟨c,c',q,q'⟩ | ⟨c,c',q,q'⟩
  ·exact .inr (.inr ⟨d,d',by rw [<- q];exact h,h'⟩)
  ·rw [h] at q';cases q'
  ·exact .inr (.inr ⟨c,d',q,h'⟩)⟩
theorem SmK.kp (k:SmK env env'):KpE env env':=⟨k.1,fun i s e=>by
 rcases k.2 i with h | ⟨d,d',h,h'⟩ | ⟨d,d',h,h'⟩
 ·exact ⟨s,by rw [h];exact e,.refl s⟩
 ·rw [e] at h;cases h;exact ⟨_,h',.inl ⟨d',rfl⟩⟩
 ·rw [e] at h;cases h;exact ⟨_,h',⟨d',rfl⟩⟩⟩
theorem SmK.symm (k:SmK env env'):SmK env' env:=⟨k.1.symm,fun i=>by
 rcases k.2 i with h | ⟨d,d',h,h'⟩ | ⟨d,d',h,h'⟩
 ·exact .inl h.symm
 ·exact .inr (.inl ⟨d',d,h',h⟩)
 ·exact .inr (.inr ⟨d',d,h',h⟩)⟩
theorem SmK.ff (k:SmK env env'):FF F0 env' Z=FF F0 env Z:=by
 funext b;exact propext ⟨fun h=>k.kp.ff h,fun h=>k.symm.kp.ff h⟩
theorem SmK.ia (k:SmK env env'):IA env' Z=IA env Z:=by
 funext b;exact propext ⟨fun h=>k.kp.ia h,fun h=>k.symm.kp.ia h⟩
theorem fy (env:En) (i:Nat) (d:Qq):SmK env (gr env i d):=by
 unfold gr;cases e:env[i]? with
 | none=>exact SmK.refl _
 | some sl =>
  have hi:i < env.length:=(NW.mp e).1;cases sl with
  | un=>exact SmK.refl _
  | dat _=>exact SmK.refl _
  | ro _=>exact SmK.refl _
  | own d' =>
   refine ⟨Oq,fun j=>?_⟩;by_cases z:i=j
   ·subst z;exact .inr (.inl ⟨d',d,e,by rw [Oa hi]⟩)
   ·exact .inl (by rw [NU z])
  | ino d' =>
   refine ⟨Oq,fun j=>?_⟩;by_cases z:i=j
   ·subst z;exact .inr (.inr ⟨d',d,e,by rw [Oa hi]⟩)
   ·exact .inl (by rw [NU z])
theorem l4 (h:mu env i):aR (gr env i d) i=some d:=by
 unfold gr aR;obtain ⟨d',e | e⟩:=h
 ·have hi:i < env.length:=(NW.mp e).1;rw [e];simp only;rw [Oa hi]
 ·have hi:i < env.length:=(NW.mp e).1;rw [e];simp only;rw [Oa hi]
theorem lY (h:j≠i):(gr env i d)[j]?=env[j]?:=by
 unfold gr;split <;> first | rfl | rw [NU (Ne.symm h)]
theorem rm (h:aR env i=some d):env[i]?=some (.own d)\/env[i]?=some (.ino d):=by
 unfold aR at h;split at h
 ·rename_i e;cases h;exact .inl e
 ·rename_i e;cases h;exact .inr e
 ·cases h
theorem Rel.chg (R:Rel K F0 ZW I env Z H) (k:SmK env env') (hk:∀ b o,H b=some o->¬IA env Z b->H' b=some o) (ht:∀ i d a,aR env' i=some d->Z[i]?=some (some (.ref a))->Top K (FF F0 env Z) H' d a):Rel K F0 ZW I env' Z H':=by
 have p:=R.uH hk;have eF:=k.ff (F0:=F0) (Z:=Z);have eI:=k.ia (Z:=Z);have mc:∀ {i:Nat} {d:Qq},env'[i]?=some (.own d)\/env'[i]?=some (.ino d)->aR env' i=some d:=fun {i d} h=>by
  unfold aR;rcases h with h | h <;> rw [h]
 refine ⟨k.1.trans R.len,fun i d e=>?_,fun i d e=>?_,fun i d e=>?_,fun i d e=>?_,fun i j a h1 h2 h3 h4=>R.sep i j a (k.kp.mu h1) (k.kp.mu h2) h3 h4,fun b h=>?_,fun b o h n=>?_⟩
 ·rcases k.2 i with q | ⟨c,c',q,q'⟩ | ⟨c,c',q,q'⟩
  ·rw [e] at q;obtain ⟨v,s,r⟩:=R.dat i d q.symm;rw [eF];exact ⟨v,s,r.pr p fun _ z=>z⟩
  ·rw [e] at q';cases q'
  ·rw [e] at q';cases q'
 ·have hm:=mc (.inl e);obtain ⟨d0,e0⟩:=k.kp.own e;obtain ⟨a,s,n,w,_⟩:=R.own i d0 e0;rw [eF];exact ⟨a,s,n,w,ht i d a hm s⟩
 ·have hm:=mc (.inr e);have:∃ d0,env[i]?=some (.ino d0):=by
   rcases k.2 i with q | ⟨c,c',q,q'⟩ | ⟨c,c',q,q'⟩
   ·exact ⟨d,by rw [<- q];exact e⟩
   ·rw [e] at q';cases q'
   ·exact ⟨c,q⟩
  obtain ⟨d0,e0⟩:=this;obtain ⟨a,s,n,w,_⟩:=R.ino i d0 e0;rw [eF];exact ⟨a,s,n,w,ht i d a hm s⟩
 ·have e0:env[i]?=some (.ro d):=by
   rcases k.2 i with q | ⟨c,c',q,q'⟩ | ⟨c,c',q,q'⟩
   ·rw [<- q];exact e
   ·rw [e] at q';cases q'
   ·rw [e] at q';cases q'
  obtain ⟨a,s,t⟩:=R.ro i d e0;rw [eF,eI];exact ⟨a,s,t.pr p (fun _ z=>z) (fun _ z=>z) hk⟩
 ·by_cases z:IA env Z b
  ·obtain ⟨i,m,s⟩:=z;have m':=k.symm.kp.mu m;obtain ⟨d,m'⟩:=m';obtain ⟨o,q,_⟩:=(ht i d b (mc m') s).wr;rw [q];exact nofun
  ·cases e:H b with
   | none=>exact absurd e (R.dom b h)
   | some o=>rw [hk b o e z];exact nofun
 ·refine hk b o (R.hG b o h n) fun z=>?_;rcases R.iaI z with q | q
  ·rw [h] at q;cases q
  ·exact n q
end
section
variable {K:Fg} {F F' I I' F0:Qz->Prop} {H H' ZW:Hp} {env env':En} {Z Z':St} {ga:Gv} {gd:List Qq}
theorem get_set {α:Type} {l:List α} {i j:Nat} {x y:α} (h:(l.set i x)[j]?=some y):(i=j/\x=y)\/(i≠j/\l[j]?=some y):=by
 by_cases z:i=j
 ·subst z;by_cases hi:i < l.length
  ·rw [Oa hi] at h;exact .inl ⟨rfl,OK h⟩
  ·rw [PF (by rw [Oq];omega)] at h;cases h
 ·rw [NU z] at h;exact .inr ⟨z,h⟩
theorem Rel.sub (R:Rel K F0 ZW I env Z H) (i:Nat) (x:Option V):(∀ b,FF F0 (env.set i .un) (Z.set i x) b->FF F0 env Z b)/\(∀ b,IA (env.set i .un) (Z.set i x) b->IA env Z b):=by
 constructor
 ·rintro b (h | ⟨j,d,e,s⟩)
  ·exact .inl h
  ·rcases get_set e with ⟨_,z⟩ | ⟨n,e⟩
   ·cases z
   ·rw [NU n] at s;exact .inr ⟨j,d,e,s⟩
 ·rintro b ⟨j,⟨d,e⟩,s⟩;have:∃ d,(env[j]?=some (.own d)\/env[j]?=some (.ino d))/\i≠j:=by
   rcases e with e | e
   ·rcases get_set e with ⟨_,z⟩ | ⟨n,e⟩
    ·cases z
    ·exact ⟨d,.inl e,n⟩
   ·rcases get_set e with ⟨_,z⟩ | ⟨n,e⟩
    ·cases z
    ·exact ⟨d,.inr e,n⟩
  obtain ⟨d,e,n⟩:=this;rw [NU n] at s;exact ⟨j,⟨d,e⟩,s⟩
theorem Rel.forget (R:Rel K F0 ZW I env Z H) (i:Nat) (x:Option V):Rel K F0 ZW I (env.set i .un) (Z.set i x) H:=by
 obtain ⟨hf,hi⟩:=R.sub i x;have mm:∀ j,mu (env.set i .un) j->mu env j/\i≠j:=fun j h=>by
  obtain ⟨d,e | e⟩:=h
  ·rcases get_set e with ⟨_,z⟩ | ⟨n,e⟩
   ·cases z
   ·exact ⟨⟨d,.inl e⟩,n⟩
  ·rcases get_set e with ⟨_,z⟩ | ⟨n,e⟩
   ·cases z
   ·exact ⟨⟨d,.inr e⟩,n⟩
 refine ⟨by rw [Oq,Oq];exact R.len,fun j d e=>?_,fun j d e=>?_,fun j d e=>?_,fun j d e=>?_,fun j k a h1 h2 h3 h4=>?_,R.dom,R.hG⟩
 ·rcases get_set e with ⟨_,z⟩ | ⟨n,e⟩
  ·cases z
  obtain ⟨v,s,r⟩:=R.dat j d e;exact ⟨v,by rw [NU n];exact s,r.mono hf⟩
 ·rcases get_set e with ⟨_,z⟩ | ⟨n,e⟩
  ·cases z
  obtain ⟨a,s,q,w,t⟩:=R.own j d e;exact ⟨a,by rw [NU n];exact s,q,w,t.pr Pr.refl hf fun _ z=>z⟩
 ·rcases get_set e with ⟨_,z⟩ | ⟨n,e⟩
  ·cases z
  obtain ⟨a,s,q,w,t⟩:=R.ino j d e;exact ⟨a,by rw [NU n];exact s,q,w,t.pr Pr.refl hf fun _ z=>z⟩
 ·rcases get_set e with ⟨_,z⟩ | ⟨n,e⟩
  ·cases z
  obtain ⟨a,s,t⟩:=R.ro j d e;exact ⟨a,by rw [NU n];exact s,t.pr Pr.refl hf hi fun _ _ z _=>z⟩
 ·obtain ⟨m1,n1⟩:=mm j h1;obtain ⟨m2,n2⟩:=mm k h2;rw [NU n1] at h3;rw [NU n2] at h4;exact R.sep j k a m1 m2 h3 h4
theorem BY {i:Nat} {s:Sl} {x:Option V} (hu:env[i]?=some .un) (hs:∀ d,s≠.own d):FF F0 (env.set i s) (Z.set i x)=FF F0 env Z:=by
 funext b;apply propext;constructor
 ·rintro (h | ⟨j,d,e,q⟩)
  ·exact .inl h
  ·rcases get_set e with ⟨_,z⟩ | ⟨n,e⟩
   ·exact absurd z (hs d)
   ·rw [NU n] at q;exact .inr ⟨j,d,e,q⟩
 ·rintro (h | ⟨j,d,e,q⟩)
  ·exact .inl h
  ·have n:i≠j:=fun z=>by subst z;rw [hu] at e;cases e
   exact .inr ⟨j,d,by rw [NU n];exact e,by rw [NU n];exact q⟩
theorem HD {i:Nat} {s:Sl} {x:Option V} (hu:env[i]?=some .un) (hs:∀ d,s≠.own d/\s≠.ino d):IA (env.set i s) (Z.set i x)=IA env Z:=by
 funext b;apply propext;constructor
 ·rintro ⟨j,⟨d,e | e⟩,q⟩
  ·rcases get_set e with ⟨_,z⟩ | ⟨n,e⟩
   ·exact absurd z (hs d).1
   ·rw [NU n] at q;exact ⟨j,⟨d,.inl e⟩,q⟩
  ·rcases get_set e with ⟨_,z⟩ | ⟨n,e⟩
   ·exact absurd z (hs d).2
   ·rw [NU n] at q;exact ⟨j,⟨d,.inr e⟩,q⟩
 ·rintro ⟨j,⟨d,e⟩,q⟩;have n:i≠j:=fun z=>by subst z;rw [hu] at e;rcases e with e | e <;> cases e
  refine ⟨j,⟨d,?_⟩,by rw [NU n];exact q⟩;rw [NU n];exact e
theorem Rel.putD (R:Rel K F0 ZW I env Z H) {i:Nat} {d:Qq} {v:V} (hu:env[i]?=some .un) (h:Dm K (FF F0 env Z) H d v):Rel K F0 ZW I (env.set i (.dat d)) (Z.set i (some v)) H:=by
 have hi:i < env.length:=(NW.mp hu).1;have eF:FF F0 (env.set i (.dat d)) (Z.set i (some v))=FF F0 env Z:=BY hu (fun _=>nofun);have eI:IA (env.set i (.dat d)) (Z.set i (some v))=IA env Z:=HD hu (fun _=>⟨nofun,nofun⟩);have mm:∀ j,mu (env.set i (.dat d)) j->mu env j/\i≠j:=fun j h=>by
  obtain ⟨c,e | e⟩:=h
  ·rcases get_set e with ⟨_,z⟩ | ⟨n,e⟩
   ·cases z
   ·exact ⟨⟨c,.inl e⟩,n⟩
  ·rcases get_set e with ⟨_,z⟩ | ⟨n,e⟩
   ·cases z
   ·exact ⟨⟨c,.inr e⟩,n⟩
 refine ⟨by rw [Oq,Oq];exact R.len,fun j c e=>?_,fun j c e=>?_,fun j c e=>?_,fun j c e=>?_,fun j k a h1 h2 h3 h4=>?_,R.dom,R.hG⟩
 ·rw [eF];rcases get_set e with ⟨z,y⟩ | ⟨n,e⟩
  ·subst z;cases y;exact ⟨v,Oa (by rw [<- R.len];exact hi),h⟩
  obtain ⟨w,s,r⟩:=R.dat j c e;exact ⟨w,by rw [NU n];exact s,r⟩
 ·rw [eF];rcases get_set e with ⟨_,z⟩ | ⟨n,e⟩
  ·cases z
  obtain ⟨a,s,q,w,t⟩:=R.own j c e;exact ⟨a,by rw [NU n];exact s,q,w,t⟩
 ·rw [eF];rcases get_set e with ⟨_,z⟩ | ⟨n,e⟩
  ·cases z
  obtain ⟨a,s,q,w,t⟩:=R.ino j c e;exact ⟨a,by rw [NU n];exact s,q,w,t⟩
 ·rw [eF,eI];rcases get_set e with ⟨_,z⟩ | ⟨n,e⟩
  ·cases z
  obtain ⟨a,s,t⟩:=R.ro j c e;exact ⟨a,by rw [NU n];exact s,t⟩
 ·obtain ⟨m1,n1⟩:=mm j h1;obtain ⟨m2,n2⟩:=mm k h2;rw [NU n1] at h3;rw [NU n2] at h4;exact R.sep j k a m1 m2 h3 h4
theorem Rel.Me {i:Nat} {d:Qq} {a:Qz} (hu:env[i]?=some .un) (h:mO K F0 ZW I env Z H (.frs d) (.ref a)):Rel K F0 ZW I (env.set i (.own d)) (Z.set i (some (.ref a))) H:=by
 obtain ⟨a',ea,R,t,w,nF,hino,hro⟩:=h;cases ea;have hi:i < env.length:=(NW.mp hu).1;have his:i < Z.length:=by rw [<- R.len];exact hi
 have eF:FF F0 (env.set i (.own d)) (Z.set i (some (.ref a)))=fun b=>FF F0 env Z b\/b=a:=by
  funext b;apply propext;constructor
  ·rintro (h | ⟨j,c,e,q⟩)
   ·exact .inl (.inl h)
   ·rcases get_set e with ⟨z,y⟩ | ⟨n,e⟩
    ·subst z;rw [Oa his] at q;cases q;exact .inr rfl
    ·rw [NU n] at q;exact .inl (.inr ⟨j,c,e,q⟩)
  ·rintro ((h | ⟨j,c,e,q⟩) | rfl)
   ·exact .inl h
   ·have n:i≠j:=fun z=>by subst z;rw [hu] at e;cases e
    exact .inr ⟨j,c,by rw [NU n];exact e,by rw [NU n];exact q⟩
   ·exact .inr ⟨i,d,Oa hi,Oa his⟩
 have eF2:FF (fun b=>F0 b\/b=a) env Z=fun b=>FF F0 env Z b\/b=a:=oO;have mm:∀ j,mu (env.set i (.own d)) j->i=j\/(mu env j/\i≠j):=fun j h=>by
  obtain ⟨c,e | e⟩:=h
  ·rcases get_set e with ⟨z,_⟩ | ⟨n,e⟩
   ·exact .inl z
   ·exact .inr ⟨⟨c,.inl e⟩,n⟩
  ·rcases get_set e with ⟨z,_⟩ | ⟨n,e⟩
   ·exact .inl z
   ·exact .inr ⟨⟨c,.inr e⟩,n⟩
 have eI:∀ b,IA (env.set i (.own d)) (Z.set i (some (.ref a))) b->IA env Z b\/b=a:=by
  rintro b ⟨j,m,q⟩;rcases mm j m with z | ⟨m',n⟩
  ·subst z;rw [Oa his] at q;cases q;exact .inr rfl
  ·rw [NU n] at q;exact .inl ⟨j,m',q⟩
 have na:∀ j,mu env j->Z[j]?≠some (some (.ref a)):=fun j m q=>by
  obtain ⟨c,e | e⟩:=m
  ·exact nF (.inr ⟨j,c,e,q⟩)
  ·exact hino j c e q
 refine ⟨by rw [Oq,Oq];exact R.len,fun j c e=>?_,fun j c e=>?_,fun j c e=>?_,fun j c e=>?_,fun j k b h1 h2 h3 h4=>?_,fun b h=>R.dom b (.inl h),R.hG⟩
 ·rw [eF];rcases get_set e with ⟨_,z⟩ | ⟨n,e⟩
  ·cases z
  obtain ⟨x,s,r⟩:=R.dat j c e;rw [eF2] at r;exact ⟨x,by rw [NU n];exact s,r⟩
 ·rw [eF];rcases get_set e with ⟨z,y⟩ | ⟨n,e⟩
  ·subst z;cases y;exact ⟨a,Oa his,fun z=>nF (.inl z),w,t⟩
  obtain ⟨b,s,q,w',t'⟩:=R.own j c e;rw [eF2] at t';exact ⟨b,by rw [NU n];exact s,fun z=>q (.inl z),w',t'⟩
 ·rw [eF];rcases get_set e with ⟨_,z⟩ | ⟨n,e⟩
  ·cases z
  obtain ⟨b,s,q,w',t'⟩:=R.ino j c e;rw [eF2] at t';refine ⟨b,by rw [NU n];exact s,?_,w',t'⟩;rcases q with q | q
  ·exact q
  ·subst q;exact absurd s (hino j c e)
 ·rw [eF];rcases get_set e with ⟨_,z⟩ | ⟨n,e⟩
  ·cases z
  obtain ⟨b,s,t'⟩:=hro j c e;exact ⟨b,by rw [NU n];exact s,t'.pr Pr.refl (fun _ z=>z) eI fun _ _ z _=>z⟩
 ·rcases mm j h1 with z1 | ⟨m1,n1⟩
  ·rcases mm k h2 with z2 | ⟨m2,n2⟩
   ·rw [<- z1,<-z2]
   ·rw [<- z1,Oa his] at h3;cases h3;rw [NU n2] at h4;exact absurd h4 (na k m2)
  ·rw [NU n1] at h3;rcases mm k h2 with z2 | ⟨m2,n2⟩
   ·rw [<- z2,Oa his] at h4;cases h4;exact absurd h3 (na j m1)
   ·rw [NU n2] at h4;exact R.sep j k b m1 m2 h3 h4
theorem Rel.take (R:Rel K F0 ZW I env Z H) {i:Nat} {d:Qq} (e:env[i]?=some (.own d)):∃ a,Z[i]?=some (some (.ref a))/\mO K F0 ZW I (env.set i .un) Z H (.frs d) (.ref a):=by
 obtain ⟨a,s,nF0,w,t⟩:=R.own i d e;have hi:i < env.length:=(NW.mp e).1;have mm:∀ j,mu (env.set i .un) j->mu env j/\i≠j:=fun j h=>by
  obtain ⟨c,e | e⟩:=h
  ·rcases get_set e with ⟨_,z⟩ | ⟨n,e⟩
   ·cases z
   ·exact ⟨⟨c,.inl e⟩,n⟩
  ·rcases get_set e with ⟨_,z⟩ | ⟨n,e⟩
   ·cases z
   ·exact ⟨⟨c,.inr e⟩,n⟩
 have eF:FF F0 env Z=fun b=>FF F0 (env.set i .un) Z b\/b=a:=by
  funext b;apply propext;constructor
  ·rintro (h | ⟨j,c,e',q⟩)
   ·exact .inl (.inl h)
   ·by_cases n:i=j
    ·subst n;rw [s] at q;cases q;exact .inr rfl
    ·exact .inl (.inr ⟨j,c,by rw [NU n];exact e',q⟩)
  ·rintro ((h | ⟨j,c,e',q⟩) | rfl)
   ·exact .inl h
   ·rcases get_set e' with ⟨_,z⟩ | ⟨n,e'⟩
    ·cases z
    ·exact .inr ⟨j,c,e',q⟩
   ·exact .inr ⟨i,d,e,s⟩
 have eF2:FF (fun b=>F0 b\/b=a) (env.set i .un) Z=FF F0 env Z:=by rw [oO];exact eF.symm
 have na:∀ j,mu (env.set i .un) j->Z[j]?≠some (some (.ref a)):=fun j m q=>by
  obtain ⟨m',n⟩:=mm j m;exact n (R.sep i j a ⟨d,.inl e⟩ m' s q)
 have nF:¬FF F0 (env.set i .un) Z a:=by
  rintro (h | ⟨j,c,e',q⟩)
  ·exact nF0 h
  ·exact na j ⟨c,.inl e'⟩ q
 have ia:∀ b,IA (env.set i .un) Z b->IA env Z b:=fun b ⟨j,m,q⟩=>⟨j,(mm j m).1,q⟩;have ia2:∀ b,(IA (env.set i .un) Z b\/b=a)->IA env Z b:=fun b h=>h.elim (ia b) fun z=>z▸⟨i,⟨d,.inl e⟩,s⟩;have R':Rel K (fun b=>F0 b\/b=a) ZW I (env.set i .un) Z H:=by
  refine ⟨by rw [Oq];exact R.len,fun j c e'=>?_,fun j c e'=>?_,fun j c e'=>?_,fun j c e'=>?_,fun j k b h1 h2 h3 h4=>R.sep j k b (mm j h1).1 (mm k h2).1 h3 h4,fun b h=>?_,R.hG⟩
  ·rw [eF2];rcases get_set e' with ⟨_,z⟩ | ⟨n,e'⟩
   ·cases z
   exact R.dat j c e'
  ·rw [eF2];have m:=e';rcases get_set e' with ⟨_,z⟩ | ⟨n,e'⟩
   ·cases z
   obtain ⟨b,s',q,w',t'⟩:=R.own j c e';exact ⟨b,s',fun z=>z.elim q fun z=>na j ⟨c,.inl m⟩ (z▸s'),w',t'⟩
  ·rw [eF2];rcases get_set e' with ⟨_,z⟩ | ⟨n,e'⟩
   ·cases z
   obtain ⟨b,s',q,w',t'⟩:=R.ino j c e';exact ⟨b,s',.inl q,w',t'⟩
  ·rw [eF2];rcases get_set e' with ⟨_,z⟩ | ⟨n,e'⟩
   ·cases z
   obtain ⟨b,s',t'⟩:=R.ro j c e';exact ⟨b,s',t'.pr Pr.refl (fun _ z=>z) ia fun _ _ z _=>z⟩
  ·rcases h with h | h
   ·exact R.dom b h
   ·obtain ⟨o,q,_⟩:=t.wr;rw [h,q];exact nofun
 refine ⟨a,s,a,rfl,R',by rw [eF] at t;exact t,w,nF,fun j c e'=>na j ⟨c,.inr e'⟩,fun j c e'=>?_⟩;rcases get_set e' with ⟨_,z⟩ | ⟨n,e'⟩
 ·cases z
 obtain ⟨b,s',t'⟩:=R.ro j c e';rw [eF] at t';exact ⟨b,s',t'.pr Pr.refl (fun _ z=>z) ia2 fun _ _ z _=>z⟩
theorem mO.rel (h:mO K F0 ZW I env Z H (.frs d) v):Rel K F0 ZW I env Z H:=by
 obtain ⟨a,_,R,_,_,_,hi,_⟩:=h;exact R.less hi
theorem set_same {α:Type} {l:List α} {i:Nat} {x:α} (h:l[i]?=some x):l.set i x=l:=by
 have hi:i < l.length:=(NW.mp h).1;apply List.ext_getElem?;intro j;by_cases z:i=j
 ·subst z;rw [Oa hi,h]
 ·rw [NU z]
theorem Rel.mov (R:Rel K F0 ZW I env Z H) {i:Nat} {d:Qq} (e:env[i]?=some (.own d)):∃ a,Z[i]?=some (some (.ref a))/\Rel K F0 ZW I (env.set i (.dat d)) Z H/\Dm K (FF F0 (env.set i (.dat d)) Z) H d (.ref a):=by
 have hi:i < env.length:=(NW.mp e).1;obtain ⟨a,s,h⟩:=R.take e;have R1:=h.rel;have hu:(env.set i .un)[i]?=some .un:=Oa hi;have hd:Dm K (FF F0 (env.set i .un) Z) H d (.ref a):=mO.av h;have R2:=R1.putD hu hd;rw [Pk,set_same s] at R2;refine ⟨a,s,R2,?_⟩;have eF:FF F0 (env.set i (.dat d)) Z=FF F0 (env.set i .un) Z:=by
  have:=BY (F0:=F0) (Z:=Z) (s:=.dat d) (x:=some (.ref a)) hu (fun _=>nofun);rw [Pk,set_same s] at this;exact this
 rw [eF];exact hd
theorem A7 (e:env[i]?=some s) (v:Evo s s'):KpE env (env.set i s'):=by
 have hi:i < env.length:=(NW.mp e).1;refine ⟨Oq,fun j t h=>?_⟩;by_cases z:i=j
 ·subst z;rw [e] at h;cases h;exact ⟨s',Oa hi,v⟩
 ·exact ⟨t,by rw [NU z];exact h,.refl t⟩
end
theorem br (x y:Str):(x++y).cps=x.cps++y.cps:=rfl
theorem nO (h:PyData.strOk x=true) (q:PyData.strOk y=true):PyData.strOk (x++y)=true:=by
 unfold PyData.strOk at h q ⊢;rw [br,Array.all_append,h,q];rfl
def SE (K:Fg) (ga:Gv) (gd:List Qq) (e:XE):Prop:=∀ (env:En) (rv:RV) (env':En),dE gd e env=some (rv,env')->∀ (F0:Qz->Prop) (ZW:Hp) (I:Qz->Prop) (Z:St) (H:Hp) (Q:VK),Rel K F0 ZW I env Z H ->
 (∀ v H',Rel K F0 ZW I env' Z H'->KpE env env'->mO K F0 ZW I env' Z H' rv v->Q v H')->rE K ga e Z H Q
def SA (K:Fg) (ga:Gv) (gd:List Qq) (e:XA):Prop:=∀ (env:En) (rv:List AV) (env':En),dA gd e env=some (rv,env')->∀ (F0:Qz->Prop) (ZW:Hp) (I:Qz->Prop) (Z:St) (H:Hp) (Q:List V->Hp->Prop),Rel K F0 ZW I env Z H ->
 (∀ v H',Rel K F0 ZW I env' Z H'->KpE env env'->gK K F0 env' Z H' rv v->Q v H')->rA K ga e Z H Q
def SF (K:Fg) (ga:Gv) (gd:List Qq) (e:XA):Prop:=∀ (out:Str) (env:En) (x:Str) (env':En),dF gd e out env=some (x,env')->∀ (F0:Qz->Prop) (ZW:Hp) (I:Qz->Prop) (Z:St) (H:Hp) (Q:VK),Rel K F0 ZW I env Z H ->
 PyData.strOk out=true->(∀ H',Rel K F0 ZW I env' Z H'->KpE env env'->x.length<=sizeLine->PyData.strOk x=true->Q (.str x) H')->tFs (rF K ga e) out Z H Q
def ST (K:Fg) (ga:Gv) (gd:List Qq) (e:XT):Prop:=∀ (env:En) (b:Bool) (env':En),dT gd e env=some (b,env')->∀ (F0:Qz->Prop) (ZW:Hp) (I:Qz->Prop) (Z:St) (H:Hp) (Q:Bool->Hp->Prop),Rel K F0 ZW I env Z H ->
 (∀ H',Rel K F0 ZW I env' Z H'->KpE env env'->Q b H')->rT K ga e Z H Q
def ItY (K:Fg) (F:Qz->Prop) (H H' H'':Hp) (d:Qq) (x:V):Prop:=(H''=H'/\Dm K F H d x)\/∃ p u v d1 d2,d=.tuple [d1,d2]/\x=.ref p/\H' p=none/\H''=upd H' p (.tup [u,v])/\Dm K F H d1 u/\Dm K F H d2 v
theorem ItY.dm {K:Fg} (h:ItY K F H H' H'' d x) (T:∀ d v,Dm K F H d v->Dm K F2 H' d v):aY H' H''/\Dm K F2 H'' d x:=by
 rcases h with ⟨rfl,h⟩ | ⟨p,u,v,d1,d2,rfl,rfl,hp,rfl,h1,h2⟩
 ·exact ⟨fun _ _ e=>e,T _ _ h⟩
 ·have sm:aY H' (upd H' p (.tup [u,v])):=fun b o e=>by rw [aM (fun z=>by rw [z,hp] at e;cases e)];exact e
  refine ⟨sm,p,[u,v],rfl,SqT.of aG,OP rfl,u,_,rfl,?_,v,_,rfl,?_,rfl⟩
  ·exact (T _ _ h1).pr (fun b o e _=>sm b o e) fun _ z=>z
  ·exact (T _ _ h2).pr (fun b o e _=>sm b o e) fun _ z=>z
def CN (K:Fg) (F I:Qz->Prop) (H:Hp) (J:It) (ds:List Qq):Prop:=ds.length<=sizeLine/\∀ H',(∀ b o,H b=some o->¬I b->H' b=some o)->∀ k,(k < ds.length->J.go k H'/\∀ x H'',J.yld k H' x H''->∃ d,ds[k]?=some d/\ItY K F H H' H'' d x)/\(ds.length<=k->J.stop k H')
theorem lu {K:Fg} (hd:DmL K F H ds vs) (hl:vs.length<=sizeLine) (h:∀ H',(∀ b o,H b=some o->¬I b->H' b=some o)->∀ k,(k < vs.length->J.go k H'/\∀ x H'',J.yld k H' x H''->H''=H'/\vs[k]?=some x)/\(vs.length<=k->J.stop k H')):CN K F I H J ds:=by
 have e:=hd.len;refine ⟨by omega,fun H' k j=>⟨fun hj=>?_,fun hj=>((h H' k j).2 (by omega))⟩⟩;obtain ⟨g,y⟩:=(h H' k j).1 (by omega);refine ⟨g,fun x H'' hx=>?_⟩;obtain ⟨e0,hx2⟩:=y x H'' hx;obtain ⟨d,h1,h2⟩:=hd.get' hx2;exact ⟨d,h1,.inl ⟨e0,h2⟩⟩
def SI (K:Fg) (ga:Gv) (gd:List Qq) (e:XI):Prop:=∀ (env:En) (ds:List Qq) (lock:Option Nat) (env':En),dI gd e env=some (ds,lock,env')->∀ (F0:Qz->Prop) (ZW:Hp) (I:Qz->Prop) (Z:St) (H:Hp) (R:It->Hp->Prop),Rel K F0 ZW I env Z H ->
 (∀ J H',Rel K F0 ZW I env' Z H'->KpE env env'->(∀ i,lock=some i->∃ d,cont env' i=some d)->CN K (FF F0 env' Z) (fun b=>IA env' Z b/\∀ i,lock=some i->mu env' i->Z[i]?≠some (some (.ref b))) H' J ds->R J H')->rI_ K ga e Z H R
section
variable {K:Fg} {F F' I I' F0:Qz->Prop} {H H' ZW:Hp} {env env':En} {Z Z':St} {ga:Gv} {gd:List Qq}
theorem Kq (i:Nat):SE K ga gd (.var i):=by
 intro env rv env' h F0 ZW I Z H Q R q;simp only [dE] at h;split at h
 ·rename_i d e;cases h;obtain ⟨v,s,r⟩:=R.dat i d e;exact ⟨v,s,q v H R (KpE.refl _) r⟩
 ·rename_i d e;cases h;obtain ⟨a,s,_⟩:=R.own i d e;exact ⟨_,s,q _ H R (KpE.refl _) s⟩
 ·rename_i d e;cases h;obtain ⟨a,s,_⟩:=R.ino i d e;exact ⟨_,s,q _ H R (KpE.refl _) s⟩
 ·rename_i d e;cases h;obtain ⟨a,s,_⟩:=R.ro i d e;exact ⟨_,s,q _ H R (KpE.refl _) s⟩
 ·cases h
theorem LF (i:Nat):SE K ga gd (.mov i):=by
 intro env rv env' h F0 ZW I Z H Q R q;simp only [dE] at h;split at h
 ·rename_i d e;cases h;obtain ⟨a,s,R',r⟩:=R.mov e;exact ⟨_,s,q _ H R' (A7 e (.inr (.inl ⟨d,rfl⟩))) r⟩
 ·cases h
theorem IY (i:Nat):SE K ga gd (.tke i):=by
 intro env rv env' h F0 ZW I Z H Q R q;simp only [dE] at h;split at h
 ·rename_i d e;cases h;obtain ⟨a,s,r⟩:=R.take e;exact ⟨_,s,q _ H r.rel (A7 e (.inr (.inr rfl))) r⟩
 ·cases h
theorem Rel.bnd (R:Rel K F0 ZW I env Z H) (h:L2.bnd env i=true):∃ v,Z[i]?=some (some v):=by
 unfold L2.bnd at h;split at h
 ·cases h
 ·rename_i s hs e;cases s with
  | un=>exact absurd rfl hs
  | dat d=>obtain ⟨v,s,_⟩:=R.dat i d e;exact ⟨v,s⟩
  | own d=>obtain ⟨a,s,_⟩:=R.own i d e;exact ⟨_,s⟩
  | ino d=>obtain ⟨a,s,_⟩:=R.ino i d e;exact ⟨_,s⟩
  | ro d=>obtain ⟨a,s,_⟩:=R.ro i d e;exact ⟨_,s⟩
 ·cases h
theorem JU (il:SE K ga gd l) (ie:SE K ga gd e):SE K ga gd (.gho i j h l e):=by
 intro env rv env' hd F0 ZW I Z H Q R q;simp only [dE] at hd;split at hd
 ·rename_i hb;rw [Ot] at hb;split at hd
  ·rename_i d e1 h1;split at hd
   ·rename_i hu;split at hd
    ·rename_i x e2 h2;cases hd;refine ⟨R.bnd hb.1,R.bnd hb.2,il _ _ _ h1 F0 ZW I Z H _ R fun v H1 R1 k1 r1=>?_⟩;obtain ⟨a,rfl,_⟩:=id r1;have hl:h < Z.length:=by rw [<- R1.len];exact (NW.mp hu).1
     refine ie _ _ _ h2 F0 ZW I _ H1 Q (Rel.Me hu r1) fun w H2 R2 k2 r2=>?_;have es:(Z.set h (some (.ref a))).set h ((Z[h]?).getD none)=Z:=by
      rw [Pk,N7 hl];exact List.set_getElem_self hl
     have sb:=(R2.sub h ((Z[h]?).getD none)).1;have R3:=R2.forget h ((Z[h]?).getD none);rw [es] at R3 sb;refine q w H2 R3 (k1.trans ⟨by rw [Oq,k2.1,Oq],fun k s e=>?_⟩) (Dm.mono sb r2);by_cases z:h=k
     ·subst z;rw [hu] at e;cases e;refine ⟨.un,Oa ?_,.refl _⟩;rw [k2.1,Oq];exact (NW.mp hu).1
     ·obtain ⟨s',e',v'⟩:=k2.2 k s (by rw [NU z];exact e);exact ⟨s',by rw [NU z];exact e',v'⟩
    ·cases hd
   ·cases hd
  ·cases hd
 ·cases hd
theorem Lz (c:Cst):SE K ga gd (.cst c):=by
 intro env rv env' h F0 ZW I Z H Q R q;simp only [dE] at h;cases h;exact q _ H R (KpE.refl _) (c.ok _ _ _)
theorem Kh (hg:∀ g d,gd[g]?=some d->∀ F H,Dm K F H d (ga g)) (g:Nat):SE K ga gd (.glb g):=by
 intro env rv env' h F0 ZW I Z H Q R q;simp only [dE] at h;split at h
 ·rename_i d e;cases h;exact q _ H R (KpE.refl _) (hg g d e _ _)
 ·cases h
theorem II (ih:SA K ga gd as):SE K ga gd (.prm p as):=by
 intro env rv env' h F0 ZW I Z H Q R q;simp only [dE] at h;split at h
 ·rename_i avs e1 h1;split at h
  ·rename_i ds h2;split at h
   ·rename_i pr h3;cases h;refine ih _ _ _ h1 F0 ZW I Z H _ R fun vs H1 R1 k1 a1=>?_;refine p.ok K _ H1 ds vs pr Q h3 (a1.vw R1 h2) (fun b z=>R1.eG z) fun v H2 s2 hp=>?_;exact q v H2 (R1.same s2) k1 (R1.sy s2 hp)
   ·cases h
  ·cases h
 ·cases h
theorem Le (io:SE K ga gd o) (ih:SA K ga gd as):SE K ga gd (.met m o as):=by
 intro env rv env' h F0 ZW I Z H Q R q;simp only [dE] at h;split at h
 ·rename_i rv0 e1 h1;split at h
  ·rename_i d0 h2;split at h
   ·rename_i hty;split at h
    ·rename_i avs e2 h3;split at h
     ·rename_i d ds h4 h5;split at h
      ·rename_i pr h6;cases h;refine io _ _ _ h1 F0 ZW I Z H _ R fun v H1 R1 k1 a1=>?_;refine ⟨m.yV K _ H1 d0 v hty (a1.av.vw R1 h2),?_⟩;refine ih _ _ _ h3 F0 _ _ Z H1 _ R1.rebase fun vs H2 S2 k2 a2=>?_;have R2:=R1.cw S2;refine m.ok K _ H2 d v ds vs pr Q h6 ((a1.av.keep R1 S2 k2).vw R2 h4) (a2.vw R2 h5) (fun b z=>R2.eG z) fun v H3 s3 hp=>?_;exact q v H3 (R2.same s3) (k1.trans k2) (R2.sy s3 hp)
      ·cases h
     ·cases h
    ·cases h
   ·cases h
  ·cases h
 ·cases h
theorem Rel.L8 (R:Rel K F0 ZW I env Z H) (hm:aR env i=some d) (s:Z[i]?=some (some (.ref a))) (hk:∀ b o,b≠a->H b=some o->H' b=some o) (ht:Top K (FF F0 env Z) H' d' a):Rel K F0 ZW I (gr env i d') Z H':=by
 obtain ⟨m,a',s',_,_⟩:=R.dG hm;rw [s] at s';cases s';have hia:IA env Z a:=⟨i,m,s⟩;refine R.chg (fy env i d') (fun b o e n=>hk b o (fun z=>n (z▸hia)) e) fun j c b hc hs=>?_;by_cases z:j=i
 ·subst z;rw [l4 m] at hc;cases hc;rw [s] at hs;cases hs;exact ht
 ·have hc':aR env j=some c:=by
   unfold aR at hc ⊢
   rwa [lY z] at hc
  obtain ⟨m2,b',s2,_,t2⟩:=R.dG hc';rw [hs] at s2;cases s2;have nb:b≠a:=fun y=>z (R.sep j i a m2 m (y▸hs) s);refine t2.pr (R.uH fun b' o e n=>hk b' o (fun z=>n (z▸hia)) e) (fun _ z=>z) fun o e=>hk b o nb e
theorem LN (ih:SA K ga gd as):SE K ga gd (.mtr m i as):=by
 intro env rv env' h F0 ZW I Z H Q R q;simp only [dE] at h;split at h
 ·rename_i d0 h0;split at h
  ·rename_i hty;split at h
   ·rename_i avs e1 h1;split at h
    ·rename_i d ds h2 h3;split at h
     ·rename_i d' pr h4;cases h;obtain ⟨_,a,s,f,t⟩:=R.dG h0;refine ⟨.ref a,s,m.yV K _ H d0 a hty t,?_⟩;refine ih _ _ _ h1 F0 ZW I Z H _ R fun vs H1 R1 k1 a1=>?_;obtain ⟨m1,a',s',f1,t1⟩:=R1.dG h2;rw [s] at s';cases s';refine m.ok K _ H1 d a ds vs d' pr Q h4 f1 t1 (fun b z=>R1.eG z) (a1.mv R1 h3) fun v H2 hk ht hp=>?_;refine q v H2 (R1.L8 h2 s hk ht) (k1.trans (xx _ _ _)) ?_;show Dm K (FF F0 (gr e1 i d') Z) H2 pr v;rw [(fy e1 i d').ff (F0:=F0) (Z:=Z)];exact hp
     ·cases h
    ·cases h
   ·cases h
  ·cases h
 ·cases h
theorem FE:∀ {xs:List (Qq×V×V)},DmP K F H ds xs->Be m ds=true->(pW xs).lookup m=none:=by
 induction ds with
 | nil=>intro xs h _;rw [show xs=[] from h];rfl
 | cons p ds ih =>
  obtain ⟨k0,d⟩:=p;intro xs h e;obtain ⟨j,v,r,rfl,_,_,h1,h2⟩:=h;cases k0 with
  | str g =>
   have e:(!(g==m)&&Be m ds)=true:=e;rw [Ot] at e;show List.lookup m ((g,v) :: pW r)=none;rw [OW];have q:¬g=m:=fun z=>by have:=e.1;rw [z,P7] at this;cases this
   rw [show (m==g)=false from Pn.mpr fun z=>q z.symm];exact ih h2 e.2
  | _=>cases e
noncomputable def adr (Z:St) (i:Nat):Qz:=match Z[i]? with | some (some (.ref a))=>a | _=>0
theorem iS (h:Z[i]?=some (some (.ref a))):adr Z i=a:=by unfold adr;rw [h]
theorem kr (h:iu env (m :: ms) (a :: as)=some ds):∃ d r,ds=d :: r/\Lk env m a=some d/\iu env ms as=some r:=by
 unfold iu at h;split at h
 ·rename_i d r e1 e2;cases h;exact ⟨d,r,rfl,e1,e2⟩
 ·cases h
theorem jW.bor (h:jW K G I H d a):Ci K G I H d (.ref a):=by cases d <;> first | exact ⟨a,rfl,h⟩ | exact absurd h id
theorem Bc (R:Rel K F0 ZW I env Z H) (all:List Nat) (hall:∀ i∈all,mu env i):∀ {ms:List PM} {as:List AV} {ds:List Qq} {vs:List V},iu env ms as=some ds->gK K F0 env Z H as vs->(cU ms as).Nodup->(∀ i∈rz ms as,i ∉ all)->(∀ i∈cU ms as,i∈all) ->
  bH K (FF F0 env Z) (·∈all.map (adr Z)) H ms ds vs ((cU ms as).map (adr Z)):=by
 have iAll:∀ b,b∈all.map (adr Z)->IA env Z b:=fun b hb=>by
  obtain ⟨i,hi,e⟩:=OE.mp hb;have m:=hall i hi;obtain ⟨d,m'⟩:=m;have:∃ a,Z[i]?=some (some (.ref a)):=by
   rcases m' with z | z
   ·obtain ⟨a,s,_⟩:=R.own i d z;exact ⟨a,s⟩
   ·obtain ⟨a,s,_⟩:=R.ino i d z;exact ⟨a,s⟩
  obtain ⟨a,s⟩:=this;rw [iS s] at e;subst e;exact ⟨i,hall i hi,s⟩
 intro ms;induction ms with
 | nil =>
  intro as ds vs h q _ _ _;cases as with
  | nil=>cases h;rw [show vs=[] from q];rfl
  | cons a as=>cases h
 | cons m ms ih =>
  intro as ds vs h q nd hb hi;cases as with
  | nil=>cases h
  | cons a as =>
   obtain ⟨d,r,rfl,h1,h2⟩:=kr h;obtain ⟨v,vr,rfl,q1,q2⟩:=q;cases m with
   | dat =>
    cases a with
    | bor i=>cases h1
    | dat d' =>
     cases h1;exact ⟨q1,ih h2 q2 (by simpa [cU] using nd) (by simpa [rz] using hb) (by simpa [cU] using hi)⟩
   | bor =>
    cases a with
    | dat d' =>
     by_cases ct:∃ ts,d'=.tuple ts
     ·obtain ⟨ts,rfl⟩:=ct;cases h1;exact ⟨q1,ih h2 q2 (by simpa [cU] using nd) (by simpa [rz] using hb) (by simpa [cU] using hi)⟩
     have l:d'=d/\((∃ ds,d=.list ds)\/∃ ds,d=.dict ds):=by
      cases d' <;> first | exact absurd ⟨_,rfl⟩ ct | (cases h1;exact ⟨rfl,.inl ⟨_,rfl⟩⟩) | (cases h1;exact ⟨rfl,.inr ⟨_,rfl⟩⟩) | cases h1
     obtain ⟨rfl,l⟩:=l;obtain ⟨b,e,t⟩:=Dm.ro (I:=(·∈all.map (adr Z))) q1 (fun b z=>R.ia (iAll b z)) l;exact ⟨by rcases l with ⟨_,rfl⟩ | ⟨_,rfl⟩ <;> exact ⟨b,e,t⟩,ih h2 q2 (by simpa [cU] using nd) (by simpa [rz] using hb) (by simpa [cU] using hi)⟩
    | bor i =>
     have h1:cont env i=some d:=h1;have hb':i ∉ all:=hb i (by simp [rz]);refine ⟨?_,ih h2 q2 (by simpa [cU] using nd) (fun j hj=>hb j (by simp [rz,hj])) (by simpa [cU] using hi)⟩;unfold cont at h1;have na:∀ a,mu env i->Z[i]?=some (some (.ref a))->a ∉ all.map (adr Z):=fun a m s z=>by
      obtain ⟨j,hj,e⟩:=OE.mp z;obtain ⟨k,mk,sk⟩:=iAll a z;obtain ⟨dj,mj⟩:=hall j hj;have:∃ c,Z[j]?=some (some (.ref c)):=by
       rcases mj with z | z
       ·obtain ⟨a,s,_⟩:=R.own j dj z;exact ⟨a,s⟩
       ·obtain ⟨a,s,_⟩:=R.ino j dj z;exact ⟨a,s⟩
      obtain ⟨c,sj⟩:=this;rw [iS sj] at e;subst e;have:=R.sep i j c m ⟨dj,mj⟩ s sj;subst this;exact hb' hj
     split at h1
     ·rename_i d' e;cases h1;obtain ⟨a,s,_,_,t⟩:=R.own i d e;rw [show Z[i]?=some (some v) from q1] at s;cases s;exact jW.bor (t.ro (na a ⟨d,.inl e⟩ q1))
     ·rename_i d' e;cases h1;obtain ⟨a,s,_,_,t⟩:=R.ino i d e;rw [show Z[i]?=some (some v) from q1] at s;cases s;exact jW.bor (t.ro (na a ⟨d,.inr e⟩ q1))
     ·rename_i d' e;cases h1;obtain ⟨a,s,t⟩:=R.ro i d e;rw [show Z[i]?=some (some v) from q1] at s;cases s;exact jW.bor (t.pr Pr.refl (fun _ z=>z) iAll fun _ _ z _=>z)
     ·cases h1
   | ino =>
    cases a with
    | dat d'=>cases h1
    | bor i =>
     have h1:aR env i=some d:=h1;obtain ⟨m,b,s,f,t⟩:=R.dG h1;rw [show Z[i]?=some (some v) from q1] at s;cases s;have nd':i ∉ cU ms as/\(cU ms as).Nodup:=by simpa [cU] using nd
     refine ⟨b,(cU ms as).map (adr Z),rfl,by simp [cU,iS q1],f,t,fun z=>?_,ih h2 q2 nd'.2 (by simpa [rz] using hb) (fun j hj=>hi j (by simp [cU,hj]))⟩;obtain ⟨j,hj,e⟩:=OE.mp z;obtain ⟨dj,mj⟩:=hall j (hi j (by simp [cU,hj]));have:∃ c,Z[j]?=some (some (.ref c)):=by
      rcases mj with z | z
      ·obtain ⟨a,s,_⟩:=R.own j dj z;exact ⟨a,s⟩
      ·obtain ⟨a,s,_⟩:=R.ino j dj z;exact ⟨a,s⟩
     obtain ⟨c,sj⟩:=this;rw [iS sj] at e;subst e;have:=R.sep i j c m ⟨dj,mj⟩ q1 sj;subst this;exact nd'.1 hj
theorem o8:∀ {ms:List PM} {as:List AV} {ds:List Qq},iu env ms as=some ds->∀ i∈cU ms as,mu env i
 | [],[],_,_,i,h=>by simp [cU] at h
 | [],_ :: _,_,h,_,_=>by cases h
 | _ :: _,[],_,h,_,_=>by cases h
 | m :: ms,a :: as,_,h,i,hi=>by
  obtain ⟨d,r,rfl,h1,h2⟩:=kr h;have ih:=o8 h2 i;cases m with
  | dat=>exact ih (by simpa [cU] using hi)
  | bor=>exact ih (by simpa [cU] using hi)
  | ino =>
   cases a with
   | dat d'=>cases h1
   | bor j =>
    simp only [cU,N9] at hi;rcases hi with rfl | hi
    ·rcases rm h1 with e | e
     ·exact ⟨d,.inl e⟩
     ·exact ⟨d,.inr e⟩
    ·exact ih hi
theorem oJ:∀ (env:En) (is:List Nat) (ds:List Qq),SmK env (dJ env is ds)
 | env,[],ds=>by unfold dJ;exact SmK.refl _
 | env,i :: is,[]=>by unfold dJ;exact SmK.refl _
 | env,i :: is,d :: ds=>by unfold dJ;exact (fy env i d).trans (oJ _ is ds)
theorem jP:∀ (env:En) (is:List Nat) (ds:List Qq) (j:Nat),j ∉ is->(dJ env is ds)[j]?=env[j]?
 | env,[],ds,j,_=>by unfold dJ;rfl
 | env,i :: is,[],j,_=>by unfold dJ;rfl
 | env,i :: is,d :: ds,j,h=>by
  unfold dJ;have n:j≠i:=fun z=>h (by rw [z];exact N5);rw [jP _ is ds j (fun z=>h (NZ _ z)),lY n]
theorem mD:∀ {env:En} {is:List Nat} {ds:List Qq} {j:Nat} {c:Qq},is.Nodup->(∀ i∈is,mu env i)->jl K G H ds (is.map (adr Z))->j∈is->aR (dJ env is ds) j=some c->Top K G H c (adr Z j)
 | env,[],ds,j,c,_,_,_,h,_=>by simp at h
 | env,i :: is,[],j,c,_,_,h,_,_=>by simp [jl] at h
 | env,i :: is,d :: ds,j,c,nd,hm,h,hj,hc=>by
  obtain ⟨n1,nd'⟩:=O1.mp nd;have h':Top K G H d (adr Z i)/\jl K G H ds (is.map (adr Z)):=h;unfold dJ at hc;rcases N9.mp hj with rfl | hj
  ·have e:=jP (gr env j d) is ds j n1;have:aR (gr env j d) j=some c:=by unfold aR at hc ⊢;rwa [e] at hc
   rw [l4 (hm j N5)] at this;cases this;exact h'.1
  ·exact mD (env:=gr env i d) nd' (fun k hk=>(fy env i d).symm.kp.mu (hm k (NZ _ hk))) h'.2 hj hc
theorem l3:∀ {is:List Nat},Ew is=true->is.Nodup
 | [],_=>List.nodup_nil
 | x :: xs,h=>by
  have h':xs.contains x=false/\Ew xs=true:=by simpa [Ew] using h
  exact O1.mpr ⟨fun z=>by simp [z] at h',l3 h'.2⟩
theorem yN (h:ckA is bs n=true):is.Nodup/\(∀ i∈bs,i ∉ is)/\n=is.length:=by
 unfold ckA at h;simp only [Ot,O8,Pe] at h;exact ⟨l3 h.1,fun i hi z=>by have:=h.2.1 i hi;simp [z] at this,h.2.2⟩
theorem BN {is:List Nat} (R1:Rel K F0 ZW I e1 Z H1) (hmu:∀ i∈is,mu e1 i) (b:Qz) (hb:b∈is.map (adr Z)):IA e1 Z b:=by
 obtain ⟨i,hi,e⟩:=OE.mp hb;obtain ⟨d,m'⟩:=hmu i hi;have:∃ a,Z[i]?=some (some (.ref a)):=by
  rcases m' with z | z
  ·obtain ⟨a,s,_⟩:=R1.own i d z;exact ⟨a,s⟩
  ·obtain ⟨a,s,_⟩:=R1.ino i d z;exact ⟨a,s⟩
 obtain ⟨a,s⟩:=this;rw [iS s] at e;subst e;exact ⟨i,hmu i hi,s⟩
theorem lO {f:Fn} {avs:List AV} {vs:List V} {rv:RV} {Q:VK} (h:lh f avs e1=some (rv,env')) (R1:Rel K F0 ZW I e1 Z H1) (a1:gK K F0 e1 Z H1 avs vs) (q:∀ v H',Rel K F0 ZW I env' Z H'->KpE e1 env'->mO K F0 ZW I env' Z H' rv v->Q v H'):jS f K vs H1 Q NoE:=by
 unfold lh at h;split at h
 ·cases h
 ·rename_i ds h2;split at h
  ·cases h
  ·rename_i pr outs h3;split at h
   ·rename_i hc;obtain ⟨nd,hb,hl⟩:=yN hc;cases h;have hmu:=o8 h2;refine ⟨FF F0 e1 Z,ds,(cU f.ms avs).map (adr Z),pr,outs,h3,Bc R1 (cU f.ms avs) hmu h2 a1 nd hb (fun _ z=>z),fun b z=>R1.eG z,fun v H2 hk hr=>?_⟩;have k:=oJ e1 (cU f.ms avs) outs;have eF:=k.ff (F0:=F0) (Z:=Z);have eI:=k.ia (Z:=Z);have isIA:=BN R1 hmu;have hk':∀ b o,H1 b=some o->¬IA e1 Z b->H2 b=some o:=fun b o e n=>hk b o e fun z=>n (isIA b z);have mM:∀ j d a,j ∉ cU f.ms avs->aR (dJ e1 (cU f.ms avs) outs) j=some d->Z[j]?=some (some (.ref a))->aR e1 j=some d/\a ∉ (cU f.ms avs).map (adr Z):=fun j d a hj hm hs=>by
     have hm':aR e1 j=some d:=by unfold aR at hm ⊢;rwa [jP _ _ _ _ hj] at hm
     refine ⟨hm',fun z=>?_⟩;obtain ⟨i,hi,e⟩:=OE.mp z;obtain ⟨i',m2,s2⟩:=isIA a z;obtain ⟨di,mi⟩:=hmu i hi;have:∃ a,Z[i]?=some (some (.ref a)):=by
      rcases mi with z | z
      ·obtain ⟨a,s,_⟩:=R1.own i di z;exact ⟨a,s⟩
      ·obtain ⟨a,s,_⟩:=R1.ino i di z;exact ⟨a,s⟩
     obtain ⟨c,sc⟩:=this;rw [iS sc] at e;subst e;have:=R1.sep j i c (R1.dG hm').1 ⟨di,mi⟩ hs sc;subst this;exact hj hi
    cases pr with
    | dat d =>
     obtain ⟨hd,ht⟩:=hr;refine q v H2 (R1.chg k hk' fun j c a hm hs=>?_) k.kp (show Dm K _ H2 d v by rw [eF];exact hd);by_cases hj:j∈cU f.ms avs
     ·have:=mD nd hmu ht hj hm
      rwa [iS hs] at this
     ·obtain ⟨hm',ha⟩:=mM j c a hj hm hs;obtain ⟨_,a',s',_,t'⟩:=R1.dG hm';rw [hs] at s';cases s';exact t'.pr (R1.uH hk') (fun _ z=>z) fun o e=>hk a o e ha
    | frs d =>
     obtain ⟨c,ev,hn,td,ht⟩:=hr;obtain ⟨o,ho,_⟩:=td.wr;have sm:aY H1 (upd H1 c o):=aY.nw o hn;have R1c:=R1.fresh (c:=c) hn sm (by rw [aG];exact nofun);have cIA:¬IA e1 Z c:=fun z=>by obtain ⟨o',z,_⟩:=R1.iaT z;rw [hn] at z;cases z
     have hkc:∀ b o',upd H1 c o b=some o'->¬IA e1 Z b->H2 b=some o':=fun b o' e n=>by
      by_cases z:b=c
      ·subst z;rw [aG] at e;cases e;exact ho
      ·rw [aM z] at e;exact hk' b o' e n
     have pF:Pr (fun b=>FF F0 e1 Z b\/b=c) H1 H2:=fun b o' e n=>hk' b o' e fun y=>by
      rcases n with n | n
      ·exact n (.inl (R1.ia y))
      ·obtain ⟨o2,h2,w2⟩:=R1.iaT y;rw [e] at h2;cases h2;rw [n] at w2;cases w2
     have R2c:Rel K (fun b=>F0 b\/b=c) ZW I (dJ e1 (cU f.ms avs) outs) Z H2:=by
      refine R1c.chg k hkc fun j c' a hm hs=>?_;rw [oO];by_cases hj:j∈cU f.ms avs
      ·have:=mD nd hmu ht hj hm
       rwa [iS hs] at this
      ·obtain ⟨hm',ha⟩:=mM j c' a hj hm hs;obtain ⟨_,a',s',_,t'⟩:=R1.dG hm';rw [hs] at s';cases s';exact (t'.fresh hn).pr pF (fun _ z=>z) fun o e=>hk a o e ha
     have nino:∀ (i:Nat) (d':Qq),(dJ e1 (cU f.ms avs) outs)[i]?=some (.ino d')->Z[i]?≠some (some (.ref c)):=fun i d' e' z=>cIA ⟨i,k.kp.mu ⟨d',.inr e'⟩,z⟩;have rv:mO K F0 ZW I (dJ e1 (cU f.ms avs) outs) Z H2 (.frs d) v:=by
      refine ⟨c,ev,R2c,by rw [eF];exact td,R1.oi (.inl hn),fun z=>?_,nino,fun i d' e'=>?_⟩
      ·rw [eF] at z;exact R1.eG z hn
      ·have e0:e1[i]?=some (.ro d'):=by
        rcases k.2 i with y | ⟨_,_,_,y⟩ | ⟨_,_,_,y⟩
        ·rw [<- y];exact e'
        ·rw [e'] at y;cases y
        ·rw [e'] at y;cases y
       obtain ⟨b,s,t⟩:=R1.ro i d' e0;rw [eF,eI];exact ⟨b,s,((t.fresh hn).Bo hn).pr pF (fun _ z=>z) (fun _ z=>z) fun b o' e n=>hk' b o' e fun z=>n (.inl z)⟩
     exact q v H2 rv.rel k.kp rv
   ·cases h
theorem s_call (ih:SA K ga gd as):SE K ga gd (.call f as):=by
 intro env rv env' h F0 ZW I Z H Q R q;simp only [dE] at h;split at h
 ·rename_i avs e1 h1;refine ih _ _ _ h1 F0 ZW I Z H _ R fun vs H1 R1 k1 a1=>?_;show jS f K (vs++[]) H1 Q NoE;rw [Oz];exact lO h R1 a1 fun v H' R' k r=>q v H' R' (k1.trans k) r
 ·cases h
theorem D4 (ih:SA K ga gd as):SE K ga gd (.bY f as):=by
 intro env rv env' h F0 ZW I Z H Q R q;simp only [dE] at h;split at h
 ·rename_i avs e1 h1;refine ih _ _ _ h1 F0 ZW I Z H _ R fun vs H1 R1 k1 a1=>?_;show spX f K (vs++[]) H1 Q ga.E;rw [Oz];exact .inl (lO h R1 a1 fun v H' R' k r=>q v H' R' (k1.trans k) r)
 ·cases h
theorem BD (R:Rel K F0 ZW I env Z H) (hm:aR env i=some (.dict kvs)) (h:Be m kvs=true):∃ a,Z[i]?=some (some (.ref a))/\∃ a' dx fs,V.ref a=.ref a'/\H a'=some (.ins clsAt dx fs)/\fs.lookup m=none:=by
 obtain ⟨_,a,s,_,ep,xs,ea,_,r⟩:=R.dG hm;exact ⟨a,s,a,ep,_,rfl,ea,FE r h⟩
theorem Iq (ih:SA K ga gd as):SE K ga gd (.mtx m f i as):=by
 intro env rv env' h F0 ZW I Z H Q R q;simp only [dE] at h;split at h
 ·rename_i kvs hm;split at h
  ·rename_i hn;split at h
   ·rename_i avs e1 h1;obtain ⟨a,s,t⟩:=BD R hm hn;exact ⟨_,s,t,ih _ _ _ h1 F0 ZW I Z H _ R fun vs H1 R1 k1 a1=>.inl (lO h R1 ⟨_,_,rfl,s,a1⟩ fun v H' R' k r=>q v H' R' (k1.trans k) r)⟩
   ·cases h
  ·cases h
 ·cases h
theorem IZ (ih:SA K ga gd as):SE K ga gd (.tup as):=by
 intro env rv env' h F0 ZW I Z H Q R q;simp only [dE] at h;split at h
 ·rename_i avs e1 h1;split at h
  ·rename_i ds h2;split at h
   ·rename_i hl;cases h;refine ih _ _ _ h1 F0 ZW I Z H _ R fun vs H1 R1 k1 a1=>?_;have dl:=a1.K3 h2;have hl':vs.length<=sizeLine:=by rw [dl.len];exact hl
    refine ⟨hl',fun p hp=>?_⟩;have s:=aY.nw (.tup vs) hp;exact q _ _ (R1.same s) k1 ⟨p,vs,rfl,.inl (.inl aG),hl',dl.pr (Pr.of_same s) fun _ z=>z⟩
   ·cases h
  ·cases h
 ·cases h
theorem LW (ih:SA K ga gd as):SE K ga gd (.lst as):=by
 intro env rv env' h F0 ZW I Z H Q R q;simp only [dE] at h;split at h
 ·rename_i avs e1 h1;split at h
  ·rename_i ds h2;split at h
   ·rename_i hl;cases h;refine ih _ _ _ h1 F0 ZW I Z H _ R fun vs H1 R1 k1 a1=>?_;have dl:=a1.K3 h2;have hl':vs.length<=sizeLine:=by rw [dl.len];exact hl
    refine ⟨hl',fun p hp=>?_⟩;have s:=aY.nw (.lst vs) hp;exact q _ _ (R1.same s) k1 (R1.sy (pr:=.frs (.list ds)) s ⟨p,rfl,hp,vs,aG,hl',(dl.fresh hp).pr (Pr.of_same s) fun _ z=>z⟩)
   ·cases h
  ·cases h
 ·cases h
theorem Jy (ih:SF K ga gd as):SE K ga gd (.fst as):=by
 intro env rv env' h F0 ZW I Z H Q R q;simp only [dE] at h;split at h
 ·rename_i x e1 h1;cases h;exact ih _ _ _ _ h1 F0 ZW I Z H _ R (show PyData.strOk ⟨#[]⟩=true by simp [PyData.strOk]) fun H1 R1 k1 hl ho=>q _ H1 R1 k1 ⟨rfl,hl,ho⟩
 ·cases h
theorem IU:SF K ga gd .nil:=by
 intro out env x env' h F0 ZW I Z H Q R ok q;simp only [dF] at h;split at h
 ·rename_i hl;cases h;exact ⟨hl,q H R (KpE.refl _) hl ok⟩
 ·cases h
theorem EM (ie:SE K ga gd e) (ir:SF K ga gd r):SF K ga gd (.cons e r):=by
 intro out env x env' h F0 ZW I Z H Q R ok q;simp only [dF] at h;split at h
 ·rename_i y e1 h1;split at h
  ·rename_i hl;refine ie _ _ _ h1 F0 ZW I Z H _ R fun v H1 R1 k1 a1=>?_;obtain ⟨rfl,_,oky⟩:=(show v=.str y/\y.length<=sizeLine/\PyData.strOk y=true from a1);refine ⟨y,rfl,hl,?_⟩;exact ir _ _ _ _ h F0 ZW I Z H1 _ R1 (nO ok oky) fun H2 R2 k2 hx=>q H2 R2 (k1.trans k2) hx
  ·cases h
 ·cases h
theorem LK:SA K ga gd .nil:=by
 intro env rv env' h F0 ZW I Z H Q R q;simp only [dA] at h;cases h;exact q [] H R (KpE.refl _) rfl
theorem EO (ie:SE K ga gd e) (ir:SA K ga gd r):SA K ga gd (.cons e r):=by
 intro env rv env' h F0 ZW I Z H Q R q;simp only [dA] at h;split at h
 ·rename_i rv0 e1 h1;split at h
  ·rename_i avs e2 h2;cases h;refine ie _ _ _ h1 F0 ZW I Z H _ R fun v H1 R1 k1 a1=>?_;refine ir _ _ _ h2 F0 _ _ Z H1 _ R1.rebase fun vs H2 S2 k2 a2=>?_;exact q (v :: vs) H2 (R1.cw S2) (k1.trans k2) ⟨v,vs,rfl,a1.av.keep R1 S2 k2,a2⟩
  ·cases h
 ·cases h
end
section
variable {K:Fg} {F F' I I' F0:Qz->Prop} {H H' ZW:Hp} {env env':En} {Z Z':St} {ga:Gv} {gd:List Qq}
theorem Iz (ic:ST K ga gd c) (ia:SE K ga gd a) (ib:SE K ga gd b):SE K ga gd (.ifx c a b):=by
 intro env rv env' h F0 ZW I Z H Q R q;simp only [dE] at h;split at h
 ·rename_i e1 h1;refine ic _ _ _ h1 F0 ZW I Z H _ R fun H1 R1 k1=>?_;rw [N4 rfl];exact ia _ _ _ h F0 ZW I Z H1 _ R1 fun v H2 R2 k2 r=>q v H2 R2 (k1.trans k2) r
 ·rename_i e1 h1;refine ic _ _ _ h1 F0 ZW I Z H _ R fun H1 R1 k1=>?_;rw [Od (by decide)];exact ib _ _ _ h F0 ZW I Z H1 _ R1 fun v H2 R2 k2 r=>q v H2 R2 (k1.trans k2) r
 ·cases h
theorem Fs (ia:SE K ga gd a) (ib:SE K ga gd b):SE K ga gd (.mL a b):=by
 intro env rv env' h F0 ZW I Z H Q R q;simp only [dE] at h;split at h
 ·rename_i e1 h1;refine ia _ _ _ h1 F0 ZW I Z H _ R fun v H1 R1 k1 r1=>⟨true,r1,?_⟩;rw [N4 rfl];exact ib _ _ _ h F0 ZW I Z H1 _ R1 fun v H2 R2 k2 r=>q v H2 R2 (k1.trans k2) r
 ·rename_i e1 h1;cases h;refine ia _ _ _ h1 F0 ZW I Z H _ R fun v H1 R1 k1 r1=>⟨false,r1,?_⟩;rw [Od (by decide)];exact q _ H1 R1 k1 rfl
 ·cases h
theorem JL (ia:SE K ga gd a) (ib:SE K ga gd b):SE K ga gd (.orv a b):=by
 intro env rv env' h F0 ZW I Z H Q R q;simp only [dE] at h;split at h
 ·rename_i e1 h1;cases h;refine ia _ _ _ h1 F0 ZW I Z H _ R fun v H1 R1 k1 r1=>⟨true,r1,?_⟩;rw [N4 rfl];exact q _ H1 R1 k1 rfl
 ·rename_i e1 h1;refine ia _ _ _ h1 F0 ZW I Z H _ R fun v H1 R1 k1 r1=>⟨false,r1,?_⟩;rw [Od (by decide)];exact ib _ _ _ h F0 ZW I Z H1 _ R1 fun v H2 R2 k2 r=>q v H2 R2 (k1.trans k2) r
 ·cases h
theorem EJ (ia:SE K ga gd a):SE K ga gd (.Et a):=by
 intro env rv env' h F0 ZW I Z H Q R q;simp only [dE] at h;split at h
 ·rename_i x e1 h1;cases h;exact ia _ _ _ h1 F0 ZW I Z H _ R fun v H1 R1 k1 r1=>⟨x,r1,q _ H1 R1 k1 rfl⟩
 ·cases h
theorem IE (hx:Vw K F H x u) (hy:Vw K F H y v):VwL K F H [x,y] [u,v]:=⟨u,[v],rfl,hx,v,[],rfl,hy,rfl⟩
theorem Iy (ia:SE K ga gd a) (ib:SE K ga gd b) (ic:SE K ga gd c):SE K ga gd (.chn p p' a b c):=by
 intro env rv env' h F0 ZW I Z H Q R q;simp only [dE] at h;split at h
 ·rename_i ra e1 h1;split at h
  ·rename_i rb e2 h2;split at h
   ·rename_i x y hx hy;refine ia _ _ _ h1 F0 ZW I Z H _ R fun v H1 R1 k1 r1=>?_;refine ib _ _ _ h2 F0 _ _ Z H1 _ R1.rebase fun u H2 S2 k2 r2=>?_;have R2:=R1.cw S2;have a1:=r1.av.keep R1 S2 k2;have a2:=r2.av;rw [hx] at a1;rw [hy] at a2;have dx:Dm K (FF F0 e2 Z) H2 x v:=a1;have dy:Dm K (FF F0 e2 Z) H2 y u:=a2;split at h
    ·rename_i hp;split at h
     ·rename_i rc e3 h3;split at h
      ·rename_i z hz;split at h
       ·rename_i pr hq;cases h;refine p.ok K _ H2 _ _ _ _ hp (IE dx.vw dy.vw) (fun b z=>R2.eG z) fun w H3 s3 hw=>⟨true,hw,?_⟩;rw [N4 rfl];have R3:=R2.same s3;have dy3:Dm K (FF F0 e2 Z) H3 y u:=dy.pr (Pr.of_same s3) fun _ z=>z;refine ic _ _ _ h3 F0 _ _ Z H3 _ R3.rebase fun t H4 S4 k4 r4=>?_;have R4:=R3.cw S4;have a4:=r4.av;rw [hz] at a4;have dz:Dm K (FF F0 env' Z) H4 z t:=a4;refine p'.ok K _ H4 _ _ _ _ hq (IE (R3.xT S4 k4 dy3).vw dz.vw) (fun b z=>R4.eG z) fun w H5 s5 hw=>?_;exact q w H5 (R4.same s5) ((k1.trans k2).trans k4) (R4.sy s5 hw)
       ·cases h
      ·cases h
     ·cases h
    ·rename_i hp;cases h;refine p.ok K _ H2 _ _ _ _ hp (IE dx.vw dy.vw) (fun b z=>R2.eG z) fun w H3 s3 hw=>⟨false,hw,?_⟩;rw [Od (by decide)];exact q _ H3 (R2.same s3) (k1.trans k2) rfl
    ·cases h
   ·cases h
  ·cases h
 ·cases h
theorem Lc (ia:SE K ga gd a) (ib:SE K ga gd b) (ic:SE K ga gd c):SE K ga gd (.sl2 p a b c):=by
 intro env rv env' h F0 ZW I Z H Q R q;simp only [dE] at h;split at h
 ·rename_i ra e1 h1;split at h
  ·rename_i i e2 h2;split at h
   ·rename_i j e3 h3;split at h
    ·rename_i d hv;split at h
     ·rename_i pr hp;cases h;refine ia _ _ _ h1 F0 ZW I Z H _ R fun v H1 R1 k1 r1=>?_;refine ib _ _ _ h2 F0 _ _ Z H1 _ R1.rebase fun u H2 S2 k2 r2=>⟨i,r2,?_⟩;have R2:=R1.cw S2;have a1:=r1.av.keep R1 S2 k2;refine ic _ _ _ h3 F0 _ _ Z H2 _ R2.rebase fun w H3 S3 k3 r3=>⟨j,r3,?_⟩;have R3:=R2.cw S3;have a2:=a1.keep R2 S3 k3;refine (p i j).ok K _ H3 [d] [v] pr Q hp ⟨v,[],rfl,a2.vw R3 hv,rfl⟩ (fun b z=>R3.eG z) fun w H4 s4 hw=>?_;exact q w H4 (R3.same s4) ((k1.trans k2).trans k3) (R3.sy s4 hw)
     ·cases h
    ·cases h
   ·cases h
  ·cases h
 ·cases h
theorem J7 (ie:SE K ga gd e):ST K ga gd (.tst e):=by
 intro env b env' h F0 ZW I Z H Q R q;simp only [dT] at h;split at h
 ·rename_i x e1 h1;cases h;exact ie _ _ _ h1 F0 ZW I Z H _ R fun v H1 R1 k1 r1=>⟨_,r1,q H1 R1 k1⟩
 ·cases h
theorem kH (h:DmL K F H ds vs):vs.isEmpty=ds.isEmpty:=by
 cases ds with
 | nil=>rw [show vs=[] from h];rfl
 | cons d ds=>obtain ⟨v,r,rfl,_⟩:=h;rfl
theorem Vw.tru (h:Vw K F H d v) (nd:Ih d≠true):HY K v H (Jk d):=by
 cases d with
 | none=>rw [show v=.non from h];rfl
 | bool b=>rw [show v=.bl b from h];rfl
 | int i=>rw [show v=.int i from h];rfl
 | str x=>obtain ⟨rfl,hl,_⟩:=(show v=.str x/\x.length<=sizeLine/\PyData.strOk x=true from h);exact ⟨hl,rfl⟩
 | list ds=>obtain ⟨a,rfl,xs,e,_,r⟩:=h;exact .inl ⟨xs,e,by rw [kH r];rfl⟩
 | tuple ds=>obtain ⟨a,xs,rfl,e,_,r⟩:=h;exact .inr (.inl ⟨xs,e,by rw [kH r];rfl⟩)
 | dict ds=>exact absurd rfl nd
theorem Jm (ie:SE K ga gd e):ST K ga gd (.tru e):=by
 intro env b env' h F0 ZW I Z H Q R q;simp only [dT] at h;split at h
 ·rename_i x e1 h1;split at h
  ·rename_i d h2;split at h
   ·cases h
   ·rename_i nd;cases h;exact ie _ _ _ h1 F0 ZW I Z H _ R fun v H1 R1 k1 r1=>⟨_,(r1.av.vw R1 h2).tru nd,q H1 R1 k1⟩
  ·cases h
 ·cases h
theorem Jv (ia:ST K ga gd a) (ib:ST K ga gd b):ST K ga gd (.and a b):=by
 intro env x env' h F0 ZW I Z H Q R q;simp only [dT] at h;split at h
 ·rename_i e1 h1;refine ia _ _ _ h1 F0 ZW I Z H _ R fun H1 R1 k1=>?_;rw [N4 rfl];exact ib _ _ _ h F0 ZW I Z H1 _ R1 fun H2 R2 k2=>q H2 R2 (k1.trans k2)
 ·rename_i e1 h1;cases h;refine ia _ _ _ h1 F0 ZW I Z H _ R fun H1 R1 k1=>?_;rw [Od (by decide)];exact q H1 R1 k1
 ·cases h
theorem Nd (ia:ST K ga gd a) (ib:ST K ga gd b):ST K ga gd (.or a b):=by
 intro env x env' h F0 ZW I Z H Q R q;simp only [dT] at h;split at h
 ·rename_i e1 h1;cases h;refine ia _ _ _ h1 F0 ZW I Z H _ R fun H1 R1 k1=>?_;rw [N4 rfl];exact q H1 R1 k1
 ·rename_i e1 h1;refine ia _ _ _ h1 F0 ZW I Z H _ R fun H1 R1 k1=>?_;rw [Od (by decide)];exact ib _ _ _ h F0 ZW I Z H1 _ R1 fun H2 R2 k2=>q H2 R2 (k1.trans k2)
 ·cases h
theorem LI (ia:ST K ga gd a):ST K ga gd (.not a):=by
 intro env x env' h F0 ZW I Z H Q R q;simp only [dT] at h;split at h
 ·rename_i b e1 h1;cases h;exact ia _ _ _ h1 F0 ZW I Z H _ R fun H1 R1 k1=>q H1 R1 k1
 ·cases h
theorem K8:ST K ga gd .yes:=by
 intro env x env' h F0 ZW I Z H Q R q;simp only [dT] at h;cases h;exact q H R (KpE.refl _)
theorem By (hd:DmL K F H ds vs) (hl:vs.length<=sizeLine) (h:∀ H',(∀ b o,H b=some o->¬I b->H' b=some o)->SqL K H' a vs):CN K F I H (Itl K a) ds :=
 lu hd hl fun H' k j=>⟨fun hj=>⟨⟨vs,vs[j],h H' k,N7 hj⟩,fun x H'' y=>⟨y.1,y.2 vs (h H' k)⟩⟩,fun hj=>⟨vs,h H' k,hj⟩⟩
theorem Ey (hd:DmL K F H ds vs) (hl:vs.length<=sizeLine) (h:∀ H',(∀ b o,H b=some o->¬I b->H' b=some o)->SqT K H' a vs):CN K F I H (Itt K a) ds :=
 lu hd hl fun H' k j=>⟨fun hj=>⟨⟨vs,vs[j],h H' k,N7 hj⟩,fun x H'' y=>⟨y.1,y.2 vs (h H' k)⟩⟩,fun hj=>⟨vs,h H' k,hj⟩⟩
theorem IF (ie:SE K ga gd e):SI K ga gd (.lst e):=by
 intro env ds lock env' h F0 ZW I Z H Q R q;simp only [dI] at h;split at h
 ·rename_i rv e1 h1;split at h
  ·rename_i ds' hv;cases h;refine ie _ _ _ h1 F0 ZW I Z H _ R fun v H1 R1 k1 r1=>?_;have a1:=r1.av;rw [hv] at a1;obtain ⟨a,xs,rfl,l,z,r⟩:=(show Dm K (FF F0 env' Z) H1 (.list ds) v from a1);refine ⟨a,rfl,⟨xs,l.elim (fun q=>.inl q.2) .inr⟩,q _ H1 R1 k1 (fun i z=>by cases z) (By r z fun H' k=>?_)⟩;rcases l with ⟨n,l | ⟨o,l⟩⟩ | l
   ·exact .inl (.inl (k _ _ l fun z=>n (R1.ia z.1)))
   ·exact .inl (.inr ⟨o,k _ _ l fun z=>n (R1.ia z.1)⟩)
   ·exact .inr l
  ·cases h
  ·rename_i i hv;split at h
   ·rename_i ds' hc;cases h;refine ie _ _ _ h1 F0 ZW I Z H _ R fun v H1 R1 k1 r1=>?_;have a1:=r1.av;rw [hv] at a1;have s:Z[i]?=some (some v):=a1;unfold cont at hc;have fin:∀ a xs,v=.ref a->DmL K (FF F0 env' Z) H1 ds xs->xs.length<=sizeLine->(∀ H',(∀ b o,H1 b=some o->¬(IA env' Z b/\∀ j,some i=some j->mu env' j->Z[j]?≠some (some (.ref b)))->H' b=some o)->SqL K H' a xs)->(∃ d,cont env' i=some d) ->
      ∃ a,v=.ref a/\(∃ xs,SqL K H1 a xs)/\Q (Itl K a) H1:=fun a xs ev r z k hcd =>
     ⟨a,ev,⟨xs,k H1 fun _ _ e _=>e⟩,q _ H1 R1 k1 (fun j hj=>by cases hj;exact hcd) (By r z k)⟩
    split at hc
    ·rename_i d e;cases hc;obtain ⟨a,s',_,_,xs,t,z,r⟩:=R1.own i _ e;rw [s] at s';cases s';exact fin a xs rfl r z (fun H' k=>.inl (.inl (k _ _ t fun y=>y.2 i rfl ⟨_,.inl e⟩ s))) ⟨_,by unfold cont;rw [e]⟩
    ·rename_i d e;cases hc;obtain ⟨a,s',_,_,xs,t,z,r⟩:=R1.ino i _ e;rw [s] at s';cases s';exact fin a xs rfl r z (fun H' k=>.inl (.inl (k _ _ t fun y=>y.2 i rfl ⟨_,.inr e⟩ s))) ⟨_,by unfold cont;rw [e]⟩
    ·rename_i d e;cases hc;obtain ⟨a,s',xs,l,z,r⟩:=R1.ro i _ e;rw [s] at s';cases s';refine fin a xs rfl r z (fun H' k=>?_) ⟨_,by unfold cont;rw [e]⟩;rcases l with ⟨n,l | ⟨o,l⟩⟩ | l
     ·exact .inl (.inl (k _ _ l fun z=>n z.1))
     ·exact .inl (.inr ⟨o,k _ _ l fun z=>n z.1⟩)
     ·exact .inr l
    ·cases hc
   ·cases h
 ·cases h
theorem LH (ie:SE K ga gd e):SI K ga gd (.tup e):=by
 intro env ds lock env' h F0 ZW I Z H Q R q;simp only [dI] at h;split at h
 ·rename_i rv e1 h1;split at h
  ·rename_i ds' hv;cases h;refine ie _ _ _ h1 F0 ZW I Z H _ R fun v H1 R1 k1 r1=>?_;have a1:=r1.av;rw [hv] at a1;obtain ⟨a,xs,rfl,l,z,r⟩:=(show Dm K (FF F0 env' Z) H1 (.tuple ds) v from a1);refine ⟨a,rfl,⟨xs,l⟩,q _ H1 R1 k1 (fun i z=>by cases z) (Ey r z fun H' k=>?_)⟩;exact l.pr (R1.uH fun b o e n=>k b o e fun z=>n z.1)
  ·cases h
 ·cases h
theorem EN:∀ {cs:List Nat},(∀ c∈cs,c < 0x110000)->DmL K F H (cs.map fun c=>.str ⟨#[c]⟩) (cs.map fun c=>.str ⟨#[c]⟩)
 | [],_=>rfl
 | c :: cs,h=>⟨_,_,rfl,⟨rfl,by show 1<=sizeLine;decide,by have:=h c N5;simp [PyData.strOk,this]⟩,EN fun x hx=>h x (NZ _ hx)⟩
theorem jJ (h:PyData.strOk x=true):∀ c∈x.cps.toList,c < 0x110000:=fun c hc=>by
 unfold PyData.strOk at h;have:=Array.all_eq_true'.mp h c (by simpa using hc);simpa using this
theorem Iv (ie:SE K ga gd e):SI K ga gd (.str e):=by
 intro env ds lock env' h F0 ZW I Z H Q R q;simp only [dI] at h;split at h
 ·rename_i rv e1 h1;split at h
  ·rename_i x hv;cases h;refine ie _ _ _ h1 F0 ZW I Z H _ R fun v H1 R1 k1 r1=>?_;have a1:=r1.av;rw [hv] at a1;obtain ⟨rfl,hl,ok⟩:=(show v=.str x/\x.length<=sizeLine/\PyData.strOk x=true from a1);have ez:x.cps.toList.length=x.length:=by simp [Str.length]
   refine ⟨x,rfl,q _ H1 R1 k1 (fun i z=>by cases z) (lu (EN (jJ ok)) (by rw [NT,ez];exact hl) fun H' k j=>⟨fun hj=>?_,fun hj=>?_⟩)⟩
   ·rw [NT,ez] at hj;refine ⟨hj,fun y H'' hy=>?_⟩;obtain ⟨e,c,hc,rfl⟩:=hy;refine ⟨e,?_⟩;rw [Oj];have:x.cps.toList[j]?=some c:=by rw [<- hc];simp
    rw [this];rfl
   ·rw [NT,ez] at hj;exact hj
  ·cases h
 ·cases h
theorem BU {f:Nat->Int}:∀ {cs:List Nat},DmL K F H (cs.map fun c=>.int (f c)) (cs.map fun c=>.int (f c))
 | []=>rfl
 | c :: cs=>⟨_,_,rfl,rfl,BU⟩
theorem Gu {lo:Int} (hn:n<=sizeLine):CN K F I H (Itr lo n) ((List.range n).map fun (k:Nat)=>.int (lo+(k:Int))):=by
 refine lu (vs:=(List.range n).map fun (k:Nat)=>.int (lo+(k:Int))) (BU (f:=fun k=>lo+(k:Int))) (by rw [NT,PB];exact hn) fun H' k j=>⟨fun hj=>?_,fun hj=>?_⟩
 ·rw [NT,PB] at hj;refine ⟨hj,fun y H'' hy=>⟨hy.1,?_⟩⟩;rw [Oj,List.getElem?_range hj,hy.2];rfl
 ·rw [NT,PB] at hj;exact hj
theorem Ho (ia:SA K ga gd as):SI K ga gd (.rng1 as):=by
 intro env ds lock env' h F0 ZW I Z H Q R q;simp only [dI] at h;split at h
 ·rename_i avs e1 h1;split at h
  ·rename_i j;split at h
   ·rename_i hj;cases h;refine ia _ _ _ h1 F0 ZW I Z H _ R fun vs H1 R1 k1 a1=>?_;obtain ⟨v,r,rfl,hv,rfl⟩:=a1;have hv:v=.int j:=hv;subst hv;refine ⟨j,rfl,hj.1,by have:=hj.2;omega,q _ H1 R1 k1 (fun i z=>by cases z) (Gu ?_)⟩;have:=hj.2;show j.toNat<=2 ^ 24;omega
   ·cases h
  ·cases h
 ·cases h
end
section
variable {K:Fg} {F F' I I' F0:Qz->Prop} {H H' ZW:Hp} {env env':En} {Z Z':St} {ga:Gv} {gd:List Qq}
theorem mS {α:Type}:∀ {l:List α} {i j:Nat} {x:α},l.Nodup->l[i]?=some x->l[j]?=some x->i=j
 | [],_,_,_,_,h,_=>by simp at h
 | y :: l,0,0,_,_,_,_=>rfl
 | y :: l,0,j+1,x,nd,h1,h2=>by
  simp at h1 h2;subst h1;exact absurd (Ov h2) (O1.mp nd).1
 | y :: l,i+1,0,x,nd,h1,h2=>by
  simp at h1 h2;subst h2;exact absurd (Ov h1) (O1.mp nd).1
 | y :: l,i+1,j+1,x,nd,h1,h2=>by
  simp at h1 h2;rw [mS (O1.mp nd).2 h1 h2]
def noOwn (env:En):Prop:=∀ (i:Nat) (d:Qq),env[i]?≠some (.own d)
theorem gG (h:noOwn env):FF F0 env Z=F0:=by
 funext b;apply propext;constructor
 ·rintro (q | ⟨i,d,e,_⟩)
  ·exact q
  ·exact absurd e (h i d)
 ·exact .inl
theorem noOwn.kp (h:noOwn env) (k:KpE env env'):noOwn env':=fun i d e=>by
 obtain ⟨d',e'⟩:=k.own e;exact h i d' e'
def wq:Sl->Prop | .dat _=>True | .un=>True | _=>False
theorem k6 (hp:∀ s∈pre,wq s) (hl:pre.length=ps.length):FF F0 (pre++env) (ps++Z)=FF F0 env Z:=by
 funext b;apply propext;constructor
 ·rintro (q | ⟨i,d,e,s⟩)
  ·exact .inl q
  ·by_cases hi:i < pre.length
   ·rw [N1 hi] at e;have:=hp _ (Ov e);exact absurd this id
   ·rw [NX (by omega)] at e;rw [NX (by omega),<-hl] at s;exact .inr ⟨_,d,e,s⟩
 ·rintro (q | ⟨i,d,e,s⟩)
  ·exact .inl q
  ·refine .inr ⟨pre.length+i,d,?_,?_⟩
   ·rw [NX (by omega)];simpa using e
   ·rw [NX (by omega),hl];simpa using s
theorem lP (hp:∀ s∈pre,wq s) (h:mu (pre++env) i):pre.length<=i/\mu env (i - pre.length):=by
 obtain ⟨d,h⟩:=h;by_cases hi:i < pre.length
 ·rw [N1 hi] at h;rcases h with h | h <;> exact absurd (hp _ (Ov h)) id
 ·rw [NX (by omega)] at h;exact ⟨by omega,d,h⟩
theorem rN (hp:∀ s∈pre,wq s) (hl:pre.length=ps.length):IA (pre++env) (ps++Z)=IA env Z:=by
 funext b;apply propext;constructor
 ·rintro ⟨i,m,s⟩;obtain ⟨hi,m'⟩:=lP hp m;rw [NX (by omega),<-hl] at s;exact ⟨_,m',s⟩
 ·rintro ⟨i,⟨d,m⟩,s⟩;refine ⟨pre.length+i,⟨d,?_⟩,?_⟩
  ·rw [NX (by omega)];simpa using m
  ·rw [NX (by omega),hl];simpa using s
theorem Rel.front (R:Rel K F0 ZW I env Z H) (h:DmL K (FF F0 env Z) H ds vs):Rel K F0 ZW I (ds.map .dat++env) (vs.map some++Z) H:=by
 have hp:∀ s∈(ds.map Sl.dat),wq s:=fun s hs=>by obtain ⟨d,_,rfl⟩:=OE.mp hs;trivial
 have hl:(ds.map Sl.dat).length=(vs.map some).length:=by rw [NT,NT,h.len]
 have hl2:(ds.map Sl.dat).length=ds.length:=NT _;have eF:=k6 (F0:=F0) (env:=env) (Z:=Z) hp hl;have eI:=rN (env:=env) (Z:=Z) hp hl;have back:∀ {i:Nat} {s:Sl},(ds.map Sl.dat++env)[i]?=some s->(∀ d,s≠.dat d)->(ds.map Sl.dat).length<=i/\env[i - (ds.map Sl.dat).length]?=some s:=fun {i s} e n=>by
  by_cases hi:i < (ds.map Sl.dat).length
  ·rw [N1 hi] at e;obtain ⟨d,_,z⟩:=OE.mp (Ov e);exact absurd z.symm (n d)
  ·rw [NX (by omega)] at e;exact ⟨by omega,e⟩
 have fs:∀ {i:Nat} {x:Option V},(ds.map Sl.dat).length<=i->Z[i - (ds.map Sl.dat).length]?=some x->(vs.map some++Z)[i]?=some x:=fun {i x} hi e=>by
  rw [NX (by omega),<-hl];exact e
 refine ⟨by rw [NS,NS,hl,R.len],fun i d e=>?_,fun i d e=>?_,fun i d e=>?_,fun i d e=>?_,fun i j a h1 h2 h3 h4=>?_,R.dom,R.hG⟩
 ·rw [eF];by_cases hi:i < (ds.map Sl.dat).length
  ·rw [N1 hi,Oj] at e;cases e2:ds[i]? with
   | none=>rw [e2] at e;cases e
   | some d' =>
    rw [e2] at e;cases e;obtain ⟨v,q,r⟩:=h.get e2;refine ⟨v,?_,r⟩;rw [N1 (by omega),Oj,q];rfl
  ·rw [NX (by omega)] at e;obtain ⟨v,s,r⟩:=R.dat _ d e;exact ⟨v,fs (by omega) s,r⟩
 ·rw [eF];obtain ⟨hi,e⟩:=back e (fun _=>nofun);obtain ⟨a,s,q⟩:=R.own _ d e;exact ⟨a,fs hi s,q⟩
 ·rw [eF];obtain ⟨hi,e⟩:=back e (fun _=>nofun);obtain ⟨a,s,q⟩:=R.ino _ d e;exact ⟨a,fs hi s,q⟩
 ·rw [eF,eI];obtain ⟨hi,e⟩:=back e (fun _=>nofun);obtain ⟨a,s,q⟩:=R.ro _ d e;exact ⟨a,fs hi s,q⟩
 ·obtain ⟨i1,m1⟩:=lP hp h1;obtain ⟨i2,m2⟩:=lP hp h2;rw [NX (by omega),<-hl] at h3 h4;have:=R.sep _ _ a m1 m2 h3 h4;omega
theorem Rel.behind (R:Rel K F0 ZW I (pre++env) (ps++Z) H) (hp:∀ s∈pre,wq s) (hl:pre.length=ps.length):Rel K F0 ZW I env Z H:=by
 have eF:=k6 (F0:=F0) (env:=env) (Z:=Z) hp hl;have eI:=rN (env:=env) (Z:=Z) hp hl;have up:∀ {i:Nat} {s:Sl},env[i]?=some s->(pre++env)[pre.length+i]?=some s:=fun {i s} e=>by
  rw [NX (by omega)];simpa using e
 have dn:∀ {i:Nat} {x:Option V},(ps++Z)[pre.length+i]?=some x->Z[i]?=some x:=fun {i x} e=>by
  rw [NX (by omega),hl] at e;simpa using e
 have us:∀ {i:Nat} {x:Option V},Z[i]?=some x->(ps++Z)[pre.length+i]?=some x:=fun {i x} e=>by
  rw [NX (by omega),hl];simpa using e
 refine ⟨by have:=R.len;rw [NS,NS,hl] at this;omega,fun i d e=>?_,fun i d e=>?_,fun i d e=>?_,fun i d e=>?_,fun i j a h1 h2 h3 h4=>?_,R.dom,R.hG⟩
 ·obtain ⟨v,s,r⟩:=R.dat _ d (up e);rw [eF] at r;exact ⟨v,dn s,r⟩
 ·obtain ⟨v,s,r⟩:=R.own _ d (up e);rw [eF] at r;exact ⟨v,dn s,r⟩
 ·obtain ⟨v,s,r⟩:=R.ino _ d (up e);rw [eF] at r;exact ⟨v,dn s,r⟩
 ·obtain ⟨v,s,r⟩:=R.ro _ d (up e);rw [eF,eI] at r;exact ⟨v,dn s,r⟩
 ·obtain ⟨d1,m1⟩:=h1;obtain ⟨d2,m2⟩:=h2;have:=R.sep (pre.length+i) (pre.length+j) a ⟨d1,m1.imp up up⟩ ⟨d2,m2.imp up up⟩ (us h3) (us h4);omega
theorem KpE.front {ds:List Qq} {e':En} (k:KpE (ds.map .dat++env) e'):∃ env',e'=ds.map .dat++env'/\KpE env env':=by
 have hlen:=k.1;rw [NS,NT] at hlen;refine ⟨e'.drop ds.length,?_,?_,fun i s e=>?_⟩
 ·apply List.ext_getElem?;intro i;by_cases hi:i < ds.length
  ·have hm:(ds.map Sl.dat++env)[i]?=some (.dat ds[i]):=by
    rw [N1 (by rw [NT];exact hi),Oj,N7 hi];rfl
   obtain ⟨s',h',ev⟩:=k.2 i _ hm;have ev:s'=.dat ds[i]:=ev;rw [h',ev,N1 (by rw [NT];exact hi),Oj,N7 hi];rfl
  ·rw [NX (by rw [NT];omega),List.getElem?_drop,NT];congr 1;omega
 ·rw [OR];omega
 ·obtain ⟨s',h',ev⟩:=k.2 (ds.length+i) s (by rw [NX (by rw [NT];omega),NT];simpa using e);exact ⟨s',by rw [List.getElem?_drop];exact h',ev⟩
theorem gN {lock:Option Nat} {js:List Nat} {k:Nat} {s:Sl} (h:(gq env lock js)[k]?=some s):∃ j,js[k]?=some j/\s=pV (decide (lock=some j)) (env[j]?.getD .un):=by
 unfold gq at h;rw [Oj] at h;cases e:js[k]? with
 | none=>rw [e] at h;cases h
 | some j=>rw [e] at h;cases h;exact ⟨j,rfl,rfl⟩
theorem qT {js:List Nat} {k j:Nat} (h:js[k]?=some j):(cS js Z)[k]?=some ((Z[j]?).getD none):=by
 unfold cS;rw [Oj,h];rfl
theorem dC {lock:Option Nat} {js:List Nat}:noOwn (gq env lock js):=fun k d e=>by
 obtain ⟨j,_,e'⟩:=gN e;cases h:env[j]?.getD .un with
 | un=>rw [h] at e';cases e'
 | dat _=>rw [h] at e';cases e'
 | own c=>rw [h] at e';unfold pV at e';simp only at e';split at e' <;> cases e'
 | ino c=>rw [h] at e';unfold pV at e';simp only at e';split at e' <;> cases e'
 | ro _=>rw [h] at e';cases e'
theorem getD_some {j:Nat} {s:Sl} (h:env[j]?.getD .un=s) (n:s≠.un):env[j]?=some s:=by
 cases e:env[j]? with
 | none=>rw [e] at h;exact absurd h.symm n
 | some t=>rw [e] at h;cases h;rfl
theorem rJ {lock:Option Nat} {js:List Nat} {k:Nat} {d:Qq} (h:(gq env lock js)[k]?=some (.ino d)):∃ j,js[k]?=some j/\lock≠some j/\(env[j]?=some (.own d)\/env[j]?=some (.ino d)):=by
 obtain ⟨j,hj,e'⟩:=gN h;refine ⟨j,hj,?_⟩;cases h:env[j]?.getD .un with
 | un=>rw [h] at e';cases e'
 | dat _=>rw [h] at e';cases e'
 | own c =>
  rw [h] at e';unfold pV at e';simp only at e';split at e'
  ·cases e'
  ·rename_i n;cases e';exact ⟨by simpa using n,.inl (getD_some h nofun)⟩
 | ino c =>
  rw [h] at e';unfold pV at e';simp only at e';split at e'
  ·cases e'
  ·rename_i n;cases e';exact ⟨by simpa using n,.inr (getD_some h nofun)⟩
 | ro _=>rw [h] at e';cases e'
theorem eZ {lock:Option Nat} {js:List Nat} {k:Nat} (h:mu (gq env lock js) k):∃ j,js[k]?=some j/\lock≠some j/\mu env j:=by
 obtain ⟨d,h | h⟩:=h
 ·exact absurd h (dC k d)
 ·obtain ⟨j,h1,h2,h3⟩:=rJ h;exact ⟨j,h1,h2,d,h3⟩
theorem cn {js:List Nat} {k j:Nat} {a:Qz} (h:js[k]?=some j) (e:(cS js Z)[k]?=some (some (.ref a))):Z[j]?=some (some (.ref a)):=by
 rw [qT h] at e;cases q:Z[j]? with
 | none=>rw [q] at e;cases e
 | some x=>rw [q] at e;cases e;rfl
theorem dN {js:List Nat} {k j:Nat} {v:V} (h:js[k]?=some j) (e:Z[j]?=some (some v)):(cS js Z)[k]?=some (some v):=by rw [qT h,e];rfl
theorem Rel.cS (R:Rel K F0 ZW I env Z H) {lock:Option Nat} {js:List Nat} (nd:js.Nodup):Rel K (FF F0 env Z) H (IA (gq env lock js) (L2.cS js Z)) (gq env lock js) (L2.cS js Z) H:=by
 have eF:FF (FF F0 env Z) (gq env lock js) (L2.cS js Z)=FF F0 env Z:=gG dC;have sub:∀ b,IA (gq env lock js) (L2.cS js Z) b->IA env Z b:=fun b ⟨k,m,s⟩=>by
  obtain ⟨j,hj,_,mj⟩:=eZ m;exact ⟨j,mj,cn hj s⟩
 refine ⟨by unfold gq L2.cS;rw [NT,NT],fun k d e=>?_,fun k d e=>absurd e (dC k d),fun k d e=>?_,fun k d e=>?_,fun k l a h1 h2 h3 h4=>?_,fun b h=>R.eG h,fun _ _ h _=>h⟩
 ·rw [eF];obtain ⟨j,hj,e'⟩:=gN e;have ej:env[j]?=some (.dat d):=by
   cases h:env[j]?.getD .un with
   | un=>rw [h] at e';cases e'
   | dat c=>rw [h] at e';cases e';exact getD_some h nofun
   | own c=>rw [h] at e';unfold pV at e';simp only at e';split at e' <;> cases e'
   | ino c=>rw [h] at e';unfold pV at e';simp only at e';split at e' <;> cases e'
   | ro _=>rw [h] at e';cases e'
  obtain ⟨v,s,r⟩:=R.dat j d ej;exact ⟨v,dN hj s,r⟩
 ·rw [eF];obtain ⟨j,hj,_,ej⟩:=rJ e;have:∃ a,Z[j]?=some (some (.ref a))/\FF F0 env Z a/\Top K (FF F0 env Z) H d a:=by
   rcases ej with ej | ej
   ·obtain ⟨a,s,_,_,t⟩:=R.own j d ej;exact ⟨a,s,.inr ⟨j,d,ej,s⟩,t⟩
   ·obtain ⟨a,s,f,_,t⟩:=R.ino j d ej;exact ⟨a,s,.inl f,t⟩
  obtain ⟨a,s,f,t⟩:=this;exact ⟨a,dN hj s,f,⟨k,⟨d,.inr e⟩,dN hj s⟩,t⟩
 ·rw [eF];obtain ⟨j,hj,e'⟩:=gN e;have lk:∀ a,lock=some j->mu env j->Z[j]?=some (some (.ref a))->¬IA (gq env lock js) (L2.cS js Z) a:=fun a hl m s ⟨k',m',s'⟩=>by
   obtain ⟨j',hj',hn,mj'⟩:=eZ m';have:=R.sep j' j a mj' m (cn hj' s') s;subst this;exact hn hl
  cases h:env[j]?.getD .un with
  | un=>rw [h] at e';cases e'
  | dat c=>rw [h] at e';cases e'
  | own c =>
   rw [h] at e';unfold pV at e';simp only at e';split at e'
   ·rename_i n;cases e';have ej:=getD_some h nofun;obtain ⟨a,s,_,_,t⟩:=R.own j d ej;exact ⟨a,dN hj s,t.ro (lk a (by simpa using n) ⟨d,.inl ej⟩ s)⟩
   ·cases e'
  | ino c =>
   rw [h] at e';unfold pV at e';simp only at e';split at e'
   ·rename_i n;cases e';have ej:=getD_some h nofun;obtain ⟨a,s,_,_,t⟩:=R.ino j d ej;exact ⟨a,dN hj s,t.ro (lk a (by simpa using n) ⟨d,.inr ej⟩ s)⟩
   ·cases e'
  | ro c =>
   rw [h] at e';cases e';obtain ⟨a,s,t⟩:=R.ro j d (getD_some h nofun);exact ⟨a,dN hj s,t.pr Pr.refl (fun _ z=>z) sub fun _ _ z _=>z⟩
 ·obtain ⟨j1,e1,_,m1⟩:=eZ h1;obtain ⟨j2,e2,_,m2⟩:=eZ h2;have:=R.sep j1 j2 a m1 m2 (cn e1 h3) (cn e2 h4);subst this;exact mS nd e1 e2
theorem bX:∀ (env:En) (js:List Nat) (es:En),SmK env (bq env js es)
 | env,[],es=>by unfold bq;exact SmK.refl _
 | env,j :: js,[]=>by unfold bq;exact SmK.refl _
 | env,j :: js,s :: es=>by
  cases s with
  | ino d=>unfold bq;exact (fy env j d).trans (bX _ js es)
  | un=>unfold bq;exact bX _ js es
  | dat _=>unfold bq;exact bX _ js es
  | own _=>unfold bq;exact bX _ js es
  | ro _=>unfold bq;exact bX _ js es
theorem bA:∀ (env:En) (js:List Nat) (es:En) (i:Nat),i ∉ js->(bq env js es)[i]?=env[i]?
 | env,[],es,i,_=>by unfold bq;rfl
 | env,j :: js,[],i,_=>by unfold bq;rfl
 | env,j :: js,s :: es,i,h=>by
  have n:i≠j:=fun z=>h (by rw [z];exact N5);have n':i ∉ js:=fun z=>h (NZ _ z);cases s with
  | ino d=>unfold bq;rw [bA _ js es i n',lY n]
  | un=>unfold bq;exact bA _ js es i n'
  | dat _=>unfold bq;exact bA _ js es i n'
  | own _=>unfold bq;exact bA _ js es i n'
  | ro _=>unfold bq;exact bA _ js es i n'
theorem fz:∀ (env:En) (js:List Nat) (es:En) (k i:Nat) (s:Sl),js.Nodup->js[k]?=some i->es[k]?=some s->(∀ d,s=.ino d->mu env i->aR (bq env js es) i=some d)/\((∀ d,s≠.ino d)->(bq env js es)[i]?=env[i]?)
 | env,[],es,k,i,s,_,h,_=>by simp at h
 | env,j :: js,[],k,i,s,_,_,h=>by simp at h
 | env,j :: js,t :: es,0,i,s,nd,h,h'=>by
  obtain ⟨n1,nd'⟩:=O1.mp nd;simp at h h';subst h h';constructor
  ·rintro d rfl m;unfold bq;have:=bA (gr env j d) js es j n1;unfold aR;rw [this];exact l4 m
  ·intro hn;cases t with
   | ino d=>exact absurd rfl (hn d)
   | un=>unfold bq;exact bA _ js es j n1
   | dat _=>unfold bq;exact bA _ js es j n1
   | own _=>unfold bq;exact bA _ js es j n1
   | ro _=>unfold bq;exact bA _ js es j n1
 | env,j :: js,t :: es,k+1,i,s,nd,h,h'=>by
  obtain ⟨n1,nd'⟩:=O1.mp nd;simp at h h';have hi:i∈js:=Ov h;have ne:i≠j:=fun z=>n1 (z▸hi);cases t with
  | ino d =>
   unfold bq;have ih:=fz (gr env j d) js es k i s nd' h h';refine ⟨fun d' e m=>ih.1 d' e ((fy env j d).symm.kp.mu m),fun hn=>?_⟩;rw [ih.2 hn,lY ne]
  | un=>unfold bq;exact fz env js es k i s nd' h h'
  | dat _=>unfold bq;exact fz env js es k i s nd' h h'
  | own _=>unfold bq;exact fz env js es k i s nd' h h'
  | ro _=>unfold bq;exact fz env js es k i s nd' h h'
theorem KpE.Ku (k:KpE env env') {i:Nat} {d:Qq} (e:env[i]?=some (.ino d)):∃ d',env'[i]?=some (.ino d'):=by
 obtain ⟨s',h,ev⟩:=k.2 i _ e;obtain ⟨d',rfl⟩:=ev;exact ⟨d',h⟩
theorem Rel.back (R:Rel K F0 ZW I env Z H) {lock:Option Nat} {js:List Nat} {ec:En} (nd:js.Nodup) (S:Rel K (FF F0 env Z) H (IA (gq env lock js) (L2.cS js Z)) ec (L2.cS js Z) H') (k:KpE (gq env lock js) ec):Rel K F0 ZW I (bq env js ec) Z H':=by
 have sub:∀ b,IA (gq env lock js) (L2.cS js Z) b->IA env Z b:=fun b ⟨k,m,s⟩=>by
  obtain ⟨j,hj,_,mj⟩:=eZ m;exact ⟨j,mj,cn hj s⟩
 have hk:∀ b o,H b=some o->¬IA env Z b->H' b=some o:=fun b o e n=>S.hG b o e fun z=>n (sub b z);have eFc:FF (FF F0 env Z) ec (L2.cS js Z)=FF F0 env Z:=gG (dC.kp k);refine R.chg (bX env js ec) hk fun i d a hm hs=>?_;have sm:=bX env js ec;have mi:mu env i:=sm.kp.mu ((rm hm).elim (fun e=>⟨d,.inl e⟩) fun e=>⟨d,.inr e⟩);have mM:(bq env js ec)[i]?=env[i]?->¬IA (gq env lock js) (L2.cS js Z) a->Top K (FF F0 env Z) H' d a:=fun e n=>by
  have hm':aR env i=some d:=by unfold aR at hm ⊢;rwa [e] at hm
  obtain ⟨_,a',s',_,t⟩:=R.dG hm';rw [hs] at s';cases s';exact t.pr (R.uH hk) (fun _ z=>z) fun o e=>S.hG a o e n
 by_cases hi:i∈js
 ·obtain ⟨p,hp⟩:=List.mem_iff_getElem?.mp hi;have hlen:ec.length=js.length:=by rw [k.1];unfold gq;rw [NT]
  have hpl:p < js.length:=(NW.mp hp).1;have he:ec[p]?=some (ec[p]'(by omega)):=N7 _;obtain ⟨b1,b2⟩:=fz env js ec p i _ nd hp he;by_cases hl:lock=some i
  ·-- locked
   refine mM (b2 fun d' z=>?_) ?_
   ·rw [z] at he;obtain ⟨s,e0,ev⟩:=k.back he;obtain ⟨j,hj,e'⟩:=gN e0;rw [hp] at hj;cases hj;obtain ⟨c,hc | hc⟩:=mi
    ·rw [hc] at e';simp only [Option.getD_some,pV,hl,decide_true,PQ] at e';subst e';cases ev
    ·rw [hc] at e';simp only [Option.getD_some,pV,hl,decide_true,PQ] at e';subst e';cases ev
   ·rintro ⟨q,mq,sq⟩;obtain ⟨j',hj',hn,mj'⟩:=eZ mq;have:=R.sep j' i a mj' mi (cn hj' sq) hs;subst this;exact hn hl
  ·have:∃ c,(gq env lock js)[p]?=some (.ino c):=by
    unfold gq;rw [Oj,hp];obtain ⟨c,hc | hc⟩:=mi
    ·exact ⟨c,by rw [Option.map_some,hc];simp [pV,hl]⟩
    ·exact ⟨c,by rw [Option.map_some,hc];simp [pV,hl]⟩
   obtain ⟨c,hc⟩:=this;obtain ⟨d',hd'⟩:=k.Ku hc;rw [he] at hd';have ed:=b1 d' (OK hd') mi;rw [hm] at ed;cases ed;obtain ⟨a',s',_,_,t⟩:=S.ino p d (by rw [he];exact hd');have:=cn hp s';rw [hs] at this;cases this
   rwa [eFc] at t
 ·refine mM (bA env js ec i hi) ?_;rintro ⟨q,mq,sq⟩;obtain ⟨j',hj',hn,mj'⟩:=eZ mq;have:=R.sep j' i a mj' mi (cn hj' sq) hs;subst this;exact hi (Ov hj')
end
section
variable {K:Fg} {F F' I I' F0:Qz->Prop} {H H' ZW H1:Hp} {env env' e1:En} {Z Z':St} {ga:Gv} {gd:List Qq}
def LR (K:Fg) (F:Qz->Prop) (H:Hp) (acc:List V):Option Qq->List V->Prop
 | none,acc'=>acc'=acc
 | some d,acc'=>∃ v,acc'=acc++[v]/\Dm K F H d v
theorem DI {step:Qq->En->Option (Option Qq×En)} {ds ys:List Qq} {ec:En} {lock:Option Nat} {js:List Nat} {J:It} {Q:VK} {τ:Type} {TI:τ->Prop} {t0:τ} {body:τ->List V->V->Hp->(τ->List V->Hp->Prop)->Prop} (ht0:TI t0)
  (R1:Rel K F0 ZW I e1 Z H1) (nd:js.Nodup) (hit:CN K (FF F0 e1 Z) (fun b=>IA e1 Z b/\∀ i,lock=some i->mu e1 i->Z[i]?≠some (some (.ref b))) H1 J ds) (h2:AZ step ds (gq e1 lock js)=some (ys,ec))
  (turn:∀ t acc d envc y envc' x H',TI t->step d envc=some (y,envc')->Rel K (FF F0 e1 Z) H1 (IA (gq e1 lock js) (cS js Z)) envc (cS js Z) H'->noOwn envc->Dm K (FF F0 e1 Z) H' d x->∀ N:τ->List V->Hp->Prop,
   (∀ t' acc' H2,TI t'->Rel K (FF F0 e1 Z) H1 (IA (gq e1 lock js) (cS js Z)) envc' (cS js Z) H2->KpE envc envc'->Pr (FF F0 e1 Z) H' H2->LR K (FF F0 e1 Z) H2 acc y acc'->N t' acc' H2)->body t acc x H' N)
  (fin:∀ acc H',Rel K F0 ZW I (bq e1 js ec) Z H'->DmL K (FF F0 e1 Z) H' ys acc->acc.length<=sizeLine->∀ p,H' p=none->Q (.ref p) (upd H' p (.lst acc))) :
  ∃ W:Nat->Nat->τ->List V->Hp->Prop,(∃ m,W 0 m t0 [] H1)/\∀ i m t acc H,W i m t acc H ->
   (J.stop i H/\acc.length<=sizeLine/\∀ p,H p=none->Q (.ref p) (upd H p (.lst acc)))\/(J.go i H/\acc.length < sizeLine/\∀ x H',J.yld i H x H'->body t acc x H' fun t' acc' H2=>∃ m',m' < m/\W (i+1) m' t' acc' H2):=by
 obtain ⟨hvl,hturn⟩:=hit;have sub:∀ b,IA (gq e1 lock js) (cS js Z) b->IA e1 Z b/\∀ i,lock=some i->mu e1 i->Z[i]?≠some (some (.ref b)):=fun b ⟨k,m,s⟩=>by
  obtain ⟨j,hj,hn,mj⟩:=eZ m;refine ⟨⟨j,mj,cn hj s⟩,fun i hl mi si=>?_⟩;have:=R1.sep j i b mj mi (cn hj s) si;subst this;exact hn hl
 have Rc0:=R1.cS (lock:=lock) nd
 refine ⟨fun i m t acc H'=>TI t/\m=ds.length - i/\i<=ds.length/\acc.length<=i/\∃ envc done rest,AZ step (ds.drop i) envc=some (rest,ec)/\ys=done++rest/\Rel K (FF F0 e1 Z) H1 (IA (gq e1 lock js) (cS js Z)) envc (cS js Z) H'/\KpE (gq e1 lock js) envc/\DmL K (FF F0 e1 Z) H' done acc,
  ⟨ds.length,ht0,rfl,O0 _,Oc _,gq e1 lock js,[],ys,h2,rfl,Rc0,KpE.refl _,rfl⟩,?_⟩
 rintro i m t acc H' ⟨hti,rfl,hi,hal,envc,done,rest,hc,hy,Rc,kc,hacc⟩;have hkept:∀ b o,H1 b=some o->¬(IA e1 Z b/\∀ i,lock=some i->mu e1 i->Z[i]?≠some (some (.ref b)))->H' b=some o:=fun b o e n=>Rc.hG b o e fun z=>n (sub b z);by_cases hlt:i < ds.length
 ·right;obtain ⟨go,yld⟩:=(hturn H' hkept i).1 (by omega);refine ⟨go,by omega,fun x H'' hx=>?_⟩;obtain ⟨d,hd,hy9⟩:=yld x H'' hx;obtain ⟨sm,hdx'⟩:=hy9.dm (F2:=FF F0 e1 Z) fun d v h=>h.pr (R1.uH fun b o e n=>hkept b o e fun z=>n z.1) fun _ z=>z;have Rc:=Rc.same sm;have hacc:=hacc.pr (fun b o e _=>sm b o e) fun _ z=>z;have ed:ds.drop i=d :: ds.drop (i+1):=by
   rw [P1 hlt];obtain ⟨_,q⟩:=NW.mp hd;rw [q]
  rw [ed] at hc;unfold AZ at hc;split at hc
  ·rename_i y envc' hs;split at hc
   ·rename_i ys' e2 hr;cases hc;refine turn t acc d envc y envc' x H'' hti hs Rc (dC.kp kc) hdx' _ fun t' acc' H2 ht' R2 k2 p2 ha=>⟨_,by omega,ht',rfl,by omega,?_,envc',done++y.toList,ys',hr,by rw [hy,Oy],R2,kc.trans k2,?_⟩
    ·cases y with
     | none=>rw [show acc'=acc from ha];omega
     | some dy=>obtain ⟨v,rfl,_⟩:=ha;rw [NS];simp;omega
    ·have hacc':=hacc.pr p2 fun _ z=>z;cases y with
     | none=>rw [show acc'=acc from ha];simpa using hacc'
     | some dy=>obtain ⟨v,rfl,hv⟩:=ha;exact hacc'.snoc hv
   ·cases hc
  ·cases hc
 ·left;have e:i=ds.length:=by omega
  subst e;have hz:acc.length<=sizeLine:=by omega
  rw [List.drop_length] at hc;unfold AZ at hc;cases hc;rw [Oz] at hy;subst hy;exact ⟨(hturn H' hkept _).2 (by omega),hz,fin acc H' (R1.back nd Rc kc) hacc hz⟩
theorem KY {js:List Nat} {it:XI} {c:XT} {e:XE} (ii:SI K ga gd it) (ic:ST K ga gd c) (ie:SE K ga gd e):SE K ga gd (.cmp js it c e):=by
 intro env rv env' h F0 ZW I Z H Q R q;simp only [dE] at h;split at h
 ·rename_i ds lock e1 h1;split at h
  ·rename_i nd;split at h
   ·rename_i ys ec h2;cases h;refine ii _ _ _ _ h1 F0 ZW I Z H _ R fun J H1 R1 k1 _ hit=>?_;refine Exists.elim (DI (Q:=Q) (τ:=Unit) (TI:=fun _=>True) (t0:=()) (body:=fun _ acc x H' N=>rT K ga c (some x :: cS js Z) H' fun b H2=>if b=true then rE K ga e (some x :: cS js Z) H2 fun y H3=>N () (acc++[y]) H3 else N () acc H2) trivial R1 nd hit h2 ?_ ?_) fun W hw=>?_
    rotate_right 1
    ·obtain ⟨w0,hW⟩:=hw;exact ⟨fun i m acc H=>W i m () acc H,w0,fun i m acc H w=>hW i m () acc H w⟩
    ·intro _ acc d envc y envc' x H' _ hs Rc no hd N hN;have eF:FF (FF F0 e1 Z) envc (cS js Z)=FF F0 e1 Z:=gG no;have Rx:Rel K (FF F0 e1 Z) H1 (IA (gq e1 lock js) (cS js Z)) (.dat d :: envc) (some x :: cS js Z) H':=Rc.front (ds:=[d]) (vs:=[x]) ⟨x,[],rfl,by rw [eF];exact hd,rfl⟩;have frontF:∀ {e2:En},KpE envc e2->FF (FF F0 e1 Z) (.dat d :: e2) (some x :: cS js Z)=FF F0 e1 Z:=fun {e2} k=>by
      have:=k6 (F0:=FF F0 e1 Z) (env:=e2) (Z:=cS js Z) (pre:=[.dat d]) (ps:=[some x]) (fun s hs=>by rw [Oh.mp hs];trivial) rfl;exact this.trans (gG (no.kp k))
     unfold fP at hs;split at hs
     ·rename_i e2 hT;split at hs
      ·rename_i rv e3 hE;split at hs
       ·rename_i dy hv;cases hs;refine ic _ _ _ hT _ _ _ _ H' _ Rx.rebase fun H2 S2 k2=>?_;rw [N4 rfl];have R2:=Rx.cw S2;refine ie _ _ _ hE _ _ _ _ H2 _ R2.rebase fun v H3 S3 k3 r3=>?_;have R3:=R2.cw S3;obtain ⟨ex,e3',kx⟩:=(k2.trans k3).front (ds:=[d]);have k23:=k2.trans k3;subst e3';have ht:(([d].map Sl.dat)++ex).tail=ex:=rfl;obtain ⟨e2x,e2',k2x⟩:=k2.front (ds:=[d]);have p12:Pr (FF F0 e1 Z) H' H2:=by have:=Rx.uH S2.hG;rwa [frontF (KpE.refl _)] at this
        have p23:Pr (FF F0 e1 Z) H2 H3:=by
         have:=R2.uH S3.hG;rw [e2'] at this
         rwa [show FF (FF F0 e1 Z) ([d].map Sl.dat++e2x) (some x :: cS js Z)=FF F0 e1 Z from frontF k2x] at this
        have a3:=r3.av;rw [hv] at a3;have dv:Dm K (FF F0 e1 Z) H3 dy v:=by
         have:Dm K (FF (FF F0 e1 Z) ([d].map Sl.dat++ex) (some x :: cS js Z)) H3 dy v:=a3
         rwa [show FF (FF F0 e1 Z) ([d].map Sl.dat++ex) (some x :: cS js Z)=FF F0 e1 Z from frontF kx] at this
        exact hN () _ H3 trivial (R3.behind (pre:=[.dat d]) (ps:=[some x]) (fun s hs=>by rw [Oh.mp hs];trivial) rfl) kx (p12.trans p23 fun _ z=>z) ⟨v,rfl,dv⟩
       ·cases hs
      ·cases hs
     ·rename_i e2 hT;cases hs;refine ic _ _ _ hT _ _ _ _ H' _ Rx.rebase fun H2 S2 k2=>?_;rw [Od (by decide)];have R2:=Rx.cw S2;obtain ⟨ex,e2',kx⟩:=k2.front (ds:=[d]);subst e2';have p12:Pr (FF F0 e1 Z) H' H2:=by have:=Rx.uH S2.hG;rwa [frontF (KpE.refl _)] at this
      exact hN () _ H2 trivial (R2.behind (pre:=[.dat d]) (ps:=[some x]) (fun s hs=>by rw [Oh.mp hs];trivial) rfl) kx p12 rfl
     ·cases hs
    ·intro acc H' R' hd hz p hp;have eF:=(bX e1 js ec).ff (F0:=F0) (Z:=Z);have s:=aY.nw (.lst acc) hp;exact q _ _ (R'.same s) (k1.trans (bX e1 js ec).kp) (R'.sy (pr:=.frs (.list ys)) s ⟨p,rfl,hp,acc,aG,hz,by rw [eF];exact (hd.fresh hp).pr (Pr.of_same s) fun _ z=>z⟩)
   ·cases h
  ·cases h
 ·cases h
mutual
theorem sE (hg:∀ g d,gd[g]?=some d->∀ F H,Dm K F H d (ga g)):∀ e:XE,SE K ga gd e
 | .var i=>Kq i | .mov i=>LF i | .tke i=>IY i | .cst c=>Lz c | .glb g=>Kh hg g
 | .prm p as=>II (sA hg as) | .met m o as=>Le (sE hg o) (sA hg as) | .mtr m i as=>LN (sA hg as) | .call f as=>s_call (sA hg as) | .bY f as=>D4 (sA hg as) | .mtx m f i as=>Iq (sA hg as)
 | .tup as=>IZ (sA hg as) | .lst as=>LW (sA hg as)| .fst as=>Jy (sF hg as)
 | .ifx c a b=>Iz (sT hg c) (sE hg a) (sE hg b) | .mL a b=>Fs (sE hg a) (sE hg b) | .orv a b=>JL (sE hg a) (sE hg b) | .Et a=>EJ (sE hg a)
 | .chn p q a b c=>Iy (sE hg a) (sE hg b) (sE hg c) | .sl2 p a b c=>Lc (sE hg a) (sE hg b) (sE hg c)
 | .cmp js it c e=>KY (sI hg it) (sT hg c) (sE hg e) | .gho i j h l e=>JU (sE hg l) (sE hg e)
theorem sA (hg:∀ g d,gd[g]?=some d->∀ F H,Dm K F H d (ga g)):∀ e:XA,SA K ga gd e
 | .nil=>LK | .cons e r=>EO (sE hg e) (sA hg r)
theorem sF (hg:∀ g d,gd[g]?=some d->∀ F H,Dm K F H d (ga g)):∀ e:XA,SF K ga gd e
 | .nil=>IU | .cons e r=>EM (sE hg e) (sF hg r)
theorem sT (hg:∀ g d,gd[g]?=some d->∀ F H,Dm K F H d (ga g)):∀ e:XT,ST K ga gd e
 | .tst e=>J7 (sE hg e) | .tru e=>Jm (sE hg e) | .and a b=>Jv (sT hg a) (sT hg b) | .or a b=>Nd (sT hg a) (sT hg b) | .not a=>LI (sT hg a) | .yes=>K8
theorem sI (hg:∀ g d,gd[g]?=some d->∀ F H,Dm K F H d (ga g)):∀ e:XI,SI K ga gd e
 | .lst e=>IF (sE hg e) | .tup e=>LH (sE hg e) | .str e=>Iv (sE hg e) | .rng1 as=>Ho (sA hg as)
end
end
section
variable {K:Fg} {F F' I I' F0:Qz->Prop} {H H' ZW H1:Hp} {env env' e1:En} {Z Z':St} {ga:Gv} {gd:List Qq}
theorem LsF.dR (h:LsF K F H a xs):LsF K (fun b=>F b\/H b=none) H a xs:=by
 rcases h with ⟨n,h⟩ | h
 ·refine .inl ⟨fun z=>z.elim n fun e=>?_,h⟩;rcases h with h | ⟨o,h⟩ <;> (rw [e] at h;cases h)
 ·exact .inr h
mutual
theorem Dm.dR:∀ {d:Qq} {v:V},Dm K F H d v->Dm K (fun b=>F b\/H b=none) H d v
 | .none,v,h=>h
 | .bool b,v,h=>h
 | .int i,v,h=>h
 | .str x,v,h=>h
 | .list ds,v,h=>by
  obtain ⟨a,xs,e,l,z,r⟩:=h;exact ⟨a,xs,e,l.dR,z,DmL.dR r⟩
 | .tuple ds,v,h=>by
  obtain ⟨a,xs,e,l,z,r⟩:=h;exact ⟨a,xs,e,l,z,DmL.dR r⟩
 | .dict kvs,v,h=>by
  obtain ⟨a,ep,xs,e,n,l,z,r⟩:=h;exact ⟨a,ep,xs,e,fun q=>q.elim n fun q=>(by rw [q] at l;cases l),l,z,DmP.dR r⟩
theorem DmL.dR:∀ {ds:List Qq} {vs:List V},DmL K F H ds vs->DmL K (fun b=>F b\/H b=none) H ds vs
 | [],vs,h=>h
 | d :: ds,vs,h=>by
  obtain ⟨v,r,e,h1,h2⟩:=h;exact ⟨v,r,e,Dm.dR h1,DmL.dR h2⟩
theorem DmP.dR:∀ {ds:List (Qq×Qq)} {vs:List (Qq×V×V)},DmP K F H ds vs->DmP K (fun b=>F b\/H b=none) H ds vs
 | [],vs,h=>h
 | (k,d) :: ds,vs,h=>by
  obtain ⟨j,v,r,e,e2,h0,h1,h2⟩:=h;exact ⟨j,v,r,e,e2,Dm.dR h0,Dm.dR h1,DmP.dR h2⟩
end
theorem Pr.Nr (p:Pr F H H') (h:∀ b,F b->F' b):Pr F' H H':=fun b o e n=>p b o e (n.imp (fun z q=>z (h _ q)) id)
def Evs:Sl->Sl->Prop
 | .ino _,s=>∃ d,s=.ino d
 | .ro d,s=>s=.ro d
 | _,s=>(∀ d,s≠.ino d)/\∀ d,s≠.ro d
def EG:Sl->Prop | .ino _=>True | .ro _=>True | _=>False
def KpS (env:En) (Z:St) (env':En) (Z':St):Prop:=env'.length=env.length/\∀ (i:Nat) (s:Sl),env[i]?=some s->∃ s',env'[i]?=some s'/\Evs s s'/\(EG s->Z'[i]?=Z[i]?)
theorem Evs.refl:∀ s,Evs s s
 | .un=>⟨fun _=>nofun,fun _=>nofun⟩
 | .dat _=>⟨fun _=>nofun,fun _=>nofun⟩
 | .own d=>⟨fun _=>nofun,fun _=>nofun⟩
 | .ino d=>⟨d,rfl⟩
 | .ro _=>rfl
def soft (s:Sl):Prop:=(∀ d,s≠.ino d)/\∀ d,s≠.ro d
theorem Evs.soft (h:Evs s s') (q:L2.soft s):L2.soft s':=by
 cases s with
 | ino d=>exact absurd rfl (q.1 d)
 | ro d=>exact absurd rfl (q.2 d)
 | _=>exact h
theorem Evs.of (q:L2.soft s) (q':L2.soft s'):Evs s s':=by
 cases s with
 | ino d=>exact absurd rfl (q.1 d)
 | ro d=>exact absurd rfl (q.2 d)
 | _=>exact q'
theorem Evs.trans (h:Evs a b) (q:Evs b c):Evs a c:=by
 cases a with
 | ino d=>obtain ⟨d',rfl⟩:=h;exact q
 | ro d=>rw [show b=.ro d from h] at q;exact q
 | un=>exact Evs.of ⟨fun _=>nofun,fun _=>nofun⟩ (q.soft h)
 | dat _=>exact Evs.of ⟨fun _=>nofun,fun _=>nofun⟩ (q.soft h)
 | own _=>exact Evs.of ⟨fun _=>nofun,fun _=>nofun⟩ (q.soft h)
theorem Evs.EG (h:Evs a b) (q:L2.EG a):L2.EG b:=by
 cases a with
 | ino d=>obtain ⟨d',rfl⟩:=h;trivial
 | ro d=>rw [show b=.ro d from h];trivial
 | _=>exact absurd q id
theorem KpS.refl (env:En) (Z:St):KpS env Z env Z:=⟨rfl,fun i s e=>⟨s,e,.refl s,fun _=>rfl⟩⟩
theorem KpS.trans (h:KpS a x b y) (q:KpS b y c z):KpS a x c z:=⟨q.1.trans h.1,fun i s e=>by
 obtain ⟨s1,e1,v1,w1⟩:=h.2 i s e;obtain ⟨s2,e2,v2,w2⟩:=q.2 i s1 e1
 exact ⟨s2,e2,v1.trans v2,fun t=>(w2 (v1.EG t)).trans (w1 t)⟩⟩
theorem KpE.s (k:KpE env env'):KpS env Z env' Z:=⟨k.1,fun i s e=>by
 obtain ⟨s',e',v⟩:=k.2 i s e;refine ⟨s',e',?_,fun _=>rfl⟩;cases s with
 | un=>rw [show s'=.un from v];exact .refl _
 | dat d=>rw [show s'=.dat d from v];exact .refl _
 | own d=>rcases v with ⟨d',rfl⟩ | ⟨d',rfl⟩ | rfl <;> exact ⟨fun _=>nofun,fun _=>nofun⟩
 | ino d=>exact v
 | ro d=>exact v⟩
theorem jH (h:free env i=true):∃ s,env[i]?=some s/\L2.soft s:=by
 unfold free at h;split at h
 ·rename_i e;exact ⟨_,e,fun _=>nofun,fun _=>nofun⟩
 ·rename_i e;exact ⟨_,e,fun _=>nofun,fun _=>nofun⟩
 ·rename_i e;exact ⟨_,e,fun _=>nofun,fun _=>nofun⟩
 ·cases h
theorem yF (e:env[i]?=some s) (q:L2.soft s) (q':L2.soft s'):KpS env Z (env.set i s') (Z.set i x):=by
 have hi:i < env.length:=(NW.mp e).1;refine ⟨Oq,fun j t h=>?_⟩;by_cases z:i=j
 ·subst z;rw [e] at h;cases h;refine ⟨s',Oa hi,.of q q',fun t=>?_⟩;cases s with
  | ino d=>exact absurd rfl (q.1 d)
  | ro d=>exact absurd rfl (q.2 d)
  | _=>exact absurd t id
 ·exact ⟨t,by rw [NU z];exact h,.refl t,fun _=>by rw [NU z]⟩
def j4 (K:Fg) (F0:Qz->Prop) (ZW:Hp) (I:Qz->Prop) (env:En) (Z:St) (D:Ends):Out->Prop
 | .nx e=>∀ Z' H',Rel K F0 ZW I e Z' H'->KpS env Z e Z'->D.nx Z' H'
 | .bk e=>∀ Z' H',Rel K F0 ZW I e Z' H'->KpS env Z e Z'->D.bk Z' H'
 | .ct e=>∀ Z' H',Rel K F0 ZW I e Z' H'->KpS env Z e Z'->D.ct Z' H'
 | .rt rv e=>∀ v Z' H',Rel K F0 ZW I e Z' H'->KpS env Z e Z'->mO K F0 ZW I e Z' H' rv v->D.rt v H'
def SS (K:Fg) (ga:Gv) (gd:List Qq) (s:XS):Prop:=∀ (env:En) (out:Out),dS gd s env=some out->∀ (F0:Qz->Prop) (ZW:Hp) (I:Qz->Prop) (Z:St) (H:Hp) (D:Ends),Rel K F0 ZW I env Z H->j4 K F0 ZW I env Z D out->rS K ga s D Z H
theorem j4.from (k:KpS env Z env' Z') (h:j4 K F0 ZW I env Z D out):j4 K F0 ZW I env' Z' D out:=by
 cases out with
 | nx e=>exact fun s h1 r q=>h s h1 r (k.trans q)
 | bk e=>exact fun s h1 r q=>h s h1 r (k.trans q)
 | ct e=>exact fun s h1 r q=>h s h1 r (k.trans q)
 | rt rv e=>exact fun v s h1 r q w=>h v s h1 r (k.trans q) w
theorem E5 (ia:SS K ga gd a) (ib:SS K ga gd b):SS K ga gd (.seq a b):=by
 intro env out h F0 ZW I Z H D R q;simp only [dS] at h;split at h
 ·rename_i e h1;refine ia _ _ h1 F0 ZW I Z H _ R fun Z' H' R' k'=>?_;exact ib _ _ h F0 ZW I Z' H' D R' (q.from k')
 ·rename_i hn;refine ia _ _ h F0 ZW I Z H _ R ?_;cases out with
  | nx e=>exact absurd h (hn e)
  | bk e=>exact q
  | ct e=>exact q
  | rt rv e=>exact q
theorem Rel.IM (R:Rel K F0 ZW I env Z H) (hf:free env i=true) (h:Dm K (FF F0 env Z) H d v):Rel K F0 ZW I (env.set i (.dat d)) (Z.set i (some v)) H/\KpS env Z (env.set i (.dat d)) (Z.set i (some v)):=by
 obtain ⟨s,e,q⟩:=jH hf;have hi:i < env.length:=(NW.mp e).1;have R1:=R.forget i (some v);have:=R1.putD (i:=i) (d:=d) (v:=v) (Oa hi) (h.mono (R.sub i _).1);rw [Pk,Pk] at this;exact ⟨this,yF e q ⟨fun _=>nofun,fun _=>nofun⟩⟩
theorem D8 (ie:SE K ga gd e):SS K ga gd (.aX i e):=by
 intro env out h F0 ZW I Z H D R q;simp only [dS] at h;split at h
 ·rename_i rv e1 h1;split at h
  ·rename_i d hv;split at h
   ·rename_i hf;cases h;refine ie _ _ _ h1 F0 ZW I Z H _ R fun v H1 R1 k1 r1=>?_;have a1:=r1.av;rw [hv] at a1;obtain ⟨R2,k2⟩:=R1.IM hf (show Dm K _ H1 d v from a1);exact q _ H1 R2 (k1.s.trans k2)
   ·cases h
  ·cases h
 ·cases h
theorem mO.forget (h:mO K F0 ZW I env Z H (.frs d) v) (i:Nat) (x:Option V) (hs:∀ s,env[i]?=some s->L2.soft s):mO K F0 ZW I (env.set i .un) (Z.set i x) H (.frs d) v:=by
 obtain ⟨a,ea,R,t,w,nF,hi,hr⟩:=h;have R0:=R.less hi;obtain ⟨hf,hia⟩:=R0.sub i x;have hf':∀ b,(FF F0 (env.set i .un) (Z.set i x) b\/b=a)->(FF F0 env Z b\/b=a):=fun b z=>z.imp (hf b) id;refine ⟨a,ea,R.forget i x,t.pr Pr.refl hf' fun _ z=>z,w,fun z=>nF (hf _ z),fun j c e s=>?_,fun j c e=>?_⟩
 ·rcases get_set e with ⟨_,z⟩ | ⟨n,e⟩
  ·cases z
  ·rw [NU n] at s;exact hi j c e s
 ·rcases get_set e with ⟨_,z⟩ | ⟨n,e⟩
  ·cases z
  ·obtain ⟨b,s,r⟩:=hr j c e;exact ⟨b,by rw [NU n];exact s,r.pr Pr.refl hf' (fun b z=>z.imp (hia b) id) fun _ _ z _=>z⟩
theorem DR (ie:SE K ga gd e):SS K ga gd (.tZ i e):=by
 intro env out h F0 ZW I Z H D R q;simp only [dS] at h;split at h
 ·rename_i d e1 h1;split at h
  ·rename_i hf;cases h;refine ie _ _ _ h1 F0 ZW I Z H _ R fun v H1 R1 k1 r1=>?_;obtain ⟨s,e,qs⟩:=jH hf;have hi:i < e1.length:=(NW.mp e).1;have ev:∃ a,v=.ref a:=let ⟨a,e,_⟩:=r1;⟨a,e⟩
   obtain ⟨a,rfl⟩:=ev;have r2:=r1.forget i (some (.ref a)) (fun s' h=>by rw [e] at h;cases h;exact qs);have R2:=Rel.Me (i:=i) (Oa hi) r2;rw [Pk,Pk] at R2;exact q _ H1 R2 (k1.s.trans (yF e qs ⟨fun _=>nofun,fun _=>nofun⟩))
  ·cases h
 ·cases h
theorem wK:∀ {is:List Nat} {ds:List Qq} {vs:List V} {env env':En} {Z:St} {Q:St->Hp->Prop},nQ env is ds=some env'->Rel K F0 ZW I env Z H->DmL K (FF F0 env Z) H ds vs->(∀ Z',Rel K F0 ZW I env' Z' H->KpS env Z env' Z'->Q Z' H)->gNs is vs Z H Q
 | [],[],vs,env,env',Z,Q,h,R,hd,q=>by
  cases h;exact ⟨hd,q Z R (KpS.refl _ _)⟩
 | [],d :: ds,vs,env,env',Z,Q,h,R,hd,q=>by cases h
 | i :: is,[],vs,env,env',Z,Q,h,R,hd,q=>by cases h
 | i :: is,d :: ds,vs,env,env',Z,Q,h,R,hd,q=>by
  unfold nQ at h;split at h
  ·rename_i hf;obtain ⟨v,r,rfl,h1,h2⟩:=hd;obtain ⟨R1,k1⟩:=R.IM hf h1;obtain ⟨s,e,qs⟩:=jH hf;refine ⟨v,r,rfl,?_⟩;refine wK h R1 (h2.mono fun b z=>?_) fun Z' R' k'=>q Z' R' (k1.trans k');rcases z with z | ⟨j,c,e',s'⟩
   ·exact .inl z
   ·rcases get_set e' with ⟨_,y⟩ | ⟨n,e'⟩
    ·cases y
    ·rw [NU n] at s';exact .inr ⟨j,c,e',s'⟩
  ·cases h
theorem CD (ie:SE K ga gd e):SS K ga gd (.BZ is e):=by
 intro env out h F0 ZW I Z H D R q;simp only [dS] at h;split at h
 ·rename_i rv e1 h1;split at h
  ·rename_i ds hv;split at h
   ·rename_i e2 hset;cases h;refine ie _ _ _ h1 F0 ZW I Z H _ R fun v H1 R1 k1 r1=>?_;have a1:=r1.av;rw [hv] at a1;obtain ⟨a,xs,rfl,l,z,r⟩:=(show Dm K (FF F0 e1 Z) H1 (.tuple ds) v from a1);have hlen:∀ {is:List Nat} {ds:List Qq} {e e':En},nQ e is ds=some e'->is.length=ds.length:=by
     intro is;induction is with
     | nil=>intro ds e e' h;cases ds with
      | nil=>rfl
      | cons _ _=>cases h
     | cons i is ih=>intro ds e e' h;cases ds with
      | nil=>cases h
      | cons d ds =>
       unfold nQ at h;split at h
       ·rw [NV,NV,ih h]
       ·cases h
    exact ⟨a,xs,rfl,l,by rw [r.len,hlen hset],wK hset R1 r fun Z' R' k'=>q Z' H1 R' (k1.s.trans k')⟩
   ·cases h
  ·cases h
 ·cases h
theorem Ds (ie:SE K ga gd e):SS K ga gd (.drop e):=by
 intro env out h F0 ZW I Z H D R q;simp only [dS] at h;split at h
 ·rename_i rv e1 h1;cases h;exact ie _ _ _ h1 F0 ZW I Z H _ R fun v H1 R1 k1 r1=>q Z H1 R1 k1.s
 ·cases h
theorem Hc (ie:SE K ga gd e):SS K ga gd (.ret e):=by
 intro env out h F0 ZW I Z H D R q;simp only [dS] at h;split at h
 ·rename_i rv e1 h1;cases h;exact ie _ _ _ h1 F0 ZW I Z H _ R fun v H1 R1 k1 r1=>q v Z H1 R1 k1.s r1
 ·cases h
theorem Fx (ic:ST K ga gd c) (ia:SS K ga gd a) (ib:SS K ga gd b):SS K ga gd (.ifs c a b):=by
 intro env out h F0 ZW I Z H D R q;simp only [dS] at h;split at h
 ·rename_i e1 h1;refine ic _ _ _ h1 F0 ZW I Z H _ R fun H1 R1 k1=>?_;rw [N4 rfl];exact ia _ _ h F0 ZW I Z H1 D R1 (q.from k1.s)
 ·rename_i e1 h1;refine ic _ _ _ h1 F0 ZW I Z H _ R fun H1 R1 k1=>?_;rw [Od (by decide)];exact ib _ _ h F0 ZW I Z H1 D R1 (q.from k1.s)
 ·cases h
theorem FC (ik:SE K ga gd k) (ie:SE K ga gd e):SS K ga gd (.sto m i k e):=by
 intro env out h F0 ZW I Z H D R q;simp only [dS] at h;split at h
 ·rename_i rv e1 h1;split at h
  ·rename_i x hv;split at h
   ·rename_i d0 hm0;split at h
    ·rename_i rk e2 h2;split at h
     ·rename_i dk d hvk hm;split at h
      ·rename_i d' hf;cases h;refine ie _ _ _ h1 F0 ZW I Z H _ R fun v H1 R1 k1 r1=>?_;obtain ⟨_,a,s,_⟩:=R1.dG hm0;refine ⟨.ref a,s,?_⟩;refine ik _ _ _ h2 F0 _ _ Z H1 _ R1.rebase fun u H2 S2 k2 r2=>?_;have R2:=R1.cw S2;have a1:=r1.av;rw [hv] at a1;have dx:=R1.xT S2 k2 (show Dm K _ H1 x v from a1);obtain ⟨m2,a',s',f2,t2⟩:=R2.dG hm;rw [s] at s';cases s';refine m.ok K _ H2 d a dk x u v d' _ hf f2 t2 (r2.av.vw R2 hvk) dx fun H3 hk ht=>?_;exact q Z H3 (R2.L8 hm s hk ht) ((k1.trans k2).trans (xx _ _ _)).s
      ·cases h
     ·cases h
    ·cases h
   ·cases h
  ·cases h
 ·cases h
theorem KA (ic:ST K ga gd c) (ib:SS K ga gd b):SS K ga gd (.wh n c b):=by
 intro env out h F0 ZW I Z H D R q;simp only [dS] at h;refine ⟨fun m Z' H'=>∃ env',whL (dT gd c) (dS gd b) m env'=some out/\Rel K F0 ZW I env' Z' H'/\KpS env Z env' Z',⟨n,env,h,R,KpS.refl _ _⟩,?_⟩;rintro m Z' H' ⟨env',hw,R',k'⟩;cases m with
 | zero=>cases hw
 | succ m =>
  unfold whL at hw;split at hw
  ·rename_i e1 h1;refine ic _ _ _ h1 F0 ZW I Z' H' _ R' fun H2 R2 k2=>?_;rw [N4 rfl];refine ⟨fun Z3 H3=>∃ env3,whL (dT gd c) (dS gd b) m env3=some out/\Rel K F0 ZW I env3 Z3 H3/\KpS env Z env3 Z3,fun Z3 H3 z=>⟨m,O7 _,z⟩,?_⟩;split at hw
   ·rename_i e hb;exact ib _ _ hb F0 ZW I Z' H2 _ R2 fun Z3 H3 R3 k3=>⟨e,hw,R3,(k'.trans k2.s).trans k3⟩
   ·rename_i e hb;exact ib _ _ hb F0 ZW I Z' H2 _ R2 fun Z3 H3 R3 k3=>⟨e,hw,R3,(k'.trans k2.s).trans k3⟩
   ·rename_i e hb;cases hw;exact ib _ _ hb F0 ZW I Z' H2 _ R2 fun Z3 H3 R3 k3=>q Z3 H3 R3 ((k'.trans k2.s).trans k3)
   ·rename_i r e hb;cases hw;exact ib _ _ hb F0 ZW I Z' H2 _ R2 fun v Z3 H3 R3 k3 r3=>q v Z3 H3 R3 ((k'.trans k2.s).trans k3) r3
   ·cases hw
  ·rename_i e1 h1;cases hw;refine ic _ _ _ h1 F0 ZW I Z' H' _ R' fun H2 R2 k2=>?_;rw [Od (by decide)];exact q Z' H2 R2 (k'.trans k2.s)
  ·cases hw
end
section
variable {K:Fg} {F F' I I' F0:Qz->Prop} {H H' ZW H1:Hp} {env env' e1:En} {Z Z':St} {ga:Gv} {gd:List Qq}
theorem Dj {b:Qq->En->Option Out} {ds:List Qq} {out:Out} {J:It} {F1 I1:Qz->Prop} {el:En} {g:TG} {tb:TS} {D:Ends} (R:Rel K F1 H1 I1 el Z H1) (hI:I1=IA el Z) (hit:CN K (FF F1 el Z) I1 H1 J ds) (h:forL b ds el=some out)
  (turn:∀ d o env' Z' H' x,b d env'=some o->Rel K F1 H1 I1 env' Z' H'->KpS el Z env' Z'->Dm K (FF F1 env' Z') H' d x->∀ D':Ends,j4 K F1 H1 I1 env' Z' D' o->g x Z' H' fun ZJ H2=>tb D' ZJ H2)
  (q:j4 K F1 H1 I1 el Z D out) :
  ∃ W:Nat->Nat->St->Hp->Prop,(∃ m,W 0 m Z H1)/\∀ i m Z H,W i m Z H ->
   (J.stop i H/\D.nx Z H)\/(J.go i H/\∃ N:St->Hp->Prop,(∀ Z' H',N Z' H'->∃ m',m' < m/\W (i+1) m' Z' H')/\∀ x H',J.yld i H x H'->g x Z H' fun ZJ H2=>tb { D with nx:=N,ct:=N,bk:=D.nx } ZJ H2):=by
 subst hI;obtain ⟨hvl,hturn⟩:=hit;refine ⟨fun i m Z' H'=>m=ds.length - i/\i<=ds.length/\∃ env',forL b (ds.drop i) env'=some out/\Rel K F1 H1 (IA el Z) env' Z' H'/\KpS el Z env' Z',⟨ds.length,rfl,O0 _,el,h,R,KpS.refl _ _⟩,?_⟩;rintro i m Z' H' ⟨rfl,hi,env',hf,R',k'⟩;have hkept:∀ b o,H1 b=some o->¬IA el Z b->H' b=some o:=R'.hG;by_cases hlt:i < ds.length
 ·right;obtain ⟨go,yld⟩:=(hturn H' hkept i).1 (by omega);refine ⟨go,fun Z3 H3=>(ds.length - (i+1))=ds.length - (i+1)/\i+1<=ds.length/\∃ env',forL b (ds.drop (i+1)) env'=some out/\Rel K F1 H1 (IA el Z) env' Z3 H3/\KpS el Z env' Z3,fun Z3 H3 z=>⟨ds.length - (i+1),by omega,z⟩,fun x H'' hx=>?_⟩;obtain ⟨d,hd,hy9⟩:=yld x H'' hx;have fSub:∀ b,FF F1 env' Z' b->(FF F1 el Z b\/H1 b=none):=fun b z=>by
   rcases z with z | ⟨j,c,e',s'⟩
   ·exact .inl (.inl z)
   ·obtain ⟨b',q',_,w,_⟩:=R'.own j c e';rw [s'] at q';cases q';exact w.elim .inr fun w=>.inl (R.ia w)
  obtain ⟨sm,hdx'⟩:=hy9.dm (F2:=FF F1 env' Z') fun d v h=>h.dR.pr ((R.uH hkept).Nr fun b z=>.inl z) fSub;have R':=R'.same sm;have ed:ds.drop i=d :: ds.drop (i+1):=by
   rw [P1 hlt];obtain ⟨_,z⟩:=NW.mp hd;rw [z]
  rw [ed] at hf;unfold forL at hf;split at hf
  ·rename_i e hb;exact turn d _ env' Z' H'' x hb R' k' hdx' _ fun Z3 H3 R3 k3=>⟨rfl,by omega,e,hf,R3,k'.trans k3⟩
  ·rename_i e hb;exact turn d _ env' Z' H'' x hb R' k' hdx' _ fun Z3 H3 R3 k3=>⟨rfl,by omega,e,hf,R3,k'.trans k3⟩
  ·rename_i e hb;cases hf;exact turn d _ env' Z' H'' x hb R' k' hdx' _ fun Z3 H3 R3 k3=>q Z3 H3 R3 (k'.trans k3)
  ·rename_i r e hb;cases hf;exact turn d _ env' Z' H'' x hb R' k' hdx' _ fun v Z3 H3 R3 k3 r3=>q v Z3 H3 R3 (k'.trans k3) r3
  ·cases hf
 ·left;have e:i=ds.length:=by omega
  subst e;rw [List.drop_length] at hf;unfold forL at hf;cases hf;exact ⟨(hturn H' hkept _).2 (by omega),q Z' H' R' k'⟩
theorem mO.cw (R:Rel K F0 ZW I env Z H) (h:mO K F0 H (IA env Z) env' Z' H' rv v):mO K F0 ZW I env' Z' H' rv v:=by
 cases rv with
 | dat d=>exact h
 | bor i=>exact h
 | frs d =>
  obtain ⟨a,ea,S,t,w,nF,hi,hr⟩:=h;have S0:=R.cw (S.less hi);refine ⟨a,ea,⟨S.len,S.dat,fun i c e=>?_,fun i c e=>?_,S.ro,S.sep,S.dom,S0.hG⟩,t,R.oi w,nF,hi,hr⟩
  ·obtain ⟨b,s,n,w',t'⟩:=S.own i c e;exact ⟨b,s,n,R.oi w',t'⟩
  ·obtain ⟨b,s,n,w',t'⟩:=S.ino i c e;obtain ⟨b2,s2,_,i2,_⟩:=S0.ino i c e;rw [s] at s2;cases s2;exact ⟨b,s,n,i2,t'⟩
theorem j4.rebase (R1:Rel K F0 ZW I e1 Z H1) (q:j4 K F0 ZW I e1 Z D out):j4 K F0 H1 (IA e1 Z) e1 Z D out:=by
 cases out with
 | nx e=>exact fun Z' H' R' k'=>q Z' H' (R1.cw R') k'
 | bk e=>exact fun Z' H' R' k'=>q Z' H' (R1.cw R') k'
 | ct e=>exact fun Z' H' R' k'=>q Z' H' (R1.cw R') k'
 | rt rv e=>exact fun v Z' H' R' k' r=>q v Z' H' (R1.cw R') k' (r.cw R1)
theorem Jf (ii:SI K ga gd it) (ib:SS K ga gd b):SS K ga gd (.fr i it b):=by
 intro env out h F0 ZW I Z H D R q;simp only [dS] at h;split at h
 ·rename_i ds e1 h1
  ·refine ii _ _ _ _ h1 F0 ZW I Z H _ R fun J H1 R1 k1 _ hit=>?_;refine Dj R1.rebase rfl ?_ h ?_ (j4.rebase R1 (q.from k1.s))
   ·obtain ⟨a2,a3⟩:=hit;exact ⟨a2,fun H' hk=>a3 H' fun b o e n=>hk b o e fun z=>n ⟨z,fun i y=>nomatch y⟩⟩
   ·intro d o env' Z' H' x hb R' k' hd D' hD;unfold nG at hb;split at hb
    ·rename_i hf;obtain ⟨R2,k2⟩:=R'.IM hf hd;exact ib _ _ hb _ _ _ _ H' D' R2 (hD.from k2)
    ·cases hb
 ·cases h
theorem sS (hg:∀ g d,gd[g]?=some d->∀ F H,Dm K F H d (ga g)):∀ s:XS,SS K ga gd s
 | .skip=>fun env out h F0 ZW I Z H D R q=>by cases h;exact q Z H R (KpS.refl _ _)
 | .seq a b=>E5 (sS hg a) (sS hg b)
 | .aX i e=>D8 (sE hg e) | .tZ i e=>DR (sE hg e) | .BZ is e=>CD (sE hg e) | .drop e=>Ds (sE hg e) | .ret e=>Hc (sE hg e)
 | .HZ=>fun env out h F0 ZW I Z H D R q=>by cases h;exact q .non Z H R (KpS.refl _ _) rfl
 | .ifs c a b=>Fx (sT hg c) (sS hg a) (sS hg b)
 | .fr i it b=>Jf (sI hg it) (sS hg b) | .wh n c b=>KA (sT hg c) (sS hg b)
 | .nev=>fun env out h F0 ZW I Z H D R q=>by cases h
 | .rse e=>fun env out h F0 ZW I Z H D R q=>by cases h
 | .sto m i k e=>FC (sE hg k) (sE hg e)
end
section
variable {K:Fg} {F F' G I I' F0:Qz->Prop} {H H' ZW H1:Hp} {env env' e1:En} {Z Z':St} {ga:Gv} {gd:List Qq}
theorem dQ:∀ {ms:List PM} {ds:List Qq} {n:Nat},ds.length=ms.length->ms.length<=n->(aC ms ds n).length=n
 | [],[],n,_,_=>by simp [aC]
 | [],_ :: _,n,h,_=>by cases h
 | _ :: _,[],n,h,_=>by cases h
 | m :: ms,d :: ds,n,h,hn=>by
  have ih:=dQ (ms:=ms) (ds:=ds) (n:=n - 1) (by simpa using h) (by simp at hn;omega);simp at hn;cases m <;> (simp only [aC,NV,ih];omega)
theorem bH.len:∀ {ms:List PM} {ds:List Qq} {vs:List V} {is:List Qz},bH K G I H ms ds vs is->ds.length=ms.length/\vs.length=ms.length
 | [],[],[],_,_=>⟨rfl,rfl⟩
 | [],[],_ :: _,_,h=>by exact absurd h id
 | [],_ :: _,_,_,h=>by exact absurd h id
 | m :: ms,[],_,_,h=>by cases m <;> exact absurd h id
 | m :: ms,d :: ds,[],_,h=>by cases m <;> exact absurd h id
 | .dat :: ms,d :: ds,v :: vs,is,h=>by obtain ⟨a,b⟩:=bH.len h.2;exact ⟨by simp [a],by simp [b]⟩
 | .bor :: ms,d :: ds,v :: vs,is,h=>by obtain ⟨a,b⟩:=bH.len h.2;exact ⟨by simp [a],by simp [b]⟩
 | .ino :: ms,d :: ds,v :: vs,is,h=>by obtain ⟨_,_,_,_,_,_,_,h⟩:=h;obtain ⟨a,b⟩:=bH.len h;exact ⟨by simp [a],by simp [b]⟩
def At (K:Fg) (G I:Qz->Prop) (H:Hp) (is:List Qz) (s:Sl) (x:Option V):Prop:=match s with
 | .un=>True
 | .dat d=>∃ v,x=some v/\Dm K G H d v
 | .ino d=>∃ a,x=some (.ref a)/\a∈is/\G a/\Top K G H d a
 | .ro d=>∃ a,x=some (.ref a)/\jW K G I H d a
 | .own _=>False
theorem At.more (h:At K G I H is s x) (q:∀ a∈is,a∈is'):At K G I H is' s x:=by
 cases s with
 | ino d=>obtain ⟨a,e,m,r⟩:=h;exact ⟨a,e,q a m,r⟩
 | _=>exact h
theorem cJ:∀ {ms:List PM} {ds:List Qq} {vs:List V} {is:List Qz} {n:Nat} {tl:St},bH K G I H ms ds vs is->∀ {i:Nat} {s:Sl},(aC ms ds n)[i]?=some s->∀ {x:Option V},(vs.map some++tl)[i]?=some x->At K G I H is s x
 | [],[],[],is,n,tl,h,i,s,e,x,_=>by
  simp only [aC,List.getElem?_replicate] at e;split at e
  ·cases e;trivial
  ·cases e
 | [],[],_ :: _,_,_,_,h,_,_,_,_,_=>by exact absurd h id
 | [],_ :: _,_,_,_,_,h,_,_,_,_,_=>by exact absurd h id
 | m :: ms,[],_,_,_,_,h,_,_,_,_,_=>by cases m <;> exact absurd h id
 | m :: ms,d :: ds,[],_,_,_,h,_,_,_,_,_=>by cases m <;> exact absurd h id
 | .dat :: ms,d :: ds,v :: vs,is,n,tl,h,0,s,e,x,ex=>by
  simp [aC] at e ex;subst e ex;exact ⟨v,rfl,h.1⟩
 | .dat :: ms,d :: ds,v :: vs,is,n,tl,h,i+1,s,e,x,ex=>by
  simp [aC] at e;exact cJ h.2 e (by simpa using ex)
 | .bor :: ms,d :: ds,v :: vs,is,n,tl,h,0,s,e,x,ex=>by
  simp [aC] at e ex;subst e ex;have h1:Ci K G I H d v:=h.1;cases d <;> first | exact h1 | exact ⟨v,rfl,h1⟩ | (obtain ⟨a,rfl,r⟩:=h1;exact ⟨a,rfl,r⟩)
 | .bor :: ms,d :: ds,v :: vs,is,n,tl,h,i+1,s,e,x,ex=>by
  simp [aC] at e;exact cJ h.2 e (by simpa using ex)
 | .ino :: ms,d :: ds,v :: vs,is,n,tl,h,0,s,e,x,ex=>by
  simp [aC] at e ex;subst e ex;obtain ⟨a,r,rfl,rfl,g,t,_,_⟩:=h;exact ⟨a,rfl,N5,g,t⟩
 | .ino :: ms,d :: ds,v :: vs,is,n,tl,h,i+1,s,e,x,ex=>by
  simp [aC] at e;obtain ⟨a,r,rfl,rfl,g,t,_,h⟩:=h;exact (cJ h e (by simpa using ex)).more fun b hb=>NZ _ hb
theorem kn:∀ {ms:List PM} {ds:List Qq} {vs:List V} {is:List Qz} {n:Nat} {tl:St},bH K G I H ms ds vs is->∀ {i j:Nat} {c c':Qq} {a:Qz},(aC ms ds n)[i]?=some (.ino c)->(aC ms ds n)[j]?=some (.ino c') ->
  (vs.map some++tl)[i]?=some (some (.ref a))->(vs.map some++tl)[j]?=some (some (.ref a))->i=j
 | [],[],[],is,n,tl,h,i,j,c,c',a,e,_,_,_=>by
  simp only [aC,List.getElem?_replicate] at e;split at e <;> cases e
 | [],[],_ :: _,_,_,_,h,_,_,_,_,_,_,_,_,_=>by exact absurd h id
 | [],_ :: _,_,_,_,_,h,_,_,_,_,_,_,_,_,_=>by exact absurd h id
 | m :: ms,[],_,_,_,_,h,_,_,_,_,_,_,_,_,_=>by cases m <;> exact absurd h id
 | m :: ms,d :: ds,[],_,_,_,h,_,_,_,_,_,_,_,_,_=>by cases m <;> exact absurd h id
 | m :: ms,d :: ds,v :: vs,is,n,tl,h,0,0,c,c',a,e,e',s,s'=>rfl
 | m :: ms,d :: ds,v :: vs,is,n,tl,h,i+1,j+1,c,c',a,e,e',s,s'=>by
  have hr:∃ r,bH K G I H ms ds vs r:=by
   cases m with
   | dat=>exact ⟨is,h.2⟩
   | bor=>exact ⟨is,h.2⟩
   | ino=>obtain ⟨_,r,_,_,_,_,_,h⟩:=h;exact ⟨r,h⟩
  obtain ⟨r,hr⟩:=hr;have:i=j:=kn (n:=n - 1) (tl:=tl) hr (by cases m <;> simpa [aC] using e) (by cases m <;> simpa [aC] using e') (by simpa using s) (by simpa using s');rw [this]
 | m :: ms,d :: ds,v :: vs,is,n,tl,h,0,j+1,c,c',a,e,e',s,s'=>by
  cases m with
  | dat=>simp [aC] at e
  | bor=>cases d <;> simp [aC,B4] at e
  | ino =>
   obtain ⟨b,r,rfl,rfl,g,t,nr,h⟩:=h;simp [aC] at e' s;subst s;obtain ⟨a',ea,m',_⟩:=cJ (tl:=tl) h e' (by simpa using s');cases ea;exact absurd m' nr
 | m :: ms,d :: ds,v :: vs,is,n,tl,h,i+1,0,c,c',a,e,e',s,s'=>by
  cases m with
  | dat=>simp [aC] at e'
  | bor=>cases d <;> simp [aC,B4] at e'
  | ino =>
   obtain ⟨b,r,rfl,rfl,g,t,nr,h⟩:=h;simp [aC] at e s';subst s';obtain ⟨a',ea,m',_⟩:=cJ (tl:=tl) h e (by simpa using s);cases ea;exact absurd m' nr
theorem gX:∀ {ms:List PM} {ds:List Qq} {vs:List V} {is:List Qz} {n:Nat} {tl:St} {env':En} {Z':St} {outs:List Qq},bH K G I H ms ds vs is->ms.length<=env'.length ->
  (∀ (i:Nat) (c:Qq),(aC ms ds n)[i]?=some (.ino c)->∃ c',env'[i]?=some (.ino c')/\Z'[i]?=(vs.map some++tl)[i]?)->(∀ (i:Nat) (c:Qq) (a:Qz),env'[i]?=some (.ino c)->Z'[i]?=some (some (.ref a))->Top K G' H' c a) ->
  ix ms env'=some outs->jl K G' H' outs is
 | [],[],[],is,n,tl,env',Z',outs,h,_,_,_,e=>by
  rw [show is=[] from h];cases env' <;> (simp only [ix] at e;cases e;trivial)
 | [],[],_ :: _,_,_,_,_,_,_,h,_,_,_,_=>by exact absurd h id
 | [],_ :: _,_,_,_,_,_,_,_,h,_,_,_,_=>by exact absurd h id
 | m :: ms,[],_,_,_,_,_,_,_,h,_,_,_,_=>by cases m <;> exact absurd h id
 | m :: ms,d :: ds,[],_,_,_,_,_,_,h,_,_,_,_=>by cases m <;> exact absurd h id
 | m :: ms,d :: ds,v :: vs,is,n,tl,[],Z',outs,h,hl,h1,h2,e=>by simp at hl
 | m :: ms,d :: ds,v :: vs,is,n,tl,s :: es,Z',outs,h,hl,h1,h2,e=>by
  have hl':ms.length<=es.length:=by simpa using hl
  have t1:∀ (i:Nat) (c:Qq),(aC ms ds (n - 1))[i]?=some (.ino c)->∃ c',es[i]?=some (.ino c')/\Z'.tail[i]?=(vs.map some++tl)[i]?:=fun i c z=>by
   obtain ⟨c',e',q⟩:=h1 (i+1) c (by cases m <;> simpa [aC] using z);exact ⟨c',by simpa using e',by simpa using q⟩
  have t2:∀ (i:Nat) (c:Qq) (a:Qz),es[i]?=some (.ino c)->Z'.tail[i]?=some (some (.ref a))->Top K G' H' c a:=fun i c a z q=>h2 (i+1) c a (by simpa using z) (by simpa using q);cases m with
  | dat=>exact gX h.2 hl' t1 t2 (by simpa [ix] using e)
  | bor=>exact gX h.2 hl' t1 t2 (by simpa [ix] using e)
  | ino =>
   obtain ⟨b,r,rfl,rfl,g,t,nr,h⟩:=h;obtain ⟨c',e',q⟩:=h1 0 d (by simp [aC]);simp at e' q;subst e';simp only [ix] at e;split at e
   ·rename_i os ho;cases e;exact ⟨h2 0 c' b (by simp) (by simpa using q),gX h hl' t1 t2 ho⟩
   ·cases e
theorem mQ (ha:bH K G (·∈is) H ms ds vs is) (hd:∀ b,G b->H b≠none) (hn:ms.length<=N.length):Rel K G H (·∈is) (aC ms ds N.length) (start N vs) H:=by
 obtain ⟨hl1,hl2⟩:=ha.len;have hstart:start N vs=vs.map some++List.replicate (N.length - vs.length) none:=rfl;have no:noOwn (aC ms ds N.length):=fun i d e=>by
  have hi:i < (aC ms ds N.length).length:=(NW.mp e).1;rw [dQ hl1 hn] at hi;have hx:(vs.map some++List.replicate (N.length - vs.length) none)[i]?=some ((vs.map some++List.replicate (N.length - vs.length) none)[i]'(by rw [NS,NT,Pg];omega)):=N7 _;exact (cJ ha e hx:False)
 have at':∀ {i:Nat} {s:Sl},(aC ms ds N.length)[i]?=some s->∃ x,(start N vs)[i]?=some x/\At K G (·∈is) H is s x:=fun {i s} e=>by
  have hi:i < (aC ms ds N.length).length:=(NW.mp e).1;rw [dQ hl1 hn] at hi;have hx:(start N vs)[i]?=some ((start N vs)[i]'(by rw [hstart,NS,NT,Pg];omega)):=N7 _;exact ⟨_,hx,cJ ha e hx⟩
 have eF:FF G (aC ms ds N.length) (start N vs)=G:=gG no;have muI:∀ i,mu (aC ms ds N.length) i->∃ c,(aC ms ds N.length)[i]?=some (.ino c):=fun i ⟨c,m⟩=>m.elim (fun z=>absurd z (no i c)) fun z=>⟨c,z⟩;refine ⟨by rw [dQ hl1 hn,hstart,NS,NT,Pg];omega,fun i d e=>?_,fun i d e=>absurd e (no i d),fun i d e=>?_,fun i d e=>?_,fun i j a h1 h2 h3 h4=>?_,hd,fun _ _ h _=>h⟩
 ·rw [eF];obtain ⟨x,hx,v,rfl,r⟩:=at' e;exact ⟨v,hx,r⟩
 ·rw [eF];obtain ⟨x,hx,a,rfl,m,g,t⟩:=at' e;exact ⟨a,hx,g,m,t⟩
 ·rw [eF];obtain ⟨x,hx,a,rfl,r⟩:=at' e;refine ⟨a,hx,r.pr Pr.refl (fun _ z=>z) (fun b hb=>?_) fun _ _ z _=>z⟩;obtain ⟨j,m,s⟩:=hb;obtain ⟨c,m⟩:=muI j m;obtain ⟨x,hx,a,rfl,m,g,t⟩:=at' m;rw [s] at hx;cases hx;exact m
 ·obtain ⟨c,m1⟩:=muI i h1;obtain ⟨c',m2⟩:=muI j h2;exact kn ha m1 m2 h3 h4
theorem xQ (hg:∀ g d,gd[g]?=some d->∀ F H,Dm K F H d (ga g)) (h:jS (bO gd ms N.length b) K vs H Q E) (hn:ms.length<=N.length) :
  rS K ga b { nx:=fun _ H'=>Q .non H',rt:=Q } (start N vs) H:=by
 obtain ⟨G,ds,is,pr,outs,hF,ha,hd,post⟩:=h;have ha:bH K G (·∈is) H ms ds vs is:=ha;obtain ⟨hl1,hl2⟩:=ha.len;have hstart:start N vs=vs.map some++List.replicate (N.length - vs.length) none:=rfl;have R:=mQ ha hd hn;simp only [bO] at hF;rw [N4 hl1] at hF
 ·have inoK:∀ {env':En} {Z':St},KpS (aC ms ds N.length) (start N vs) env' Z'->∀ (i:Nat) (c:Qq),(aC ms ds N.length)[i]?=some (.ino c)->∃ c',env'[i]?=some (.ino c')/\Z'[i]?=(vs.map some++List.replicate (N.length - vs.length) none)[i]?:=fun {env' Z'} k i c e=>by
   obtain ⟨s',e',v,w⟩:=k.2 i _ e;obtain ⟨c',rfl⟩:=v;exact ⟨c',e',w trivial⟩
  have hlE:∀ {env':En} {Z':St},KpS (aC ms ds N.length) (start N vs) env' Z'->ms.length<=env'.length:=fun {env' Z'} k=>by rw [k.1,dQ hl1 hn];exact hn
  split at hF
  ·rename_i rv env' hS;split at hF
   ·rename_i pr' outs' hpr houts;cases hF;refine sS hg b _ _ hS G H (·∈is) _ H _ R fun v Z' H' R' k' r'=>?_;have mono:∀ b,G b->FF G env' Z' b:=fun b z=>.inl z;cases rv with
    | bor i=>cases hpr
    | dat d =>
     cases hpr
     exact post v H' (fun b o e n=>R'.hG b o e n) ⟨Dm.mono mono r',gX ha (hlE k') (inoK k') (fun i c a e s=>by
      obtain ⟨a',s',_,_,t⟩:=R'.ino i c e;rw [s] at s';cases s'
      exact t.pr Pr.refl mono fun _ z=>z) houts⟩
    | frs d =>
     cases hpr;obtain ⟨a,rfl,Ra,t,w,nF,hino,_⟩:=r';have mono':∀ b,(G b\/b=a)->FF (fun b=>G b\/b=a) env' Z' b:=fun b z=>.inl z
     refine post _ H' (fun b o e n=>R'.hG b o e n) ⟨a,rfl,?_,t.pr Pr.refl (fun b z=>z.imp (mono b) id) (fun _ z=>z),gX ha (hlE k') (inoK k') (fun i c a' e s=>by
      obtain ⟨a2,s',_,_,t'⟩:=Ra.ino i c e;rw [s] at s';cases s'
      exact t'.pr Pr.refl mono' fun _ z=>z) houts⟩
     rcases w with w | w
     ·exact w
     ·-- it would be one that was handed in to be changed
      exfalso;have key:∀ {ms:List PM} {ds:List Qq} {vs:List V} {is:List Qz} {I:Qz->Prop} {n:Nat} {tl:St},bH K G I H ms ds vs is->a∈is->∃ (i:Nat) (c:Qq),(aC ms ds n)[i]?=some (.ino c)/\(vs.map some++tl)[i]?=some (some (.ref a)):=by
       intro ms;induction ms with
       | nil =>
        intro ds vs is I n tl h m;cases ds with
        | cons _ _=>exact absurd h id
        | nil=>cases vs with
         | cons _ _=>exact absurd h id
         | nil=>rw [show is=[] from h] at m;cases m
       | cons p ms ih =>
        intro ds vs is I n tl h m;cases ds with
        | nil=>cases p <;> exact absurd h id
        | cons d ds =>
         cases vs with
         | nil=>cases p <;> exact absurd h id
         | cons v vs =>
          cases p with
          | dat=>obtain ⟨i,c,e,s⟩:=ih (n:=n - 1) (tl:=tl) h.2 m;exact ⟨i+1,c,by simpa [aC] using e,by simpa using s⟩
          | bor=>obtain ⟨i,c,e,s⟩:=ih (n:=n - 1) (tl:=tl) h.2 m;exact ⟨i+1,c,by simpa [aC] using e,by simpa using s⟩
          | ino =>
           obtain ⟨b,r,rfl,rfl,g,t,nr,h⟩:=h;rcases N9.mp m with rfl | m
           ·exact ⟨0,d,by simp [aC],by simp⟩
           ·obtain ⟨i,c,e,s⟩:=ih (n:=n - 1) (tl:=tl) h m;exact ⟨i+1,c,by simpa [aC] using e,by simpa using s⟩
      obtain ⟨i,c,e,s⟩:=key (n:=N.length) (tl:=List.replicate (N.length - vs.length) none) ha w;obtain ⟨c',e',s'⟩:=inoK k' i c e;exact hino i c' e' (s'.trans s)
   ·cases hF
  ·rename_i env' hS;split at hF
   ·rename_i outs' houts;cases hF;refine sS hg b _ _ hS G H (·∈is) _ H _ R fun Z' H' R' k'=>?_;have mono:∀ b,G b->FF G env' Z' b:=fun b z=>.inl z
    exact post .non H' (fun b o e n=>R'.hG b o e n) ⟨rfl,gX ha (hlE k') (inoK k') (fun i c a e s=>by
      obtain ⟨a',s',_,_,t⟩:=R'.ino i c e;rw [s] at s';cases s'
      exact t.pr Pr.refl mono fun _ z=>z) houts⟩
   ·cases hF
  ·cases hF
theorem qz (h:jS f K vs H Q E):vs.length=f.ms.length:=by
 obtain ⟨G,ds,is,pr,outs,_,ha,_⟩:=h;exact ha.len.2
end
end L2
namespace L2
open PySem PySem.Spec PyProof.Rows
def Prm.two (r:Fg->R2) (f:Qq->Qq->Option PR) (ok:∀ (K:Fg) (F:Qz->Prop) (H:Hp) (x y:Qq) (u v:V) (pr:PR) (Q:VK),f x y=some pr->Vw K F H x u->Vw K F H y v->(∀ b,F b->H b≠none)->(∀ w H',aY H H'->Bp K F H H' pr w->Q w H')->r K u v H Q):Prm where
 r:=fun K vs H Q=>match vs with | [u,v]=>r K u v H Q | _=>False
 f:=fun ds=>match ds with | [x,y]=>f x y | _=>none
 ok:=fun K F H ds vs pr Q hf hv hd q=>by
  match ds,hf with
  | [x,y],hf =>
   obtain ⟨u,r1,rfl,h1,v,r2,rfl,h2,rfl⟩:=hv;exact ok K F H x y u v pr Q hf h1 h2 hd q
def Prm.one (r:Fg->V->Hp->VK->Prop) (f:Qq->Option PR) (ok:∀ (K:Fg) (F:Qz->Prop) (H:Hp) (x:Qq) (u:V) (pr:PR) (Q:VK),f x=some pr->Vw K F H x u->(∀ b,F b->H b≠none)->(∀ w H',aY H H'->Bp K F H H' pr w->Q w H')->r K u H Q):Prm where
 r:=fun K vs H Q=>match vs with | [u]=>r K u H Q | _=>False
 f:=fun ds=>match ds with | [x]=>f x | _=>none
 ok:=fun K F H ds vs pr Q hf hv hd q=>by
  match ds,hf with
  | [x],hf =>
   obtain ⟨u,r1,rfl,h1,rfl⟩:=hv;exact ok K F H x u pr Q hf h1 hd q
section
variable {K:Fg} {F F':Qz->Prop} {H:Hp}
theorem vInt {i:Int} {v:V} (h:Vw K F H (.int i) v):v=.int i:=h
theorem vBl (h:Vw K F H (.bool b) v):v=.bl b:=h
theorem EK (h:Vw K F H .none v):v=.non:=h
theorem vStr {x:Str} {v:V} (h:Vw K F H (.str x) v):v=.str x/\x.length<=sizeLine/\PyData.strOk x=true:=h
theorem o7 {ds:List Qq} {v:V} (h:Vw K F H (.list ds) v):∃ a xs,v=.ref a/\SqL K H a xs/\xs.length<=sizeLine/\DmL K F H ds xs:=let ⟨a,e,xs,r⟩:=h;⟨a,xs,e,r⟩
theorem yT {ds:List Qq} {v:V} (h:Vw K F H (.tuple ds) v):∃ a xs,v=.ref a/\SqT K H a xs/\xs.length<=sizeLine/\DmL K F H ds xs:=h
theorem J9 (hp:H p=none) (hz:xs.length<=sizeLine) (h:DmL K F H ds xs):Bp K F H (upd H p (.lst xs)) (.frs (.list ds)) (.ref p) :=
 ⟨p,rfl,hp,xs,aG,hz,(h.fresh hp).pr (Pr.of_same (aY.nw _ hp)) fun _ z=>z⟩
theorem IH (hp:H p=none) (hz:xs.length<=sizeLine) (h:DmL K F H ds xs):Bp K F H (upd H p (.tup xs)) (.dat (.tuple ds)) (.ref p) :=
 ⟨p,xs,rfl,.inl (.inl aG),hz,h.pr (Pr.of_same (aY.nw _ hp)) fun _ z=>z⟩
end
def Mj:Qq->Qq->Option PR
 | .int i,.int j=>some (.dat (.int (i+j)))
 | .str x,.str y=>if x.length+y.length<=sizeLine then some (.dat (.str (x++y))) else none
 | .list xs,.list ys=>if xs.length+ys.length<=sizeLine then some (.frs (.list (xs++ys))) else none
 | .tuple (x :: xs),.tuple ys=>if (x :: xs).length+ys.length<=sizeLine then some (.dat (.tuple ((x :: xs)++ys))) else none
 | _,_=>none
def Ky (K:Fg):R2:=rOr (rI0 fun i j=>.int (i+j)) (rOr FG (rOr (Hl K) (Ha K)))
theorem jF (x y:Str):(x++y).length=x.length+y.length:=by
 show (x.cps++y.cps).size=_;rw [Array.size_append];rfl
def bK:Prm:=Prm.two Ky Mj fun K F H x y u v pr Q hf hx hy hd q=>by
 unfold Mj at hf;split at hf
 ·cases hf;rw [vInt hx,vInt hy];exact .inl ⟨_,_,rfl,rfl,q _ H (aY.rf H) rfl⟩
 ·split at hf
  ·rename_i x y hl;cases hf;obtain ⟨rfl,l1,o1⟩:=vStr hx;obtain ⟨rfl,l2,o2⟩:=vStr hy;exact .inr (.inl ⟨_,_,rfl,rfl,hl,q _ H (aY.rf H) ⟨rfl,by rw [jF];exact hl,nO o1 o2⟩⟩)
  ·cases hf
 ·split at hf
  ·rename_i xs ys hl;cases hf;obtain ⟨a,us,rfl,s1,z1,d1⟩:=o7 hx;obtain ⟨b,ws,rfl,s2,z2,d2⟩:=o7 hy;have hl':us.length+ws.length<=sizeLine:=by rw [d1.len,d2.len];exact hl
   exact .inr (.inr (.inl ⟨a,b,us,ws,rfl,rfl,s1,s2,hl',fun p hp=>q _ _ (aY.nw _ hp) (J9 hp (by rw [NS];exact hl') (d1.app d2))⟩))
  ·cases hf
 ·split at hf
  ·rename_i x xs ys hl;cases hf;obtain ⟨a,us,rfl,s1,z1,d1⟩:=yT hx;obtain ⟨b,ws,rfl,s2,z2,d2⟩:=yT hy;have hl':us.length+ws.length<=sizeLine:=by rw [d1.len,d2.len];exact hl
   have hne:us≠[]:=fun z=>by rw [z] at d1;obtain ⟨v,r,e,_⟩:=d1;cases e
   refine .inr (.inr (.inr ⟨a,b,us,ws,rfl,rfl,s1,s2,hne,hl',fun z=>?_,fun z p hp=>q _ _ (aY.nw _ hp) (IH hp (by rw [NS];exact hl') (d1.app d2))⟩));subst z;have hys:ys=[]:=by
    cases ys with
    | nil=>rfl
    | cons y ys=>obtain ⟨v,r,e,_⟩:=d2;cases e
   subst hys;exact q _ H (aY.rf H) ⟨a,us,rfl,s1,z1,by rw [Oz];exact d1⟩
  ·cases hf
 ·cases hf
theorem af:OpR X (binaryOp .Add) (fun x y=>bK.r X.K [x,y]):=orR GZ (orR Ca (orR Df CP))
noncomputable def Bq (c:Int->Int->Bool) (g:Int->Int->Qq):Qq->Qq->Option PR
 | .int i,.int j=>if c i j=true then some (.dat (g i j)) else none
 | _,_=>none
def Prm.ints (C:Int->Int->Prop) (c:Int->Int->Bool) (hc:∀ i j,c i j=true->C i j) (g:Int->Int->Int):Prm:=Prm.two (fun _=>rI C fun i j=>.int (g i j)) (Bq c fun i j=>.int (g i j)) fun K F H x y u v pr Q hf hx hy hd q=>by
 unfold Bq at hf;split at hf
 ·split at hf
  ·rename_i h;cases hf;rw [vInt hx,vInt hy];exact ⟨_,_,rfl,rfl,hc _ _ h,q _ H (aY.rf H) rfl⟩
  ·cases hf
 ·cases hf
def Prm.ET (g:Int->Int->Bool):Prm:=Prm.two (fun _=>rI0 fun i j=>.bl (g i j)) (Bq (fun _ _=>true) fun i j=>.bool (g i j)) fun K F H x y u v pr Q hf hx hy hd q=>by
 unfold Bq at hf;split at hf
 ·rw [N4 rfl] at hf;cases hf;rw [vInt hx,vInt hy];exact ⟨_,_,rfl,rfl,q _ H (aY.rf H) rfl⟩
 ·cases hf
def rO:Prm:=Prm.two (fun _=>rI0 fun i j=>.int (i - j)) (Bq (fun _ _=>true) fun i j=>.int (i - j)) fun K F H x y u v pr Q hf hx hy hd q=>by
 unfold Bq at hf;split at hf
 ·rw [N4 rfl] at hf;cases hf;rw [vInt hx,vInt hy];exact ⟨_,_,rfl,rfl,q _ H (aY.rf H) rfl⟩
 ·cases hf
theorem b7:OpR X (binaryOp .Sub) (fun x y=>rO.r X.K [x,y]):=FV
noncomputable def mulC (i j:Int):Bool:=(decide (-(2 ^ 64) < i)&&decide (i < 2 ^ 64))||(decide (-(2 ^ 64) < j)&&decide (j < 2 ^ 64))
def tX:Prm:=Prm.ints FW mulC (fun i j h=>by simpa [mulC,FW,Pu,Ot,OQ] using h) (fun i j=>i*j)
theorem cK:OpR X (binaryOp .Mult) (fun x y=>tX.r X.K [x,y]):=ER
def uA:Prm:=Prm.ints (fun _ j=>0 < j) (fun _ j=>decide (0 < j)) (fun i j h=>by simpa using h) (fun i j=>i % j)
theorem cG:OpR X (binaryOp .Mod) (fun x y=>uA.r X.K [x,y]):=HL
def zW:Prm:=Prm.ints (fun _ j=>0 < j/\j.natAbs.log2 < 9000) (fun _ j=>decide (0 < j)&&decide (j < 2 ^ 200)) (fun i j h=>by
 simp only [Ot,OQ] at h;refine ⟨h.1,?_⟩;have hz:j.natAbs≠0:=by omega
 have:j.natAbs < 2 ^ 200:=by omega
 exact Ob ((Nat.log2_lt hz).mpr this) (by decide)) (fun i j=>i / j)
theorem lS:OpR X (binaryOp .FloorDiv) (fun x y=>zW.r X.K [x,y]):=Am
def Bl:Prm:=Prm.ints MB (fun i j=>decide (0<=j)&&decide (j<=1000000)&&decide (i.natAbs < 2 ^ 64)) (fun i j h=>by simp only [Ot,OQ] at h;exact ⟨h.1.1,h.1.2,h.2⟩) (fun i j=>i ^ j.toNat)
theorem fV:OpR X (binaryOp .Pow) (fun x y=>Bl.r X.K [x,y]):=Fq
def EU:Prm:=Prm.one (fun _=>rU fun i=>.int (-i)) (fun x=>match x with | .int i=>some (.dat (.int (-i))) | _=>none) fun K F H x u pr Q hf hx hd q=>by
 split at hf
 ·cases hf;rw [vInt hx];exact ⟨_,rfl,q _ H (aY.rf H) rfl⟩
 ·cases hf
noncomputable def Ig (g:Int->Int->Bool) (h:Str->Str->Bool):Qq->Qq->Option PR
 | .int i,.int j=>some (.dat (.bool (g i j)))
 | .str x,.str y=>some (.dat (.bool (h x y)))
 | _,_=>none
noncomputable def ltS (x y:Str):Bool:=decide (x.cps.toList < y.cps.toList)
noncomputable def leS (x y:Str):Bool:=!decide (y.cps.toList < x.cps.toList)
def ltP:Prm:=Prm.two (fun _=>rOr (rI0 fun i j=>.bl (decide (i < j))) Md) (Ig (fun i j=>decide (i < j)) ltS) fun K F H x y u v pr Q hf hx hy hd q=>by
 unfold Ig at hf;split at hf
 ·cases hf;rw [vInt hx,vInt hy];exact .inl ⟨_,_,rfl,rfl,q _ H (aY.rf H) rfl⟩
 ·cases hf;rw [(vStr hx).1,(vStr hy).1];exact .inr ⟨_,_,rfl,rfl,q _ H (aY.rf H) rfl⟩
 ·cases hf
theorem eE:OpR X (compareOp .Lt) (fun x y=>ltP.r X.K [x,y]):=orR KL FD
def leP:Prm:=Prm.two (fun _=>rOr (rI0 fun i j=>.bl (decide (i<=j))) Mu) (Ig (fun i j=>decide (i<=j)) leS) fun K F H x y u v pr Q hf hx hy hd q=>by
 unfold Ig at hf;split at hf
 ·cases hf;rw [vInt hx,vInt hy];exact .inl ⟨_,_,rfl,rfl,q _ H (aY.rf H) rfl⟩
 ·cases hf;rw [(vStr hx).1,(vStr hy).1];exact .inr ⟨_,_,rfl,rfl,q _ H (aY.rf H) rfl⟩
 ·cases hf
theorem c7:OpR X (compareOp .LtE) (fun x y=>leP.r X.K [x,y]):=orR LX EB
def gtP:Prm:=Prm.ET fun i j=>decide (i > j)
theorem nT:OpR X (compareOp .Gt) (fun x y=>gtP.r X.K [x,y]):=Ks
def geP:Prm:=Prm.ET fun i j=>decide (i>=j)
theorem FL:OpR X (compareOp .GtE) (fun x y=>geP.r X.K [x,y]):=Jw
mutual
noncomputable def noD:Qq->Bool
 | .dict _=>false
 | .list xs=>fN xs
 | .tuple xs=>fN xs
 | _=>true
noncomputable def fN:List Qq->Bool
 | []=>true
 | x :: xs=>noD x&&fN xs
end
section
variable {K:Fg} {F:Qz->Prop} {H:Hp}
mutual
theorem Dm.lay:∀ {d:Qq} {v:V},Dm K F H d v->noD d=true->d.canLay0=true
 | .none,v,h,_=>by simp [PyData.canLay0]
 | .bool b,v,h,_=>by simp [PyData.canLay0]
 | .int i,v,h,_=>by simp [PyData.canLay0]
 | .str x,v,h,_=>by simpa [PyData.canLay0] using h.2.2
 | .list ds,v,h,n=>by obtain ⟨a,xs,e,l,z,r⟩:=h;simpa [PyData.canLay0] using DmL.lay r (by simpa [noD] using n)
 | .tuple ds,v,h,n=>by obtain ⟨a,xs,e,l,z,r⟩:=h;simpa [PyData.canLay0] using DmL.lay r (by simpa [noD] using n)
 | .dict kvs,v,h,n=>by simp [noD] at n
theorem DmL.lay:∀ {ds:List Qq} {vs:List V},DmL K F H ds vs->fN ds=true->PyData.canLayAll0 ds=true
 | [],vs,h,_=>by simp [PyData.canLayAll0]
 | d :: ds,vs,h,n=>by
  obtain ⟨v,r,e,h1,h2⟩:=h;have n':noD d=true/\fN ds=true:=by simpa [fN] using n
  simp [PyData.canLayAll0,Dm.lay h1 n'.1,DmL.lay h2 n'.2]
end
theorem Vw.lay (h:Vw K F H d v) (n:noD d=true):d.canLay0=true:=by
 cases d with
 | list ds=>obtain ⟨a,xs,e,l,z,r⟩:=o7 h;simpa [PyData.canLay0] using DmL.lay r (by simpa [noD] using n)
 | dict ds=>simp [noD] at n
 | _=>exact Dm.lay (K:=K) (F:=F) (H:=H) h n
variable {X:Cx} {pins:List (Qz×Obj)} {Z:St} {s:Qx}
mutual
theorem Dm.reads (I:Inv X pins Z H s):∀ {d:Qq} {v:V} {u:Qj},Dm X.K F H d v->noD d=true->RelV v u->∃ as,Reads s.heap u d as
 | .none,v,u,hd,_,r=>by
  have e:v=.non:=hd;subst e;cases (show u=Value.none from r);exact ⟨_,.none⟩
 | .bool b,v,u,hd,_,r=>by
  have e:v=.bl b:=hd;subst e;cases (show u=Value.bool b from r);exact ⟨_,.bool b⟩
 | .int i,v,u,hd,_,r=>by
  have e:v=.int i:=hd;subst e;obtain ⟨t,e⟩:=(show ∃ t,u=Value.int i t from r);subst e;exact ⟨_,.int i t⟩
 | .str y,v,u,hd,_,r=>by
  have e:v=.str y:=hd.1;subst e;obtain ⟨t,e⟩:=(show ∃ t,u=Value.str y t from r);subst e;exact ⟨_,.str y t⟩
 | .list ds,v,u,hd,n,r=>by
  obtain ⟨a,xs,e,l,z,rs⟩:=hd;subst e;cases (show u=Value.ref a from r);obtain ⟨its,rv,⟨o,k,h1,h2,h3,h4⟩,_⟩:=I.list (l.elim (fun q=>.inl q.2) .inr);obtain ⟨as,ra⟩:=DmL.reads I rs (by simpa [noD] using n) rv;exact ⟨_,.list h1 h2 h4 (by simpa using ra)⟩
 | .tuple ds,v,u,hd,n,r=>by
  obtain ⟨a,xs,e,l,z,rs⟩:=hd;subst e;cases (show u=Value.ref a from r);obtain ⟨its,rv,⟨o,h1,h2,k,h4⟩,_⟩:=I.tuple l;obtain ⟨as,ra⟩:=DmL.reads I rs (by simpa [noD] using n) rv;exact ⟨_,.tuple h1 h2 h4 (by simpa using ra)⟩
 | .dict kvs,v,u,hd,n,r=>by simp [noD] at n
theorem DmL.reads (I:Inv X pins Z H s):∀ {ds:List Qq} {vs:List V} {us:List Qj},DmL X.K F H ds vs->fN ds=true->Vals vs us->∃ as,ReadsAll s.heap us ds as
 | [],vs,us,hd,_,r=>by
  have e:vs=[]:=hd;subst e;cases r;exact ⟨_,.nil⟩
 | d :: ds,vs,us,hd,n,r=>by
  obtain ⟨v,rr,e,h1,h2⟩:=hd;have n':noD d=true/\fN ds=true:=by simpa [fN] using n
  subst e;cases r with
  | cons r1 r2 =>
   obtain ⟨as,q1⟩:=Dm.reads I h1 n'.1 r1;obtain ⟨bs,q2⟩:=DmL.reads I h2 n'.2 r2;exact ⟨_,.cons q1 q2⟩
end
theorem Vw.reads (I:Inv X pins Z H s) (h:Vw X.K F H d v) (n:noD d=true) (r:RelV v u):∃ as,Reads s.heap u d as:=by
 cases d with
 | list ds =>
  obtain ⟨a,xs,rfl,l,z,rs⟩:=o7 h;cases (show u=Value.ref a from r);obtain ⟨its,rv,⟨o,k,h1,h2,h3,h4⟩,_⟩:=I.list l;obtain ⟨as,ra⟩:=DmL.reads I rs (by simpa [noD] using n) rv;exact ⟨_,.list h1 h2 h4 (by simpa using ra)⟩
 | dict ds=>simp [noD] at n
 | _=>exact Dm.reads (F:=F) I h n r
end
def jX (d:Qq):Bool:=noD d&&decide (d.depth<=64)
def Ny (neg:Bool) (K:Fg):R2:=fun x y H Q=>∃ F d e,Vw K F H d x/\Vw K F H e y/\jX d=true/\jX e=true/\Q (.bl (if neg then !PyData.eqv d e else PyData.eqv d e)) H
def eqD (neg:Bool) (d e:Qq):Option PR:=if jX d=true/\jX e=true then some (.dat (.bool (if neg then !PyData.eqv d e else PyData.eqv d e))) else none
def HX (neg:Bool):Prm:=Prm.two (Ny neg) (eqD neg) fun K F H x y u v pr Q hf hx hy hd q=>by
 unfold eqD at hf;split at hf
 ·rename_i h;cases hf;exact ⟨F,x,y,hx,hy,h.1,h.2,q _ H (aY.rf H) rfl⟩
 ·cases hf
abbrev eqP:Prm:=HX false
abbrev neP:Prm:=HX true
theorem gF {K:Fg} {F:Qz->Prop} {H:Hp} {d:Qq} {v:V} (h:Vw K F H d v) (o:jX d=true):SeqAt.shaped d=true:=by
 have o':noD d=true/\d.depth<=64:=by simpa [jX] using o
 simp [SeqAt.shaped,h.lay o'.1,o'.2]
theorem aI {X:Cx} (hu:X.A.units+64 < cLine):OpR X (compareOp .Eq) (fun x y=>eqP.r X.K [x,y]):=by
 intro pins s Z H x y v u Q I rx ry h;obtain ⟨F,d,e,h1,h2,o1,o2,hq⟩:=h;obtain ⟨as,r1⟩:=h1.reads I (by have:=o1;simp [jX] at this;exact this.1) rx;obtain ⟨bs,r2⟩:=h2.reads I (by have:=o2;simp [jX] at this;exact this.1) ry;exact SeqAt.compareEq_shaped r1 r2 (gF h1 o1) (gF h2 o2) hu ⟨.bl _,H,I,rfl,hq⟩
theorem iP {X:Cx} (hu:X.A.units+64 < cLine):OpR X (compareOp .NotEq) (fun x y=>neP.r X.K [x,y]):=by
 intro pins s Z H x y v u Q I rx ry h;obtain ⟨F,d,e,h1,h2,o1,o2,hq⟩:=h;obtain ⟨as,r1⟩:=h1.reads I (by have:=o1;simp [jX] at this;exact this.1) rx;obtain ⟨bs,r2⟩:=h2.reads I (by have:=o2;simp [jX] at this;exact this.1) ry;exact SeqAt.compareNe_shaped r1 r2 (gF h1 o1) (gF h2 o2) hu ⟨.bl _,H,I,rfl,hq⟩
noncomputable def mF:Qq->Bool | .none=>true | _=>false
theorem qN {K:Fg} {F:Qz->Prop} {H:Hp} {d:Qq} {v:V} (h:Vw K F H d v):decide (v=.non)=mF d:=by
 cases d with
 | none=>rw [EK h];rfl
 | bool b=>rw [vBl h];rfl
 | int i=>rw [vInt h];rfl
 | str x=>rw [(vStr h).1];rfl
 | list ds=>obtain ⟨a,xs,rfl,_⟩:=o7 h;rfl
 | tuple ds=>obtain ⟨a,xs,rfl,_⟩:=yT h;rfl
 | dict ds=>obtain ⟨a,rfl,_⟩:=h;rfl
def isP:Prm:=Prm.two (fun _=>Km) (fun x y=>match y with | .none=>some (.dat (.bool (mF x))) | _=>none) fun K F H x y u v pr Q hf hx hy hd q=>by
 split at hf
 ·cases hf;exact ⟨EK hy,q _ H (aY.rf H) (by rw [qN hx];rfl)⟩
 ·cases hf
theorem xp:OpR X (compareOp .Is) (fun x y=>isP.r X.K [x,y]):=pL
def nU:Prm:=Prm.two (fun _=>GR) (fun x y=>match y with | .none=>some (.dat (.bool (!mF x))) | _=>none) fun K F H x y u v pr Q hf hx hy hd q=>by
 split at hf
 ·cases hf;exact ⟨EK hy,q _ H (aY.rf H) (by rw [qN hx];rfl)⟩
 ·cases hf
theorem gI:OpR X (compareOp .IsNot) (fun x y=>nU.r X.K [x,y]):=yZ
def ixD:Qq->Qq->Option PR
 | .list xs,.int i=>(atI xs i).map .dat
 | .tuple xs,.int i=>(atI xs i).map .dat
 | .str x,.int i=>(atI x.cps.toList i).map fun c=>.dat (.str ⟨#[c]⟩)
 | _,_=>none
theorem B0 {K:Fg} {F:Qz->Prop} {H:Hp} {ds:List Qq} {xs:List V} {i:Int} {d:Qq} (h:DmL K F H ds xs) (e:atI ds i=some d):∃ v,atI xs i=some v/\Dm K F H d v:=by
 unfold atI at e ⊢;rw [h.len];cases q:ixN ds.length i with
 | none=>rw [q] at e;cases e
 | some j =>
  rw [q] at e;have e:ds[j]?=some d:=e;exact h.get e
theorem DZ {α:Type} {xs:List α} {i:Int} {x:α} (e:atI xs i=some x):x∈xs:=by
 unfold atI at e;cases q:ixN xs.length i with
 | none=>rw [q] at e;cases e
 | some j=>rw [q] at e;exact Ov (show xs[j]?=some x from e)
def ixP:Prm:=Prm.two rIx ixD fun K F H x y u v pr Q hf hx hy hd q=>by
 unfold ixD at hf;split at hf
 ·obtain ⟨d,e,rfl⟩:=Ou.mp hf;obtain ⟨a,us,rfl,s1,z1,d1⟩:=o7 hx;rw [vInt hy];obtain ⟨v,ev,dv⟩:=B0 d1 e;exact .inl ⟨a,us,_,v,rfl,rfl,s1,ev,q _ H (aY.rf H) dv⟩
 ·obtain ⟨d,e,rfl⟩:=Ou.mp hf;obtain ⟨a,us,rfl,s1,z1,d1⟩:=yT hx;rw [vInt hy];obtain ⟨v,ev,dv⟩:=B0 d1 e;exact .inr (.inl ⟨a,us,_,v,rfl,rfl,s1,ev,q _ H (aY.rf H) dv⟩)
 ·rename_i x i;obtain ⟨c,e,rfl⟩:=Ou.mp hf;obtain ⟨rfl,l1,o1⟩:=vStr hx;rw [vInt hy];have hc:=jJ o1 c (DZ e);exact .inr (.inr ⟨_,_,c,rfl,rfl,l1,e,q _ H (aY.rf H) ⟨rfl,by show 1<=sizeLine;decide,by simp [PyData.strOk,hc]⟩⟩)
 ·cases hf
theorem GU {X:Cx}:IxR X (fun x y=>ixP.r X.K [x,y]):=Hu
def cutD {α:Type} (xs:List α) (lo hi:Option Int):List α:=(xs.drop (HT.sIx xs.length 0 lo)).take (HT.sIx xs.length xs.length hi - HT.sIx xs.length 0 lo)
def slD (lo hi:Option Int):Qq->Option PR
 | .list xs=>some (.frs (.list (cutD xs lo hi)))
 | .tuple xs=>if HT.sIx xs.length 0 lo=0/\HT.sIx xs.length xs.length hi=xs.length then none else some (.dat (.tuple (cutD xs lo hi)))
 | .str x=>some (.dat (.str (g9 x lo hi)))
 | _=>none
def HV (K:Fg) (lo hi:Option Int):V->Hp->VK->Prop:=fun x H Q=>KI MD (KI (Mo K) (L7 K)) x lo hi H Q
section
variable {K:Fg} {F:Qz->Prop} {H:Hp}
theorem DmL.drop:∀ {ds:List Qq} {xs:List V} (n:Nat),DmL K F H ds xs->DmL K F H (ds.drop n) (xs.drop n)
 | ds,xs,0,h=>h
 | [],xs,n+1,h=>by rw [show xs=[] from h];rfl
 | d :: ds,xs,n+1,h=>by obtain ⟨v,r,rfl,_,h2⟩:=h;exact DmL.drop n h2
theorem DmL.take:∀ {ds:List Qq} {xs:List V} (n:Nat),DmL K F H ds xs->DmL K F H (ds.take n) (xs.take n)
 | ds,xs,0,h=>by rw [List.take_zero,List.take_zero];rfl
 | [],xs,n+1,h=>by rw [show xs=[] from h];rfl
 | d :: ds,xs,n+1,h=>by obtain ⟨v,r,rfl,h1,h2⟩:=h;exact ⟨v,_,rfl,h1,DmL.take n h2⟩
theorem DmL.cut (lo hi:Option Int) (h:DmL K F H ds xs):DmL K F H (cutD ds lo hi) (yX xs lo hi):=by
 unfold cutD yX;rw [h.len];exact (h.drop _).take _
theorem rh (xs:List V) (lo hi:Option Int):(yX xs lo hi).length<=xs.length:=by
 unfold yX;rw [OB,OR];omega
theorem wL (lo hi:Option Int) (h:PyData.strOk x=true):PyData.strOk (g9 x lo hi)=true:=by
 have hm:=jJ h;unfold PyData.strOk g9;rw [Array.all_eq_true'];intro c hc;have:c∈(x.cps.toList.drop (HT.sIx x.length 0 lo)).take (HT.sIx x.length x.length hi - HT.sIx x.length 0 lo):=by simpa using hc
 have:=hm c (List.mem_of_mem_drop (Pb this));simpa using this
theorem C7 {lo hi:Option Int} {x:Qq} {u:V} {pr:PR} {Q:VK} (hf:slD lo hi x=some pr) (hx:Vw K F H x u) (q:∀ w H',aY H H'->Bp K F H H' pr w->Q w H'):HV K lo hi u H Q:=by
 unfold slD at hf;split at hf
 ·cases hf;obtain ⟨a,us,rfl,s1,z1,d1⟩:=o7 hx;exact .inr (.inl ⟨a,us,rfl,s1,fun p hp=>q _ _ (aY.nw _ hp) (J9 hp (Oi (rh _ _ _) z1) (d1.cut lo hi))⟩)
 ·split at hf
  ·cases hf
  rename_i hn;cases hf;obtain ⟨a,us,rfl,s1,z1,d1⟩:=yT hx;exact .inr (.inr ⟨a,us,rfl,s1,by rw [d1.len];exact hn,fun p hp=>q _ _ (aY.nw _ hp) (IH hp (Oi (rh _ _ _) z1) (d1.cut lo hi))⟩)
 ·cases hf;obtain ⟨rfl,l1,o1⟩:=vStr hx;exact .inl ⟨_,rfl,l1,q _ H (aY.rf H) ⟨rfl,Oi (d3 _ _ _) l1,wL lo hi o1⟩⟩
 ·cases hf
end
def He:Prm:=Prm.two (fun K x y H Q=>∃ i,y=.int i/\HV K (some i) none x H Q) (fun x y=>match y with | .int i=>slD (some i) none x | _=>none) fun K F H x y u v pr Q hf hx hy hd q=>by
 split at hf
 ·exact ⟨_,vInt hy,C7 hf hx q⟩
 ·cases hf
def Ej:Prm:=Prm.two (fun K x y H Q=>∃ i,y=.int i/\HV K none (some i) x H Q) (fun x y=>match y with | .int i=>slD none (some i) x | _=>none) fun K F H x y u v pr Q hf hx hy hd q=>by
 split at hf
 ·exact ⟨_,vInt hy,C7 hf hx q⟩
 ·cases hf
def Mb (i j:Int):Prm:=Prm.one (fun K=>HV K (some i) (some j)) (slD (some i) (some j)) fun K F H x u pr Q hf hx hd q=>C7 hf hx q
noncomputable def Mp:Qq->Option PR
 | .str x=>some (.dat (.int x.length))
 | .list xs=>some (.dat (.int xs.length))
 | .tuple xs=>some (.dat (.int xs.length))
 | _=>none
def jV:Prm:=Prm.one (fun K x=>GH K [x]) Mp fun K F H x u pr Q hf hx hd q=>by
 unfold Mp at hf;split at hf
 ·cases hf;obtain ⟨rfl,l1,o1⟩:=vStr hx;exact Fv l1 (q _ H (aY.rf H) rfl)
 ·cases hf;obtain ⟨a,us,rfl,s1,z1,d1⟩:=o7 hx;exact Gr s1 (q _ H (aY.rf H) (by rw [d1.len];rfl))
 ·cases hf;obtain ⟨a,us,rfl,s1,z1,d1⟩:=yT hx;exact E8 s1 (q _ H (aY.rf H) (by rw [d1.len];rfl))
 ·cases hf
theorem jh {X:Cx} {f:Qj} {r:List V->Hp->VK->Prop} {r':V->Hp->VK->Prop} (h:bu X f r) (e:∀ x H Q,r' x H Q->r [x] H Q):bu X f (fun vs H Q=>match vs with | [u]=>r' u H Q | _=>False):=by
 intro pins s Z H xs us Q I rv q
 match xs,q with
 | [x],q=>exact h pins s Z H [x] us Q I rv (e x H Q q)
theorem aW:bu X (.builtin "len") (jV.r X.K):=jh wg fun _ _ _ h=>h
def HU:Prm:=Prm.one (fun _ x=>K1 [x]) (fun x=>match x with | .int i=>some (.dat (.int (if i < 0 then -i else i))) | _=>none) fun K F H x u pr Q hf hx hd q=>by
 split at hf
 ·cases hf;rw [vInt hx];exact Jp (q _ H (aY.rf H) rfl)
 ·cases hf
theorem pB:bu X (.builtin "abs") (HU.r X.K):=jh uV fun _ _ _ h=>h
def J2:Prm:=Prm.one (fun _ x=>DB [x]) (fun x=>match x with | .int i=>some (.dat (.int i)) | .bool k=>some (.dat (.int (if k then 1 else 0))) | _=>none) fun K F H x u pr Q hf hx hd q=>by
 split at hf
 ·cases hf;rw [vInt hx];exact .inl ⟨_,rfl,q _ H (aY.rf H) rfl⟩
 ·cases hf;rw [vBl hx];exact .inr ⟨_,rfl,q _ H (aY.rf H) rfl⟩
 ·cases hf
theorem DV:bu X (.type "int") (J2.r X.K):=jh xj fun _ _ _ h=>h
def ME:Prm:=Prm.two (fun _ x y=>Fj [x,y]) (Bq (fun _ _=>true) fun i j=>.int (if j < i then j else i)) fun K F H x y u v pr Q hf hx hy hd q=>by
 unfold Bq at hf;split at hf
 ·rw [N4 rfl] at hf;cases hf;rw [vInt hx,vInt hy];exact ⟨_,_,rfl,q _ H (aY.rf H) rfl⟩
 ·cases hf
theorem E6 {X:Cx} {f:Qj} {r:List V->Hp->VK->Prop} {r':R2} (h:bu X f r) (e:∀ x y H Q,r' x y H Q->r [x,y] H Q):bu X f (fun vs H Q=>match vs with | [u,v]=>r' u v H Q | _=>False):=by
 intro pins s Z H xs us Q I rv q
 match xs,q with
 | [x,y],q=>exact h pins s Z H [x,y] us Q I rv (e x y H Q q)
theorem De (hc:X.calm=true):bu X (.builtin "min") (ME.r X.K):=E6 (tY hc) fun _ _ _ _ h=>h
def wx (T:String) (x:Qq):Option PR:=match T with
 | "str" => some (.dat (.bool (isS x)))
 | "int" => some (.dat (.bool (isI x)))
 | "bool" => some (.dat (.bool (isB x)))
 | "tuple" => some (.dat (.bool (isT x)))
 | "list" => some (.dat (.bool (isL x)))
 | _=>none
def Il (T:String):Qq->Option PR
 | .dict _=>none
 | x=>wx T x
def J1 (T:String) (K:Fg):V->Hp->VK->Prop:=fun x H Q=>∃ F d b,Vw K F H d x/\Il T d=some (.dat (.bool b))/\Q (.bl b) H
theorem KZ (h:Il T d=some pr):∃ b,pr=.dat (.bool b):=by
 have h:wx T d=some pr:=by cases d <;> first | exact h | cases h
 unfold wx at h;split at h <;> first | (cases h;exact ⟨_,rfl⟩) | cases h
def uE (T:String):Prm:=Prm.one (J1 T) (Il T) fun K F H x u pr Q hf hx hd q=>by
 obtain ⟨b,rfl⟩:=KZ hf;exact ⟨F,x,b,hx,hf,q _ H (aY.rf H) rfl⟩
theorem DU {K:Fg} {T:String} {d:Qq} {b:Bool} (h:Il T d=some (.dat (.bool b))):PySem.W.kitOne K (.type (tyN d)) (.type T)=some b:=by
 have h:wx T d=some (.dat (.bool b)):=by cases d <;> first | exact h | cases h
 unfold wx at h;split at h
 ·cases h;exact LG d
 ·cases h;exact Iw d
 ·cases h;exact Ls d
 ·cases h;exact Kj d
 ·cases h;exact K0 d
 ·cases h
def ND (K:Fg):List V->Hp->VK->Prop:=fun vs H Q=>match vs with | [x,.ty T]=>(uE T).r K [x] H Q | _=>False
theorem Dx {X:Cx}:bu X (.builtin "isinstance") (ND X.K):=by
 intro pins s Z H xs us Q I r h
 match xs,h with
 | [x,.ty T'],h =>
  obtain ⟨F,d,b,hv,hb,q⟩:=h;obtain ⟨u,w',rfl,r1,r2⟩:=vals2 r;cases (show w'=Value.type T' from r2);have e:=DU (K:=X.K) hb;have fin:∀ tk,EP X pins Z Q (.bool b) { s with toks:=tk }:=fun tk=>⟨.bl b,H,I.tok _,rfl,q⟩;cases d with
  | none=>rw [EK hv] at r1;cases (show u=Value.none from r1);exact Pt PySem.W.kitx_none I.kIn True.intro e (fun z=>nomatch z) fin
  | bool y=>rw [vBl hv] at r1;cases (show u=Value.bool y from r1);exact Pt PySem.W.kitx_bool I.kIn True.intro e (fun z=>nomatch z) fin
  | int i=>rw [vInt hv] at r1;obtain ⟨t,q⟩:=(show ∃ t,u=Value.int i t from r1);cases q;exact Pt PySem.W.kitx_int I.kIn True.intro e (fun z=>nomatch z) fin
  | str y=>rw [(vStr hv).1] at r1;obtain ⟨t,q⟩:=(show ∃ t,u=Value.str y t from r1);cases q;exact Pt PySem.W.kitx_str I.kIn True.intro e (fun z=>nomatch z) fin
  | list ds =>
   obtain ⟨a,xs,rfl,l,z,rs⟩:=o7 hv;cases (show u=Value.ref a from r1);obtain ⟨its,rv,⟨o,k,h1,h2,h3,h4⟩,_⟩:=I.list l;exact Pt PySem.W.kitx_list I.kIn ⟨o,h1,h2⟩ e (fun z=>nomatch z) fin
  | tuple ds =>
   obtain ⟨a,xs,rfl,l,z,rs⟩:=yT hv;cases (show u=Value.ref a from r1);obtain ⟨its,rv,⟨o,h1,h2,k,h4⟩,_⟩:=I.tuple l;exact Pt PySem.W.kitx_tuple I.kIn ⟨o,h1,h2⟩ e (fun z=>nomatch z) fin
  | dict ds=>cases hb
noncomputable def BJ:Qq->Option PR
 | .list xs=>some (.dat (.tuple xs))
 | .tuple xs=>some (.dat (.tuple xs))
 | _=>none
def oj:Prm:=Prm.one (fun K x=>BG K [x]) BJ fun K F H x u pr Q hf hx hd q=>by
 unfold BJ at hf;split at hf
 ·cases hf;obtain ⟨a,us,rfl,s1,z1,d1⟩:=o7 hx;exact ⟨a,us,rfl,.inl ⟨s1,fun p hp=>q _ _ (aY.nw _ hp) (IH hp z1 d1)⟩⟩
 ·cases hf;obtain ⟨a,us,rfl,s1,z1,d1⟩:=yT hx;exact ⟨a,us,rfl,.inr ⟨s1,q _ H (aY.rf H) ⟨a,us,rfl,s1,z1,d1⟩⟩⟩
 ·cases hf
theorem gB:bu X (.type "tuple") (oj.r X.K):=jh pv fun _ _ _ h=>h
noncomputable def az (i:Int):Str:=Str.ofString (toString i)
theorem tM (hk:0 < k) (h:i.natAbs < 10 ^ k):(az i).length<=k+1:=by
 unfold az;rw [PySem.ofString_length];exact int_text_length_le10 hk h
theorem ck (s:String):PyData.strOk (Str.ofString s)=true:=by
 rw [Str.ofString_eq_toList];unfold PyData.strOk;rw [Array.all_eq_true'];intro c hc;have:c∈s.toList.map Char.toNat:=by simpa using hc
 obtain ⟨ch,_,rfl⟩:=OE.mp this;have:=ch.valid;simp only [OQ];rcases this with h | ⟨_,h⟩
 ·show ch.val.toNat < _;have:ch.val.toNat < 0xD800:=h;omega
 ·exact h
def Mh:Qq->Option PR
 | .int i=>if i.natAbs < 10 ^ 400 then some (.dat (.str (az i))) else none
 | .str x=>some (.dat (.str x))
 | .none=>some (.dat (.str "None"))
 | _=>none
def yW:Prm:=Prm.one (fun _ x=>Fp [x]) Mh fun K F H x u pr Q hf hx hd q=>by
 unfold Mh at hf;split at hf
 ·split at hf
  ·rename_i i hi;cases hf;rw [vInt hx];have hlog:i.natAbs.log2 < 1920:=by
    by_cases e:i.natAbs=0
    ·rw [e];decide
    ·exact Ob ((Nat.log2_lt e).mpr (Nat.lt_trans hi (by decide +kernel:(10:Nat) ^ 400 < 2 ^ 1900))) (by decide)
   exact .inl ⟨i,rfl,hlog,q _ H (aY.rf H) ⟨rfl,Oi (tM (k:=400) (by decide) hi) (by decide),ck _⟩⟩
  ·cases hf
 ·cases hf;obtain ⟨rfl,l1,o1⟩:=vStr hx;exact .inr (.inr ⟨_,rfl,q _ H (aY.rf H) ⟨rfl,l1,o1⟩⟩)
 ·cases hf;rw [EK hx];exact .inr (.inl ⟨rfl,q _ H (aY.rf H) ⟨rfl,by decide,ck _⟩⟩)
 ·cases hf
theorem eL:bu X (.type "str") (yW.r X.K):=jh wu fun _ _ _ h=>h
noncomputable def jv:List Qq->Option (List Bool)
 | []=>some []
 | .bool b :: r=>match jv r with | some bs=>some (b :: bs) | none=>none
 | _ :: _=>none
theorem vG {K:Fg} {F:Qz->Prop} {H:Hp}:∀ {ds:List Qq} {xs:List V} {bs:List Bool},jv ds=some bs->DmL K F H ds xs->xs=bs.map V.bl
 | [],xs,bs,h,q=>by cases h;exact q
 | .bool b :: r,xs,bs,h,q=>by
  unfold jv at h;split at h
  ·rename_i bs' h';cases h;obtain ⟨v,vr,rfl,h1,h2⟩:=q;rw [vG h' h2,show v=.bl b from h1];rfl
  ·cases h
 | .none :: r,xs,bs,h,q=>by cases h
 | .int _ :: r,xs,bs,h,q=>by cases h
 | .str _ :: r,xs,bs,h,q=>by cases h
 | .list _ :: r,xs,bs,h,q=>by cases h
 | .tuple _ :: r,xs,bs,h,q=>by cases h
 | .dict _ :: r,xs,bs,h,q=>by cases h
def HM:Prm:=Prm.one (fun K x=>Mg K [x]) (fun x=>match x with | .list ds=>(jv ds).map fun bs=>.dat (.bool (bs.all id)) | _=>none) fun K F H x u pr Q hf hx hd q=>by
 split at hf
 ·obtain ⟨bs,e,rfl⟩:=Ou.mp hf;obtain ⟨a,us,rfl,s1,z1,d1⟩:=o7 hx;rw [vG e d1] at s1;exact ⟨a,bs,rfl,s1,q _ H (aY.rf H) rfl⟩
 ·cases hf
theorem uY (hc:X.calm=true):bu X (.builtin "all") (HM.r X.K):=jh (yL hc) fun _ _ _ h=>h
theorem BV {K:Fg} {F:Qz->Prop} {H:Hp}:∀ {ds:List (Qq×Qq)} {xs:List (Qq×V×V)},DmP K F H ds xs->xs.length=ds.length
 | [],xs,h=>by rw [show xs=[] from h];rfl
 | (k,d) :: ds,xs,h=>by obtain ⟨j,v,r,rfl,_,_,_,h2⟩:=h;rw [NV,NV,BV h2]
theorem oq (ha:F a) (e:H a=some o') (w:Wr o'=true):Pr F H (upd H a o):=fun b u q n=>by
 by_cases y:b=a
 ·subst y;rcases n with n | n
  ·exact absurd ha n
  ·rw [e] at q;cases q;rw [n] at w;cases w
 ·rw [aM y];exact q
theorem DmL.set {K:Fg} {F:Qz->Prop} {H:Hp}:∀ {ds:List Qq} {xs:List V} {d:Qq} {v:V} (j:Nat),DmL K F H ds xs->Dm K F H d v->DmL K F H (ds.set j d) (xs.set j v)
 | [],xs,d,v,j,h,q=>by rw [show xs=[] from h];rfl
 | e :: ds,xs,d,v,0,h,q=>by obtain ⟨w,r,rfl,_,h2⟩:=h;exact ⟨v,r,rfl,q,h2⟩
 | e :: ds,xs,d,v,j+1,h,q=>by obtain ⟨w,r,rfl,h1,h2⟩:=h;exact ⟨w,_,rfl,h1,DmL.set j h2 q⟩
def rZ:C5 where
 r:=fun _ o i x H Q=>Fb o i x H Q
 f:=fun d k x=>match d,k with
  | .list xs,.int i=>(ixN xs.length i).map fun j=>.list (xs.set j x)
  | _,_=>none
 ok:=fun K F H d a k x vk vx d' Q hf ha ht hk hx q=>by
  split at hf
  ·obtain ⟨j,e,rfl⟩:=Ou.mp hf;obtain ⟨xs,ea,z,r⟩:=ht;rw [vInt hk];refine ⟨a,xs,_,j,rfl,rfl,ea,by rw [r.len];exact e,q _ (fun b o n e=>by rw [aM n];exact e) ⟨_,aG,by rw [Oq];exact z,(r.set j hx).pr (oq ha ea rfl) fun _ z=>z⟩⟩
  ·cases hf
theorem xZ {K:Fg} {F:Qz->Prop} {H:Hp} {d:Qq} {a:Qz} (h:isL d=true) (t:Top K F H d a):tyV K "list" (.ref a) H:=by
 cases d with
 | list ds=>obtain ⟨xs,e,_⟩:=t;exact .inl ⟨rfl,xs,.inl (.inl e)⟩
 | _=>cases h
def vD:Mtr where
 T := "list"
 r:=fun _=>vO
 ty:=isL
 f:=fun d as=>match d,as with
  | .list xs,[(true,x)]=>if xs.length < sizeLine then some (.list (xs++[x]),.none) else none
  | _,_=>none
 yV:=fun K F H d a h t=>xZ h t
 ok:=fun K F H d a as vs d' x Q hf ha ht _hd hv q=>by
  split at hf
  ·split at hf
   ·rename_i hl;cases hf;obtain ⟨v,r,rfl,hv,rfl⟩:=hv;obtain ⟨xs,ea,z,rx⟩:=ht;refine ⟨a,xs,v,rfl,rfl,ea,by rw [rx.len];exact hl,q _ _ (fun b o n e=>by rw [aM n];exact e) ⟨_,aG,by rw [NS,rx.len];simp;omega,(rx.snoc hv).pr (oq ha ea rfl) fun _ z=>z⟩ rfl⟩
   ·cases hf
  ·cases hf
def Ml:Mtr where
 T := "list"
 r:=qM
 ty:=isL
 f:=fun d as=>match d,as with
  | .list xs,[(_,.list ys)]=>if xs.length+ys.length<=sizeLine then some (.list (xs++ys),.none) else none
  | _,_=>none
 yV:=fun K F H d a h t=>xZ h t
 ok:=fun K F H d a as vs d' x Q hf ha ht _hd hv q=>by
  split at hf
  ·split at hf
   ·rename_i b ys hl;cases hf;have hv':∃ v,vs=[v]/\Vw K F H (.list ys) v:=by
     cases b with
     | true=>obtain ⟨v,r,rfl,hv,rfl⟩:=hv;exact ⟨v,rfl,hv.vw⟩
     | false=>obtain ⟨v,r,rfl,hv,rfl⟩:=hv;exact ⟨v,rfl,hv⟩
    obtain ⟨v,rfl,hv2⟩:=hv';obtain ⟨b',us,rfl,s1,z1,d1⟩:=o7 hv2;obtain ⟨xs,ea,z,rx⟩:=ht;have hl':xs.length+us.length<=sizeLine:=by rw [rx.len,d1.len];exact hl
    refine ⟨a,b',xs,us,rfl,rfl,ea,s1,hl',q _ _ (fun b o n e=>by rw [aM n];exact e) ⟨_,aG,by rw [NS];exact hl',(rx.app d1).pr (oq ha ea rfl) fun _ z=>z⟩ rfl⟩
   ·cases hf
  ·cases hf
noncomputable def strsOf:List Qq->Option (List Str)
 | []=>some []
 | .str x :: r=>match strsOf r with | some xs=>some (x :: xs) | none=>none
 | _ :: _=>none
theorem qV {K:Fg} {F:Qz->Prop} {H:Hp}:∀ {ds:List Qq} {xs:List V} {ss:List Str},strsOf ds=some ss->DmL K F H ds xs->xs=ss.map V.str/\∀ s∈ss,PyData.strOk s=true
 | [],xs,bs,h,q=>by cases h;exact ⟨q,fun s z=>by cases z⟩
 | .str b :: r,xs,bs,h,q=>by
  unfold strsOf at h;split at h
  ·rename_i bs' h';cases h;obtain ⟨v,vr,rfl,h1,h2⟩:=q;obtain ⟨i1,i2⟩:=qV h' h2;refine ⟨by rw [i1,show v=.str b from h1.1];rfl,fun s z=>?_⟩;rcases N9.mp z with rfl | z
   ·exact h1.2.2
   ·exact i2 s z
  ·cases h
 | .none :: r,xs,bs,h,q=>by cases h
 | .int _ :: r,xs,bs,h,q=>by cases h
 | .bool _ :: r,xs,bs,h,q=>by cases h
 | .list _ :: r,xs,bs,h,q=>by cases h
 | .tuple _ :: r,xs,bs,h,q=>by cases h
 | .dict _ :: r,xs,bs,h,q=>by cases h
theorem m6 (g:Array Nat):∀ (ps:List Str) (acc:Array Nat),(ps.foldl (fun acc p=>acc++g++p.cps) acc).size=acc.size+(ps.map fun p=>p.length).sum+ps.length*g.size
 | [],acc=>by simp
 | p :: ps,acc=>by
  rw [Qa,m6 g ps];simp only [List.map_cons,List.sum_cons,NV,Array.size_append,Nat.succ_mul];show acc.size+g.size+p.cps.size+_+_=acc.size+(p.cps.size+_)+_;omega
theorem qy (z:Str) (ss:List Str):(Txt.join z ss).length<=(ss.map (·.length)).sum+ss.length*z.length:=by
 cases ss with
 | nil =>
  have:(Txt.join z []).length=0:=rfl;rw [this];exact O0 _
 | cons x r =>
  show ((r.foldl (fun acc p=>acc++z.cps++p.cps) x.cps)).size<=_;rw [m6];simp only [List.map_cons,List.sum_cons,NV,Nat.succ_mul];show x.cps.size+_+r.length*z.cps.size<=x.cps.size+_+(r.length*z.cps.size+z.cps.size);omega
theorem qW (hg:g.all (· < 0x110000)=true):∀ (ps:List Str) (acc:Array Nat),(∀ p∈ps,PyData.strOk p=true)->acc.all (· < 0x110000)=true->(ps.foldl (fun acc p=>acc++g++p.cps) acc).all (· < 0x110000)=true
 | [],acc,_,h=>h
 | p :: ps,acc,hp,h=>by
  rw [Qa];refine qW hg ps _ (fun q hq=>hp q (NZ _ hq)) ?_;rw [Array.all_append,Array.all_append,h,hg,show p.cps.all (· < 0x110000)=true from hp p N5];rfl
theorem wm (hz:PyData.strOk z=true) (hs:∀ s∈ss,PyData.strOk s=true):PyData.strOk (Txt.join z ss)=true:=by
 cases ss with
 | nil=>exact ck ""
 | cons x r=>exact qW hz r _ (fun q hq=>hs q (NZ _ hq)) (hs x N5)
noncomputable def eD (z:Str) (ss:List Str):Bool:=decide ((ss.map (·.length)).sum+ss.length*z.length<=16777216)
def EZ:Qq->List Qq->Option PR
 | .str z,[.list ds]=>match strsOf ds with | some ss=>if eD z ss=true then some (.dat (.str (Txt.join z ss))) else none | none=>none
 | .str z,[.tuple ds]=>match strsOf ds with | some ss=>if eD z ss=true then some (.dat (.str (Txt.join z ss))) else none | none=>none
 | _,_=>none
theorem ty_str {K:Fg} {F:Qz->Prop} {H:Hp} {d:Qq} {v:V} (h:isS d=true) (t:Vw K F H d v):tyV K "str" v H:=by
 cases d with
 | str x=>rw [(vStr t).1];rfl
 | _=>cases h
def joinM:Mtd where
 T := "str"
 r:=Bd
 ty:=isS
 f:=EZ
 yV:=fun K F H d v h t=>ty_str h t
 ok:=fun K F H d v ds vs pr Q hf hx hv hd q=>by
  unfold EZ at hf;split at hf
  ·rename_i z ds;split at hf
   ·rename_i ss hss;split at hf
    ·rename_i hok;cases hf;obtain ⟨rfl,l1,o1⟩:=vStr hx;obtain ⟨w,r,rfl,hw,rfl⟩:=hv;obtain ⟨a,us,rfl,s1,z1,d1⟩:=o7 hw;obtain ⟨e,os⟩:=qV hss d1;rw [e] at s1;have hok':(ss.map (·.length)).sum+ss.length*z.length<=16777216:=by simpa [eD] using hok
     exact ⟨z,a,ss,rfl,rfl,.inl s1,hok',q _ H (aY.rf H) ⟨rfl,Oi (qy z ss) hok',wm o1 os⟩⟩
    ·cases hf
   ·cases hf
  ·rename_i z ds;split at hf
   ·rename_i ss hss;split at hf
    ·rename_i hok;cases hf;obtain ⟨rfl,l1,o1⟩:=vStr hx;obtain ⟨w,r,rfl,hw,rfl⟩:=hv;obtain ⟨a,us,rfl,s1,z1,d1⟩:=yT hw;obtain ⟨e,os⟩:=qV hss d1;rw [e] at s1;have hok':(ss.map (·.length)).sum+ss.length*z.length<=16777216:=by simpa [eD] using hok
     exact ⟨z,a,ss,rfl,rfl,.inr s1,hok',q _ H (aY.rf H) ⟨rfl,Oi (qy z ss) hok',wm o1 os⟩⟩
    ·cases hf
   ·cases hf
  ·cases hf
def fvP:Prm:=Prm.one (fun _ x H Q=>∃ y,x=.str y/\y.length<=sizeLine/\Q (.str y) H) (fun x=>match x with | .str y=>some (.dat (.str y)) | _=>none) fun K F H x u pr Q hf hx hd q=>by
 split at hf
 ·cases hf;obtain ⟨rfl,l1,o1⟩:=vStr hx;exact ⟨_,rfl,l1,q _ H (aY.rf H) ⟨rfl,l1,o1⟩⟩
 ·cases hf
noncomputable def Fn.no (ms:List PM):Fn:=⟨ms,fun _=>none,fun _=>none⟩
theorem BI {K:Fg} {F:Qz->Prop} {H:Hp}:∀ {ns:List Int},DmL K F H (ns.map .int) (ns.map .int)
 | []=>rfl
 | n :: ns=>⟨_,_,rfl,rfl,BI⟩
theorem Gq {f:Fn} {K:Fg} {H:Hp} {a:Qz} {ns:List Int} (hm:f.ms=[.dat]) (hl:ns.length<=63) (hS:SqL K H a (ns.map V.int)) (hF:f.F [.list (ns.map .int)]=some (.dat (.bool true),[])):jS f K [.ref a] H (fun v _=>v=.bl true) fun _ _ _=>False:=by
 refine ⟨fun _=>False,[.list (ns.map .int)],[],.dat (.bool true),[],hF,?_,fun _ h=>absurd h id,fun v' H' _ r=>r.1⟩;rw [hm];refine ⟨⟨a,ns.map .int,rfl,?_,?_,BI⟩,rfl⟩
 ·rcases hS with hS | hS
  ·exact .inl ⟨id,hS⟩
  ·exact .inr hS
 ·rw [NT];exact Oi hl (by decide)
noncomputable def zV (f:Str):List (Qq×Qq)->Option Qq
 | (.str g,d) :: r=>if g=f then some d else zV f r
 | _=>none
noncomputable def tU (f:Str) (x:Qq):List (Qq×Qq)->Option (List (Qq×Qq))
 | []=>some [(.str f,x)]
 | (.str g,d) :: r=>if g=f then some ((.str g,x) :: r) else (tU f x r).map ((.str g,d) :: ·)
 | _=>none
section
variable {K:Fg} {F:Qz->Prop} {H:Hp} {f:Str}
theorem FI:∀ {xs:List (Qq×V×V)},DmP K F H ds xs->zV f ds=some d->∃ v,(pW xs).lookup f=some v/\Dm K F H d v:=by
 induction ds with
 | nil=>intro xs h e;cases e
 | cons p ds ih =>
  obtain ⟨k0,d'⟩:=p;intro xs h e;obtain ⟨j,v,r,rfl,_,_,h1,h2⟩:=h;cases k0 with
  | str g =>
   have e:(if g=f then some d' else zV f ds)=some d:=e;show ∃ v',List.lookup f ((g,v) :: pW r)=some v'/\_;by_cases q:g=f
   ·rw [N4 q] at e;cases e;subst q;exact ⟨v,by rw [OW,P7],h1⟩
   ·rw [Od q] at e;rw [OW,show (f==g)=false from Pn.mpr fun z=>q z.symm];exact ih h2 e
  | _=>cases e
theorem Fo (hx:Dm K F H x u) (hf:f.length<=sizeLine/\PyData.strOk f=true):∀ {ds':List (Qq×Qq)} {xs:List (Qq×V×V)},DmP K F H ds xs->tU f x ds=some ds'->∃ xs',DmP K F H ds' xs'/\pW xs'=mK f u (pW xs)/\xs'.length<=xs.length+1:=by
 induction ds with
 | nil =>
  intro ds' xs h e;cases e;rw [show xs=[] from h];refine ⟨[(.str f,.str f,u)],?_,rfl,Oc _⟩;exact ⟨.str f,u,[],rfl,rfl,⟨rfl,hf⟩,hx,rfl⟩
 | cons p ds ih =>
  obtain ⟨k0,d⟩:=p;intro ds' xs h e;obtain ⟨j,v,r,rfl,k,h0,h1,h2⟩:=h;cases k0 with
  | str g =>
   have e:(if g=f then some ((PyData.str g,x) :: ds) else (tU f x ds).map ((PyData.str g,d) :: ·))=some ds':=e;show ∃ xs',_/\pW xs'=(if g=f then (g,u) :: pW r else (g,v) :: mK f u (pW r))/\_;by_cases q:g=f
   ·rw [N4 q] at e ⊢;cases e;refine ⟨(.str g,j,u) :: r,?_,rfl,P5 _⟩;exact ⟨j,u,r,rfl,k,h0,hx,h2⟩
   ·rw [Od q] at e ⊢;obtain ⟨ds2,e2,rfl⟩:=Ou.mp e;obtain ⟨xs',a,b,c⟩:=ih h2 e2;refine ⟨(.str g,j,v) :: xs',?_,by rw [<- b];rfl,Nat.succ_le_succ c⟩;exact ⟨j,v,xs',rfl,k,h0,h1,a⟩
  | _=>cases e
end
def MT (f:Str) (K:Fg):V->Hp->VK->Prop:=fun x H Q=>∃ a dx fs v,x=.ref a/\H a=some (.ins clsAt dx fs)/\fs.lookup f=some v/\Q v H
def sR (f:Str):Prm:=Prm.one (MT f) (fun d=>match d with | .dict kvs=>(zV f kvs).map .dat | _=>none) fun K F H x u pr Q hf hx hd q=>by
 split at hf
 ·obtain ⟨d,e,rfl⟩:=Ou.mp hf;obtain ⟨a,rfl,ep,xs,ea,_,r⟩:=hx;obtain ⟨v,ev,dv⟩:=FI r e;exact ⟨a,ep,_,v,rfl,ea,ev,q _ H (aY.rf H) dv⟩
 ·cases hf
def A6 (f:Str):C5 where
 r:=fun K o _ x H Q=>∃ a dx fs,o=.ref a/\H a=some (.ins clsAt dx fs)/\fs.length < 1000/\Q (upd H a (.ins clsAt dx (mK f x fs)))
 f:=fun d _ x=>match d with
  | .dict kvs=>if f.length<=sizeLine/\PyData.strOk f=true/\kvs.length < 1000 then (tU f x kvs).map .dict else none
  | _=>none
 ok:=fun K F H d a k x vk vx d' Q hf ha ht hk hx q=>by
  split at hf
  ·split at hf
   ·rename_i kvs h;obtain ⟨ds',e,rfl⟩:=Ou.mp hf;obtain ⟨ep,xs,ea,z,r⟩:=ht;obtain ⟨xs',r',b,c⟩:=Fo hx ⟨h.1,h.2.1⟩ r e;have hl:xs.length < 1000:=by rw [BV r];exact h.2.2
    refine ⟨a,ep,pW xs,rfl,ea,by unfold pW;rw [NT];exact hl,q _ (fun b o n e=>by rw [aM n];exact e) ⟨ep,xs',by rw [b];exact aG,by rw [PJ];omega,r'.pr (oq ha ea rfl) fun _ z=>z⟩⟩
   ·cases hf
  ·cases hf
section
variable {X:Cx} {o e value:Expr} {f:Str} {pos pos':Pos} {ta tv:TE}
theorem Na (c:Cls X.K clsAt) (n:eQ X.K clsAt f) (he:JE X e ta) (hb:attributeBase e f X.env (eval e X.env)=eval e X.env):JE X (.Attribute e f pos) (fun Z H Q=>ta Z H fun x H1=>(sR f).r X.K [x] H1 Q):=⟨by
 intro pins s Z H Q I h;refine vC hb (thn (he.h pins s Z H _ I h) fun u s1 ⟨x,H1,I1,rx,a,dx,fs,v,ex,ea,l,q⟩=>?_);subst ex;obtain rfl:u=Value.ref a:=rx
 exact tm I1 ea c n l fun u' s2 I2 ru=>⟨v,H1,I2,ru,q⟩⟩
theorem Lu (c:Cls X.K clsAt) (n:eQ X.K clsAt f) (ha:JE X o ta) (hv:JE X value tv) (hs:swapsWith value (some (.Attribute o f pos')) pos.line X.env=pure false) :
  JS X (.Assign [.Attribute o f pos'] value pos) (fun D Z H=>tv Z H fun x H1=>ta Z H1 fun y H2=>(A6 f).r X.K y .non x H2 (D.nx Z)):=⟨by
 intro pins s Z H D I h;refine plainObj_wpAny_Assign_Attribute (thn (hv.h pins s Z H _ I h) fun u s1 ⟨y,H1,I1,ry,q⟩=>thn (ha.h pins s1 Z H1 _ I1 q) fun ov s2 ⟨x,H2,I2,rx,a,dx,fs,ex,ea,l,q2⟩=>?_) hs;subst ex;obtain rfl:ov=Value.ref a:=rx
 exact sL I2 ea c n l ry fun s3 I3=>⟨Z,_,I3,q2⟩⟩
end
noncomputable def ID:Qq->Bool
 | .list _=>false
 | .dict _=>false
 | _=>true
noncomputable def Mw:Qq->Bool
 | .str _=>true
 | .int _=>true
 | _=>false
def o3:List PM->List (Bool×Qq)->Bool
 | [],[]=>true
 | .dat :: r,p :: s=>(p.1||ID p.2)&&o3 r s
 | _,_=>false
def Cv:List PM->List Qq->Bool
 | [],[]=>true
 | .dat :: r,p :: s=>Mw p&&Cv r s
 | _,_=>false
section
variable {K:Fg} {F:Qz->Prop} {H:Hp}
theorem K5 (h:Vw K F H d v) (e:ID d=true):Dm K F H d v:=by
 cases d <;> first | exact h | cases e
theorem Dd:∀ {as:List (Bool×Qq)} {vs:List V},MvL K F H as vs->o3 ms as=true->bH K F I H ms (as.map (·.2)) vs []:=by
 induction ms with
 | nil =>
  intro as vs h e;cases as with
  | nil=>rw [show vs=[] from h];rfl
  | cons=>cases e
 | cons m ms ih =>
  intro as vs h e;cases as with
  | nil=>cases m <;> cases e
  | cons p as =>
   cases m with
   | dat =>
    obtain ⟨b,d⟩:=p;have e:((b||ID d)&&o3 ms as)=true:=e;rw [Ot] at e;cases b with
    | true=>obtain ⟨v,r,rfl,h1,h2⟩:=h;exact ⟨h1,ih h2 e.2⟩
    | false=>obtain ⟨v,r,rfl,h1,h2⟩:=h;exact ⟨K5 h1 e.1,ih h2 e.2⟩
   | _=>cases e
theorem CB:∀ {ds:List Qq} {vs:List V},VwL K F H ds vs->Cv ms ds=true->bH K F' I H' ms ds vs []:=by
 induction ms with
 | nil =>
  intro ds vs h e;cases ds with
  | nil=>rw [show vs=[] from h];rfl
  | cons=>cases e
 | cons m ms ih =>
  intro ds vs h e;cases ds with
  | nil=>cases m <;> cases e
  | cons d ds =>
   cases m with
   | dat =>
    have e:(Mw d&&Cv ms ds)=true:=e;rw [Ot] at e;obtain ⟨v,r,rfl,h1,h2⟩:=h;refine ⟨?_,ih h2 e.2⟩;cases d with
    | str x=>exact h1
    | int i=>exact h1
    | _=>cases e.1
   | _=>cases e
end
def cy (m:Str) (f:Fn):Mtr where
 T := ""
 tq:=fun _ x H=>∃ a dx fs,x=.ref a/\H a=some (.ins clsAt dx fs)/\fs.lookup m=none
 r:=fun K x vs H Q=>jS f K (x :: vs) H Q NoE
 ty:=fun d=>match d with | .dict kvs=>Be m kvs | _=>false
 f:=fun d as=>match f.ms with
  | .ino :: ms=>if o3 ms as=true then match f.F (d :: as.map (·.2)) with | some (.dat x,[d'])=>some (d',x) | _=>none else none
  | _=>none
 yV:=fun K F H d a h t=>by
  cases d with
  | dict kvs=>obtain ⟨ep,xs,ea,_,r⟩:=t;exact ⟨a,ep,_,rfl,ea,FE r h⟩
  | _=>cases h
 ok:=fun K F H d a as vs d' x Q hf ha ht hd hv q=>by
  split at hf
  ·rename_i ms hms;split at hf
   ·rename_i hm;split at hf
    ·rename_i x' d'' hF;cases hf;refine ⟨F,d :: as.map (·.2),[a],.dat x,[d'],hF,?_,hd,fun v' H' hk hr=>?_⟩
     ·rw [hms];exact ⟨a,[],rfl,rfl,ha,ht,by simp,Dd hv hm⟩
     ·exact q v' H' (fun b o n e=>hk b o e (by simp [n])) hr.2.1 hr.1
    ·cases hf
   ·cases hf
  ·cases hf
def HP (f:Fn):Prm where
 r:=fun K vs H Q=>∀ x dx,H x=none->H dx=none->dx≠x->jS f K (.ref x :: vs) (upd (upd H dx (.own x)) x (.ins clsAt dx [])) (fun v H2=>v=.non/\Q (.ref x) H2) NoE
 f:=fun ds=>match f.ms with
  | .ino :: ms=>if Cv ms ds=true then match f.F (.dict [] :: ds) with | some (.dat .none,[d])=>some (.frs d) | _=>none else none
  | _=>none
 ok:=fun K F H ds vs pr Q hf hv hd q=>by
  split at hf
  ·rename_i ms hms;split at hf
   ·rename_i hm;split at hf
    ·rename_i d hF;cases hf;intro x dx hx hdx ne;have kp:∀ b o,H b=some o->b≠x/\upd (upd H dx (.own x)) x (.ins clsAt dx []) b=some o:=fun b o e=>by
      have n1:b≠x:=fun z=>by rw [z,hx] at e;cases e
      have n2:b≠dx:=fun z=>by rw [z,hdx] at e;cases e
      exact ⟨n1,by rw [aM n1,aM n2];exact e⟩
     refine ⟨fun b=>F b\/b=x,.dict [] :: ds,[x],.dat .none,[d],hF,?_,?_,fun v' H' hk hr=>?_⟩
     ·rw [hms];exact ⟨x,[],rfl,rfl,.inr rfl,⟨dx,[],aG,O0 _,rfl⟩,by simp,CB hv hm⟩
     ·rintro b (z | rfl)
      ·cases e:H b with
       | none=>exact absurd e (hd b z)
       | some o=>rw [(kp b o e).2];exact fun z=>nomatch z
      ·rw [aG];exact fun z=>nomatch z
     ·exact ⟨hr.1,q (.ref x) H' (fun b o e=>hk b o (kp b o e).2 (by simp [(kp b o e).1])) ⟨x,rfl,hx,hr.2.1⟩⟩
    ·cases hf
   ·cases hf
  ·cases hf
section
variable {X:Cx} {CX:CXT} {k:Nat} {f:Qz} {fd:FuncData} {ps:List Str} {fn:Fn} {x m:Str} {p pos apos:Pos} {e o:Expr} {es:List Expr} {i:Nat} {t:TA}
theorem MK (he:JE X o (fE i)) (c:Cls X.K clsAt) (hm:Meth X.K clsAt m f) (F:de X.prog X.w X.K X.mg X.base CX k f fd ps (jS fn X.K)) (hr:dh k X.A) (hb:Binds X.K fd ps []) (hx:Passes CX X NoE) (ha:JA X (e :: es) t)
  (hst:starEach (e :: es) X.env=(false,eval e X.env) :: starEach es X.env) (hpl:(backTo pos (starEach es X.env)).any (·.1)=false)
  (ht:eval (.Call (.Attribute o m apos) (e :: es) [] pos) X.env=(do
   let ov<-eval o X.env
   standAt apos.atName
   let (f,first)<-holding [ov] (getMethod ov m pl)
   callWith pos f first (backTo pos (starEach (e :: es) X.env)) (backToKw pos (keywordEach [] X.env)))) :
  JE X (.Call (.Attribute o m apos) (e :: es) [] pos) (fun Z H Q=>fE i Z H fun x H1=>(cy m fn).tq X.K x H1/\t Z H1 fun xs H2=>(cy m fn).r X.K x xs H2 Q):=⟨fun pins s Z H Q I h=>by
 refine yO (pl:=pl) he.h c hm F hr hb .nil hx ha.h hst hpl ht pins s Z H Q I ?_;obtain ⟨v,hv,⟨a,dx,fs,e1,e2,e3⟩,q⟩:=h;refine ⟨v,hv,a,dx,fs,e1,e2,e3,?_⟩;simp only [Oz]
 exact q⟩
theorem IC (he:JE X o (fE i)) (c:Cls X.K clsAt) (hm:Meth X.K clsAt m f) (F:de X.prog X.w X.K X.mg X.base CX k f fd ps (jS fn X.K)) (hr:dh k X.A) (hb:Binds X.K fd ps []) (hx:Passes CX X NoE)
  (ht:eval (.Call (.Attribute o m apos) [] [] pos) X.env=(do
   let ov<-eval o X.env
   standAt apos.atName
   let (f,first)<-holding [ov] (getMethod ov m pl)
   callWith pos f first (backTo pos (starEach [] X.env)) (backToKw pos (keywordEach [] X.env)))) :
  JE X (.Call (.Attribute o m apos) [] [] pos) (fun Z H Q=>fE i Z H fun x H1=>(cy m fn).tq X.K x H1/\rl Z H1 fun xs H2=>(cy m fn).r X.K x xs H2 Q):=⟨fun pins s Z H Q I h=>by
 refine zE (pl:=pl) he.h c hm F hr hb .nil hx ht pins s Z H Q I ?_;obtain ⟨v,hv,⟨a,dx,fs,e1,e2,e3⟩,q⟩:=h
 exact ⟨v,hv,a,dx,fs,e1,e2,e3,q⟩⟩
theorem eNew (M:Mk X.K clsAt f) (F:de X.prog X.w X.K X.mg X.base CX k f fd ps (jS fn X.K)) (hr:dh (k+1) X.A) (hg:Gl X x) (hm:X.mg x=some (.ref clsAt)) (hb:Binds X.K fd ps []) (hx:Passes CX X NoE)
  (ha:JA X (e :: es) t) (hdb:(x==("__debug__" : Str))=false) (he:starEach (e :: es) X.env=(false,eval e X.env) :: starEach es X.env) (hpl:(backTo pos (starEach es X.env)).any (·.1)=false) :
  JE X (.Call (.Name x p) (e :: es) [] pos) (tCB ((HP fn).r X.K) t):=⟨fun pins s Z H Q I h=>by
 refine DC M F hr hg hm hb .nil hx ha.h hdb he hpl pins s Z H Q I ?_;show t Z H fun vs H1=>_;simp only [Oz]
 exact h⟩
end
def yQ (d:Qq):Bool:=noD d&&decide (d.depth<=32)
noncomputable def kQ (ds:List Qq) (x:Qq):Bool:=ds.any fun d=>PyData.eqv d x
noncomputable def ngB (neg b:Bool):Bool:=if neg then !b else b
def Nj (neg:Bool) (K:Fg):R2:=rOr (fun x y H Q=>∃ i j,x=.str i/\y=.str j/\Q (.bl (ngB neg (!(Builtin.Str.occurrences j i 0 j.length 1).isEmpty))) H)
 fun x y H Q=>∃ (p:Qz) (xs:List V) (F:Qz->Prop) (d:Qq) (ds:List Qq),y=.ref p/\(SqL K H p xs\/SqT K H p xs)/\Vw K F H d x/\DmL K F H ds xs/\yQ d=true/\fN ds=true/\Q (.bl (ngB neg (kQ ds d))) H
def inD (neg:Bool):Qq->Qq->Option PR
 | .str i,.str j=>some (.dat (.bool (ngB neg (!(Builtin.Str.occurrences j i 0 j.length 1).isEmpty))))
 | x,.list ds=>if yQ x=true/\fN ds=true then some (.dat (.bool (ngB neg (kQ ds x)))) else none
 | x,.tuple ds=>if yQ x=true/\fN ds=true then some (.dat (.bool (ngB neg (kQ ds x)))) else none
 | _,_=>none
def HQ (neg:Bool):Prm:=Prm.two (Nj neg) (inD neg) fun K F H x y u v pr Q hf hx hy hd q=>by
 unfold inD at hf;split at hf
 ·cases hf;exact .inl ⟨_,_,(vStr hx).1,(vStr hy).1,q _ H (aY.rf H) rfl⟩
 ·split at hf
  ·rename_i h;cases hf;obtain ⟨a,us,rfl,s1,z1,d1⟩:=o7 hy;exact .inr ⟨a,us,F,_,_,rfl,.inl s1,hx,d1,h.1,h.2,q _ H (aY.rf H) rfl⟩
  ·cases hf
 ·split at hf
  ·rename_i h;cases hf;obtain ⟨a,us,rfl,s1,z1,d1⟩:=yT hy;exact .inr ⟨a,us,F,_,_,rfl,.inr s1,hx,d1,h.1,h.2,q _ H (aY.rf H) rfl⟩
  ·cases hf
 ·cases hf
abbrev inP:Prm:=HQ false
abbrev wV:Prm:=HQ true
open Classical in
noncomputable def eqR (h:Heap) (x:Qq) (u:Qj):Bool:=if q:∃ d as,Reads h u d as then PyData.eqv (Classical.choose q) x else false
theorem BQ (r:Reads h u d as):eqR h x u=PyData.eqv d x:=by
 have q:∃ d as,Reads h u d as:=⟨d,as,r⟩;unfold eqR;rw [dif_pos q];obtain ⟨bs,r2⟩:=Classical.choose_spec q;rw [(PySem.Reads.unique r _ _ r2).1]
section
variable {X:Cx} {pins:List (Qz×Obj)} {Z:St} {s:Qx} {H:Hp} {F:Qz->Prop}
theorem jC (I:Inv X pins Z H s) (x:Qq):∀ {ds:List Qq} {xs:List V} {us:List Qj},DmL X.K F H ds xs->fN ds=true->Vals xs us->us.any (eqR s.heap x)=kQ ds x
 | [],xs,us,h,_,r=>by rw [show xs=[] from h] at r;cases r;rfl
 | d :: ds,xs,us,h,n,r=>by
  obtain ⟨v,t,rfl,h1,h2⟩:=h;have n':noD d=true/\fN ds=true:=by simpa [fN] using n
  cases r with
  | cons r1 r2 =>
   obtain ⟨as,ra⟩:=h1.reads I n'.1 r1;rw [List.any_cons,BQ ra,jC I x h2 n'.2 r2];rfl
theorem je (I:Inv X pins Z H s) (rb:Reads s.heap b x bs) (hb:x.canLay0=true) (hu:A.units+x.depth < cLine):∀ {ds:List Qq} {xs:List V} {us:List Qj},DmL X.K F H ds xs->fN ds=true->Vals xs us->∀ u∈us,SeqAt.EqAt A s u b (eqR s.heap x u)
 | [],xs,us,h,_,r=>by rw [show xs=[] from h] at r;cases r;intro u hu;cases hu
 | d :: ds,xs,us,h,n,r=>by
  obtain ⟨v,t,rfl,h1,h2⟩:=h;have n':noD d=true/\fN ds=true:=by simpa [fN] using n
  cases r with
  | cons r1 r2 =>
   intro u hm;rcases N9.mp hm with rfl | hm
   ·obtain ⟨as,ra⟩:=h1.reads I n'.1 r1;rw [BQ ra];exact SeqAt.eqAt_reads d x A s _ b as bs ra rb (h1.lay n'.1) hb (by omega)
   ·exact je I rb hb hu h2 n'.2 r2 u hm
end
theorem bS (hu:X.A.units+64 < cLine):OpR X (compareOp .In) (fun x y=>inP.r X.K [x,y]):=by
 refine orR EV ?_;intro pins s Z H x y v u Q I rx ry h;obtain ⟨p,xs,F,d,ds,rfl,hq,hd,hs,o1,o2,q⟩:=h;have o1':noD d=true/\d.depth<=32:=by simpa [yQ] using o1
 cases ry;obtain ⟨bs,rb⟩:=hd.reads I o1'.1 rx;rcases hq with hq | hq
 ·obtain ⟨its,r,pl,hz⟩:=I.list hq;refine SeqAt.in_listAt (eqR s.heap d) pl.isList (fun w hw=>je I rb (hd.lay o1'.1) (by have:X.A.in1.units=X.A.units+1:=rfl;omega) hs o2 r w (by simpa using hw)) ⟨.bl _,H,I,rfl,?_⟩;rw [show its.toArray.any (eqR s.heap d)=its.any (eqR s.heap d) by simp,jC I d hs o2 r];exact q
 ·obtain ⟨its,r,pl,hz⟩:=I.tuple hq;refine SeqAt.in_tupleAt (eqR s.heap d) pl (fun w hw=>je I rb (hd.lay o1'.1) (by have:X.A.in1.units=X.A.units+1:=rfl;omega) hs o2 r w (by simpa using hw)) ⟨.bl _,H,I,rfl,?_⟩;rw [show its.toArray.any (eqR s.heap d)=its.any (eqR s.heap d) by simp,jC I d hs o2 r];exact q
theorem xu (hu:X.A.units+64 < cLine):OpR X (compareOp .NotIn) (fun x y=>wV.r X.K [x,y]):=by
 refine orR xM ?_;intro pins s Z H x y v u Q I rx ry h;obtain ⟨p,xs,F,d,ds,rfl,hq,hd,hs,o1,o2,q⟩:=h;have o1':noD d=true/\d.depth<=32:=by simpa [yQ] using o1
 cases ry;obtain ⟨bs,rb⟩:=hd.reads I o1'.1 rx;rcases hq with hq | hq
 ·obtain ⟨its,r,pl,hz⟩:=I.list hq;refine SeqAt.notIn_listAt (eqR s.heap d) pl.isList (fun w hw=>je I rb (hd.lay o1'.1) (by have:X.A.in1.units=X.A.units+1:=rfl;omega) hs o2 r w (by simpa using hw)) ⟨.bl _,H,I,rfl,?_⟩;rw [show its.toArray.any (eqR s.heap d)=its.any (eqR s.heap d) by simp,jC I d hs o2 r];exact q
 ·obtain ⟨its,r,pl,hz⟩:=I.tuple hq;refine SeqAt.notIn_tupleAt (eqR s.heap d) pl (fun w hw=>je I rb (hd.lay o1'.1) (by have:X.A.in1.units=X.A.units+1:=rfl;omega) hs o2 r w (by simpa using hw)) ⟨.bl _,H,I,rfl,?_⟩;rw [show its.toArray.any (eqR s.heap d)=its.any (eqR s.heap d) by simp,jC I d hs o2 r];exact q
theorem de.no {P:Program} {w:World} {K:Fg} {mg:Str->Option Qj} {base:Heap} {k:Nat} {f:Qz} {fd:FuncData} {ps:List Str} {sp:Sp} {x qual:Str} {st:Stmt} {N:List Str} (F:Fun K x qual st f fd) (S:bZ N ps (ag st)) (h:∀ vs H Q E,¬sp vs H Q E):de P w K mg base CX0 (k+1) f fd ps sp :=
 F.okJ S (fun vs H Q E z=>(h vs H Q E z).elim) (fun cdv A outer s H vs Q E hr z=>(h vs H Q E z).elim)
end L2
namespace L2
open PySem
structure Kn where
 nx:En->Prop
 rt:RV->En->Prop
 bk:En->Prop
 ct:En->Prop
def Kn.at (E:Kn):Out->Prop | .nx e=>E.nx e | .rt r e=>E.rt r e | .bk e=>E.bk e | .ct e=>E.ct e
def WS (gd:List Qq) (s:XS) (env:En) (E:Kn):Prop:=∃ o,dS gd s env=some o/\E.at o
def WE (gd:List Qq) (e:XE) (env:En) (Q:RV->En->Prop):Prop:=∃ r e',dE gd e env=some (r,e')/\Q r e'
def WA (gd:List Qq) (e:XA) (env:En) (Q:List AV->En->Prop):Prop:=∃ r e',dA gd e env=some (r,e')/\Q r e'
def WT (gd:List Qq) (e:XT) (env:En) (Q:Bool->En->Prop):Prop:=∃ r e',dT gd e env=some (r,e')/\Q r e'
def WI (gd:List Qq) (e:XI) (env:En) (Q:List Qq->Option Nat->En->Prop):Prop:=∃ ds lk e',dI gd e env=some (ds,lk,e')/\Q ds lk e'
def WF (f:Fn) (ds:List Qq) (Q:PR->List Qq->Prop):Prop:=∃ pr outs,f.F ds=some (pr,outs)/\Q pr outs
def WPr (p:Prm) (avs:List AV) (e:En) (Q:RV->En->Prop):Prop:=∃ ds pr,aK e avs=some ds/\p.f ds=some pr/\Q pr.rv e
def WBo (r:RV) (P:Bool->Prop):Prop:=∃ k,r=.dat (.bool k)/\P k
def Dk (i:Nat) (r:RV) (e:En) (N:En->Prop):Prop:=∃ d,r.av=.dat d/\free e i=true/\N (e.set i (.dat d))
def su (i:Nat) (r:RV) (e:En) (N:En->Prop):Prop:=∃ d,r=.frs d/\free e i=true/\N (e.set i (.own d))
def Mr (b:Qq->En->Option Out) (ds:List Qq) (lk:Option Nat) (e1:En) (E:Kn):Prop:=∃ o,lk=none/\forL b ds e1=some o/\E.at o
def lT (f:Fn) (avs:List AV) (e:En) (Q:RV->En->Prop):Prop:=∃ rv e',lh f avs e=some (rv,e')/\Q rv e'
def Eo (ms:List PM) (QF:PR->List Qq->Prop) (r:RV) (e:En):Prop:=∃ pr outs,r.pr=some pr/\ix ms e=some outs/\QF pr outs
def sW (ms:List PM) (QF:PR->List Qq->Prop) (e:En):Prop:=∃ outs,ix ms e=some outs/\QF (.dat .none) outs
def Cc (m:C5) (i:Nat) (v:Qq) (rk:RV) (e2:En) (N:En->Prop):Prop:=∃ dk d d',rk.view e2=some dk/\aR e2 i=some d/\m.f d dk v=some d'/\N (gr e2 i d')
def Gj (gd:List Qq) (m:C5) (i:Nat) (a:XE) (r:RV) (e:En) (N:En->Prop):Prop:=∃ v,r.av=.dat v/\(aR e i).isSome=true/\WE gd a e fun rk e2=>Cc m i v rk e2 N
def AM (m:Mtd) (r:RV) (avs:List AV) (e2:En) (Q:RV->En->Prop):Prop:=∃ d ds pr,r.view e2=some d/\aK e2 avs=some ds/\m.f d ds=some pr/\Q pr.rv e2
def Gm (gd:List Qq) (m:Mtd) (as:XA) (r:RV) (e:En) (Q:RV->En->Prop):Prop:=∃ d0,r.view e=some d0/\m.ty d0=true/\WA gd as e fun avs e2=>AM m r avs e2 Q
def WMr (m:Mtr) (i:Nat) (avs:List AV) (e2:En) (Q:RV->En->Prop):Prop:=∃ d ds d' x,aR e2 i=some d/\cO e2 avs=some ds/\m.f d ds=some (d',x)/\Q (.dat x) (gr e2 i d')
def WTp (mk:List Qq->RV) (avs:List AV) (e:En) (Q:RV->En->Prop):Prop:=∃ ds,lU avs=some ds/\ds.length<=sizeLine/\Q (mk ds) e
def Es (is:List Nat) (r:RV) (e:En) (N:En->Prop):Prop:=∃ ds e2,r.av=.dat (.tuple ds)/\nQ e is ds=some e2/\N e2
theorem kPr {p:Prm} {avs:List AV} {e:En} {Q:RV->En->Prop} {ds:List Qq} {pr:PR} (h1:aK e avs=some ds) (h2:p.f ds=some pr) (q:Q pr.rv e):WPr p avs e Q:=⟨_,_,h1,h2,q⟩
theorem kBo {P:Bool->Prop} {k:Bool} (q:P k):WBo (.dat (.bool k)) P:=⟨_,rfl,q⟩
theorem kAs {i:Nat} {r:RV} {e:En} {N:En->Prop} {d:Qq} (h1:r.av=.dat d) (h2:free e i=true) (q:N (e.set i (.dat d))):Dk i r e N:=⟨_,h1,h2,q⟩
theorem kAO {i:Nat} {r:RV} {e:En} {N:En->Prop} {d:Qq} (h1:r=.frs d) (h2:free e i=true) (q:N (e.set i (.own d))):su i r e N:=⟨_,h1,h2,q⟩
theorem kFi {ms:List PM} {QF:PR->List Qq->Prop} {r:RV} {e:En} {pr:PR} {outs:List Qq} (h1:r.pr=some pr) (h2:ix ms e=some outs) (q:QF pr outs):Eo ms QF r e:=⟨_,_,h1,h2,q⟩
theorem kFN {ms:List PM} {QF:PR->List Qq->Prop} {e:En} {outs:List Qq} (h2:ix ms e=some outs) (q:QF (.dat .none) outs):sW ms QF e:=⟨_,h2,q⟩
theorem kS2 {m:C5} {i:Nat} {v dk d d':Qq} {rk:RV} {e:En} {N:En->Prop} (h1:rk.view e=some dk) (h2:aR e i=some d) (h3:m.f d dk v=some d') (q:N (gr e i d')):Cc m i v rk e N:=⟨_,_,_,h1,h2,h3,q⟩
theorem kS1 {gd:List Qq} {m:C5} {i:Nat} {a:XE} {v:Qq} {r:RV} {e:En} {N:En->Prop} (h1:r.av=.dat v) (h2:(aR e i).isSome=true) (q:WE gd a e fun rk e2=>Cc m i v rk e2 N):Gj gd m i a r e N:=⟨_,h1,h2,q⟩
theorem kM2 {m:Mtd} {r:RV} {avs:List AV} {e:En} {Q:RV->En->Prop} {d:Qq} {ds:List Qq} {pr:PR} (h1:r.view e=some d) (h2:aK e avs=some ds) (h3:m.f d ds=some pr) (q:Q pr.rv e):AM m r avs e Q:=⟨_,_,_,h1,h2,h3,q⟩
theorem kM1 {gd:List Qq} {m:Mtd} {as:XA} {r:RV} {e:En} {Q:RV->En->Prop} {d:Qq} (h1:r.view e=some d) (h2:m.ty d=true) (q:WA gd as e fun avs e2=>AM m r avs e2 Q):Gm gd m as r e Q:=⟨_,h1,h2,q⟩
theorem kMr {m:Mtr} {i:Nat} {avs:List AV} {e:En} {Q:RV->En->Prop} {d d' x:Qq} {ds:List (Bool×Qq)} (h1:aR e i=some d) (h2:cO e avs=some ds) (h3:m.f d ds=some (d',x)) (q:Q (.dat x) (gr e i d')):WMr m i avs e Q:=⟨_,_,_,_,h1,h2,h3,q⟩
theorem kTp {mk:List Qq->RV} {avs:List AV} {e:En} {Q:RV->En->Prop} {ds:List Qq} (h1:lU avs=some ds) (h2:ds.length<=sizeLine) (q:Q (mk ds) e):WTp mk avs e Q:=⟨_,h1,h2,q⟩
theorem kAT {is:List Nat} {r:RV} {e e2:En} {N:En->Prop} {ds:List Qq} (h1:r.av=.dat (.tuple ds)) (h2:nQ e is ds=some e2) (q:N e2):Es is r e N:=⟨_,_,h1,h2,q⟩
section
variable {gd:List Qq} {env e1:En} {E:Kn} {Q:RV->En->Prop} {QA:List AV->En->Prop} {QT:Bool->En->Prop} {QI:List Qq->Option Nat->En->Prop} {i:Nat} {d:Qq} {a b c:XE} {as:XA} {s t:XS} {p:Prm} {f:Fn} {x y:XT}
theorem dw (hl:ds.length=ms.length) (h:WS gd s (aC ms ds n) ⟨sW ms QF,Eo ms QF,fun _=>False,fun _=>False⟩):WF (bO gd ms n s) ds QF:=by
 obtain ⟨o,ho,q⟩:=h;unfold WF bO;simp only;rw [N4 hl,ho];cases o with
 | nx e=>obtain ⟨outs,h1,h2⟩:=q;simp only [h1];exact ⟨_,_,rfl,h2⟩
 | rt r e=>obtain ⟨pr,outs,h1,h2,h3⟩:=q;simp only [h1,h2];exact ⟨_,_,rfl,h3⟩
 | bk e=>exact absurd q id
 | ct e=>exact absurd q id
theorem oK (h:WS gd s env { E with nx:=fun e=>WS gd t e E }):WS gd (.seq s t) env E:=by
 obtain ⟨o,ho,q⟩:=h;unfold WS;simp only [dS,ho];cases o with
 | nx e=>exact q
 | rt r e=>exact ⟨_,rfl,q⟩
 | bk e=>exact ⟨_,rfl,q⟩
 | ct e=>exact ⟨_,rfl,q⟩
theorem cV (h:∀ N:En->Prop,N=(fun e=>WS gd t e E)->WS gd s env { E with nx:=N }):WS gd (.seq s t) env E:=oK (h _ rfl)
theorem gf {e:En} {x y:AV} {i:Int} {xs:List Qq} (h1:aK e [x,y]=some [.list xs,.int i]) (h:atI xs i=some d) (q:Q (.dat d) e):WPr ixP [x,y] e Q:=⟨_,.dat d,h1,by show (atI xs i).map PR.dat=_;rw [h];rfl,q⟩
theorem fD {e:En} {x y:AV} {i:Int} {z:Str} {c:Nat} (h1:aK e [x,y]=some [.str z,.int i]) (h:atI z.cps.toList i=some c) (q:Q (.dat (.str ⟨#[c]⟩)) e):WPr ixP [x,y] e Q:=⟨_,.dat (.str ⟨#[c]⟩),h1,by show (atI z.cps.toList i).map _=_;rw [h];rfl,q⟩
theorem Bf (h:E.nx env):WS gd .skip env E:=⟨_,rfl,h⟩
theorem Bi (h:E.rt (.dat .none) env):WS gd .HZ env E:=⟨_,rfl,h⟩
theorem Bx (h:WE gd a env fun r e=>Dk i r e E.nx):WS gd (.aX i a) env E:=by
 obtain ⟨r,e',h1,d,h2,h3,h4⟩:=h;unfold WS;simp only [dS,h1,h2];rw [N4 h3];exact ⟨_,rfl,h4⟩
theorem BS (h:WE gd a env fun r e=>su i r e E.nx):WS gd (.tZ i a) env E:=by
 obtain ⟨r,e',h1,d,rfl,h3,h4⟩:=h;unfold WS;simp only [dS,h1];rw [N4 h3];exact ⟨_,rfl,h4⟩
theorem EA (h:WE gd a env fun r e=>Es is r e E.nx):WS gd (.BZ is a) env E:=by
 obtain ⟨r,e',h1,ds,e2,h2,h3,h4⟩:=h;unfold WS;simp only [dS,h1,h2,h3];exact ⟨_,rfl,h4⟩
theorem BB (h:WE gd a env fun _ e=>E.nx e):WS gd (.drop a) env E:=by
 obtain ⟨r,e',h1,h2⟩:=h;unfold WS;simp only [dS,h1];exact ⟨_,rfl,h2⟩
theorem Hz (h:WE gd a env E.rt):WS gd (.ret a) env E:=by
 obtain ⟨r,e',h1,h2⟩:=h;unfold WS;simp only [dS,h1];exact ⟨_,rfl,h2⟩
theorem J6 (h:WT gd x env fun b e=>if b=true then WS gd s e E else WS gd t e E):WS gd (.ifs x s t) env E:=by
 obtain ⟨b,e',h1,h2⟩:=h;unfold WS;simp only [dS,h1];cases b with
 | true=>exact h2
 | false=>exact h2
theorem MR (h:WI gd it env fun ds lk e=>Mr (nG i (dS gd s)) ds lk e E):WS gd (.fr i it s) env E:=by
 obtain ⟨ds,lk,e',h1,o,rfl,h2,h3⟩:=h;unfold WS;simp only [dS,h1,h2];exact ⟨_,rfl,h3⟩
theorem E9 (h:WE gd b env fun r e=>Gj gd m i a r e E.nx):WS gd (.sto m i a b) env E:=by
 obtain ⟨r,e',h1,v,h2,h3,rk,e2,h4,dk,d,d',h5,h6,h7,h8⟩:=h;obtain ⟨d0,hd0⟩:=Option.isSome_iff_exists.mp h3;unfold WS;simp only [dS,h1,h2,hd0,h4,h5,h6,h7];exact ⟨_,rfl,h8⟩
theorem Mt (Inv:Nat->En->Prop) (m:Nat) (hm:m < n) (h0:Inv m env) (hs:∀ k e,k<=m->Inv k e->WT gd x e fun b e1=>if b=true then WS gd s e1 ⟨fun e2=>∃ j,j < k/\Inv j e2,E.rt,E.nx,fun e2=>∃ j,j < k/\Inv j e2⟩ else E.nx e1):WS gd (.wh n x s) env E:=by
 unfold WS;simp only [dS];induction n generalizing m env with
 | zero=>omega
 | succ n ih =>
  unfold whL;obtain ⟨b,e1,h1,h2⟩:=hs m env (Oc _) h0;rw [h1];cases b with
  | false=>exact ⟨_,rfl,h2⟩
  | true =>
   rw [N4 rfl] at h2;obtain ⟨o,h3,h4⟩:=h2;simp only [h3];have step:∀ e2,(∃ j,j < m/\Inv j e2)->∃ o,whL (dT gd x) (dS gd s) n e2=some o/\E.at o:=fun e2 ⟨j,hj,hi⟩=>ih j (by omega) hi fun k e hk=>hs k e (by omega);cases o with
   | nx e=>exact step e h4
   | ct e=>exact step e h4
   | bk e=>exact ⟨_,rfl,h4⟩
   | rt r e=>exact ⟨_,rfl,h4⟩
theorem w_var (h:env[i]?=some (.dat d)) (q:Q (.dat d) env):WE gd (.var i) env Q:=⟨_,_,by simp only [dE,h],q⟩
theorem Hj (h:env[i]?=some (.own d)) (q:Q (.bor i) env):WE gd (.var i) env Q:=⟨_,_,by simp only [dE,h],q⟩
theorem Ez (h:env[i]?=some (.ino d)) (q:Q (.bor i) env):WE gd (.var i) env Q:=⟨_,_,by simp only [dE,h],q⟩
theorem HF (h:env[i]?=some (.ro d)) (q:Q (.bor i) env):WE gd (.var i) env Q:=⟨_,_,by simp only [dE,h],q⟩
theorem KJ (h:env[i]?=some (.own d)) (q:Q (.dat d) (env.set i (.dat d))):WE gd (.mov i) env Q:=⟨_,_,by simp only [dE,h],q⟩
theorem Jc (h:env[i]?=some (.own d)) (q:Q (.frs d) (env.set i .un)):WE gd (.tke i) env Q:=⟨_,_,by simp only [dE,h],q⟩
theorem IL (hb:(bnd env i&&bnd env j)=true) (q:WE gd l env fun r e1=>∃ d,r=.frs d/\e1[h]?=some .un/\WE gd e (e1.set h (.own d)) fun r2 e2=>∃ x,r2=.dat x/\Q (.dat x) (e2.set h .un)):WE gd (.gho i j h l e) env Q:=by
 obtain ⟨r,e1,h1,d,rfl,hu,r2,e2,h2,x,rfl,q⟩:=q;exact ⟨_,_,by simp only [dE,h1,hu,h2];rw [N4 hb],q⟩
theorem CT {c:Cst} (q:Q (.dat c.d) env):WE gd (.cst c) env Q:=⟨_,_,rfl,q⟩
theorem Jl (h:gd[g]?=some d) (q:Q (.dat d) env):WE gd (.glb g) env Q:=⟨_,_,by simp only [dE,h],q⟩
theorem A4 (h:WA gd as env fun avs e=>WPr p avs e Q):WE gd (.prm p as) env Q:=by
 obtain ⟨avs,e',h1,ds,pr,h2,h3,h4⟩:=h;exact ⟨_,_,by simp only [dE,h1,h2,h3],h4⟩
theorem GV (h:WA gd as env fun avs e=>lT f avs e Q):WE gd (.call f as) env Q:=by
 obtain ⟨avs,e',h1,rv,e2,h2,h3⟩:=h;exact ⟨_,_,by simp only [dE,h1];exact h2,h3⟩
theorem aa (h1:iu e1 f.ms avs=some ds) (h2:cU f.ms avs=is) (h:WF f ds fun pr outs=>ckA is (rz f.ms avs) outs.length=true/\Q pr.rv (dJ e1 is outs)):lT f avs e1 Q:=by
 obtain ⟨pr,outs,h3,h4,h5⟩:=h;subst h2;unfold lT lh;simp only [h1,h3];rw [N4 h4];exact ⟨_,_,rfl,h5⟩
theorem Ke (h:WE gd o env fun r e=>Gm gd m as r e Q):WE gd (.met m o as) env Q:=by
 obtain ⟨r,e',h1,d0,h2,h3,avs,e2,h4,d,ds,pr,h5,h6,h7,h8⟩:=h;exact ⟨_,_,by simp only [dE,h1,h2];rw [N4 h3];simp only [h4,h5,h6,h7],h8⟩
theorem FU (h0:aR env i=some d) (h1:m.ty d=true) (h:WA gd as env fun avs e2=>WMr m i avs e2 Q):WE gd (.mtr m i as) env Q:=by
 obtain ⟨avs,e2,h4,d,ds,d',x,h5,h6,h7,h8⟩:=h;exact ⟨_,_,by simp only [dE,h0];rw [N4 h1];simp only [h4,h5,h6,h7],h8⟩
theorem BM (h:WA gd as env fun avs e=>WTp (fun ds=>.dat (.tuple ds)) avs e Q):WE gd (.tup as) env Q:=by
 obtain ⟨avs,e2,h4,ds,h5,h6,h7⟩:=h;exact ⟨_,_,by simp only [dE,h4,h5];rw [N4 h6],h7⟩
theorem E2 (h:WA gd as env fun avs e=>WTp (fun ds=>.frs (.list ds)) avs e Q):WE gd (.lst as) env Q:=by
 obtain ⟨avs,e2,h4,ds,h5,h6,h7⟩:=h;exact ⟨_,_,by simp only [dE,h4,h5];rw [N4 h6],h7⟩
theorem JR (h:WT gd x env fun k e=>if k=true then WE gd a e Q else WE gd b e Q):WE gd (.ifx x a b) env Q:=by
 obtain ⟨k,e',h1,h2⟩:=h;unfold WE;simp only [dE,h1];cases k with
 | true=>exact h2
 | false=>exact h2
theorem HA (h:WE gd a env fun r e=>WBo r fun k=>if k=true then WE gd b e Q else Q (.dat (.bool false)) e):WE gd (.mL a b) env Q:=by
 obtain ⟨r,e',h1,k,rfl,h2⟩:=h;unfold WE;cases k with
 | true=>simp only [dE,h1];exact h2
 | false=>simp only [dE,h1];exact ⟨_,_,rfl,h2⟩
theorem Kc (h:WE gd a env fun r e=>WBo r fun k=>if k=true then Q (.dat (.bool true)) e else WE gd b e Q):WE gd (.orv a b) env Q:=by
 obtain ⟨r,e',h1,k,rfl,h2⟩:=h;unfold WE;cases k with
 | true=>simp only [dE,h1];exact ⟨_,_,rfl,h2⟩
 | false=>simp only [dE,h1];exact h2
theorem F7 (h:WE gd a env fun r e=>WBo r fun k=>Q (.dat (.bool (!k))) e):WE gd (.Et a) env Q:=by
 obtain ⟨r,e',h1,k,rfl,h2⟩:=h;exact ⟨_,_,by simp only [dE,h1],h2⟩
theorem J8 (h:WE gd a env fun r e=>WE gd b e fun r2 e2=>∃ x y k,r.av=.dat x/\r2.av=.dat y/\p.f [x,y]=some (.dat (.bool k))/\if k=true then WE gd c e2 fun r3 e3=>∃ z pr,r3.av=.dat z/\p'.f [y,z]=some pr/\Q pr.rv e3 else Q (.dat (.bool false)) e2):WE gd (.chn p p' a b c) env Q:=by
 obtain ⟨r,e',h1,r2,e2,h2,x,y,k,h3,h4,h5,h6⟩:=h;unfold WE;cases k with
 | true =>
  rw [N4 rfl] at h6;obtain ⟨r3,e3,h7,z,pr,h8,h9,h10⟩:=h6;simp only [dE,h1,h2,h3,h4,h5,h7,h8,h9];exact ⟨_,_,rfl,h10⟩
 | false =>
  rw [Od (by decide)] at h6;simp only [dE,h1,h2,h3,h4,h5];exact ⟨_,_,rfl,h6⟩
theorem JP (h:WE gd a env fun r e=>WE gd b e fun r2 e2=>∃ i,r2=.dat (.int i)/\WE gd c e2 fun r3 e3=>∃ j,r3=.dat (.int j)/\∃ d pr,r.view e3=some d/\(g i j).f [d]=some pr/\Q pr.rv e3):WE gd (.sl2 g a b c) env Q:=by
 obtain ⟨r,e',h1,r2,e2,h2,i,rfl,r3,e3,h3,j,rfl,d,pr,h4,h5,h6⟩:=h;exact ⟨_,_,by simp only [dE,h1,h2,h3,h4,h5],h6⟩
theorem pP (h:∃ x e1,dF gd as Str.empty env=some (x,e1)/\Q (.dat (.str x)) e1):WE gd (.fst as) env Q:=by
 obtain ⟨x,e1,h1,h2⟩:=h;exact ⟨_,_,by simp only [dE,h1],h2⟩
def GJ (st:Qq->En->Option (Option Qq×En)) (js:List Nat) (ds:List Qq) (lk:Option Nat) (e1:En) (Q:RV->En->Prop):Prop :=
 ∃ ys ec,AZ st ds (gq e1 lk js)=some (ys,ec)/\Q (.frs (.list ys)) (bq e1 js ec)
theorem Jx (hn:Ew js=true) (h:WI gd it env fun ds lk e1=>GJ (fP (dT gd x) (dE gd a)) js ds lk e1 Q):WE gd (.cmp js it x a) env Q:=by
 obtain ⟨ds,lk,e1,h1,ys,ec,h2,h3⟩:=h;refine ⟨_,_,?_,h3⟩;simp only [dE,h1];rw [N4 (l3 hn),h2]
def B7 (st:Qq->En->Option (Option Qq×En)) (d:Qq) (ec:En) (Q:Option Qq->En->Prop):Prop:=∃ y e,st d ec=some (y,e)/\Q y e
theorem jN (h:WT gd x (.dat d :: ec) fun k e2=>if k=true then WE gd a e2 fun r e3=>∃ y,r.av=.dat y/\QS (some y) e3.tail else QS none e2.tail):B7 (fP (dT gd x) (dE gd a)) d ec QS:=by
 obtain ⟨k,e2,h1,h2⟩:=h;unfold B7 fP;rw [h1];cases k with
 | true =>
  rw [N4 rfl] at h2;obtain ⟨r,e3,h3,y,h4,h5⟩:=h2;simp only [h3,h4];exact ⟨_,_,rfl,h5⟩
 | false =>
  rw [Od (by decide)] at h2;exact ⟨_,_,rfl,h2⟩
theorem fU {st:Qq->En->Option (Option Qq×En)} (Inv:Nat->List Qq->En->Prop) (h0:Inv 0 [] (gq e1 lk js))
  (hs:∀ i d ys ec,ds[i]?=some d->Inv i ys ec->B7 st d ec fun y e=>Inv (i+1) (ys++y.toList) e)
  (hq:∀ ys ec,Inv ds.length ys ec->Q (.frs (.list ys)) (bq e1 js ec)):GJ st js ds lk e1 Q:=by
 have key:∀ (rest:List Qq) (i:Nat) (ys:List Qq) (ec:En),ds.drop i=rest->i<=ds.length->Inv i ys ec->∃ zs ec',AZ st rest ec=some (zs,ec')/\Inv ds.length (ys++zs) ec':=by
  intro rest;induction rest with
  | nil =>
   intro i ys ec hd hi hI;have:ds.length<=i:=List.drop_eq_nil_iff.mp hd;have:i=ds.length:=by omega
   subst this;exact ⟨[],ec,rfl,by rw [Oz];exact hI⟩
  | cons d rest ih =>
   intro i ys ec hd hi hI;have hlt:i < ds.length:=by
    apply Classical.byContradiction;intro h;rw [List.drop_eq_nil_iff.mpr (by omega)] at hd;cases hd
   rw [P1 hlt] at hd;injection hd with hd1 hd2;obtain ⟨y,e,h1,h2⟩:=hs i d ys ec (by rw [N7 hlt,hd1]) hI;obtain ⟨zs,ec',h3,h4⟩:=ih (i+1) _ e hd2 hlt h2;refine ⟨y.toList++zs,ec',?_,by rw [<- Oy];exact h4⟩;unfold AZ;simp only [h1,h3]
 obtain ⟨zs,ec,h1,h2⟩:=key ds 0 [] _ rfl (O0 _) h0;exact ⟨zs,ec,h1,hq zs ec h2⟩
def WB (b:Qq->En->Option Out) (d:Qq) (e:En) (E:Kn):Prop:=∃ o,b d e=some o/\E.at o
theorem CA (hf:free e i=true) (h:WS gd s (e.set i (.dat d)) E):WB (nG i (dS gd s)) d e E:=by
 obtain ⟨o,h1,h2⟩:=h;exact ⟨o,by unfold nG;rw [N4 hf];exact h1,h2⟩
theorem iz {b:Qq->En->Option Out} {ds:List Qq} (Inv:Nat->En->Prop) (h0:Inv 0 e1)
  (hs:∀ i d e,ds[i]?=some d->Inv i e->WB b d e ⟨Inv (i+1),E.rt,E.nx,Inv (i+1)⟩)
  (hq:∀ e,Inv ds.length e->E.nx e):Mr b ds none e1 E:=by
 have key:∀ (rest:List Qq) (i:Nat) (e:En),ds.drop i=rest->i<=ds.length->Inv i e->∃ o,forL b rest e=some o/\E.at o:=by
  intro rest;induction rest with
  | nil =>
   intro i e hd hi hI;have:ds.length<=i:=List.drop_eq_nil_iff.mp hd;have:i=ds.length:=by omega
   subst this;exact ⟨_,rfl,hq e hI⟩
  | cons d rest ih =>
   intro i e hd hi hI;have hlt:i < ds.length:=by
    apply Classical.byContradiction;intro h;rw [List.drop_eq_nil_iff.mpr (by omega)] at hd;cases hd
   rw [P1 hlt] at hd;injection hd with hd1 hd2;obtain ⟨o,h1,h2⟩:=hs i d e (by rw [N7 hlt,hd1]) hI;unfold forL;simp only [h1];cases o with
   | nx e'=>exact ih (i+1) e' hd2 hlt h2
   | ct e'=>exact ih (i+1) e' hd2 hlt h2
   | bk e'=>exact ⟨_,rfl,h2⟩
   | rt r e'=>exact ⟨_,rfl,h2⟩
 obtain ⟨o,h1,h2⟩:=key ds 0 _ rfl (O0 _) h0;exact ⟨o,rfl,h1,h2⟩
theorem Dg (q:QA [] env):WA gd .nil env QA:=⟨_,_,rfl,q⟩
theorem wj (h:WE gd a env fun r e=>WA gd as e fun avs e2=>QA (r.av :: avs) e2):WA gd (.cons a as) env QA:=by
 obtain ⟨r,e',h1,avs,e2,h2,h3⟩:=h;exact ⟨_,_,by simp only [dA,h1,h2],h3⟩
theorem Lr (h:WE gd a env fun r e=>WBo r fun k=>QT k e):WT gd (.tst a) env QT:=by
 obtain ⟨r,e',h1,k,rfl,h2⟩:=h;exact ⟨_,_,by simp only [dT,h1],h2⟩
theorem Js (h:WE gd a env fun r e=>∃ d,r.view e=some d/\Ih d=false/\QT (Jk d) e):WT gd (.tru a) env QT:=by
 obtain ⟨r,e',h1,d,h2,h4,h3⟩:=h;exact ⟨_,e',by simp only [dT,h1,h2,h4];rfl,h3⟩
theorem w_and (h:WT gd x env fun k e=>if k=true then WT gd y e QT else QT false e):WT gd (.and x y) env QT:=by
 obtain ⟨k,e',h1,h2⟩:=h;unfold WT;cases k with
 | true=>simp only [dT,h1];exact h2
 | false=>simp only [dT,h1];exact ⟨_,_,rfl,h2⟩
theorem w_or (h:WT gd x env fun k e=>if k=true then QT true e else WT gd y e QT):WT gd (.or x y) env QT:=by
 obtain ⟨k,e',h1,h2⟩:=h;unfold WT;cases k with
 | true=>simp only [dT,h1];exact ⟨_,_,rfl,h2⟩
 | false=>simp only [dT,h1];exact h2
theorem w_not (h:WT gd x env fun k e=>QT (!k) e):WT gd (.not x) env QT:=by
 obtain ⟨k,e',h1,h2⟩:=h;exact ⟨_,_,by simp only [dT,h1],h2⟩
theorem Kp (h:QT true env):WT gd .yes env QT:=⟨_,_,rfl,h⟩
def Ia (r:RV) (e:En) (QI:List Qq->Option Nat->En->Prop):Prop:=(∃ ds,r.av=.dat (.list ds)/\QI ds none e)\/∃ i ds,r.av=.bor i/\cont e i=some (.list ds)/\QI ds (some i) e
theorem MV (h:WE gd a env fun r e=>Ia r e QI):WI gd (.lst a) env QI:=by
 obtain ⟨r,e',h1,⟨ds,h2,h3⟩ | ⟨i,ds,h2,h3,h4⟩⟩:=h
 ·exact ⟨_,_,_,by simp only [dI,h1,h2],h3⟩
 ·exact ⟨_,_,_,by simp only [dI,h1,h2,h3],h4⟩
theorem Jt (h:r.av=.dat (.list ds)) (q:QI ds none e):Ia r e QI:=.inl ⟨ds,h,q⟩
theorem Nb (h:WE gd a env fun r e=>∃ ds,r.av=.dat (.tuple ds)/\QI ds none e):WI gd (.tup a) env QI:=by
 obtain ⟨r,e',h1,ds,h2,h3⟩:=h;exact ⟨_,_,_,by simp only [dI,h1,h2],h3⟩
theorem Nq (h:WE gd a env fun r e=>∃ z,r.av=.dat (.str z)/\QI (z.cps.toList.map fun c=>.str ⟨#[c]⟩) none e):WI gd (.str a) env QI:=by
 obtain ⟨r,e',h1,ds,h2,h3⟩:=h;exact ⟨_,_,_,by simp only [dI,h1,h2],h3⟩
theorem Nl (h:WA gd as env fun avs e=>∃ j:Int,avs=[.dat (.int j)]/\(-(2 ^ 62)<=j/\j<=2 ^ 24)/\QI ((List.range j.toNat).map fun (k:Nat)=>.int ((0:Int)+(k:Int))) none e):WI gd (.rng1 as) env QI:=by
 obtain ⟨r,e',h1,j,rfl,h2,h3⟩:=h;exact ⟨_,_,_,by simp only [dI,h1];rw [N4 h2],h3⟩
end
end L2
namespace L2
open PySem PySem.Spec PyProof.Rows
noncomputable def Jb (ww:World):Bool:=ww.params.followText "set-order"
structure M4 (ww:World) (tb:SetTable) (n:Nat):Prop where
 fit:tb.fits n=true
 led:tb.led=!Jb ww
 pln:n≠0->tb.plain=false
def Lh (pr:Program) (ww:World) (h:Heap) (a:Qz) (ss:List Str):Prop :=
 ∃ ob es ep tb,h.get? a=some ob/\ob.ExactSet/\ob.data=.set es ep tb/\ElemsOf (strKind pr ww) es.toList/\(∃ zs,StrsAre (es.toList.map (·.2)) zs/\zs.Perm ss)/\es.size < scanBound/\M4 ww tb es.size
noncomputable def leT (x y:Str):Bool:=!ltCps y.cps.toList x.cps.toList
theorem md (x y:Str):leT x y=true↔x.cps.toList<=y.cps.toList:=by
 unfold leT;rw [ltCps_eq,Bool.not_eq_true',decide_eq_false_iff_not];exact List.not_lt
theorem oP (h:leT x y=true) (h':leT y z=true):leT x z=true:=by
 rw [md] at *;exact List.le_trans h h'
theorem xI (x y:Str):leT x y=true\/leT y x=true:=by
 rw [md,md];exact List.le_total _ _
theorem qU (h:leT x y=true) (h':leT y x=true):x=y:=by
 rw [md] at *;have:=List.le_antisymm h h';cases x;cases y;simp only [Str.mk.injEq];exact Array.toList_inj.mp this
def B8 (x:Str):List Str->List Str
 | []=>[x]
 | y :: r=>if leT x y=true then x :: y :: r else y :: B8 x r
def sC:List Str->List Str
 | []=>[]
 | x :: r=>B8 x (sC r)
theorem jE (x:Str):∀ l:List Str,(B8 x l).Perm (x :: l)
 | []=>List.Perm.refl _
 | y :: r=>by
  unfold B8;split
  ·exact List.Perm.refl _
  ·exact ((jE x r).cons y).trans (List.Perm.swap ..)
theorem dO:∀ l:List Str,(sC l).Perm l
 | []=>List.Perm.refl _
 | x :: r=>(jE x _).trans ((dO r).cons x)
theorem uK (x:Str):∀ l:List Str,l.Pairwise (fun a b=>leT a b=true)->(B8 x l).Pairwise fun a b=>leT a b=true
 | [],_=>by simp [B8]
 | y :: r,h=>by
  obtain ⟨h1,h2⟩:=PX.mp h;unfold B8;split
  ·rename_i c;refine PX.mpr ⟨fun b hb=>?_,h⟩;rcases N9.mp hb with rfl | hb
   ·exact c
   ·exact oP c (h1 b hb)
  ·rename_i c;refine PX.mpr ⟨fun b hb=>?_,uK x r h2⟩;rcases N9.mp ((jE x r).mem_iff.mp hb) with rfl | hb
   ·exact (xI b y).resolve_left c
   ·exact h1 b hb
theorem lW:∀ l:List Str,(sC l).Pairwise fun a b=>leT a b=true
 | []=>by simp [sC]
 | x :: r=>uK x _ (lW r)
theorem oI:∀ (p:Str) (l:List Str),risingS p l=true->(p :: l).Pairwise fun a b=>leT a b=true
 | p,[],_=>by simp
 | p,x :: r,h=>by
  have h:(!ltCps x.cps.toList p.cps.toList&&risingS x r)=true:=h;rw [Ot] at h;have ih:=oI x r h.2;refine PX.mpr ⟨fun b hb=>?_,ih⟩;rcases N9.mp hb with rfl | hb
  ·exact h.1
  ·exact oP h.1 ((PX.mp ih).1 b hb)
theorem x6:∀ {l:List Str},sortedS l=true->l.Pairwise fun a b=>leT a b=true
 | [],_=>by simp
 | x :: r,h=>oI x r h
theorem wG (h:sortedS l=true) (p:l.Perm l'):l=sC l' :=
 List.Perm.eq_of_pairwise (fun _ _ _ _ a b=>qU a b) (x6 h) (lW l') (p.trans (dO l').symm)
theorem yR:∀ {ds:List Qq} {ss:List Str},strsOf ds=some ss->ds=ss.map .str
 | [],ss,h=>by cases h;rfl
 | d :: ds,ss,h=>by
  unfold strsOf at h;split at h
  ·cases h;rename_i e;cases e
  ·rename_i x r e;cases e;split at h
   ·rename_i xs hx;cases h;rw [yR hx];rfl
   ·cases h
  ·cases h
theorem vH {K:Fg} {F:Qz->Prop} {H:Hp}:∀ {ss:List Str},(∀ s∈ss,s.length<=sizeLine/\PyData.strOk s=true)->DmL K F H (ss.map .str) (ss.map V.str)
 | [],_=>rfl
 | s :: ss,h=>⟨_,_,rfl,⟨rfl,h s N5⟩,vH fun x hx=>h x (NZ _ hx)⟩
theorem Bw {K:Fg} {F:Qz->Prop} {H:Hp}:∀ {ss:List Str} {us:List V},DmL K F H (ss.map .str) us->∀ s∈ss,s.length<=sizeLine/\PyData.strOk s=true
 | [],_,_,s,hs=>by cases hs
 | s :: ss,us,h,x,hx=>by
  obtain ⟨v,r,rfl,h1,h2⟩:=h;rcases N9.mp hx with rfl | hx
  ·exact h1.2
  ·exact Bw h2 x hx
def AW:Qq->Option PR
 | .list ds=>match strsOf ds with | some ss=>if ss.length < 64 then some (.frs (.list ((sC ss).map .str))) else none | none=>none
 | _=>none
def lZ:Prm:=Prm.one (fun K x=>BK K [x]) AW fun K F H x u pr Q hf hx hd q=>by
 unfold AW at hf;split at hf
 ·rename_i ds;split at hf
  ·rename_i ss hss;split at hf
   ·rename_i h64;cases hf;obtain ⟨a,us,rfl,s1,z1,d1⟩:=o7 hx;obtain ⟨e,os⟩:=qV hss d1;rw [e] at s1;rw [yR hss] at d1;refine ⟨a,ss,rfl,s1,h64,fun p ss' hp pm so=>?_⟩;have es:ss'=sC ss:=wG so pm;subst es;refine q _ _ (aY.nw _ hp) (J9 hp (by rw [NT,(dO ss).length_eq,PJ];omega) (vH fun s hs=>Bw d1 s ((dO ss).mem_iff.mp hs)))
   ·cases hf
  ·cases hf
 ·cases hf
theorem ko:bu X (.builtin "sorted") (lZ.r X.K):=jh mZ fun _ _ _ h=>h
noncomputable def Nk (X:Cx) (p:Qz) (ss:List Str):HO:=.ext fun h=>Lh X.prog X.w h p ss
section
variable {X:Cx} {pins:List (Qz×Obj)} {Z:St} {H:Hp} {s:Qx}
theorem Inv.ghost (I:Inv X pins Z H s) (hN:X.N[h]?=some g) (hv:¬Vis X.env.scope g) (o:Option V):Inv X pins (Z.set h o) H s:=by
 obtain ⟨m,hm,hl⟩:=I.loc;refine ⟨I.ok,I.os,I.bare,I.base,⟨m,hm,fun i x v e1 e2 e3=>?_⟩,I.cell,I.free,I.fT,I.pin,I.hok,by rw [Oq];exact I.len⟩;by_cases z:i=h
 ·subst z;rw [hN] at e1;cases e1;exact absurd e3 hv
 ·rw [NU (fun q=>z q.symm)] at e2;exact hl i x v e1 e2 e3
def clE (te:TE):TE:=fun Z H P=>∃ P0:VK,te Z H P0/\∀ x H1,P0 x H1->P x H1
def clA (ta:TA):TA:=fun Z H P=>∃ P0:List V->Hp->Prop,ta Z H P0/\∀ xs H1,P0 xs H1->P xs H1
theorem MM (ha:JE X e te):JE X e (clE te):=⟨fun pins s Z H P I ⟨P0,h0,h1⟩=>OF (ha.h pins s Z H P0 I h0) (fun v s' ⟨x,H',I',r,q⟩=>⟨x,H',I',r,h1 _ _ q⟩) fun _ _ z=>z⟩
theorem MX (ha:JA X es ta):JA X es (clA ta):=⟨fun pos pins s Z H P I ⟨P0,h0,h1⟩=>OF (ha.h pos pins s Z H P0 I h0) (fun v s' ⟨x,H',I',r,q⟩=>⟨x,H',I',r,h1 _ _ q⟩) fun _ _ z=>z⟩
def ghA (h:Nat) (ta:TA):TA:=fun Z H P=>∃ v,ta (Z.set h (some v)) H P
theorem Ni (hN:X.N[h]?=some g) (hv:¬Vis X.env.scope g) (ha:JA X es ta):JA X es (ghA h ta):=⟨fun pos pins s Z H P I ⟨v,h0⟩=>by
 refine OF (ha.h pos pins s (Z.set h (some v)) H P (I.ghost hN hv _) h0) (fun us s' ⟨x,H',I',r,q⟩=>⟨x,H',?_,r,q⟩) fun _ _ z=>z;have I2:=I'.ghost hN hv ((Z[h]?).getD none);rw [Pk] at I2;have e:Z.set h ((Z[h]?).getD none)=Z:=by
  apply List.ext_getElem?;intro j;by_cases z:j=h
  ·subst z;cases q:Z[j]? with
   | none =>
    rw [List.getElem?_eq_none_iff] at q ⊢;rw [Oq];exact q
   | some o =>
    have:j < Z.length:=by
     rcases Nat.lt_or_ge j Z.length with z | z
     ·exact z
     ·rw [PF z] at q;cases q
    rw [Oa this];rfl
  ·rw [NU (fun q=>z q.symm)]
 rw [e] at I2
 exact I2⟩
theorem Ll (h:sc.names.lookup g=none):¬Vis sc g:=fun z=>by rcases z with z | z | z <;> (rw [h] at z;cases z)
theorem MZ {ce a1 a2 L:Expr} {post:List Expr} {tL:TE} {tp:TA} {i1 i2 h:Nat} {g:Str} {f:Fn} {K:Fg}
  (hcall:∀ t,JA X (a1 :: a2 :: L :: post) t->JE X ce (nY (jS f K) [] E0 t))
  (hN:X.N[h]?=some g) (hv:¬Vis X.env.scope g) (n1:i1≠h) (n2:i2≠h)
  (s1:PySem.W.isStarred a1=false) (s2:PySem.W.isStarred a2=false) (s3:PySem.W.isStarred L=false)
  (h1:JE X a1 (fE i1)) (h2:JE X a2 (fE i2)) (hL:JE X L tL) (hp:JA X post tp) :
  JE X ce (L9 i1 i2 h tL (nY (jS f K) [] E0 (fR (fE i1) (fR (fE i2) (fR (fE h) tp))))):=by
 refine ⟨fun pins s Z H Q I hT=>?_⟩;obtain ⟨⟨v1,e1⟩,⟨v2,e2⟩,hT⟩:=hT;refine (hcall _ (eA h1 (eA h2 (eA (MM hL) (Ni hN hv (MX hp)) s3) s2) s1)).h pins s Z H Q I ⟨v1,e1,v2,e2,_,hT,fun v H1 hK=>?_⟩;obtain ⟨w1,q1,w2,q2,w3,q3,hK⟩:=hK;rw [NU (fun z=>n1 z.symm),e1] at q1;rw [NU (fun z=>n2 z.symm),e2] at q2;have lt:h < Z.length:=by
  rcases Nat.lt_or_ge h Z.length with z | z
  ·exact z
  ·rw [PF (by rw [Oq];exact z)] at q3;cases q3
 rw [Oa lt] at q3;cases q1;cases q2;cases q3;exact ⟨v,_,hK,fun ws H2 z=>z⟩
end
noncomputable def vF:Qq->List Qq->Option PR
 | .str z,[.str y]=>some (.dat (.bool (decide (y.length<=z.length)&&Builtin.Str.subAt z y 0)))
 | _,_=>none
def xq:Mtd where
 T := "str"
 r:=fun _=>xB
 ty:=isS
 f:=vF
 yV:=fun K F H d v h t=>ty_str h t
 ok:=fun K F H d v ds vs pr Q hf hx hv hd q=>by
  unfold vF at hf;split at hf
  ·cases hf;obtain ⟨rfl,_⟩:=vStr hx;obtain ⟨w,r,rfl,hw,rfl⟩:=hv;obtain ⟨rfl,_⟩:=vStr hw;exact ⟨_,_,rfl,rfl,q _ H (aY.rf H) rfl⟩
  ·cases hf
noncomputable def kgV (l:List (Str×Cst)) (z:Str):V:=((l.find? fun p=>decide (p.1=z)).map (·.2.v)).getD .non
noncomputable def kgD (l:List (Str×Cst)) (z:Str):Qq:=((l.find? fun p=>decide (p.1=z)).map (·.2.d)).getD .none
theorem KD (l:List (Str×Cst)) (z:Str) (K:Fg) (F:Qz->Prop) (H:Hp):Dm K F H (kgD l z) (kgV l z):=by
 unfold kgD kgV;cases l.find? fun p=>decide (p.1=z) with
 | none=>rfl
 | some p=>exact p.2.ok K F H
def KG (w:World) (K:Fg) (a:Qz) (l:List (Str×Cst)):Prop:=∃ es n,K.lookup a=some ⟨.type "dict", none,.dict es n,#[]⟩/\PySem.W.KeysLit w.params es.toList/\(a==sysModules)=false/\∀ z,RelV (kgV l z) ((findBy Value.isStrOf es z).getD .none)
noncomputable def El (e:DictEntry):Option Str:=match e.key with | .str x _=>some x | _=>none
theorem Jz (hk:es.toList.map El=l.map fun p=>some p.1) (h:∀ p∈l,∃ u,findBy Value.isStrOf es p.1=some u/\RelV p.2.v u):∀ z,RelV (kgV l z) ((findBy Value.isStrOf es z).getD .none):=by
 intro z;unfold kgV;cases hf:l.find? (fun p=>decide (p.1=z)) with
 | none =>
  have:findBy Value.isStrOf es z=none:=by
   unfold findBy;rw [Option.map_eq_none_iff,Array.find?_eq_none];intro e he hz;obtain ⟨t,ek⟩:=Value.isStrOf_shape hz;have hm:El e∈es.toList.map El:=List.mem_map_of_mem (Array.mem_def.mp he);rw [hk] at hm;obtain ⟨p,hp,e2⟩:=OE.mp hm;have:El e=some z:=by unfold El;rw [ek]
   rw [this] at e2;injection e2 with e2;have:=List.find?_eq_none.mp hf p hp;simp [e2] at this
  rw [this];rfl
 | some p =>
  have hp:=List.mem_of_find?_eq_some hf;have hz:p.1=z:=by simpa using List.find?_some hf
  obtain ⟨u,h1,h2⟩:=h p hp;rw [<- hz,h1];exact h2
def Hx (l:List (Str×Cst)):V->Hp->VK->Prop:=fun y H Q=>∃ z,y=.str z/\Q (kgV l z) H
def Hf (l:List (Str×Cst)):Qq->Option PR
 | .str z=>some (.dat (kgD l z))
 | _=>none
def Hd (l:List (Str×Cst)):Prm:=Prm.one (fun _=>Hx l) (Hf l) fun K F H x u pr Q hf hx hd q=>by
 unfold Hf at hf;split at hf
 ·cases hf;obtain ⟨rfl,_⟩:=vStr hx;exact ⟨_,rfl,q _ H (aY.rf H) (KD l _ K F H)⟩
 ·cases hf
section
variable {X:Cx} {o e:Expr} {apos cpos:Pos} {te:TE} {a:Qz} {l:List (Str×Cst)}
theorem eKG (ho:JE X o (tC (.ref a))) (hk:KG X.w X.K a l) (he:JE X e te) (hbase:attributeBase o "get" X.env (eval o X.env)=eval o X.env)
  (hfew:((backTo cpos (starEach [e] X.env)).all (fun x=>!x.1)&&(backToKw cpos (keywordEach [] X.env)).all (fun x=>x.1.isSome)&&decide (([e]:List Expr).length+([]:List Keyword).length+(if ([]:List Keyword).isEmpty then 0 else 1) < 30))=true)
  (hline:(apos.endLine==cpos.line)=true) (h1:PySem.W.isStarred e=false):JE X (.Call (.Attribute o "get" apos) [e] [] cpos) (tCB ((Hd l).r X.K) (fR te rl)):=by
 have m:M1 X o "get" apos e cpos:=⟨hbase,hfew,hline,by rw [aV h1];rfl⟩;refine ⟨?_⟩;intro pins s Z H Q I h;obtain ⟨es,n,hl,hks,hsm,hf⟩:=hk;refine wpAny_Call_method m.base m.few m.line PySem.F.plainAttrs_dict PySem.F.slot_dict_get PySem.F.type_dict_get (thn (ho.h pins s Z H (fun x H1=>x=.ref a/\H1=H) I ⟨rfl,rfl⟩) fun u s1 ⟨x,H1,I1,rx,ex,eH⟩=>?_);subst ex eH;obtain rfl:u=Value.ref a:=rx;have hm:s1.heap.MapOf (PySem.strKind X.prog X.w) a (fun k=>findBy Value.isStrOf es k):=PySem.W.mapOf_K I1.kIn hl hks;refine ⟨hm.typeIs,hm.noDict,?_⟩;rw [m.trees];have h:te Z H1 fun y H2=>Hx l y H2 Q:=h;refine Calls.callWith_builtin rfl (Calls.evalArgs_plain (Calls.spliced_cons (thn (he.h pins s1 Z H1 _ I1 h) fun iv s2 ⟨y,H2,I2,ry,z,ey,q2⟩=>Calls.spliced_nil ?_)));subst ey;obtain ⟨t,rfl⟩:=ry;have hm2:s2.heap.MapOf (PySem.strKind X.prog X.w) a (fun k=>findBy Value.isStrOf es k):=PySem.W.mapOf_K I2.kIn hl hks;refine call_meetsIn PySem.F.slot_dict_get hm2.typeIs PySem.F.entry_dict_get (PySem.F.args_dict_get_2 _ _) (meets_dict_get (PySem.strKind X.prog X.w) a (strKind_is X.prog X.w z t) hsm) ⟨_,hm2,?_⟩;exact ⟨_,H2,I2.tok _,hf z,q2⟩
end
theorem K9 (hg:Gl X "isinstance") (hm:X.mg "isinstance" = none) (ha:JE X e te) (hs:PySem.W.isStarred e=false) (hb:JE X (.Name (Str.ofString T) p2) (tC (.ty T))):JE X (.Call (.Name "isinstance" p) [e,.Name (Str.ofString T) p2] [] pos) (tCB ((uE T).r X.K) (fR te rl)) :=
 ⟨(eB Dx hg hm (by decide +kernel) (eA ha (eA hb ae rfl) hs) hs rfl (by decide) rfl).h⟩
noncomputable def Ik {α:Type} (xs:List α) (i:Nat) (y:α):List α:=xs.take i++y :: xs.drop i
def CK:V->List V->Hp->VK->Prop:=fun x vs H Q=>∃ (l:Qz) (xs:List V) (i:Nat) (y:V),x=.ref l/\vs=[.int i,y]/\H l=some (.lst xs)/\xs.length < sizeLine/\i<=xs.length/\Q .non (upd H l (.lst (Ik xs i y)))
theorem DQ {α:Type} {xs:List α} {i:Nat} {y:α} (h:i<=xs.length):(Ik xs i y).length=xs.length+1:=by
 simp [Ik];omega
def NR:Mtr where
 T := "list"
 r:=fun _=>CK
 ty:=isL
 f:=fun d as=>match d,as with
  | .list xs,[(_,.int i),(true,x)]=>if xs.length < sizeLine/\0<=i/\i<=xs.length then some (.list (Ik xs i.toNat x),.none) else none
  | _,_=>none
 yV:=fun K F H d a h t=>xZ h t
 ok:=fun K F H d a as vs d' x Q hf ha ht _hd hv q=>by
  split at hf
  ·rename_i ds bb i y;split at hf
   ·rename_i hl;cases hf;obtain ⟨xs,ea,z,rx⟩:=ht;have hv2:∃ v,vs=[.int i,v]/\Dm K F H y v:=by
     cases bb with
     | true=>obtain ⟨v1,r1,rfl,h1,v2,r2,rfl,h2,rfl⟩:=hv;exact ⟨v2,by rw [show v1=.int i from h1],h2⟩
     | false=>obtain ⟨v1,r1,rfl,h1,v2,r2,rfl,h2,rfl⟩:=hv;exact ⟨v2,by rw [show v1=.int i from h1],h2⟩
    obtain ⟨v,rfl,hd⟩:=hv2;have hi:i.toNat<=xs.length:=by rw [rx.len];omega
    have e1:((i.toNat:Nat):Int)=i:=Int.toNat_of_nonneg hl.2.1;refine ⟨a,xs,i.toNat,v,rfl,by rw [e1],ea,by rw [rx.len];exact hl.1,hi,q _ _ (fun b o n e=>by rw [aM n];exact e) ⟨_,aG,by rw [DQ hi,rx.len];omega,DmL.pr (oq ha ea rfl) (fun _ z=>z) ?_⟩ rfl⟩;have tk:∀ {ds:List Qq} {xs:List V} (n:Nat),DmL K F H ds xs->DmL K F H (ds.take n) (xs.take n)/\DmL K F H (ds.drop n) (xs.drop n):=by
     intro ds;induction ds with
     | nil=>intro xs n h;rw [show xs=[] from h];simp [DmL]
     | cons d ds ih =>
      intro xs n h;obtain ⟨v,r,rfl,h1,h2⟩:=h;cases n with
      | zero=>exact ⟨rfl,v,r,rfl,h1,h2⟩
      | succ n=>exact ⟨⟨v,_,rfl,h1,(ih n h2).1⟩,(ih n h2).2⟩
    exact (tk _ rx).1.app ⟨v,_,rfl,hd,(tk _ rx).2⟩
   ·cases hf
  ·cases hf
noncomputable def nE (x:Str) (n:Nat):Str:=⟨(List.replicate n x.cps.toList).flatten.toArray⟩
theorem rL (x:Str) (n:Nat):(nE x n).length=n*x.length:=by
 show ((List.replicate n x.cps.toList).flatten.toArray).size=n*x.cps.size;simp
theorem ng:∀ (l:List (Array Nat)) (a:Array Nat),(l.foldl (·++·) a).toList=a.toList++(l.map (·.toList)).flatten
 | [],a=>by simp
 | x :: l,a=>by rw [Qa,ng l];simp
theorem Ce (x:Str) (n:Nat):Txt.mul x n=nE x n:=by
 have ext:∀ {a b:Str},a.cps.toList=b.cps.toList->a=b:=by
  intro a b h;cases a;cases b;congr 1;exact Array.toList_inj.mp h
 unfold Txt.mul;by_cases h1:(n:Int) < 1
 ·rw [N4 h1];have:n=0:=by omega
  subst this;exact ext rfl
 ·rw [Od h1];by_cases h2:((n:Int)==1||x.length==0)=true
  ·rw [N4 h2];simp only [Pu,Pe] at h2;refine ext ?_;rcases h2 with h2 | h2
   ·have:n=1:=by omega
    subst this;simp [nE]
   ·have:x.cps.toList=[]:=by
     have:x.cps.toList.length=0:=by simpa [Str.length] using h2
     exact List.length_eq_zero_iff.mp this
    simp [nE,this]
  ·rw [Od h2];refine ext ?_;show ((List.replicate (n:Int).toNat x.cps).foldl (·++·) #[]).toList=_;rw [ng];simp [nE]
def Hw:R2:=fun x y H Q=>∃ (z:Str) (n:Nat),x=.str z/\y=.int n/\n<=1000/\z.length<=1000/\Q (.str (nE z n)) H
theorem C1:OpR X (binaryOp .Mult) Hw:=by
 intro pins s Z H x y v u Q I rx ry h;obtain ⟨z,n,rfl,rfl,h1,h2,q⟩:=h;obtain ⟨t,rfl⟩:=rx;obtain ⟨t',rfl⟩:=ry;refine SB.mul ⟨by simp;omega,fun a b=>?_,fun a b=>?_⟩ fun t'' k=>⟨.str _,H,I.tok k,⟨t'',by rw [Ce]⟩,q⟩
 ·have hn:(0:Int) < n:=by omega
  rw [Int.not_lt];refine Int.le_ediv_of_mul_le hn ?_;have:(z.length:Int)*n<=1000*1000:=Int.mul_le_mul (by omega) (by omega) (by omega) (by omega);omega
 ·have:z.length*(n:Int).toNat<=1000*1000:=Nat.mul_le_mul h2 (by omega);have hs:sizeLine=16777216:=PJ;simp only [Builtin.Str.tooLong];simp;rw [Int.toNat_natCast] at this;omega
theorem tW (h:PyData.strOk x=true):PyData.strOk (nE x n)=true:=by
 unfold PyData.strOk at h ⊢;rw [Array.all_eq_true'] at h ⊢;intro c hc;have:c∈(List.replicate n x.cps.toList).flatten:=by simpa [nE] using hc
 obtain ⟨l,hl,hcl⟩:=List.mem_flatten.mp this;rw [(List.mem_replicate.mp hl).2] at hcl;exact h c (by simpa using hcl)
def A3:Prm:=Prm.two (fun _=>Hw) (fun x y=>match x,y with | .str z,.int n=>if 0<=n/\n<=1000/\z.length<=1000 then some (.dat (.str (nE z n.toNat))) else none | _,_=>none) fun K F H x y u v pr Q hf hx hy hd q=>by
 split at hf
 ·rename_i z n;split at hf
  ·rename_i h;cases hf;obtain ⟨ex,hl,ho⟩:=vStr hx;have ey:=vInt hy;have e1:((n.toNat:Nat):Int)=n:=Int.toNat_of_nonneg h.1;refine ⟨z,n.toNat,ex,by rw [e1];exact ey,by omega,h.2.2,q _ H (aY.rf H) ⟨rfl,?_,tW ho⟩⟩;rw [rL];have:n.toNat*z.length<=1000*1000:=Nat.mul_le_mul (by omega) h.2.2;have hs:sizeLine=16777216:=PJ;omega
  ·cases hf
 ·cases hf
theorem qZ:OpR X (binaryOp .Mult) (fun x y=>A3.r X.K [x,y]):=C1
end L2
namespace L2
open PySem
theorem pz (h:e[i]?=some s) (q:soft s):free e i=true:=by
 unfold free;rw [h];cases s with
 | ino d=>exact absurd rfl (q.1 d)
 | ro d=>exact absurd rfl (q.2 d)
 | _=>rfl
theorem sH:soft .un:=⟨fun _=>nofun,fun _=>nofun⟩
theorem i0:soft (.dat d):=⟨fun _=>nofun,fun _=>nofun⟩
theorem Ko:soft (.own d):=⟨fun _=>nofun,fun _=>nofun⟩
theorem kj (h1:aR e i=some (.list xs)) (h2:xs.length < sizeLine) (h3:cO e avs=some [(true,d)]) (q:Q (.dat .none) (gr e i (.list (xs++[d])))):WMr vD i avs e Q :=
 ⟨_,_,.list (xs++[d]),.none,h1,h3,by show (if xs.length < sizeLine then _ else _)=_;rw [N4 h2],q⟩
theorem gc:∀ (ss:List Str),strsOf (ss.map .str)=some ss
 | []=>rfl
 | s :: ss=>by simp only [List.map_cons,strsOf,gc ss]
theorem BP (h1:r.view e=some (.str z)) (h2:aK e avs=some [.list (ss.map .str)]) (h3:eD z ss=true) (q:Q (.dat (.str (Txt.join z ss))) e):AM joinM r avs e Q:=by
 refine ⟨_,_,.dat (.str (Txt.join z ss)),h1,h2,?_,q⟩;show (match strsOf (ss.map .str) with | some ss=>if eD z ss=true then some (PR.dat (.str (Txt.join z ss))) else none | none=>none)=_;rw [gc];simp only;rw [N4 h3]
theorem df (h1:aK e [x,y]=some [.list xs,.list ys]) (h2:xs.length+ys.length<=sizeLine) (q:Q (.frs (.list (xs++ys))) e):WPr bK [x,y] e Q :=
 ⟨_,.frs (.list (xs++ys)),h1,by show (if xs.length+ys.length<=sizeLine then _ else _)=_;rw [N4 h2],q⟩
theorem eJ (h1:aK e [x,y]=some [.str xs,.str ys]) (h2:xs.length+ys.length<=sizeLine) (q:Q (.dat (.str (xs++ys))) e):WPr bK [x,y] e Q :=
 ⟨_,.dat (.str (xs++ys)),h1,by show (if xs.length+ys.length<=sizeLine then _ else _)=_;rw [N4 h2],q⟩
theorem w_eq (h1:aK e [x,y]=some [d,d']) (h2:jX d=true) (h3:jX d'=true) (q:Q (.dat (.bool (PyData.eqv d d'))) e):WPr eqP [x,y] e Q :=
 ⟨_,.dat (.bool (PyData.eqv d d')),h1,by show (if jX d=true/\jX d'=true then _ else _)=_;rw [N4 ⟨h2,h3⟩];rfl,q⟩
theorem Im (h1:aK e [x,y]=some [d,d']) (h2:jX d=true) (h3:jX d'=true) (q:Q (.dat (.bool (!PyData.eqv d d'))) e):WPr neP [x,y] e Q :=
 ⟨_,.dat (.bool (!PyData.eqv d d')),h1,by show (if jX d=true/\jX d'=true then _ else _)=_;rw [N4 ⟨h2,h3⟩];rfl,q⟩
theorem gh (h:((List.range n).map fun (k:Nat)=>PyData.int ((0:Int)+(k:Int)))[i]?=some d):d=.int i/\i < n:=by
 rw [Oj] at h;cases q:(List.range n)[i]? with
 | none=>rw [q] at h;cases h
 | some j =>
  rw [q] at h;obtain ⟨hi,e⟩:=NW.mp q;rw [PB] at hi;have:j=i:=by rw [<- e];simp
  subst this;cases h;exact ⟨by simp,hi⟩
theorem jq:((List.range n).map fun (k:Nat)=>PyData.int ((0:Int)+(k:Int))).length=n:=by rw [NT,PB]
theorem atV {α:Type} {xs:List α} {r:Int} (h0:0<=r) (h1:r < xs.length):∃ v,v∈xs/\atI xs r=some v:=by
 have hj:r.toNat < xs.length:=by omega
 have ej:r=((r.toNat:Nat):Int):=by omega
 refine ⟨xs[r.toNat],List.getElem_mem hj,?_⟩;have:=cz (xs:=xs) (j:=r.toNat) (v:=xs[r.toNat]) (N7 hj);rw [<- ej] at this;exact this
theorem kP:∀ (ss:List Str),strsOf (ss.map .str)=some ss
 | []=>rfl
 | s :: ss=>by simp only [List.map_cons,strsOf,kP ss]
theorem k7 {α:Type} {xs:List α} {k:Int} (h:0<=k):cutD xs none (some k)=xs.take k.toNat:=by
 unfold cutD;simp only [HT.sIx,List.drop_zero,Nat.sub_zero];rw [Od (by omega)];by_cases z:k.toNat<=xs.length
 ·congr 1;omega
 ·rw [O6 (by omega),O6 (by omega)]
theorem aw (x:Str):x.cps.toList.length=x.length:=by simp [Str.length]
theorem Bm:∀ {ss:List Str},(∀ s∈ss,s.length<=k)->(ss.map (·.length)).sum<=k*ss.length
 | [],_=>by simp
 | s :: ss,h=>by
  have h1:=h s N5;have h2:=Bm fun x hx=>h x (NZ _ hx);simp only [List.map_cons,List.sum_cons,NV,Nat.mul_succ];omega
mutual
theorem eqv_refl:∀ d:Qq,noD d=true->PyData.eqv d d=true
 | .none,_=>by simp [PyData.eqv]
 | .bool b,_=>by simp [PyData.eqv]
 | .int i,_=>by simp [PyData.eqv]
 | .str x,_=>by simp [PyData.eqv]
 | .list xs,h=>by simpa [PyData.eqv] using eqvAll_refl xs (by simpa [noD] using h)
 | .tuple xs,h=>by simpa [PyData.eqv] using eqvAll_refl xs (by simpa [noD] using h)
 | .dict _,h=>by simp [noD] at h
theorem eqvAll_refl:∀ ds:List Qq,fN ds=true->PyData.eqvAll ds ds=true
 | [],_=>by simp [PyData.eqvAll]
 | d :: ds,h=>by
  have h':noD d=true/\fN ds=true:=by simpa [fN] using h
  simp [PyData.eqvAll,eqv_refl d h'.1,eqvAll_refl ds h'.2]
end
theorem lb:∀ {ds:List Qq},fN ds=true↔∀ d∈ds,noD d=true
 | []=>by simp [fN]
 | d :: ds=>by simp [fN,lb (ds:=ds)]
theorem gb:∀ {ds:List Qq},(∀ d∈ds,d.depth<=k)->PyData.depthAll ds<=k
 | [],_=>by simp [PyData.depthAll]
 | d :: ds,h=>by
  have h1:=h d N5;have h2:=gb fun x hx=>h x (NZ _ hx);simp only [PyData.depthAll];omega
theorem tO (h:∀ d∈ds,d.depth<=k):(PyData.list ds).depth<=k+1:=by
 simp only [PyData.depth];have:=gb h;omega
theorem pM (h:∀ d∈ds,d.depth<=k):(PyData.tuple ds).depth<=k+1:=by
 simp only [PyData.depth];have:=gb h;omega
theorem xy (h1:noD d=true) (h2:d.depth<=64):jX d=true:=by simp [jX,h1,h2]
section
variable {gd:List Qq} {env e1:En} {Q:RV->En->Prop} {a:XE} {as:XA}
def WFs (gd:List Qq) (as:XA) (out:Str) (env:En) (Q:Str->En->Prop):Prop:=∃ x e1,dF gd as out env=some (x,e1)/\Q x e1
theorem M8 (h:WFs gd as Str.empty env fun x e=>Q (.dat (.str x)) e):WE gd (.fst as) env Q:=pP h
theorem AO (h:WE gd a env fun r e=>∃ x,r=.dat (.str x)/\(out++x).length<=sizeLine/\WFs gd as (out++x) e R):WFs gd (.cons a as) out env R:=by
 obtain ⟨r,e1,h1,x,rfl,h2,y,e2,h3,h4⟩:=h;refine ⟨y,e2,?_,h4⟩;simp only [dF,h1];rw [N4 h2,h3]
theorem Ln (h:out.length<=sizeLine) (q:R out env):WFs gd .nil out env R:=⟨out,env,by simp only [dF];rw [N4 h],q⟩
theorem iF (h1:aK e1 [x]=some [.int i]) (h2:i.natAbs < 10 ^ 400) (q:Q (.dat (.str (az i))) e1):WPr yW [x] e1 Q :=
 ⟨_,.dat (.str (az i)),h1,by show (if i.natAbs < 10 ^ 400 then _ else _)=_;rw [N4 h2],q⟩
theorem Bb (h1:aK e [x,y]=some [.int i,.int j]) (h2:-(2 ^ 64) < j) (h3:j < 2 ^ 64) (q:Q (.dat (.int (i*j))) e):WPr tX [x,y] e Q :=
 ⟨_,.dat (.int (i*j)),h1,N4 (by simp only [mulC,Pu,Ot,OQ];exact .inr ⟨h2,h3⟩),q⟩
end
end L2
namespace L2
open PySem PySem.Spec PyProof.Rows
theorem BL (h1:aK e [x]=some [.list (ss.map .str)]) (h2:ss.length < 64) (q:Q (.frs (.list ((sC ss).map .str))) e):WPr lZ [x] e Q:=by
 refine ⟨_,.frs (.list ((sC ss).map .str)),h1,?_,q⟩;show AW (.list (ss.map .str))=_;unfold AW;simp only [kP];rw [N4 h2]
theorem kN:∀ bs:List Bool,jv (bs.map .bool)=some bs
 | []=>rfl
 | b :: bs=>by
  rw [List.map_cons];unfold jv;rw [kN bs]
theorem Gb (h1:aR e i=some (.list xs)) (h2:xs.length+ys.length<=sizeLine) (h3:cO e avs=some [(b,.list ys)]) (q:Q (.dat .none) (gr e i (.list (xs++ys)))):WMr Ml i avs e Q :=
 ⟨_,_,.list (xs++ys),.none,h1,h3,by show (if xs.length+ys.length<=sizeLine then _ else _)=_;rw [N4 h2],q⟩
def wc:List (Option Sl)->En->Prop
 | [],e=>e=[]
 | some s :: r,e=>∃ e',wc r e'/\e=s :: e'
 | none :: r,e=>∃ x e',soft x/\wc r e'/\e=x :: e'
def zZ:List (Option Sl)->(En->Prop)->Prop
 | [],P=>P []
 | some s :: ts,P=>zZ ts fun e=>P (s :: e)
 | none :: ts,P=>∀ s,soft s->zZ ts fun e=>P (s :: e)
theorem wc.out:∀ {ts:List (Option Sl)} {e:En} {P:En->Prop},wc ts e->zZ ts P->P e
 | [],_,_,h,q=>by cases (show _=_ from h);exact q
 | some s :: ts,e,P,h,q=>by obtain ⟨r,hr,rfl⟩:=h;exact hr.out (P:=fun e=>P (s :: e)) q
 | none :: ts,e,P,h,q=>by obtain ⟨s,r,hs,hr,rfl⟩:=h;exact hr.out (P:=fun e=>P (s :: e)) (q s hs)
section
variable {gd:List Qq} {e e':En} {E:Kn} {Q:RV->En->Prop} {QA:List AV->En->Prop} {QT:Bool->En->Prop} {QI:List Qq->Option Nat->En->Prop} {N:En->Prop} {i:Nat} {r:RV}
theorem GS (h:e=e') (q:Dk i r e' N):Dk i r e N:=h▸q
theorem C8 (h:e=e') (q:su i r e' N):su i r e N:=h▸q
theorem Fw (h:e=e') (q:Es is r e' N):Es is r e N:=h▸q
theorem NC (h:e=e') (q:WA gd as e' QA):WA gd as e QA:=h▸q
theorem Nw (h:e=e') (q:WE gd a e' Q):WE gd a e Q:=h▸q
theorem Nc (h:e=e') (q:WS gd s e' E):WS gd s e E:=h▸q
theorem NN (h:e=e') (q:WT gd t e' QT):WT gd t e QT:=h▸q
theorem M5 (h:e=e') (q:WI gd t e' QI):WI gd t e QI:=h▸q
theorem Iu (h:e=e') (q:WPr p avs e' Q):WPr p avs e Q:=h▸q
theorem C4 (h:e=e') (q:lT f avs e' Q):lT f avs e Q:=h▸q
theorem Kx (h:e=e') (q:WTp mk avs e' Q):WTp mk avs e Q:=h▸q
theorem Jg (h:e=e') (q:WMr m i avs e' Q):WMr m i avs e Q:=h▸q
theorem Kb (h:e=e') (q:AM m r avs e' Q):AM m r avs e Q:=h▸q
theorem FJ (h:e=e') (q:Gm gd m as r e' Q):Gm gd m as r e Q:=h▸q
theorem Fm (h:e=e') (q:Eo ms QF r e'):Eo ms QF r e:=h▸q
theorem DL (h:e=e') (q:sW ms QF e'):sW ms QF e:=h▸q
theorem F9 (h:e=e') (q:Ia r e' QI):Ia r e QI:=h▸q
theorem GQ (h:e=e') (q:Gj gd m i a r e' N):Gj gd m i a r e N:=h▸q
theorem Hh (h:e=e') (q:Cc m i v r e' N):Cc m i v r e N:=h▸q
end
theorem isEq (h:WPr (HX b) avs e Q):WPr (HX b) avs e Q:=h
theorem at0:atI (x :: xs) 0=some x:=by
 unfold atI ixN;rw [N4 (Int.le_refl _),N4 (by rw [NV];omega)];rfl
theorem yK:atI (xs++[x]) (-1)=some x:=by
 unfold atI ixN;rw [Od (by decide),N4 (by rw [NS];simp;omega)];have:((-1:Int)+(((xs++[x]).length:Nat):Int)).toNat=xs.length:=by rw [NS];simp;omega
 rw [this];simp
theorem Ee:PyData.eqv (.str x) (.str y)=decide (x=y):=by
 simp only [PyData.eqv];rfl
def Lp (p:Prm) (r r2:RV) (k:Qq->Bool->Prop):Prop:=∃ x y b,r.av=.dat x/\r2.av=.dat y/\p.f [x,y]=some (.dat (.bool b))/\k y b
def KO (p:Prm) (y:Qq) (r:RV) (e:En) (Q:RV->En->Prop):Prop:=∃ z pr,r.av=.dat z/\p.f [y,z]=some pr/\Q pr.rv e
theorem kC1 {p:Prm} {r r2:RV} {k:Qq->Bool->Prop} {x y:Qq} {b:Bool} (h1:r.av=.dat x) (h2:r2.av=.dat y) (h3:p.f [x,y]=some (.dat (.bool b))) (q:k y b):Lp p r r2 k:=⟨_,_,_,h1,h2,h3,q⟩
theorem kC2 {p:Prm} {y z:Qq} {r:RV} {e:En} {Q:RV->En->Prop} {pr:PR} (h1:r.av=.dat z) (h2:p.f [y,z]=some pr) (q:Q pr.rv e):KO p y r e Q:=⟨_,_,h1,h2,q⟩
theorem EF (h:WE gd a env fun r e=>WE gd b e fun r2 e2=>Lp p r r2 fun y k=>if k=true then WE gd c e2 fun r3 e3=>KO p' y r3 e3 Q else Q (.dat (.bool false)) e2):WE gd (.chn p p' a b c) env Q:=by
 refine J8 ?_;obtain ⟨r,e,h1,r2,e2,h2,x,y,k,h3,h4,h5,h6⟩:=h;exact ⟨r,e,h1,r2,e2,h2,x,y,k,h3,h4,h5,h6⟩
theorem w_all {e:En} {x:AV} {bs:List Bool} {Q:RV->En->Prop} (h1:aK e [x]=some [.list (bs.map .bool)]) (q:Q (.dat (.bool (bs.all id))) e):WPr HM [x] e Q:=by
 refine ⟨_,.dat (.bool (bs.all id)),h1,?_,q⟩;show (jv (bs.map .bool)).map _=_;rw [kN];rfl
theorem PU {α:Type} {xs:List α} {i:Nat} {x:α} (h:xs[i]?=some x):xs.take i++[x]=xs.take (i+1):=by
 rw [List.take_add_one,h];rfl
theorem Ac {α:Type} {P:α->Prop} {xs:List α} {y:α} (h:∀ x∈xs,P x) (hy:P y):∀ x∈xs++[y],P x:=fun x hm=>by
 rcases Pf.mp hm with hm | hm
 ·exact h x hm
 ·rw [Oh.mp hm];exact hy
theorem Bn (h1:aK e [x,y]=some [.str z,.int n]) (h2:0<=n) (h3:n<=1000) (h4:z.length<=1000) (q:Q (.dat (.str (nE z n.toNat))) e):WPr A3 [x,y] e Q :=
 ⟨_,.dat _,h1,by show (if 0<=n/\n<=1000/\z.length<=1000 then some (PR.dat (.str (nE z n.toNat))) else none)=_;rw [N4 ⟨h2,h3,h4⟩],q⟩
def LD:V->Hp->VK->Prop:=fun x H Q=>DB [x] H Q\/∃ y n,x=.str y/\y.length<=640/\PySem.intText? y=some n/\Q (.int n) H
noncomputable def Ai:Qq->Option PR
 | .int i=>some (.dat (.int i)) | .bool k=>some (.dat (.int (if k then 1 else 0)))
 | .str x=>if x.length<=640 then (PySem.intText? x).map fun n=>.dat (.int n) else none
 | _=>none
def mV:Prm:=Prm.one (fun _=>LD) Ai fun K F H x u pr Q hf hx hd q=>by
 unfold Ai at hf;split at hf
 ·rename_i i;exact .inl (J2.ok K F H [.int i] [u] pr Q hf ⟨u,_,rfl,hx,rfl⟩ hd q)
 ·rename_i k;exact .inl (J2.ok K F H [.bool k] [u] pr Q hf ⟨u,_,rfl,hx,rfl⟩ hd q)
 ·split at hf
  ·rename_i y hl;cases e:PySem.intText? y with
   | none=>rw [e] at hf;cases hf
   | some n =>
    rw [e] at hf;cases hf;exact .inr ⟨y,n,(vStr hx).1,hl,e,q _ H (aY.rf H) rfl⟩
  ·cases hf
 ·cases hf
theorem lE:bu X (.type "int") (mV.r X.K):=by
 intro pins s Z H xs us Q I r h
 match xs,h with
 | [x],h =>
  rcases h with h | ⟨y,n,rfl,hl,hn,q⟩
  ·exact DV pins s Z H [x] us Q I r h
  ·cases r with
   | cons r1 rr =>
    cases rr;obtain ⟨t,rfl⟩:=r1;exact PySem.W.KIN.call_text hn hl ⟨.int n,H,I.tok _,⟨_,rfl⟩,q⟩
section
variable {X:Cx} {x:Str} {p pos:Pos} {e:Expr} {es:List Expr} {t:TA} {f:Qz} {fd:FuncData} {ps:List Str} {sp:Sp} {k m:Nat} {r:List V->Hp->VK->Prop} {id T:String}
theorem eVx (i:Nat) (a:X.N[i]?=some x:=by exact rfl) (b:Vis X.env.scope x:=by exact .inl rfl) (c:(x==("__debug__" : Str))=false:=by exact rfl) (d:(x==("__classdict__" : Str))=false:=by exact rfl):JE X (.Name x pos) (fE i):=GC i a b c d
theorem eVy (i:Nat) (a:X.N[i]?=some x:=by exact rfl) (b:Vis X.env.scope x:=by exact .inr (.inl rfl)) (c:(x==("__debug__" : Str))=false:=by exact rfl) (d:(x==("__classdict__" : Str))=false:=by exact rfl):JE X (.Name x pos) (fE i):=GC i a b c d
theorem eBs (hc:bu X (.builtin id) r) (hm:X.mg x=none) (ha:JA X (e :: es) t) (a:Gl X x:=by exact rfl) (hv:bootBuiltins x=some (.builtin id):=by decide +kernel) (h1:PySem.W.isStarred e=false:=by exact rfl) (h2:es.all (fun e=>!PySem.W.isStarred e)=true:=by exact rfl)
  (hn:x ≠ "__name__" := by decide) (c:(x==("__debug__" : Str))=false:=by exact rfl):JE X (.Call (.Name x p) (e :: es) [] pos) (tCB r t):=eB hc a hm hv ha h1 h2 hn c
theorem eTs (hc:bu X (.type T) r) (hm:X.mg x=none) (ha:JA X (e :: es) t) (a:Gl X x:=by exact rfl) (hv:bootBuiltins x=some (.type T):=by decide +kernel) (h1:PySem.W.isStarred e=false:=by exact rfl) (h2:es.all (fun e=>!PySem.W.isStarred e)=true:=by exact rfl)
  (hn:x ≠ "__name__" := by decide) (c:(x==("__debug__" : Str))=false:=by exact rfl):JE X (.Call (.Name x p) (e :: es) [] pos) (tCB r t):=eTy hc a hm hv ha h1 h2 hn c
end
theorem Fun.okX {P:Program} {w:World} {K:Fg} {mg:Str->Option Qj} {base:Heap} {x qual:Str} {st:Stmt} {f:Qz} {fd:FuncData} {N ps:List Str} {k:Nat} {b:XS} {gd:List Qq} {ga:Nat->V} {ms:List PM} {rd:TS}
  (F:Fun K x qual st f fd) (S:bZ N ps (ag st)) (hg:∀ g d,gd[g]?=some d->∀ F H,Dm K F H d (ga g)) (e:rd=rS K ⟨ga,NoE⟩ b)
  (j:∀ {cdv:Qj} {A:Around} {outer:List Env} {s:Qx} {H:Hp} {E:XK},dh k (A.deeper (envOfC qual (ag st) s.heap.objs.size f cdv))->JSs (tN CX0 P w K mg base N qual (ag st) f cdv A outer s H E).nox (aU st) rd)
  (hl:ms.length<=N.length:=by decide) (hp:ms.length=ps.length:=by exact rfl):de P w K mg base CX0 (k+1) f fd ps (jS (bO gd ms N.length b) K) :=
 F.okJ S (fun vs H Q E h=>(qz h).trans hp) fun cdv A outer s H vs Q E hr h=>⟨rd,j hr,by rw [e];exact xQ (ga:=⟨ga,NoE⟩) (N:=N) hg h hl⟩
structure Fa (K:Fg) (mg:Str->Option Qj) (x:Str) (st:Stmt) (ps:List Str) (a:Qz×FuncData):Prop where
 F:Fun K x x st a.1 a.2
 c:∀ us:List Qj,us.length=ps.length->bindArgs a.2 ⟨us,[]⟩=pure (ps.zip us)
 m:mg x=some (.ref a.1)
section
variable {K:Fg} {mg:Str->Option Qj} {x:Str} {st:Stmt} {ps:List Str} {a:Qz×FuncData} {h:Heap} {f:Qz} {od an:Option Qz} {sl:Array (Option Qj)} {oc kV dc pm cd ct:Qj}
theorem Fa.b (D:Fa K mg x st ps a):Binds K a.2 ps []:=.all D.c
def Ex (K:Fg) (mg:Str->Option Qj):List (Str×Stmt×List Str)->Prop
 | []=>True
 | (x,st,ps) :: r=>(∃ a,Fa K mg x st ps a)/\Ex K mg r
theorem LO (X:K.In h) (G:h.Ns mainGlobals mg) (a:PySem.W.nsIn K mainGlobals x=some (some (.ref f))) (l:K.lookup f=some ⟨oc,od,.func (PySem.W.fnOf x x (bJ st) (aU st) (ag st) .none kV dc pm an cd ct),sl⟩) (c:PySem.W.codeIn K cd x=true) (k:PySem.W.keepIn K (.ref f)=true)
  (hb:∀ (kV dc pm:Qj) (an:Option Qz) (cd ct:Qj) (us:List Qj),us.length=ps.length->bindArgs (PySem.W.fnOf x x (bJ st) (aU st) (ag st) .none kV dc pm an cd ct) ⟨us,[]⟩=pure (ps.zip us)) (hr:Ex K mg r):Ex K mg ((x,st,ps) :: r) :=
 ⟨⟨(f,_),e8 l c k,hb _ _ _ _ _ _,OG X G a⟩,hr⟩
theorem F6 (a0:Qz×FuncData):∀ {l:List (Str×Stmt×List Str)},Ex K mg l->∃ f:Nat->Qz×FuncData,∀ i {x st ps},l[i]?=some (x,st,ps)->Fa K mg x st ps (f i)
 | [],_=>⟨fun _=>a0,fun i x st ps h=>by cases h⟩
 | (y,st,ps) :: r,⟨⟨a,ha⟩,hr⟩=>by
  obtain ⟨f,hf⟩:=F6 a0 hr;refine ⟨fun i=>i.casesOn a f,fun i x st ps h=>?_⟩;cases i with
  | zero=>cases h;exact ha
  | succ i=>exact hf i h
theorem Nn (D:Ex K mg (e :: l)):∃ f:Nat->Qz×FuncData,∀ i {x st ps},(e :: l)[i]?=some (x,st,ps)->Fa K mg x st ps (f i):=by
 obtain ⟨y,st,ps⟩:=e;have ⟨⟨a,_⟩,_⟩:=D;exact F6 a D
end
theorem us1 {P:List Qj->Prop} (h:∀ a,P [a]):∀ us:List Qj,us.length=1->P us
 | [a],_=>h a
theorem us2 {P:List Qj->Prop} (h:∀ a b,P [a,b]):∀ us:List Qj,us.length=2->P us
 | [a,b],_=>h a b
theorem us3 {P:List Qj->Prop} (h:∀ a b c,P [a,b,c]):∀ us:List Qj,us.length=3->P us
 | [a,b,c],_=>h a b c
theorem us4 {P:List Qj->Prop} (h:∀ a b c d,P [a,b,c,d]):∀ us:List Qj,us.length=4->P us
 | [a,b,c,d],_=>h a b c d
theorem us5 {P:List Qj->Prop} (h:∀ a b c d e,P [a,b,c,d,e]):∀ us:List Qj,us.length=5->P us
 | [a,b,c,d,e],_=>h a b c d e
theorem scm (a:sc.kind=.function:=by exact rfl) (b:sc.isCoroutine=false:=by exact rfl) (c:sc.isGenerator=false:=by exact rfl) (d:N.Nodup:=by decide +kernel) (e:N.take P.length=P:=by exact rfl) (f:∀ x∈P,sc.names.lookup x=some .local\/sc.names.lookup x=some .cell:=by decide +kernel) (g:∀ y∈sc.names,y.2≠.free:=by decide +kernel):bZ N P sc:=⟨a,b,c,d,e,f,g⟩
section
variable {X:Cx} {x:Str} {p p2 pos pos':Pos} {e a b:Expr} {es:List Expr} {t:TA} {te ta tb:TE} {ps:List Str} {sp:Sp} {k m i:Nat} {r:List V->Hp->VK->Prop} {T:String} {st:Stmt} {q:Qz×FuncData}
theorem eCx (F:de X.prog X.w X.K X.mg X.base CX0 k q.1 q.2 ps sp) (hr:dh m X.A) (D:Fa X.K X.mg x st ps q) (ha:JA X (e :: es) t)
  (a:k<=m:=by omega) (b:Gl X x:=by exact rfl) (h1:PySem.W.isStarred e=false:=by exact rfl) (h2:es.all (fun e=>!PySem.W.isStarred e)=true:=by exact rfl) (c:(x==("__debug__" : Str))=false:=by exact rfl):JE X (.Call (.Name x p) (e :: es) [] pos) (nY sp [] E0 t) :=
 CQ F (hr.mono a) b D.m D.F.kp D.b .nil vI ha h1 h2 c
theorem eAx (ha:JE X e te) (hr:JA X es t) (h:PySem.W.isStarred e=false:=by exact rfl):JA X (e :: es) (fR te t):=eA ha hr h
theorem eIy (ha:JE X a ta) (hb:JE X b tb) (hs:o4 b:=by exact fun _ _=>rfl):JE X (.Subscript a b pos) (tOp (fun x y=>ixP.r X.K [x,y]) ta tb):=eIx GU ha hb hs
theorem eSx (hN:X.N.Nodup) (i:Nat) (he:JE X e te) (hi:X.N[i]?=some x:=by exact rfl) (hx:Loc X.env.scope x:=by exact .inl rfl) (hs:swapsWith e (some (.Name x pos')) pos.line X.env=pure false:=by exact rfl) (hf:X.fn x=true\/X.env.scope.names.lookup x=some .local:=by exact .inl rfl) :
  JS X (.Assign [.Name x pos'] e pos) (uC te (e7 i)):=Ki he hN hi hx hs hf
theorem eSy (hN:X.N.Nodup) (i:Nat) (he:JE X e te) (hi:X.N[i]?=some x:=by exact rfl) (hx:Loc X.env.scope x:=by exact .inr rfl) (hs:swapsWith e (some (.Name x pos')) pos.line X.env=pure false:=by exact rfl) (hf:X.fn x=true\/X.env.scope.names.lookup x=some .local:=by exact .inl rfl) :
  JS X (.Assign [.Name x pos'] e pos) (uC te (e7 i)):=Ki he hN hi hx hs hf
theorem eGx (hN:X.N.Nodup) (i:Nat) (hi:X.N[i]?=some x:=by exact rfl) (hx:Loc X.env.scope x:=by exact .inl rfl) (hf:X.fn x=true\/X.env.scope.names.lookup x=some .local:=by exact .inl rfl):JG X (.Name x pos) (e7 i):=eGN hN hi hx hf
theorem eTx {op:CmpOp} {r:R2} (ho:OpR X (compareOp op) r) (ha:JE X a ta) (hb:JE X b tb) (hm:behindInMarks op b=false:=by exact b6 _):JT X (.Compare a [op] [b] pos) (t5 (tOp r ta tb)):=d4 ho ha hb hm
theorem eUx (h:JE X e te) (he:∀ whole,isTrue e X.env whole=(do let v<-whole;standAt e.pos;holding [v] (truthy v)):=by exact fun _=>rfl):JT X e (tB te):=Ax h he
theorem eIz (hm:X.mg "isinstance" = none) (ha:JE X e te) (hz:X.mg (Str.ofString T)=none) (hg:Gl X "isinstance" := by exact rfl) (hs:PySem.W.isStarred e=false:=by exact rfl)
  (h1:Gl X (Str.ofString T):=by exact rfl) (h2:bootBuiltins (Str.ofString T)=some (.type T):=by decide +kernel) (h3:Str.ofString T ≠ "__name__" := by decide) (h4:(Str.ofString T==("__debug__" : Str))=false:=by exact rfl):JE X (.Call (.Name "isinstance" p) [e,.Name (Str.ofString T) p2] [] pos) (tCB ((uE T).r X.K) (fR te rl)) :=
 K9 hg hm ha hs (HW h1 hz h2 rfl h3 h4)
theorem eFx {iter tg:Expr} {body:List Stmt} {wi:TI} {g:TG} {tb:TS} (hi:JI X tg iter wi) (hg:JG X tg g) (hb:JSs X body tb) (hp:PassesOwn (model X.prog X.w) X.A X.env X.xe:=by exact PassesOwn.never) (hc:X.calm=true:=by exact rfl) (hs:∀ x,foldedSetIterable iter X.env x=pure x:=by exact fun _=>rfl):JS X (.For tg iter body [] pos) (Ii wi g tb):=NL hi hg hb hp hc hs
theorem eUy (ha:JE X a ta):JE X (.UnaryOp .USub a pos) (tCB (EU.r X.K) (fR ta rl)):=eUn FA ha
theorem eKx (ys:List Str) (hi:JI X (.Name x px) iter wi) (ht:JTs X (x :: ys) scope ifs tt) (he:JC X (x :: ys) scope elt te) (B:iL X scope x) (cap:gL X scope ys js)
  (hc:X.calm=true:=by exact rfl) (nd:(x :: ys).Nodup:=by decide +kernel) (hs:∀ x,foldedSetIterable iter X.env x=pure x:=by exact fun _=>rfl):JE X (.ListComp elt [⟨.Name x px,iter,ifs,0⟩] scope pos) (tJ js wi tt te):=Kf ys hi ht he hc B nd cap hs
end
abbrev vr (i:Nat):XE:=.var i
abbrev ci (i:Int):XE:=.cst (.i i)
abbrev cs (x:String) (h:(Str.ofString x).length<=sizeLine:=by decide +kernel):XE:=.cst (.s x h (ck x))
abbrev p1 (p:Prm) (a:XE):XE:=.prm p (.cons a .nil)
abbrev p2 (p:Prm) (a b:XE):XE:=.prm p (.cons a (.cons b .nil))
section
variable {X:Cx} {e o value:Expr} {es:List Expr} {f m x:Str} {p pos pos' apos:Pos} {ta tv:TE} {t:TA} {k n i:Nat} {a:Qz} {fd:FuncData} {ps:List Str} {fn:Fn} {pl:Sem Bool}
theorem eFl (c:Cls X.K clsAt) (n:eQ X.K clsAt f) (he:JE X e ta) (hb:attributeBase e f X.env (eval e X.env)=eval e X.env:=by exact rfl):JE X (.Attribute e f pos) (tCB ((sR f).r X.K) (fR ta rl)):=Na c n he hb
theorem eSF (c:Cls X.K clsAt) (n:eQ X.K clsAt f) (ha:JE X o (fE i)) (hv:JE X value tv) (hs:swapsWith value (some (.Attribute o f pos')) pos.line X.env=pure false:=by exact rfl) :
  JS X (.Assign [.Attribute o f pos'] value pos) (fun D Z H=>tv Z H fun x H1=>fE i Z H1 fun y H2=>(A6 f).r X.K y .non x H2 (D.nx Z)):=Lu c n ha hv hs
theorem eMt (c:Cls X.K clsAt) (hm:Meth X.K clsAt m a) (F:de X.prog X.w X.K X.mg X.base CX0 k a fd ps (jS fn X.K)) (hr:dh n X.A) (hb:Binds X.K fd ps []) (he:JE X o (fE i)) (ha:JA X (e :: es) t)
  (hk:k<=n:=by omega) (hst:PySem.W.isStarred e=false:=by exact rfl) (hpl:es.all (fun e=>!PySem.W.isStarred e)=true:=by exact rfl)
  (ht:eval (.Call (.Attribute o m apos) (e :: es) [] pos) X.env=(do
   let ov<-eval o X.env
   standAt apos.atName
   let (f,first)<-holding [ov] (getMethod ov m pl)
   callWith pos f first (backTo pos (starEach (e :: es) X.env)) (backToKw pos (keywordEach [] X.env))):=by exact rfl) :
  JE X (.Call (.Attribute o m apos) (e :: es) [] pos) (fun Z H Q=>fE i Z H fun x H1=>(cy m fn).tq X.K x H1/\t Z H1 fun xs H2=>(cy m fn).r X.K x xs H2 Q) :=
 MK (pl:=pl) he c hm F (hr.mono hk) hb vI ha (aV hst) (bM hpl) ht
theorem tP (c:Cls X.K clsAt) (hm:Meth X.K clsAt m a) (F:de X.prog X.w X.K X.mg X.base CX0 k a fd ps (jS fn X.K)) (hr:dh n X.A) (hb:Binds X.K fd ps []) (he:JE X o (fE i))
  (hk:k<=n:=by omega)
  (ht:eval (.Call (.Attribute o m apos) [] [] pos) X.env=(do
   let ov<-eval o X.env
   standAt apos.atName
   let (f,first)<-holding [ov] (getMethod ov m pl)
   callWith pos f first (backTo pos (starEach [] X.env)) (backToKw pos (keywordEach [] X.env))):=by exact rfl) :
  JE X (.Call (.Attribute o m apos) [] [] pos) (fun Z H Q=>fE i Z H fun x H1=>(cy m fn).tq X.K x H1/\rl Z H1 fun xs H2=>(cy m fn).r X.K x xs H2 Q) :=
 IC (pl:=pl) he c hm F (hr.mono hk) hb vI ht
theorem eNw (M:Mk X.K clsAt a) (F:de X.prog X.w X.K X.mg X.base CX0 k a fd ps (jS fn X.K)) (hr:dh n X.A) (hm:X.mg x=some (.ref clsAt)) (hb:Binds X.K fd ps []) (ha:JA X (e :: es) t)
  (hk:k+1<=n:=by omega) (hg:Gl X x:=by exact rfl) (hdb:(x==("__debug__" : Str))=false:=by exact rfl) (hst:PySem.W.isStarred e=false:=by exact rfl) (hpl:es.all (fun e=>!PySem.W.isStarred e)=true:=by exact rfl) :
  JE X (.Call (.Name x p) (e :: es) [] pos) (tCB ((HP fn).r X.K) t):=eNew M F (hr.mono hk) hg hm hb vI ha hdb (aV hst) (bM hpl)
end
end L2
namespace L2
open PySem
section
variable {K:Fg} {F0 I:Qz->Prop} {H ZW H1:Hp} {env e1:En} {Z:St} {ga:Gv} {gd:List Qq}
def Rz (E:XK) (ZW:Hp) (I:Qz->Prop) (p:Int):Prop:=∀ dx H',(∀ b o,ZW b=some o->¬I b->H' b=some o)->H' dx=none->dY (.int p)=true->E (.ref excAt) (some dx) (upd H' dx (.xd [(cD,.int p)]))
def SXE (K:Fg) (ga:Gv) (gd:List Qq) (e:XE):Prop:=∀ (env:En) (p:Int),xE gd e env=some p->∀ (F0:Qz->Prop) (ZW:Hp) (I:Qz->Prop) (Z:St) (H:Hp) (Q:VK),Rel K F0 ZW I env Z H->Rz ga.E ZW I p->rE K ga e Z H Q
def SXA (K:Fg) (ga:Gv) (gd:List Qq) (e:XA):Prop:=∀ (env:En) (p:Int),xA gd e env=some p->∀ (F0:Qz->Prop) (ZW:Hp) (I:Qz->Prop) (Z:St) (H:Hp) (Q:List V->Hp->Prop),Rel K F0 ZW I env Z H->Rz ga.E ZW I p->rA K ga e Z H Q
def SXS (K:Fg) (ga:Gv) (gd:List Qq) (e:XS):Prop:=∀ (env:En) (p:Int),xS gd e env=some p->∀ (F0:Qz->Prop) (ZW:Hp) (I:Qz->Prop) (Z:St) (H:Hp) (D:Ends),Rel K F0 ZW I env Z H->Rz ga.E ZW I p->rS K ga e D Z H
theorem qP (h:tE f avs e1=some p) (R1:Rel K F0 ZW I e1 Z H1) (a1:gK K F0 e1 Z H1 avs vs) (q:Rz E ZW I p):spX f K vs H1 Q E:=by
 unfold tE at h;split at h
 ·cases h
 ·rename_i ds h2;split at h
  ·rename_i hc;obtain ⟨nd,hb,_⟩:=yN hc;have hmu:=o8 h2
   exact .inr ⟨FF F0 e1 Z,ds,(cU f.ms avs).map (adr Z),p,h,Bc R1 (cU f.ms avs) hmu h2 a1 nd hb (fun _ z=>z),fun b z=>R1.eG z,
    fun dx H2 hk hd=>q dx H2 (fun b o e n=>hk b o (R1.hG b o e n) fun z=>(R1.iaI (BN R1 hmu b z)).elim (fun y=>by rw [e] at y;cases y) n) hd⟩
  ·cases h
variable (hg:∀ g d,gd[g]?=some d->∀ F H,Dm K F H d (ga g))
include hg
mutual
theorem sXE:∀ e:XE,SXE K ga gd e:=by
 intro e env p h F0 ZW I Z H Q R q;cases e with
 | bY f as =>
  simp only [xE] at h;split at h
  ·rename_i avs e1 h1;refine sA hg as _ _ _ h1 F0 ZW I Z H _ R fun vs H1 R1 k1 a1=>?_;show spX f K (vs++[]) H1 Q ga.E;rw [Oz];exact qP h R1 a1 q
  ·exact sXA as _ _ h F0 ZW I Z H _ R q
 | mtx m f i as =>
  simp only [xE] at h;split at h
  ·rename_i kvs hm;split at h
   ·rename_i hn;obtain ⟨a,s,t⟩:=BD R hm hn;refine ⟨_,s,t,?_⟩;split at h
    ·rename_i avs e1 h1;exact sA hg as _ _ _ h1 F0 ZW I Z H _ R fun vs H1 R1 k1 a1=>qP h R1 ⟨_,_,rfl,s,a1⟩ q
    ·exact sXA as _ _ h F0 ZW I Z H _ R q
   ·cases h
  ·cases h
 | prm p' as=>exact sXA as _ _ (by simpa only [xE] using h) F0 ZW I Z H _ R q
 | tup as=>exact sXA as _ _ (by simpa only [xE] using h) F0 ZW I Z H _ R q
 | mtr m i as =>
  simp only [xE] at h;split at h
  ·rename_i d0 h0;split at h
   ·rename_i hty;obtain ⟨_,a,s,f,t⟩:=R.dG h0;exact ⟨.ref a,s,m.yV K _ H d0 a hty t,sXA as _ _ h F0 ZW I Z H _ R q⟩
   ·cases h
  ·cases h
 | _=>simp only [xE] at h;cases h
theorem sXA:∀ e:XA,SXA K ga gd e:=by
 intro e env p h F0 ZW I Z H Q R q;cases e with
 | nil=>simp only [xA] at h;cases h
 | cons e r =>
  simp only [xA] at h;split at h
  ·rename_i rv e1 h1;exact sE hg e _ _ _ h1 F0 ZW I Z H _ R fun v H1 R1 k1 r1=>sXA r _ _ h F0 ZW I Z H1 _ R1 q
  ·exact sXE e _ _ h F0 ZW I Z H _ R q
end
theorem sXS:∀ s:XS,SXS K ga gd s:=by
 intro s;induction s with
 | seq a b xa xb =>
  intro env p h F0 ZW I Z H D R q;simp only [xS] at h;split at h
  ·rename_i e hs;exact sS hg a _ _ hs F0 ZW I Z H _ R fun Z' H' R' k'=>xb _ _ h F0 ZW I Z' H' D R' q
  ·cases h
  ·exact xa _ _ h F0 ZW I Z H _ R q
 | aX i e=>intro env p h F0 ZW I Z H D R q;exact sXE hg e _ _ (by simpa only [xS] using h) F0 ZW I Z H _ R q
 | drop e=>intro env p h F0 ZW I Z H D R q;exact sXE hg e _ _ (by simpa only [xS] using h) F0 ZW I Z H _ R q
 | ret e=>intro env p h F0 ZW I Z H D R q;exact sXE hg e _ _ (by simpa only [xS] using h) F0 ZW I Z H _ R q
 | ifs c a b xa xb =>
  intro env p h F0 ZW I Z H D R q;simp only [xS] at h;split at h
  ·rename_i e1 h1;refine sT hg c _ _ _ h1 F0 ZW I Z H _ R fun H1 R1 k1=>?_;rw [N4 rfl];exact xa _ _ h F0 ZW I Z H1 D R1 q
  ·rename_i e1 h1;refine sT hg c _ _ _ h1 F0 ZW I Z H _ R fun H1 R1 k1=>?_;rw [Od (by decide)];exact xb _ _ h F0 ZW I Z H1 D R1 q
  ·cases h
 | wh n c b xb =>
  intro env p h F0 ZW I Z H D R q;simp only [xS] at h;refine ⟨fun m Z' H'=>∃ env',whX (dT gd c) (dS gd b) (xS gd b) m env'=some p/\Rel K F0 ZW I env' Z' H',⟨n,env,h,R⟩,?_⟩;rintro m Z' H' ⟨env',hw,R'⟩;cases m with
  | zero=>cases hw
  | succ m =>
   unfold whX at hw;split at hw
   ·rename_i e1 h1;refine sT hg c _ _ _ h1 F0 ZW I Z' H' _ R' fun H2 R2 k2=>?_;rw [N4 rfl];refine ⟨fun Z3 H3=>∃ env3,whX (dT gd c) (dS gd b) (xS gd b) m env3=some p/\Rel K F0 ZW I env3 Z3 H3,fun Z3 H3 z=>⟨m,O7 _,z⟩,?_⟩;split at hw
    ·rename_i e hb;exact sS hg b _ _ hb F0 ZW I Z' H2 _ R2 fun Z3 H3 R3 k3=>⟨e,hw,R3⟩
    ·cases hw
    ·exact xb _ _ hw F0 ZW I Z' H2 _ R2 q
   ·cases hw
 | rse e =>
  intro env p h F0 ZW I Z H D R q;simp only [xS] at h;split at h
  ·rename_i rv e1 h1;split at h
   ·rename_i i hv;split at h
    ·rename_i hp;cases h;refine sE hg e _ _ _ h1 F0 ZW I Z H _ R fun v H1 R1 k1 r1=>?_;have a1:=r1.av;rw [hv] at a1;cases (show v=.int p from a1);exact ⟨hp,fun dx hd=>q dx H1 R1.hG hd hp⟩
    ·cases h
   ·cases h
  ·cases h
 | _=>intro env p h;simp only [xS] at h;cases h
omit hg in
theorem AD (hg:∀ g d,gd[g]?=some d->∀ F H,Dm K F H d (ga g)) (h:spX (bO gd ms N.length b) K vs H Q ga.E) (hn:ms.length<=N.length):rS K ga b { nx:=fun _ H'=>Q .non H',rt:=Q } (start N vs) H:=by
 rcases h with h | ⟨G,ds,is,p,hX,ha,hd,post⟩
 ·exact xQ hg h hn
 ·have ha:bH K G (·∈is) H ms ds vs is:=ha;simp only [bO] at hX;rw [N4 ha.len.1] at hX;exact sXS hg b _ _ hX G H (·∈is) _ H _ (mQ ha hd hn) post
omit hg in
theorem CV (h:spX f K vs H Q E):vs.length=f.ms.length:=by
 rcases h with h | ⟨G,ds,is,p,_,ha,_⟩
 ·exact qz h
 ·exact ha.len.2
end
end L2
namespace L2
open PySem PySem.Spec PyProof.Rows
section
variable {prog:Program} {w:World} {A:Around} {E:Qj->Qx->Prop} {h:Heap} {g:Array GenState} {d:Drawn} {t:Nat} {os:OsState} {a:Qz} {o:Obj}
 {nm q:Str} {C N:Qz} {bs bm bmB:List Qj} {hdct:Bool} {sn:List Str} {sub:List Qj} {ab:Bool} {col:Option Bool} {dd:Option Qz} {k0 k1 k2 k3 k5:Option Qj} {B newId:String} {K:Fg}
theorem zD (hC:h.get? C=some (excClassObj nm q C N bs bm hdct sn sub ab col dd k0 k1 k2 k3 k5 newId)) (hb:bm.contains (.type "object")=true)
  (hx:h.get? a=some o) (hc:o.cls=.ref C) (hq:R (.ok (.ret (.ref C))) ⟨h,g,d,t,os⟩) :
  codeAny (model prog w) A (.call (.builtin "getset_descriptor.__get__") ⟨[.builtin "object.__class__", .ref a,.ref C],[]⟩) R ⟨h,g,d,t,os⟩:=by
 have hT5:(⟨h,g,d,t,os⟩:Qx).TypeIs (.builtin "object.__class__") "getset_descriptor" := F.typeOf_object_class;have hcB:(Value.ref C :: bm).contains (.type (".".intercalate ("object.__class__".cutAt '.').dropLast))=true:=by
  rw [F.owner_object_class,PY,hb,Bool.or_true]
 refine PK F.slot_gs_get.plain F.entry_gs_get (F.slot_gs_get.check _ _ _ _ _ _ _ _ hT5 (F.args_gs_get _ _ _) ?_)
 repeat (any_goals (first | assumption | (with_reducible refine ON hx ?_;rw [hc]) | (with_reducible refine Pm hC ?_;rw [hcB]) | wp_step))
 refine ⟨Code.quiet_builtin _ (by decide +kernel),codeAny_builtin F.entry_object_class ?_⟩
 repeat (any_goals (first | assumption | (with_reducible refine ON hx ?_;rw [hc]) | wp_step))
theorem tj (X:K.In h) (hcl:PySem.W.findIn K (.ref C) "__class__" = some (some (.builtin "object.__class__")))
  (hC:h.get? C=some (excClassObj nm q C N bs bm hdct sn sub ab col dd k0 k1 k2 k3 k5 newId)) (hb:bm.contains (.type "object")=true)
  (hx:h.get? a=some o) (hc:o.cls=.ref C) (hq:Q (.done (.ret (.ref C))) ⟨h,g,d,t,os⟩) :
  wpAny (model prog w) A (Builtin.«object.__getattribute__» ⟨[.ref a,.str "__class__" tk],[]⟩) Q E ⟨h,g,d,t,os⟩:=by
 have hT5:(⟨h,g,d,t,os⟩:Qx).TypeIs (.builtin "object.__class__") "getset_descriptor" := F.typeOf_object_class;have f5:=F.typeOf_object_class;have f6:=F.slot_gs_get.lookup;have f7:=F.slot_gs_set.lookup;have L1:=Pa (M:=model prog w) X hcl
 repeat (any_goals (first | assumption | (with_reducible refine ON hx ?_;rw [hc]) | with_reducible refine L1.at ?_ | wp_step))
 refine zD hC hb hx hc ?_
 repeat (any_goals (first | assumption | wp_step))
theorem kL (hC:h.get? C=some (excClassObj nm q C N bs bm hdct sn sub ab col dd k0 k1 k2 k3 k5 newId)) (hb:bm.contains (.type "BaseException")=true)
  (hx:h.get? a=some o) (hc:o.cls=.ref C) (hq:Q () ⟨h,g,d,t,os⟩):wpAny M A (checkBuiltinCall "BaseException.__getattribute__" ⟨[.ref a,nameV],[]⟩) Q E ⟨h,g,d,t,os⟩:=by
 have hk:builtinKind "BaseException.__getattribute__" = some .slot:=by decide +kernel
 have hsplit:splitId "BaseException.__getattribute__" = some ("BaseException", "__getattribute__"):=by decide +kernel
 have hcB:(Value.ref C :: bm).contains (.type "BaseException")=true:=by rw [PY,hb,Bool.or_true]
 have ha:=F.args_bexc_ga (.ref a) nameV;simp only [checkBuiltinCall,hk,hsplit];refine N3 ?_
 ·unfold isInstance
  repeat (first | (with_reducible refine ON hx ?_;rw [hc]) | (with_reducible refine Pm hC ?_;rw [hcB]) | wp_step)
  exact hq
theorem Eg {tk:Tok} {fill expr:Bool} {Q:Qj->Qx->Prop} (X:K.In h) (hcl:PySem.W.findIn K (.ref C) "__class__" = some (some (.builtin "object.__class__")))
  (hga:PySem.W.findIn K (.ref C) "__getattribute__" = some (some (.builtin "BaseException.__getattribute__"))) (hgg:PySem.W.findIn K (.ref C) "__getattr__" = some none)
  (hC:h.get? C=some (excClassObj nm q C N bs bm hdct sn sub ab col dd k0 k1 k2 k3 k5 newId)) (hb:bm.contains (.type "object")=true) (hb2:bm.contains (.type "BaseException")=true)
  (hx:h.get? a=some o) (hc:o.cls=.ref C) (hq:Q (.ref C) ⟨h,g,d,t,os⟩) :
  wpAny (model prog w) A (getAttrBy (.ref a) (.str "__class__" tk) fill expr) Q E ⟨h,g,d,t,os⟩:=by
 have f3:=F.excAttr_ValueError.ga.bind (.ref a);have hx0:(expr&&onTheHeap (Value.builtin "BaseException.__getattribute__"))=false:=by cases expr <;> rfl
 have hx2:(Value.builtin "BaseException.__getattribute__" == Value.builtin "object.__getattribute__")=false:=by decide +kernel
 have hx1:(onTheHeap (Value.ref C)&&Value.builtin "BaseException.__getattribute__" == Value.builtin "object.__getattribute__")=false:=by rw [hx2];rfl
 have L1:=Pa (M:=model prog w) X hga;have L2:=Pa (M:=model prog w) X hgg
 repeat (any_goals (first | assumption | (with_reducible refine ON hx ?_;rw [hc]) | with_reducible refine L1.at ?_ | with_reducible refine L2.at ?_ | wp_step))
 refine PK F.excAttr_ValueError.ga.plain F.entry_bexc_ga (kL hC hb2 hx hc (tj X hcl hC hb hx hc ?_))
 repeat (any_goals (first | assumption | wp_step))
theorem wJ {Q:Option Qj->Qx->Prop} (X:K.In h) (hcl:PySem.W.findIn K (.ref C) "__class__" = some (some (.builtin "object.__class__")))
  (hga:PySem.W.findIn K (.ref C) "__getattribute__" = some (some (.builtin "BaseException.__getattribute__"))) (hgg:PySem.W.findIn K (.ref C) "__getattr__" = some none)
  (hC:h.get? C=some (excClassObj nm q C N bs bm hdct sn sub ab col dd k0 k1 k2 k3 k5 newId)) (hb:bm.contains (.type "object")=true) (hb2:bm.contains (.type "BaseException")=true)
  (hx:h.get? a=some o) (hc:o.cls=.ref C) (hq:Q (some (.ref C)) ⟨h,g,d,t+1,os⟩) :
  wpAny (model prog w) A (getAttr? (.ref a) "__class__") Q E ⟨h,g,d,t,os⟩:=by
 unfold getAttr? getAttrBy?
 repeat (any_goals (first | assumption | with_reducible apply Eg X hcl hga hgg hC hb hb2 hx hc | wp_step))
theorem FY
  (hC:h.get? C=some (excClassObj nm q C N bs bm hdct sn sub ab col dd k0 k1 k2 k3 k5 newId)) (hD:h.get? D=some (excClassObj nm' q' D N' bs' bm' hdct' sn' sub' ab' col' dd' k0' k1' k2' k3' k5' newId'))
  (he:h.get? e=some oe) (hcls:oe.cls=.ref C) (hbase:bm'.contains (.type "BaseException")=true) (hm:(Value.ref C :: bm).contains (.ref D)=b)
  (hq:Q b ⟨h,g,d,t,os⟩):wpAny M A (excMatches (.ref e) (.ref D)) Q E ⟨h,g,d,t,os⟩:=by
 have hcB:(Value.ref D :: bm').contains (.type "BaseException")=true:=by rw [PY,hbase,Bool.or_true]
 have f:=tc_notTuple;unfold excMatches
 repeat (first | (with_reducible refine ON he ?_;rw [hcls]) | with_reducible refine ON hD ?_ | (with_reducible refine Pm hD ?_;rw [hcB]) | (with_reducible refine Pm hC ?_;rw [hm]) | wp_step)
 cases b <;> first | exact hq | (wp_walk;exact hq)
end
abbrev bmV:List Qj:=[.type "ValueError", .type "Exception", .type "BaseException", .type "object"]
theorem cP.got (x:cP P w H h a o):∃ ob,h.get? a=some ob:=by
 cases o with
 | lst xs=>obtain ⟨_,_,_,_,e⟩:=x;exact ⟨_,e⟩
 | tup xs=>obtain ⟨_,_,_,ob,e,_⟩:=x;exact ⟨_,e⟩
 | dK kvs=>obtain ⟨_,_,_,_,o,_,_,e,_⟩:=x;exact ⟨_,e⟩
 | dT kvs=>obtain ⟨_,_,_,_,o,_,_,e,_⟩:=x;exact ⟨_,e⟩
 | dD ep xs=>obtain ⟨_,_,_,o,_,e,_⟩:=x;exact ⟨_,e⟩
 | set S n=>obtain ⟨o,_,_,_,e,_⟩:=x;exact ⟨_,e⟩
 | ins C dx fs=>obtain ⟨_,_,_,e,_⟩:=x;exact ⟨_,e⟩
 | own y=>exact x
 | xd fs=>obtain ⟨_,⟨_,_,_,e,_⟩,_⟩:=x;exact ⟨_,e⟩
 | rng lo hi=>obtain ⟨_,_,_,e⟩:=x;exact ⟨_,e⟩
 | frz ob u=>exact ⟨_,x.1⟩
 | tbl ps=>exact ⟨_,x⟩
 | met f y=>exact ⟨_,x⟩
 | ext φ=>exact x.2.1
theorem gH {h b0 b1:Heap}:∀ {l:List Env},h.FunFrames b0 l->(∀ L∈frs l,b1.get? L=none)->h.FunFrames b1 l
 | [],_,_=>trivial
 | env :: rest,⟨hk,⟨L,o,hf,hn,ho,hd⟩,hr⟩,k=>by
  refine ⟨hk,⟨L,o,hf,k L ?_,ho,hd⟩,gH hr fun L' h'=>k L' ?_⟩
  ·unfold frs;rw [Pc,hf];exact N5
  ·unfold frs at h' ⊢;rw [Pc,hf];exact NZ _ h'
theorem BX {outer:List Env} {H H':Hp} {h h2 h3 b b0:Heap} (u:Un (frs outer) [] H H' h h2) (k:∀ c o,h.get? c=some o->c ∉ frs outer->∃ o',b.get? c=some o') (st:b.StaysIn h2) (st3:b.StaysIn h3) (sl:h2.UpToSlots h3)
  (ff:h2.FunFrames b0 outer) (fr:∀ c∈frs outer,H c=none):Un (frs outer) [] H H' h h3 where
 keep:=fun c o e n hc hx=>by
  obtain ⟨o',q⟩:=k c o e hc;have z:=u.keep c o e n hc hx;rw [st c o' q] at z;cases z;exact st3 c _ q
 slot:=fun c o e n hc hx=>by
  obtain ⟨s1,z⟩:=u.slot c o e n hc hx;obtain ⟨_,o2,e2,d2⟩:=ff.mem hc;rw [z] at e2;cases e2;obtain ⟨s2,z2⟩:=sl c _ z d2;exact ⟨s2,z2⟩
 free:=u.free
 there:=fun c o e hx=>by
  by_cases hc:c∈frs outer
  ·obtain ⟨s1,z⟩:=u.slot c o e (fr c hc) hc hx;obtain ⟨_,o2,e2,d2⟩:=ff.mem hc;rw [z] at e2;cases e2;obtain ⟨s2,z2⟩:=sl c _ z d2;exact ⟨_,z2⟩
  ·obtain ⟨o',q⟩:=k c o e hc;exact ⟨o',st3 c o' q⟩
 rP:=u.rP
 oZ:=u.oZ
 sv:=u.sv
abbrev Xs (X:Cx) (ea:Qz) (oe:Obj) (n:Str):Cx:={ X with A:=X.A.mark (some (.ref ea)),calm:=false,pn:=(ea,oe) :: X.pn,N:=X.N++[n],xe:=fun _ _=>False }
section
variable {X:Cx} {pins:List (Qz×Obj)} {Z:St} {H H':Hp} {s s2:Qx} {ea:Qz} {oe:Obj} {n:Str}
theorem Cx.Ok.qq (ok:X.Ok):(Xs X ea oe n).Ok :=
 ⟨ok.mod,ok.kind,ok.glob,ok.blt,ok.above,ok.inj,ok.has,ok.cab,fun z=>(by cases z),ok.frames,ok.stk,ok.exf,ok.bs,ok.bsz,ok.Ef,ok.Er,ok.o6,ok.frf⟩
theorem Inv.qq (I:Inv X pins Z H s) (h1:s.heap.get? ea=some oe) (h2:H ea=none) (h3:ea≠X.env.locals) (h4:ea ∉ X.fs) (h5:∀ v,oe.data≠.cell v):Inv (Xs X ea oe n) pins (Z++[none]) H s:=by
 refine ⟨I.ok.qq,I.os,I.bare,I.base,?_,I.cell,I.free,I.fT,fun p hp=>?_,I.hok,?_⟩
 ·obtain ⟨m,hn,hl⟩:=I.loc;refine ⟨m,hn,fun i x v e1 e2 e3=>?_⟩;by_cases hi:i < Z.length
  ·rw [N1 hi] at e2;have e1:(X.N++[n])[i]?=some x:=e1;rw [N1 (by rw [<- I.len];exact hi)] at e1;exact hl i x v e1 e2 e3
  ·rw [NX (by omega)] at e2;cases q:i - Z.length with
   | zero=>rw [q] at e2;cases e2
   | succ k=>rw [q] at e2;cases e2
 ·have hp:p∈(ea,oe) :: (X.pn++pins):=hp;rcases N9.mp hp with z | z
  ·subst z;exact ⟨h1,h2,h3,h4,h5⟩
  ·exact I.pin p z
 ·show (Z++[none]).length=(X.N++[n]).length;rw [NS,NS,I.len];rfl
theorem tI (I:Inv (Xs X ea oe n) pins τ H s) (hl:X.env.kindOf n=some .local) (hn:n ∉ X.N)
  (h:∀ s',Inv X pins (τ.take X.N.length) H s'->Q () s') (ok:X.Ok):wpAny M A (do bindName X.env n .none;unbindBehindTheSuite X.env n pos) Q E s:=by
 obtain ⟨m,hns,hlo⟩:=id I.loc;have hcls:(X.env.scope.kind==.class||(X.env.scope.kind==.module&&X.env.locals != X.env.globals))=false:=by rw [ok.kind];rfl
 refine wpAny_nameGoes_keeps hl hns hcls fun h' v hn' hs=>h _ ?_;have ab:=ok.above;have neL:∀ b o,X.ZO.heap.get? b=some o->b≠X.env.locals:=fun b o e=>OC (Ob (Oe e) ab);have cne:∀ y c,X.env.cells.lookup y=some c->c≠X.env.locals:=I.cne;obtain ⟨oL,_,_,hoL,_⟩:=id hns;refine ⟨ok,I.os,I.bare,⟨fun b o e n hb hx=>?_,fun b o e n hb hx=>?_,I.base.free,fun b o e hx=>?_,I.base.rP,I.base.oZ,I.base.sv⟩,⟨_,hn',fun j y v' e1 e2 e3=>?_⟩,fun y c e=>?_,I.free,I.fT,fun p hp=>?_,fun b ob e=>?_,?_⟩
 ·exact (hs.2 b (neL b o e)).trans (I.base.keep b o e n hb hx)
 ·obtain ⟨sl,e1⟩:=I.base.slot b o e n hb hx;exact ⟨sl,(hs.2 b (neL b o e)).trans e1⟩
 ·obtain ⟨o',e1⟩:=I.base.there b o e hx;exact ⟨o',(hs.2 b (neL b o e)).trans e1⟩
 ·have hj:j < X.N.length:=(NW.mp e1).1;rw [P6 hj] at e2;obtain ⟨u',r',q⟩:=hlo j y v' (show (X.N++[n])[j]?=some y by rw [N1 hj];exact e1) e2 e3;have ne:y≠n:=fun z=>hn (z▸Ov e1);refine ⟨u',r',?_⟩;rcases q with ⟨k,e⟩ | ⟨k,c,e,z⟩
  ·exact .inl ⟨k,by simp [ne,e]⟩
  ·exact .inr ⟨k,c,e,z.sameBut hs (cne y c e)⟩
 ·obtain ⟨w',z⟩:=I.cell y c e;exact ⟨w',z.sameBut hs (cne y c e)⟩
 ·obtain ⟨e,n,ne,nf,d⟩:=I.pin p (NZ _ hp);exact ⟨(hs.2 p.1 ne).trans e,n,ne,nf,d⟩
 ·refine (I.hok b ob e).mM (fun c w' hc q=>(hs.2 c ?_).trans q) (fun _ q=>q) fun _ _ q=>q;have fr:H X.env.locals=none:=I.free;rintro rfl;rcases hc with rfl | hc
  ·rw [fr] at e;cases e
  ·rw [fr] at hc;cases hc
 ·have q:τ.length=(X.N++[n]).length:=I.len;rw [NS] at q;rw [OB];have:[n].length=1:=rfl;omega
theorem o5 (I:Inv X pins Z H1 s1) (ho:s2.os=s1.os) (hb:AllBare s2.gens) (u:Un (frs X.stack) [] H1 H' s1.heap s2.heap)
  (k:∀ c o,s1.heap.get? c=some o->c ∉ frs X.stack->∃ o',b.get? c=some o') (hok:HOk X.prog X.w H' b) (fl:Heap.FlyingW b X.stack ea (.ref C) (.ref t) s2.heap) (st3:b.StaysIn h3) (sl:s2.heap.UpToSlots h3) :
  Inv X pins Z H' { s2 with heap:=h3 } :=
 I.Ji (s':={ s2 with heap:=h3 }) (ch:=[]) ho (BX u k fl.1 st3 sl fl.2.2.1 I.kX) (hok.kept st3) hb fun b z=>absurd z (by simp)
end
section
variable {prog:Program} {w:World} {A:Around} {E:Qj->Qx->Prop} {s:Qx} {K:Fg} {C e:Qz} {f:Str} {v:Qj} {vs:Array Qj}
noncomputable def Av:List Qj->Bool
 | .ref _ :: l=>Av l
 | l=>l==bmV
def HS (K:Fg) (C:Qz):Bool:=(PySem.W.clsIn K C).any fun c=>Av c.mro
theorem AH (a:Qj) (l:List Qj) (h:Av l=true):refuseLoop a "__setattr__" l=pure ()/\l.contains (.type "object")=true:=by
 induction l with
 | nil=>cases Pe.mp (show ([]==bmV)=true from h)
 | cons x l ih =>
  unfold Av at h;split at h
  ·rename_i z;cases z;obtain ⟨g1,g2⟩:=ih h;exact ⟨(refuseLoop_ref ..).trans g1,by rw [PY,g2,Bool.or_true]⟩
  ·rw [Pe.mp h];exact ⟨F.store_ValueError.passes a,by decide +kernel⟩
theorem M3 (X:K.In s.heap) (J:PySem.W.InstAt s.heap e ob C od) (hp:HS K C=true) (ht:PySem.W.takerIn K C f=some none)
  (go:∀ b,wpAny (model prog w) A.in1 (Builtin.ObjectAttr.storeInOwnDict (.ref e) (.ref C) (.str f tk) f v b) (fun z s1=>match z with | .done y=>R (.ok y) s1 | .again y=>y.quiet=true/\codeAny (model prog w) A y R s1) (fun y s1=>R (.error y) s1) s) :
  codeAny (model prog w) A (.call (.builtin "object.__setattr__") ⟨[.ref e,.str f tk,v],[]⟩) R s:=by
 have SO:=F.store_object;obtain ⟨c,hc,hv⟩:=PySem.W.any_some hp;obtain ⟨g1,g2⟩:=AH (.ref e) _ hv;have ty:=J.type (M:=model prog w);have hm:PySem.W.Looks (model prog w) s.heap (mroOf (.ref C)) c.mro:=(PySem.W.looks_clsIn X hc).andThen .now;have isO:PySem.W.mroIn K C (.type "object")=some true:=by
  unfold PySem.W.mroIn;rw [hc];show (if c.mro.isEmpty then none else some (c.mro.contains (.type "object")))=some true;cases z:c.mro with
  | nil=>rw [z] at g2;cases g2
  | cons a l=>rw [z] at g2;rw [g2];rfl
 refine PK SO.slot.plain SO.entry (@PySem.W.check_slot (model prog w) _ _ s "object.__setattr__" "object" "__setattr__" (.ref e) _ [] _ SO.kind SO.split (ty.andThen (PySem.W.looks_mroIn X isO)) (SO.args ..) ?_);obtain ⟨at',ha,hr⟩:=Option.bind_eq_some_iff.mp ht;have L3:PySem.W.Looks (model prog w) s.heap (Builtin.ObjectAttr.storeTaker? at') none:=by
  cases at' with
  | none=>exact .now
  | some a =>
   obtain ⟨b,hb,hn⟩:=Ou.mp hr;refine (PySem.W.looks_takesIn X hb).andThen ?_;cases b with
   | false=>exact .now
   | true=>cases hn
 rw [PySem.W.osa_eq,refuse_eq];refine N3 (N3 (ty.here (N3 (hm.here ?_))));rw [g1];exact Om (N3 (ty.here (N3 ((Pa X ha).here (N3 (L3.here (go _)))))))
theorem MP (X:K.In s.heap) (he:s.heap.get? e=some { cls:=.ref C,data:=.fields vs })
  (hs:PySem.W.findIn K (.ref C) "__setattr__" = some (some (.builtin "object.__setattr__"))) (hp:HS K C=true) (ht:PySem.W.takerIn K C f=some none) (hh:PySem.W.hasDictIn K C=true)
  (h:∀ h' tk,(∀ b o,b≠e->s.heap.get? b=some o->h'.get? b=some o)->h'.get? e=some { cls:=.ref C,dict:=some s.heap.objs.size,data:=.fields vs }->h'.Ns1 s.heap.objs.size (fun y=>if y=f then some v else none)->Q () { s with heap:=h',toks:=tk }) :
  wpAny (model prog w) A (setAttr (.ref e) f v) Q E s:=by
 have J:PySem.W.InstAt s.heap e { cls:=.ref C,data:=.fields vs } C none:=⟨he,rfl,rfl,trivial⟩;refine PySem.W.set_plain X J hs (M3 (s:={ s with toks:=s.toks+1 }) X J hp ht fun b=>?_);obtain ⟨cd,hc,hd'⟩:=PySem.W.any_some hh;refine N3 (Om (N3 (N3 (wpAny_loadPart he (N3 (PySem.W.Looks.here (s:={ s with toks:=s.toks+1 }) (PySem.W.looks_clsIn X hc) ?_))))));rw [hd'];show wpAny _ _ (alloc { cls:=Value.type "dict", data:=Data.dict #[] }>>=_) _ _ _;refine N3 (wpAny_alloc ?_);have he1:(s.heap.push { cls:=.type "dict", data:=.dict #[] }).get? e=some { cls:=.ref C,data:=.fields vs }:=N8 _ he;have ne:e≠s.heap.objs.size:=OC (Oe he);refine N3 (wpAny_update he1 (Om ?_));have he2:=PH (fun o:Obj=>{ o with dict:=some s.heap.objs.size }) he1 rfl;have hd2:((s.heap.push { cls:=.type "dict", data:=.dict #[] }).update e (fun o:Obj=>{ o with dict:=some s.heap.objs.size })).get? s.heap.objs.size=some { cls:=.type "dict", data:=.dict #[] }:=(OT _ _ ne).trans (OA _ rfl);have N0:((s.heap.push { cls:=.type "dict", data:=.dict #[] }).update e (fun o:Obj=>{ o with dict:=some s.heap.objs.size })).Ns1 s.heap.objs.size (fun _=>none):=Heap.Ns1.of_empty ⟨_,#[],_,hd2,rfl,fun e he=>absurd he (by simp),fun _=>rfl⟩;refine N3 (Om (N3 ?_));refine wpAny_nsSet1 (s:={ s with heap:=_,toks:=s.toks+1 }) N0 fun h' hn2 hs2=>?_;obtain ⟨oD,esD,epD,hoD,hdD,hcD⟩:=hn2.count (PySem.Within.cons f v (m:=fun _=>none) (ns:=[]) (fun x hx=>absurd rfl hx));refine N3 (wpAny_lookBehind hoD (by rw [hdD];exact pastItsLine_dict (Oi hcD (by show 1<=sizeLine+1;decide))) ?_);refine Om (h _ _ (fun b o hb q=>?_) ((hs2.2 e ne).trans he2) hn2);have hbn:b≠s.heap.objs.size:=OC (Oe q);rw [hs2.2 b hbn];exact (OT _ _ (Ne.symm hb)).trans (N8 _ q)
theorem ML {h:Heap} {g:Array GenState} {d:Drawn} {t:Nat} {os:OsState} {ox:Obj} {od:Option Obj} {expr:Bool} {nm q:Str} {N:Qz} {bs bm:List Qj} {hdct:Bool} {sn:List Str} {sub:List Qj} {ab:Bool} {col:Option Bool} {dd:Option Qz} {k0 k1 k2 k3 k5:Option Qj} {newId:String} {Q:Qj->Qx->Prop} (X:K.In h) (J:PySem.W.InstAt h e ox C od)
  (hga:PySem.W.findIn K (.ref C) "__getattribute__" = some (some (.builtin "BaseException.__getattribute__"))) (hgg:PySem.W.findIn K (.ref C) "__getattr__" = some none)
  (hC:h.get? C=some (excClassObj nm q C N bs bm hdct sn sub ab col dd k0 k1 k2 k3 k5 newId)) (hb2:bm.contains (.type "BaseException")=true)
  (hf:PySem.W.findObj K C od f=some (.value v)) (hv:PySem.W.handedIn v=true) (hq:Q v ⟨h,g,d,t+1,os⟩):wpAny (model prog w) A (getAttr (.ref e) f expr) Q E ⟨h,g,d,t,os⟩:=by
 have f3:=F.excAttr_ValueError.ga.bind (.ref e);have hx0:(expr&&onTheHeap (Value.builtin "BaseException.__getattribute__"))=false:=by cases expr <;> rfl
 have hx2:(Value.builtin "BaseException.__getattribute__" == Value.builtin "object.__getattribute__")=false:=by decide +kernel
 have hx1:(onTheHeap (Value.ref C)&&Value.builtin "BaseException.__getattribute__" == Value.builtin "object.__getattribute__")=false:=by rw [hx2];rfl
 have L1:=Pa (M:=model prog w) X hga;have L2:=Pa (M:=model prog w) X hgg;have L3:=PySem.W.looks_find (M:=model prog w) X J hf;have hx:=J.at_;have hc:=J.cls;have ho:=PySem.W.handedOut_of hv;unfold getAttr
 repeat (any_goals (first | assumption | (with_reducible refine ON hx ?_;rw [hc]) | with_reducible refine L1.at ?_ | with_reducible refine L2.at ?_ | wp_step))
 refine PK F.excAttr_ValueError.ga.plain F.entry_bexc_ga (kL hC hb2 hx hc ?_);refine N3 (Om (N3 (Om (N3 (J.type.at (N3 (L3.at (Om ?_))))))));show wpAny _ _ (handedOut v) _ _ _;rw [ho];exact Om hq
end
section
variable {prog:Program} {w:World} {A:Around} {E:Qj->Qx->Prop} {h:Heap} {g:Array GenState} {d:Drawn} {t:Nat} {os:OsState} {e C N t0:Qz} {nm q:Str} {bs bm:List Qj} {hdct:Bool} {sn:List Str} {sub:List Qj} {ab:Bool} {col:Option Bool} {dd:Option Qz} {k0 k1 k2 k3 k5:Option Qj} {u:Qj}
theorem Lj (T:OwnTail h bmV bm) (hC:h.get? C=some (excClassObj nm q C N bs bm hdct sn sub ab col dd k0 k1 k2 k3 k5 "ValueError.__new__"))
  (he:h.get? e=some { cls:=.ref C,data:=.fields #[.ref t0,.none,.none,.none,.bool false,.none] })
  (hq:∀ h' t1,(∀ b o,b≠e->h.get? b=some o->h'.get? b=some o)->h'.get? e=some { cls:=.ref C,data:=.fields #[.ref t1,.none,.none,.none,.bool false,.none] }->Q .none ⟨h',g,d,t,os⟩) :
  wpAny (model prog w) A (call (.builtin "ValueError.__init__") [.ref e,u]) Q E ⟨h,g,d,t,os⟩:=by
 have F:=PySem.F.excBase_ValueError;refine wpAny_call (PK F.init.plain F.initEntry (wpAny_check_init_subT F T hC he rfl ?_))
 wp_walk
 refine hq _ h.objs.size (fun b o hb z=>?_) ?_
 ·rw [OT _ _ (Ne.symm hb)];exact N8 _ z
 ·rw [PH _ (N8 _ he) rfl];rfl
theorem Kz {mN:Str->Option Qj} {rest:List Qj} {f:Qz} {o:Obj} {Q:Fin->Qx->Prop} (T:OwnTail h bmV bm) (hC:h.get? C=some (excClassObj nm q C N bs bm hdct sn sub ab col dd k0 k1 k2 k3 k5 "ValueError.__new__"))
  (hn:h.Ns N mN) (hi:mN "__init__" = some (.ref f)) (hf:h.get? f=some o) (hfc:o.cls=.type "function")
  (hq:∀ h' e,h.objs.size<=e->Heap.MadeExcOf h h' e (.ref C) rest->wpAny (model prog w) A (call (.ref f) (.ref e :: rest)) (fun r s'=>r=.none/\Q (.done (.ret (.ref e))) s') E ⟨h',g,d,t,os⟩) (hr:rest.length<=sizeLine) :
  wpAny (model prog w) A (Builtin.«type.__call__» ⟨.ref C :: rest,[]⟩) Q E ⟨h,g,d,t,os⟩:=by
 have F:=PySem.F.excBase_ValueError
 repeat (first | with_reducible refine ON hC ?_ | with_reducible refine wpAny_madeBy_exc hC ?_ | wp_step)
 refine codeAny_call_builtin_code (Code.quiet_builtin _ F.quiet) (wpAny_check_new_subT F T hC (codeAny_exc_new_subT F T hC ?_ hr));show wpAny _ _ _ _ _ _;generalize eh:(h.push { cls:=.type "tuple", data:=.seq rest.toArray }).push { cls:=.ref C,data:=.fields #[.ref h.objs.size,.none,.none,.none,.bool false,.none] }=h1;have kp:∀ b o,h.get? b=some o->h1.get? b=some o:=fun b o z=>by rw [<- eh];exact N8 _ (N8 _ z)
 have he:h1.get? (h.objs.size+1)=some { cls:=.ref C,data:=.fields #[.ref h.objs.size,.none,.none,.none,.bool false,.none] }:=by rw [<- eh];heap_get
 have ht:h1.get? h.objs.size=some { cls:=.type "tuple", data:=.seq rest.toArray }:=by rw [<- eh];exact N8 _ (Heap.get?_push_at rfl rfl)
 have hC1:=kp _ _ hC;have cc:(Value.ref C :: bm).contains (.ref C)=true:=by simp
 unfold isInstance
 repeat (first | with_reducible refine ON he ?_ | (with_reducible refine Pm hC1 ?_;rw [cc]) | wp_step)
 show wpAny _ _ (typeLookup (.ref C) _) _ _ _;refine wpAny_typeLookup_tail hC1 (hn.keeps kp) (T.keeps kp) F.mroIs F.init.lookup ?_;rw [hi];refine wpAny_holding (N3 ?_);unfold bindSpecial;refine N3 (wpAny_typeOf (T := "function") ⟨_,kp _ _ hf,hfc⟩ ?_);rw [N4 (by decide)];refine Om (N3 (OF (hq _ (h.objs.size+1) (P5 _) ⟨kp,Heap.get?_none_of_le (P5 _),h.objs.size,he,Heap.get?_none_of_le (Oc _),ht⟩) (fun r s' z=>?_) fun _ _ z=>z));obtain ⟨rfl,z⟩:=z
 wp_walk
 exact z
theorem LS {mN:Str->Option Qj} {rest:List Qj} {f:Qz} {o:Obj} {Q:Qj->Qx->Prop} (T:OwnTail h bmV bm) (hC:h.get? C=some (excClassObj nm q C N bs bm hdct sn sub ab col dd k0 k1 k2 k3 k5 "ValueError.__new__"))
  (hn:h.Ns N mN) (hi:mN "__init__" = some (.ref f)) (hf:h.get? f=some o) (hfc:o.cls=.type "function")
  (hq:∀ h' e,h.objs.size<=e->Heap.MadeExcOf h h' e (.ref C) rest->wpAny (model prog w) (A.under (.builtin "type.__call__" ⟨.ref C :: rest,[]⟩)) (call (.ref f) (.ref e :: rest)) (fun r s'=>r=.none/\Q (.ref e) s') E ⟨h',g,d,t,os⟩) (hr:rest.length<=sizeLine) :
  wpAny (model prog w) A (call (.ref C) rest) Q E ⟨h,g,d,t,os⟩:=by
 have f1:=tc_lookup;have f2:=tc_bind (.ref C);have hT:(⟨h,g,d,t,os⟩:Qx).TypeIs (.ref C) "type" := ⟨_,hC,rfl⟩;refine wpAny_call (codeAny_of_tree ?_);show wpAny _ _ (callAny (.ref C) _) _ _ _
 repeat (any_goals (first | assumption | with_reducible refine ON hC ?_ | wp_step))
 exact ⟨rfl,codeAny_call_builtin_at (Code.quiet_builtin _ (by decide +kernel)) entry_typeCall (wpAny_check_type_call_sub hC (Kz T hC hn hi hf hfc hq hr))⟩
theorem HK (hb:bm.contains (.type "BaseException")=true) (hh:A.handled=none)
  (hx:wpAny (model prog w) A x (fun v s1=>∃ e oe vs,v=.ref e/\s1.heap.get? C=some (excClassObj nm q C N bs bm hdct sn sub ab col dd k0 k1 k2 k3 k5 "ValueError.__new__")/\s1.heap.get? e=some oe/\oe.cls=.ref C/\oe.data=.fields vs/\vs[1]?=some .none/\E (.ref e) s1) E s) :
  wpAny (model prog w) A (raiseStmt env (some x) none) Q E s:=by
 have hcB:(Value.ref C :: bm).contains (.type "BaseException")=true:=by rw [PY,hb,Bool.or_true]
 unfold raiseStmt;refine N3 (OF hx (fun v s1 z=>?_) fun _ _ z=>z);obtain ⟨e,⟨cls,dct,dat,sl⟩,vs,rfl,hC,he,hc,hd,h1,hE⟩:=z;obtain ⟨hp,g,d,tk,os⟩:=s1;simp only at hc hd;subst hc hd
 repeat (first | with_reducible refine ON he ?_ | with_reducible refine ON hC ?_ | (with_reducible refine Pm hC ?_;rw [hcB]) | wp_step)
 rw [h1];refine Om ?_;rw [Od (by decide)];exact Om (wpAny_raiseNew_none hh hE)
end
def TrD (h base:Heap) (e:Qz) (cls a0:Qj) (dx:Option Qz) (fl:Qj):Prop :=
 ∃ oe vs T oT ts,h.get? e=some oe/\((oe.cls=cls/\vs[0]?=some a0)/\oe.dict=dx)/\oe.data=.fields vs/\vs[1]?=some (.ref T)/\base.get? T=none/\T≠e/\h.get? T=some oT/\oT.data=.fields ts/\ts[3]?=some fl
def FlD (base:Heap) (l:List Env) (e:Qz) (cls a0:Qj) (dx:Option Qz) (fl:Qj) (h:Heap):Prop:=base.StaysIn h/\base.get? e=none/\h.FunFrames base l/\TrD h base e cls a0 dx fl
theorem FlD.fly (x:FlD base l e cls a0 dx .none h):Heap.FlyingW base l e cls a0 h:=by
 obtain ⟨x1,x2,x3,oe,vs,T,oT,ts,h1,h2,r⟩:=x;exact ⟨x1,x2,x3,oe,vs,T,oT,ts,h1,h2.1,r⟩
section
variable {M:Model} {A:Around} {E:Qj->Qx->Prop} {s:Qx} {base:Heap} {env:Env} {l outer:List Env} {L e:Qz} {cls a0 fl:Qj} {dx:Option Qz} {Q:Unit->Qx->Prop}
theorem lJ (x:FlD base l e cls a0 dx fl s.heap) (q:∀ h',FlD base l e cls a0 dx .none h'->s.heap.UpToSlots h'->Q () { s with heap:=h' }):wpAny M A (setFlight (.ref e) none) Q E s:=by
 obtain ⟨k1,k2,k3,oe,vs,T,oT,ts,he,hc,hd,h1,hn,hne,hT,hdT,h3⟩:=x;have z3:3 < ts.size:=(PZ.mp h3).1;have oth:∀ b,b≠T->(s.heap.update T (Obj.mapFields (·.setIfInBounds 3 ((none:Option Qz).elim Value.none fun f=>rawInt f)))).get? b=s.heap.get? b:=fun b hb=>OT _ _ (Ne.symm hb);have nr:∀ b o,s.heap.get? b=some o->(∀ vs,o.data≠.fields vs)->b≠T:=fun b o hb nf z=>by
  subst z;rw [hT] at hb;cases hb;exact nf ts hdT
 unfold setFlight;refine N3 (P4 he hd h1 ?_);rw [N4 (show (Value.ref T != Value.none)=true by simp)];refine wpAny_setField hT hdT z3 (q _ ⟨fun b o z=>(oth b fun y=>by rw [y,hn] at z;cases z).trans (k1 b o z),k2,k3.of_keeps fun b o hb nf=>⟨o,(oth b (nr b o hb nf)).trans hb,rfl⟩,oe,vs,T,_,_,(oth e (Ne.symm hne)).trans he,hc,hd,h1,hn,hne,PH _ hT (Obj.isFreed_of_fields (Obj.data_mapFields hdT _)),Obj.data_mapFields hdT _,by simp [z3]⟩ fun b o hb nf=>⟨o.slots,(oth b (nr b o hb nf)).trans hb⟩)
theorem zR:(Obj.mapFields f o).dict=o.dict:=by
 obtain ⟨c,d,dt,sl⟩:=o;cases dt <;> rfl
theorem rM (hfr:A.frames=some (env :: outer)) (hl:s.heap.FunFrames base (env :: outer)) (hf:env.frame=some L) (he:s.heap.get? e=some oe) (kb:base.StaysIn s.heap) (hen:base.get? e=none) (hd:oe.data=.fields vs) (hz:1 < vs.size) (h0:vs[0]?=some a0)
  (q:∀ h',FlD base (env :: outer) e oe.cls a0 oe.dict (rawInt L) h'->s.heap.UpToSlots h'->Q () { s with heap:=h' }) :
  wpAny M A (do let a<-frameOf env;let pl<-entryPlaceOf L had;let b<-EntryCells.newEntry head a .none (rawInt L) .none pl;setField (.ref e) 1 b) Q E s:=by
 have nfr:e ∉ (env :: outer).filterMap (·.frame):=fun z=>by
  obtain ⟨_,o,ho,nf⟩:=hl.mem z;rw [he] at ho;cases ho;exact nf vs hd
 refine N3 (wpAny_frameOf_fun hfr hl hf fun h1 hs=>N3 (wpAny_entryPlaceOf fun pl hpl=>?_));unfold EntryCells.newEntry newFields;refine N3 (Px ?_ (hpl.sizeOk5 _ _ _ _ _));have he1:h1.get? e=some oe:=(hs.2.1 e nfr).trans he;have kb1:base.StaysIn h1:=fun b o z=>(hs.2.1 b fun y=>by rw [(hl.mem y).1] at z;cases z).trans (kb b o z);have hTe:h1.objs.size≠e:=Nat.ne_of_gt (Oe he1);have hd3:=Obj.data_mapFields hd (·.setIfInBounds 1 (Value.ref h1.objs.size));generalize eo:({ cls:=.type "traceback", dict:=none,data:=.fields ([head,.ref L,.none,rawInt L,.none]++(if pl.isEmpty then List.replicate 6 Value.none else pl)).toArray }:Obj)=oT;have he2:=N8 (h:=h1) oT he1;have he3:=PH (Obj.mapFields (·.setIfInBounds 1 (Value.ref h1.objs.size))) he2 (Obj.isFreed_of_fields hd3);have hT3:((h1.push oT).update e (Obj.mapFields (·.setIfInBounds 1 (Value.ref h1.objs.size)))).get? h1.objs.size=some oT:=(OT _ _ (Ne.symm hTe)).trans (OA h1 (by rw [<- eo];rfl));have keep:∀ b o,b≠e->h1.get? b=some o->((h1.push oT).update e (Obj.mapFields (·.setIfInBounds 1 (Value.ref h1.objs.size)))).get? b=some o:=fun b o hb z=>(OT _ _ (Ne.symm hb)).trans (N8 _ z);have nr:∀ b o,s.heap.get? b=some o->(∀ vs,o.data≠.fields vs)->b≠e:=fun b o hb nf z=>by
  subst z;rw [he] at hb;cases hb;exact nf vs hd
 have dd:(Obj.mapFields (·.setIfInBounds 1 (Value.ref h1.objs.size)) oe).dict=oe.dict:=zR;refine wpAny_setField he2 hd hz (q _ ⟨fun b o z=>keep b o (fun y=>by rw [y,hen] at z;cases z) (kb1 b o z),hen,hl.of_keeps fun b o hb nf=>?_,_,_,h1.objs.size,oT,_,he3,⟨⟨Obj.cls_mapFields _ _,by rw [Array.getElem?_setIfInBounds_ne (by decide)];exact h0⟩,dd⟩,hd3,by simp [hz],kb1.fresh,hTe,hT3,by rw [<- eo],?_⟩ fun b o hb nf=>?_)
 ·obtain ⟨sl,z⟩:=hs.2.2 b o hb;exact ⟨_,keep b _ (nr b o hb nf) z,rfl⟩
 ·first | (simp;done) | (rcases hpl with rfl | ⟨_,_,_,_,_,_,_,rfl⟩ <;> simp)
 ·obtain ⟨sl,z⟩:=hs.2.2 b o hb;exact ⟨sl,keep b _ (nr b o hb nf) z⟩
theorem AK (hfr:A.frames=some (env :: outer)) (hl:s.heap.FunFrames base (env :: outer)) (hf:env.frame=some L) (he:s.heap.get? e=some oe) (kb:base.StaysIn s.heap) (hen:base.get? e=none) (hd:oe.data=.fields vs) (h1:vs[1]?=some .none) (h0:vs[0]?=some a0)
  (q:∀ h',FlD base outer e oe.cls a0 oe.dict .none h'->s.heap.UpToSlots h'->Q () { s with heap:=h' }):wpAny M A (leaving env (.ref e)) Q E s:=by
 unfold leaving noteFrame;simp only [hf];refine N3 (N3 (P4 he hd h1 ?_));rw [Od (by decide)];refine rM hfr hl hf he kb hen hd (PZ.mp h1).1 h0 fun h2 x u=>lJ (s:={ s with heap:=h2 }) x fun h3 y u2=>q h3 ?_ (u.trans u2);obtain ⟨y1,y2,⟨_,_,y3⟩,y4⟩:=y;exact ⟨y1,y2,y3,y4⟩
theorem xK (hfr:A.frames=some (env :: outer)) (hf:env.frame=some L) (x:FlD base (env :: outer) e cls a0 dx .none s.heap) (q:∀ h',FlD base (env :: outer) e cls a0 dx (rawInt L) h'->s.heap.UpToSlots h'->Q () { s with heap:=h' }):wpAny M A (noteFrame (.ref e) env) Q E s:=by
 obtain ⟨k1,k2,k3,oe,vs,T,oT,ts,he,⟨⟨hc,h0⟩,hdx⟩,hd,h1,hn,hne,hT,hdT,h3⟩:=x;subst hc hdx;unfold noteFrame;simp only [hf];refine N3 (P4 he hd h1 ?_);rw [N4 (show (Value.ref T != Value.none)=true by simp)];refine N3 (P4 hT hdT h3 ?_);rw [Od (show ¬((Value.none==rawInt L)=true) by simp [rawInt])];refine N3 (wpAny_setField hT hdT (PZ.mp h3).1 ?_);have oth:∀ b,b≠T->(s.heap.update T (Obj.mapFields (·.setIfInBounds 3 Value.none))).get? b=s.heap.get? b:=fun b hb=>OT _ _ (Ne.symm hb);have nr:∀ b o,s.heap.get? b=some o->(∀ vs,o.data≠.fields vs)->b≠T:=fun b o hb nf z=>by
  subst z;rw [hT] at hb;cases hb;exact nf ts hdT
 exact rM (s:={ s with heap:=_ }) hfr (k3.of_keeps fun b o hb nf=>⟨o,(oth b (nr b o hb nf)).trans hb,rfl⟩) hf ((oth e (Ne.symm hne)).trans he) (fun b o z=>(oth b fun y=>by rw [y,hn] at z;cases z).trans (k1 b o z)) k2 hd (PZ.mp h1).1 h0 fun h' y u=>q h' y fun b o hb nf=>u b o ((oth b (nr b o hb nf)).trans hb) nf
end
theorem nsHas {K:Fg} {h:Heap} {N:Qz} {m:Str->Option Qj} {x:Str} {v:Qj} (X:K.In h) (G:h.Ns N m) (e:PySem.W.nsIn K N x=some (some v)):m x=some v:=by
 obtain ⟨oN,eN,nN,atN,isD,_,found⟩:=G;have f:=found x;unfold nsFind findBy at f;unfold PySem.W.nsIn at e;split at e
 ·next lk =>
  cases atN.symm.trans (X _ _ lk);cases isD;split at e
  ·next ff =>
   cases e;rw [<- f,<-Array.find?_toList,ff];rfl
  ·split at e <;> cases e
 ·cases e
structure lg (K:Fg) (C:Qz) (i:Option Qj):Prop where
 ex:∃ dd cd bm k0 k1 k2 k3 k5,K.lookup C=some ⟨.type "type", dd,.cls cd,#[k0,k1,k2,k3,some (.builtin "ValueError.__new__"),k5]⟩/\cd.mro=.ref C :: bm/\cd.hasDel=false/\PySem.W.tailIn K bmV bm=true/\PySem.W.nsOkIn K cd.ns=true/\PySem.W.nsIn K cd.ns "__init__" = some i
 cl:PySem.W.findIn K (.ref C) "__class__" = some (some (.builtin "object.__class__"))
 ga:PySem.W.findIn K (.ref C) "__getattribute__" = some (some (.builtin "BaseException.__getattribute__"))
 gg:PySem.W.findIn K (.ref C) "__getattr__" = some none
theorem lg.own {K:Fg} {C:Qz} {h:Heap} {i:Option Qj} (x:lg K C i) (X:K.In h):∃ bm N nm q bs hdct sn sub ab col dd k0 k1 k2 k3 k5 mN,h.get? C=some (excClassObj nm q C N bs bm hdct sn sub ab col dd k0 k1 k2 k3 k5 "ValueError.__new__")/\h.Ns N mN/\mN "__init__" = i/\OwnTail h bmV bm /\
  ∃ cd,PySem.W.clsIn K C=some cd/\cd.mro=.ref C :: bm:=by
 obtain ⟨dd,⟨nm,bs,mro,ns,qn,hd,sn,sub,ab,col,del⟩,bm,k0,k1,k2,k3,k5,lk,em,ed,tl,nk,ni⟩:=x.ex;dsimp only at em ed nk ni;subst em ed;have G:=Heap.Ns.of_isNs (PySem.W.isNs_of_in X nk);refine ⟨bm,ns,nm,qn,bs,hd,sn,sub,ab,col,dd,k0,k1,k2,k3,k5,_,X _ _ lk,G,?_,PySem.W.tail_of_in X tl,_,by unfold PySem.W.clsIn;rw [lk],rfl⟩;cases i with
 | none=>exact PySem.W.ns_none_of X G ni
 | some v=>exact nsHas X G ni
theorem Hq {K:Fg} {C a:Qz} {i:Option Qj} (x:lg K C i):PySem.W.KitX K (.ref a) (.ref C) (fun h=>∃ o,h.get? a=some o/\o.cls=.ref C) where
 ty:=fun M h _ p=>by
  obtain ⟨o,h1,h2⟩:=p;exact h2▸(PySem.W.Looks.ld h1).andThen .now
 it:=fun M h X _=>by
  obtain ⟨bm,N,nm,q,bs,hdct,sn,sub,ab,col,dd,k0,k1,k2,k3,k5,mN,hC,_⟩:=x.own X;intro A' Q' E' s' k q;unfold isType loadHead;exact N3 (wpAny_loadPart (k _ _ hC) (Om q))
 ne:=fun h tp dd its n sl X htp=>by
  refine Bool.eq_false_iff.mpr fun q=>?_;have e:C=tp:=Value.ref.inj (Pe.mp q);subst e;obtain ⟨bm,N,nm,q,bs,hdct,sn,sub,ab,col,dd,k0,k1,k2,k3,k5,mN,hC,_⟩:=x.own X;have z:=congrArg Obj.data (OK (hC.symm.trans htp));cases z
 ca:=fun {prog w A E Q s} X p k=>by
  obtain ⟨h,g,d,t,os⟩:=s;obtain ⟨o,h1,h2⟩:=p;obtain ⟨bm,N,nm,q,bs,hdct,sn,sub,ab,col,dd,k0,k1,k2,k3,k5,mN,hC,_,_,T,_⟩:=x.own X;exact wJ X x.cl x.ga x.gg hC (T.hasType rfl) (T.hasType rfl) h1 h2 k
noncomputable def i4 (C e:Qz) (dx:Option Qz):HO:=.ext fun h=>∃ t,h.get? e=some { cls:=.ref C,dict:=dx,data:=.fields #[.ref t,.none,.none,.none,.bool false,.none] }
theorem pG (z:h.get? e=some { cls:=.ref C,dict:=dx,data:=.fields #[.ref t,.none,.none,.none,.bool false,.none] }):cP P w H h e (i4 C e dx) :=
 ⟨⟨t,z⟩,⟨_,z⟩,fun h1 h2 ⟨t,q⟩ k=>⟨t,k _ q⟩⟩
theorem Inv.Np (I:Inv X pins Z H s) (he:H e=some (i4 C e none)) (r:RelV v u)
  (k:∀ b o,b≠e->s.heap.get? b=some o->h'.get? b=some o) (h1:h'.get? e=some { cls:=.ref C,dict:=some s.heap.objs.size,data:=.fields #[.ref t,.none,.none,.none,.bool false,.none] })
  (h2:h'.Ns1 s.heap.objs.size (fun y=>if y=fld then some u else none)) :
  Inv X pins Z (upd (upd H e (i4 C e (some s.heap.objs.size))) s.heap.objs.size (.xd [(fld,v)])) { s with heap:=h',toks:=tk }:=by
 have fr:H s.heap.objs.size=none:=I.hok.fresh (Oc _);have ne:e≠s.heap.objs.size:=fun z=>by rw [z,fr] at he;cases he
 have oth:∀ b,b≠e->b≠s.heap.objs.size->upd (upd H e (i4 C e (some s.heap.objs.size))) s.heap.objs.size (.xd [(fld,v)]) b=H b:=fun b n1 n2=>by
  unfold upd;rw [Od n2,Od n1]
 have nn:∀ b o,H b=some o->b≠s.heap.objs.size:=fun b o q z=>by rw [z,fr] at q;cases q
 have n0:∀ b,H b=none->b≠e:=fun b q z=>by rw [z,he] at q;cases q
 have nx:∀ b o,s.heap.get? b=some o->b≠s.heap.objs.size:=fun b o q=>OC (Oe q);refine I.un ⟨fun b o q n _ _=>k b o (n0 b n) q,fun b o q n _ _=>⟨o.slots,k b o (n0 b n) q⟩,fun b o q n _=>(oth b (n0 b n) (nx b o q)).trans n,fun b o q _=>?_,fun b xs q=>?_,fun b o u q=>?_,fun b ps q=>?_⟩ fun b o q=>?_
 ·by_cases z:b=e
  ·rw [z];exact ⟨_,h1⟩
  ·exact ⟨o,k b o z q⟩
 ·rw [oth b (fun z=>by rw [z,he] at q;cases q) (nn _ _ q)];exact q
 ·rw [oth b (fun z=>by rw [z,he] at q;cases q) (nn _ _ q)];exact q
 ·exact ⟨#[],by rw [oth b (fun z=>by rw [z,he] at q;cases q) (nn _ _ q),q];simp⟩
 ·by_cases z1:b=s.heap.objs.size
  ·subst z1;rw [aG] at q;cases q;refine ⟨_,h2,fun y=>?_⟩;by_cases e1:y=fld
   ·subst e1;show uD (List.lookup y [(y,v)]) _;rw [N4 rfl,OW,P7];exact r
   ·rw [Od e1];show uD (List.lookup y [(fld,v)]) _;have:(y==fld)=false:=by simpa using e1
    rw [OW,this];trivial
  ·by_cases z2:b=e
   ·subst z2;unfold upd at q;rw [Od z1,N4 rfl] at q;cases q;exact pG h1
   ·rw [oth b z2 z1] at q;refine (I.hok b o q).mM (fun c w hc g=>k c w ?_ g) (fun c g=>?_) fun c xs g=>?_
    ·rcases hc with rfl | hc
     ·exact z2
     ·rintro rfl;rw [he] at hc;cases hc
    ·rw [oth c (fun z=>by rw [z,he] at g;cases g) (nn _ _ g)];exact g
    ·rw [oth c (fun z=>by rw [z,he] at g;cases g) (nn _ _ g)];exact g
section
variable {X:Cx}
theorem ED {i:Nat} {x tx:Str} {j:Nat} {p1 p2 p3 p4:Pos} (hi:X.N[i]?=some x) (hv:Vis X.env.scope x) (hd:(x==("__debug__" : Str))=false) (hcd:(x==("__classdict__" : Str))=false) (ht:tx.length<=100) :
  PE X (.JoinedStr [.Constant (.str tx) j p1,.FormattedValue (.Name x p2) (-1) none p3] p4) (fun Z H Q=>∃ v,Z[i]?=some (some v)/\dY v=true/\∀ y,Q (.str y) H):=by
 intro pins s Z H Q I h;obtain ⟨v,ev,hp,q⟩:=h;refine JoinedStr_many ?_;refine joinParts_cons (Calls.Constant_str ⟨?_,?_⟩)
 ·show (Str.empty++tx).length<=sizeLine;rw [strLen_append];exact Oi (Nat.add_le_add_left ht _) (by decide)
 have I1:Inv X pins Z H { s with toks:=s.toks+1 }:=I.tok _;refine joinParts_cons (FormattedValue_plain (thn (jk hi hv hd hcd pins _ Z H (fun v' H'=>v'=v/\H'=H) I1 ⟨v,ev,rfl,rfl⟩) fun u s1 z=>?_));obtain ⟨v',H',I2,r,rfl,rfl⟩:=z;have fin:∀ (y:Str) (tk:Nat),y.length<=1000->(((Str.empty++tx)++y).length<=sizeLine/\wpAny (model X.prog X.w) X.A (joinParts ((Str.empty++tx)++y) (evalEach [] X.env)) (EP X pins Z Q) X.xe { s1 with toks:=tk }):=fun y tk hy=>by
  have hz:((Str.empty++tx)++y).length<=sizeLine:=by
   rw [strLen_append,strLen_append];exact Oi (Nat.add_le_add (Nat.add_le_add_left ht _) hy) (by decide)
  exact ⟨hz,joinParts_nil (out:=(Str.empty++tx)++y) (show EP X pins Z Q _ _ from ⟨.str _,H',I2.tok _,⟨_,rfl⟩,q _⟩) hz⟩
 cases v' with
 | int n =>
  obtain ⟨t,rfl⟩:=(show ∃ t,u=Value.int n t from r);have hn:n.natAbs.log2 < 1920/\(Str.ofString (toString n)).length<=1000:=OV hp;exact formatField_int_small hn.1 (fin _ _ hn.2)
 | _=>cases hp
end
structure Ie (K:Fg) (C D:Qz) (fld:Str):Prop where
 sa:PySem.W.findIn K (.ref C) "__setattr__" = some (some (.builtin "object.__setattr__"))
 po:HS K C=true
 tk:PySem.W.takerIn K C fld=some none
 hd:PySem.W.hasDictIn K C=true
 sp:PySem.W.specialIn K (.ref D) "__getattribute__" = some (some (.builtin "type.__getattribute__"))
 rd:PySem.W.readsIn K D (.type "type")=true
 na:PySem.W.findIn K (.ref C) fld=some none
 fc:PySem.W.findCls K (.ref D) (.type "type") "__init__" = some (.val (.builtin "ValueError.__init__"))
def GK (C:Qz) (fld:Str):TS:=fun D Z H=>∃ e v,Z[0]?=some (some (.ref e))/\Z[1]?=some (some v)/\dY v=true/\H e=some (i4 C e none)/\∀ dx,H dx=none->D.nx Z (upd (upd H e (i4 C e (some dx))) dx (.xd [(fld,v)]))
section
variable {X:Cx}
theorem pJ {C D:Qz} {i:Option Qj} {fld Dn sf nm tx:Str} {j:Nat} {p1 p2 p3 p4 p5 p6 p7 p8 p9 q1 q2 q3 q4:Pos} (xC:lg X.K C i) (xF:Ie X.K C D fld) (hg:Gl X Dn) (hm:X.mg Dn=some (.ref D)) (hdn:(Dn==("__debug__" : Str))=false)
  (h0:X.N[0]?=some sf) (h1:X.N[1]?=some nm) (v0:Vis X.env.scope sf) (v1:Vis X.env.scope nm) (d0:(sf==("__debug__" : Str))=false) (c0:(sf==("__classdict__" : Str))=false) (d1:(nm==("__debug__" : Str))=false) (c1:(nm==("__classdict__" : Str))=false) (ht:tx.length<=100)
  (hw1:swapsWith (.Call (.Attribute (.Name Dn p1) "__init__" p2) [.Name sf p3,.JoinedStr [.Constant (.str tx) j p4,.FormattedValue (.Name nm p5) (-1) none p6] p7] [] p8) none p9.line X.env=pure false)
  (hee:∃ pl,eval (.Call (.Attribute (.Name Dn p1) "__init__" p2) [.Name sf p3,.JoinedStr [.Constant (.str tx) j p4,.FormattedValue (.Name nm p5) (-1) none p6] p7] [] p8) X.env=(do
   let o<-eval (.Name Dn p1) X.env
   standAt p2.atName
   let (g,us)<-holding [o] (getMethod o "__init__" pl)
   callWith p8 g us (backTo p8 (starEach [.Name sf p3,.JoinedStr [.Constant (.str tx) j p4,.FormattedValue (.Name nm p5) (-1) none p6] p7] X.env)) (backToKw p8 (keywordEach [] X.env))))
  (hw2:swapsWith (.Name nm q3) (some (.Attribute (.Name sf q1) fld q2)) q4.line X.env=pure false) :
  PSs X [.Expr (.Call (.Attribute (.Name Dn p1) "__init__" p2) [.Name sf p3,.JoinedStr [.Constant (.str tx) j p4,.FormattedValue (.Name nm p5) (-1) none p6] p7] [] p8) p9,.Assign [.Attribute (.Name sf q1) fld q2] (.Name nm q3) q4] (GK C fld):=by
 intro pins s Z H D' I h;obtain ⟨e,v,e0,e1,hp,he,q⟩:=h;refine Ph (wpAny_Expr_any ?_ I.quiet hw1);obtain ⟨pl,hee⟩:=hee;refine Qb (pl:=pl) (gT I hg hm ?_ hdn) hee;refine PySem.W.method_cls I.kIn xF.sp (PySem.W.cls_value I.kIn xF.rd xF.fc (by decide +kernel) ?_);refine Calls.callWith_builtin rfl (Calls.evalArgs_plain ?_);have I0:Inv X pins Z H { s with toks:=s.toks+1 }:=I.tok _;have ha:PA X [.Name sf p3,.JoinedStr [.Constant (.str tx) j p4,.FormattedValue (.Name nm p5) (-1) none p6] p7] _:=mE (jk h0 v0 d0 c0) (mE (ED h1 v1 d1 c1 ht) vB rfl) rfl;refine thn (ha p8 pins _ Z H (fun vs H'=>H'=H/\∃ y,vs=[.ref e,.str y]) I0 ⟨_,e0,v,e1,hp,fun y=>⟨rfl,y,rfl⟩⟩) fun us s1 z=>?_;obtain ⟨vs,H',I1,r,rfl,y,rfl⟩:=z;obtain ⟨u1,u2,rfl,r1,r2⟩:=vals2 r;cases (show u1=Value.ref e from r1);obtain ⟨bm,N,nm',q',bs,hdct,sn,sub,ab,col,dd,k0,k1,k2,k3,k5,mN,hC,hN,hi,T,_⟩:=xC.own I1.kIn;obtain ⟨⟨t,et⟩,_⟩:=(show cP X.prog X.w H' s1.heap e (i4 C e none) from I1.hok e _ he);obtain ⟨hp1,gn,dr,tk,os⟩:=s1;refine Lj T hC et fun h' t1 kp g1=>?_;have up:upd H' e (i4 C e none)=H':=by
  funext b;unfold upd;split
  ·next z=>rw [z,he]
  ·rfl
 have I2:Inv X pins Z H' ⟨h',gn,dr,tk,os⟩:=by
  have z:=I1.write (t':=tk) (x:=e) (e:=e) (o:=i4 C e none) (by rw [he];trivial) (.inl rfl) kp ⟨_,g1⟩ (pG g1)
  rwa [up] at z
 refine Ph (plainObj_wpAny_Assign_Attribute (thn (jk h1 v1 d1 c1 pins _ Z H' (fun v' H2=>v'=v/\H2=H') I2 ⟨v,e1,rfl,rfl⟩) fun u s2 z=>?_) hw2);obtain ⟨v',H2,I3,ru,rfl,rfl⟩:=z;refine thn (jk h0 v0 d0 c0 pins _ Z H2 (fun v' H3=>v'=.ref e/\H3=H2) I3 ⟨_,e0,rfl,rfl⟩) fun ov s3 z=>?_;obtain ⟨_,H3,I4,ro,rfl,rfl⟩:=z;cases (show ov=Value.ref e from ro);obtain ⟨⟨t2,et2⟩,_⟩:=(show cP X.prog X.w H3 s3.heap e (i4 C e none) from I4.hok e _ he);refine MP I4.kIn et2 xF.sa xF.po xF.tk xF.hd fun h4 tk4 kp4 g4 n4=>?_;exact Pq ⟨Z,_,I4.Np he ru kp4 g4 n4,q _ (I4.hok.fresh (Oc _))⟩
end
def CX2 (P:Program) (w:World):CXT:=fun outer H s E e s2=>∃ (ea C t dx:Qz) (H':Hp) (b:Heap),e=.ref ea/\s2.os=s.os/\AllBare s2.gens/\Un (frs outer) [] H H' s.heap s2.heap /\
 (∀ c o,s.heap.get? c=some o->c ∉ frs outer->∃ o',b.get? c=some o')/\HOk P w H' b/\FlD b outer ea (.ref C) (.ref t) (some dx) .none s2.heap/\E (.ref C) (some dx) H'
def Fd (X:Cx) (E:XK) (C:Qz) (fld:Str):Prop:=∀ (pins:List (Qz×Obj)) (Z:St) (H1:Hp) (s:Qx) (e dx:Qz) (v:V),Inv X pins Z (upd (upd H1 e (i4 C e (some dx))) dx (.xd [(fld,v)])) s->H1 e=none->H1 dx=none->e≠dx->X.ZO.heap.get? e=none ->
 E (.ref C) (some dx) (upd H1 dx (.xd [(fld,v)]))->X.xe (.ref e) s
theorem F8 {P:Program} {w:World} {K:Fg} {mg:Str->Option Qj} {base:Heap} {N:List Str} {qual:Str} {scope:Scope} {f:Qz} {cd:Qj} {A:Around} {outer:List Env} {s:Qx} {H:Hp} {E:XK} {C:Qz} {fld:Str} :
  Fd (tN (CX2 P w) P w K mg base N qual scope f cd A outer s H E) E C fld:=by
 intro pins Z H1 s1 e dx v I h1 h2 ne fr ew;generalize hL:e :: frs (envOfC qual scope s.heap.objs.size f cd :: outer)=L;have hst:(PySem.W.hideAll s1.heap L).StaysIn s1.heap:=fun b o q=>PySem.W.of_hideAll _ q;have ff:s1.heap.FunFrames (PySem.W.hideAll s1.heap L) (envOfC qual scope s.heap.objs.size f cd :: outer) :=
  gH I.stack fun c hc=>PySem.W.hideAll_none _ (by rw [<- hL];exact NZ _ hc)
 have nfr:∀ c,c∈frs (envOfC qual scope s.heap.objs.size f cd :: outer)->c=s.heap.objs.size\/c∈frs outer:=fun c hc=>N9.mp (I.mR c hc);have U:Un (frs outer) [] H _ s.heap s1.heap:=I.base;have frf:∀ c∈frs outer,H c=none:=I.ok.frf;have he2:upd (upd H1 e (i4 C e (some dx))) dx (.xd [(fld,v)]) e=some (i4 C e (some dx)):=by unfold upd;rw [Od ne,N4 rfl]
 have oth:∀ c,c≠e->upd (upd H1 e (i4 C e (some dx))) dx (.xd [(fld,v)]) c=upd H1 dx (.xd [(fld,v)]) c:=fun c hc=>by unfold upd;rw [Od hc]
 have he3:upd H1 dx (.xd [(fld,v)]) e=none:=by unfold upd;rw [Od ne];exact h1
 obtain ⟨⟨t,et⟩,_⟩:=(show cP P w _ s1.heap e (i4 C e (some dx)) from I.hok e _ he2);have inB:∀ c o,s.heap.get? c=some o->c ∉ frs outer->∃ o',(PySem.W.hideAll s1.heap L).get? c=some o':=fun c o q hc=>by
  obtain ⟨o',q'⟩:=U.there c o q (by simp);refine ⟨o',PySem.W.hideAll_get _ q' fun z=>?_⟩;rw [<- hL] at z;rcases N9.mp z with z | z
  ·subst z;have fr:s.heap.get? c=none:=fr;rw [fr] at q;cases q
  ·rcases nfr c z with z | z
   ·exact absurd (Oe q) (by rw [z];exact OJ _)
   ·exact hc z
 have U2:Un (frs outer) [] H (upd H1 dx (.xd [(fld,v)])) s.heap s1.heap:=⟨U.keep,U.slot,fun b o q n hx=>by
   have z:=U.free b o q n hx
   rwa [oth b fun y=>by subst y;rw [he2] at z;cases z] at z,U.there,fun b xs q=>by
   have z:=U.rP b xs q
   rwa [oth b fun y=>by subst y;rw [he2] at z;cases z] at z,fun b o u q=>by
   have z:=U.oZ b o u q
   rwa [oth b fun y=>by subst y;rw [he2] at z;cases z] at z,fun b ps q=>by
   obtain ⟨m,z⟩:=U.sv b ps q
   exact ⟨m,by rwa [oth b fun y=>by subst y;rw [he2] at z;cases z] at z⟩⟩
 refine AK (base:=PySem.W.hideAll s1.heap L) I.ok.frames ff rfl et hst (PySem.W.hideAll_none _ (by rw [<- hL];exact N5)) rfl rfl rfl fun h2 fl sl=>?_;refine ⟨e,C,t,dx,upd H1 dx (.xd [(fld,v)]),_,rfl,I.os,I.bare,?_,inB,fun c o q=>?_,fl,ew⟩
 ·exact BX U2 inB hst fl.1 sl I.o6 frf
 ·have nc:c≠e:=fun z=>by rw [z,he3] at q;cases q
  have q':upd (upd H1 e (i4 C e (some dx))) dx (.xd [(fld,v)]) c=some o:=(oth c nc).trans q;refine (I.hok c o q').mM (fun b u hb r=>PySem.W.hideAll_get _ r fun z=>?_) (fun b r=>?_) fun b xs r=>?_
  ·rw [<- hL] at z;rcases N9.mp z with z | z
   ·subst z;rcases hb with hb | hb
    ·exact nc hb.symm
    ·rw [he2] at hb;cases hb
   ·have fr:=I.kX b z;rcases hb with rfl | hb
    ·rw [q'] at fr;cases fr
    ·rw [hb] at fr;cases fr
  ·rwa [oth b fun y=>by subst y;rw [he2] at r;cases r] at r
  ·rwa [oth b fun y=>by subst y;rw [he2] at r;cases r] at r
def BW (C:Qz) (fld:Str):Sp:=fun vs H Q _=>∃ e v,vs=[.ref e,v]/\dY v=true/\H e=some (i4 C e none)/\∀ dx,H dx=none->Q .non (upd (upd H e (i4 C e (some dx))) dx (.xd [(fld,v)]))
structure XMk (P:Program) (w:World) (K:Fg) (mg:Str->Option Qj) (base:Heap) (C f:Qz) (fld:Str) (fd:FuncData) (ps:List Str):Prop where
 cls:lg K C (some (.ref f))
 fn:∃ o,K.lookup f=some o/\o.cls=.type "function"
 kp:PySem.W.keepIn K (.ref C)=true
 ok:de P w K mg base CX0 1 f fd ps (BW C fld)
 bd:Binds K fd ps []
section
variable {X:Cx} {pins:List (Qz×Obj)} {Z:St} {H:Hp} {s:Qx}
theorem NB {C f:Qz} {fld x:Str} {fd:FuncData} {ps:List Str} {a:Expr} {te:TE} {RN QN:VK} {p pos:Pos} (M:XMk X.prog X.w X.K X.mg X.base C f fld fd ps) (hr:dh 2 X.A) (hg:Gl X x) (hm:X.mg x=some (.ref C)) (hd:(x==("__debug__" : Str))=false) (ha:PE X a te) (hs:PySem.W.isStarred a=false)
  (hex:X.ex=[]) (I:Inv X pins Z H s) (h:te Z H RN) (hR:∀ v H1,RN v H1->dY v=true/\QN v H1) :
  wpAny (model X.prog X.w) X.A (eval (.Call (.Name x p) [a] [] pos) X.env) (fun u s2=>∃ e dx v H1,u=.ref e/\X.ZO.heap.get? e=none/\H1 e=none/\H1 dx=none/\e≠dx/\Inv X pins Z (upd (upd H1 e (i4 C e (some dx))) dx (.xd [(fld,v)])) s2/\dY v=true/\QN v H1) X.xe s:=by
 refine Pw (gT I hg hm ?_ hd);have ha':PA X [a] (fR te rl):=mE ha vB (aV hs);refine PV (h₀:=X.base) I.ok.mod.kin M.kp (thn (ha' pos pins s Z H (fun vs H1=>match vs with | [v]=>RN v H1 | _=>False) I h) fun us s1 z=>?_) (aV hs) (bM rfl);obtain ⟨vs,H1,I1,r,z⟩:=z
 match vs,z with
 | [v],z =>
 obtain ⟨hp,q⟩:=hR v H1 z;obtain ⟨u,rfl,r1⟩:=vals1 r;refine ⟨I1.kIn,?_⟩;obtain ⟨bm,N,nm,q',bs,hdct,sn,sub,ab,col,dd,k0,k1,k2,k3,k5,mN,hC,hN,hi,T,_⟩:=M.cls.own I1.kIn;obtain ⟨o,ho,hoc⟩:=M.fn;have ho:=I1.kIn _ _ ho;obtain ⟨hp1,gn,dr,tk,os⟩:=s1;refine LS T hC hN hi ho hoc (fun h' e le hx=>?_) (by decide:1<=sizeLine);obtain ⟨t,et,_⟩:=hx.there;have fr:H1 e=none:=I1.hok.fresh le;have I2:Inv X pins Z (upd H1 e (i4 C e none)) ⟨h',gn,dr,tk,os⟩:=I1.laid (t':=tk) hx.keeps le (pG et);have hq:BW C fld [.ref e,v] (upd H1 e (i4 C e none)) (fun v' H2=>v'=.non/\∃ dx,H1 dx=none/\e≠dx/\H2=upd (upd H1 e (i4 C e (some dx))) dx (.xd [(fld,v)])) (fun _ _ _=>False):=by
  refine ⟨e,v,rfl,hp,aG,fun dx hdx=>⟨rfl,dx,?_,?_,?_⟩⟩
  ·unfold upd at hdx;split at hdx
   ·cases hdx
   ·exact hdx
  ·rintro rfl;rw [aG] at hdx;cases hdx
  ·rw [DK]
 have r2:Vals [V.ref e,v] [Value.ref e,u]:=.cons rfl (.cons r1 .nil);have hl:([Value.ref e,u]++[]).length=ps.length:=by have z:=M.ok.len _ _ _ _ hq;exact z
 refine wpAny_call (P8 (M.ok.run _ X.stack _ _ ⟨[Value.ref e,u],[]⟩ [Value.ref e,u] _ _ _ (hr.make C [u] []) (I2.Eu.make C [u] []) (by have z:=M.bd _ [Value.ref e,u] I2.kIn hl;rwa [Oz] at z) r2 hq) fun r s' hq'=>?_);cases r with
 | error e=>exact hq'.elim
 | ok fl =>
  cases fl with
  | ret u' =>
   obtain ⟨v',H',I3,rv,rfl,dx,d1,d2,rfl⟩:=I2.after hq';cases rv;refine ⟨rfl,e,dx,v,H1,rfl,?_,fr,d1,d2,I3,hp,q⟩;cases z:X.ZO.heap.get? e with
   | none=>rfl
   | some o =>
    obtain ⟨o',g⟩:=I1.base.there e o z (by rw [hex];simp);exact absurd (Oe g) (Nat.not_lt.mpr le)
  | next=>exact False.elim hq'
  | brk=>exact False.elim hq'
  | cont=>exact False.elim hq'
end
section
variable {X:Cx} {pins:List (Qz×Obj)} {Z:St} {H1 H':Hp} {s1 s2:Qx} {ea C D t dx:Qz} {iC iD:Option Qj} {n dn:Str} {b:Heap} {E:Qj->Qx->Prop} {Q:Flow->Qx->Prop} {b0:Stmt} {qq:List Stmt} {np hp:Pos} {rest:List ExceptHandler} {env:Env}
theorem rW (he:X.env=env) (I:Inv X pins Z H1 s1) (ho:s2.os=s1.os) (hb:AllBare s2.gens) (u:Un (frs X.stack) [] H1 H' s1.heap s2.heap)
  (k:∀ c o,s1.heap.get? c=some o->c ∉ frs X.stack->∃ o',b.get? c=some o') (hok:HOk X.prog X.w H' b) (fl:FlD b X.stack ea (.ref C) (.ref t) (some dx) .none s2.heap)
  (hst:X.stack=X.env :: X.outer) (hf:X.env.frame=some X.env.locals) (xC:lg X.K C iC) (xD:lg X.K D iD) (hm:PySem.W.mroIn X.K C (.ref D)=some true) (hg:Gl X dn) (hmg:X.mg dn=some (.ref D)) (hl:X.env.kindOf n=some .local) (hn:n ∉ X.N) (nd:X.N.Nodup)
  (hdb:(dn==("__debug__" : Str))=false)
  (go:∀ oe vs s3,oe.cls=.ref C->oe.dict=some dx->oe.data=.fields vs->Inv (Xs X ea oe n) pins (Z++[some (.ref ea)]) H' s3->wpAny (model X.prog X.w) (X.A.mark (some (.ref ea))) (execs (b0 :: qq) env) (fun f s4=>f=.next/\∃ H4 τ pins4,Inv (Xs X ea oe n) pins4 τ H4 s4/\∀ s5,Inv X pins4 (τ.take X.N.length) H4 s5->Q .next s5) (fun _ _=>False) s3) :
  wpAny (model X.prog X.w) X.A (noteFrame (.ref ea) env) (fun _ s3=>wpAny (model X.prog X.w) X.A (setFlight (.ref ea) none) (fun _ s4 =>
   wpAny (model X.prog X.w) X.A (handleBy (.ref ea) env (.ExceptHandler (some (.Name dn np)) (some n) (b0 :: qq) hp :: rest)) Q E s4) E s3) E s2:=by
 subst he;have hfr:X.A.frames=some (X.env :: X.outer):=by rw [<- hst];exact I.ok.frames
 have fl':FlD b (X.env :: X.outer) ea (.ref C) (.ref t) (some dx) .none s2.heap:=by rw [<- hst];exact fl
 refine xK hfr hf fl' fun h3 hd3 sl3=>?_;refine lJ (s:={ s2 with heap:=h3 }) hd3 fun h4 fl4 sl4=>?_;have I4:=o5 I ho hb u k hok fl.fly fl4.1 (sl3.trans sl4);refine wpAny_handleBy_cons (codeAny_handlers_test ?_) (by intro q;cases q);have g4:∀ {Q':Qj->Qx->Prop} {E':Qj->Qx->Prop},Q' (.ref D) { s2 with heap:=h4 }->wpAny (model X.prog X.w) (X.A.mark (some (.ref ea))) (eval (.Name dn np) X.env) Q' E' { s2 with heap:=h4 }:=fun {Q' E'} z =>
  Calls.Name_function_global I4.ok.kind hg (Calls.loadGlobal_global (by rw [I4.ok.glob];exact I4.mod.glob.keeps I4.bk) hmg z) hdb
 refine g4 ?_;obtain ⟨ob,hob,hobc⟩:=fl4.fly.there;have KX:X.K.In h4:=I4.kIn;obtain ⟨bm,N,nm,q,bs,hdct,sn,sub,ab,col,dd,k0,k1,k2,k3,k5,mN,hC,hN,hni,T,cd,hci,hmr⟩:=xC.own KX;obtain ⟨bm',N',nm',q',bs',hdct',sn',sub',ab',col',dd',k0',k1',k2',k3',k5',mN',hD,hN',hni',T',_⟩:=xD.own KX;have hct:(Value.ref C :: bm).contains (.ref D)=true:=by
  unfold PySem.W.mroIn at hm;rw [hci] at hm;have hm:(if cd.mro.isEmpty then none else some (cd.mro.contains (.ref D)))=some true:=hm;rw [hmr] at hm;exact OK hm
 refine FY hC hD hob hobc (T'.hasType rfl) hct (codeAny_handlers_suite_as ?_);refine lJ (s:={ s2 with heap:=h4 }) fl4 fun h6 fl6 sl6=>?_;have I6:=o5 I ho hb u k hok fl.fly fl6.1 ((sl3.trans sl4).trans sl6);obtain ⟨oe,ws,_,_,_,hoe,⟨⟨hoec,_⟩,hodx⟩,hoed,_⟩:=fl6.2.2.2;have hH:H' ea=none:=by
  cases z:H' ea with
  | none=>rfl
  | some o =>
   obtain ⟨ob,z⟩:=(hok ea o z).got;rw [fl6.2.1] at z;cases z
 have nfr:ea ∉ frs X.stack:=fun z=>by
  have fl6':Heap.FlyingW b X.stack ea (.ref C) (.ref t) h6:=by rw [hst];exact fl6.fly
  obtain ⟨_,o2,e2,d2⟩:=fl6'.2.2.1.mem z;rw [hoe] at e2;cases e2;exact d2 _ hoed
 have nlo:ea≠X.env.locals:=fun z=>nfr (by
  rw [hst];unfold frs;rw [Pc,hf,z];exact N5)
 have nfs:ea ∉ X.fs:=fun z=>nfr (by
  rw [hst];unfold frs;rw [Pc,hf];exact NZ _ z)
 have IS:Inv (Xs X ea oe n) pins (Z++[none]) H' { s2 with heap:=h6 }:=I6.qq hoe hH nlo nfs fun v z=>by rw [hoed] at z;cases z
 have hnN:(X.N++[n])[X.N.length]?=some n:=by simp
 have len:Z.length=X.N.length:=I.len;have set1:(Z++[none]).set X.N.length (some (V.ref ea))=Z++[some (.ref ea)]:=by
  rw [<- len,List.set_append_right _ _ (Oc _)];simp
 have ndN:(X.N++[n]).Nodup:=by
  rw [List.nodup_append]
  exact ⟨nd,by simp,fun a ha c hc z=>hn (by
   have hc:c=n:=by simpa using hc
   rw [<- hc,<-z]
   exact ha)⟩
 refine lF (X:=Xs X ea oe n) IS ndN hnN (.inl hl) (v:=V.ref ea) rfl (fun s7 I7=>?_) (.inr hl);rw [set1] at I7;refine OF (go oe ws s7 hoec hodx hoed I7) (fun f s8 z=>?_) fun _ _ z=>z.elim;obtain ⟨rfl,H4,τ,pins4,I8,fin⟩:=z;exact tI I8 hl hn (fun s9 I9=>fin s9 I9) I6.ok
end
abbrev Xp (X:Cx) (ea:Qz) (oe:Obj):Cx:={ X with pn:=(ea,oe) :: X.pn }
def rX (K:Fg) (ea C:Qz):List V->Hp->VK->Prop:=fun vs H Q=>∃ c cv b,vs=[.ref ea,c]/\(∀ u,RelV c u->u=cv)/\PySem.W.kitOne K (.ref C) cv=some b/\Q (.bl b) H
section
variable {X:Cx} {pins:List (Qz×Obj)} {Z:St} {H:Hp} {s:Qx} {ea C:Qz} {oe:Obj}
theorem Cx.Ok.Ld (ok:X.Ok):(Xp X ea oe).Ok :=
 ⟨ok.mod,ok.kind,ok.glob,ok.blt,ok.above,ok.inj,ok.has,ok.cab,ok.hd,ok.frames,ok.stk,ok.exf,ok.bs,ok.bsz,ok.Ef,ok.Er,ok.o6,ok.frf⟩
theorem Inv.Ld (I:Inv X ((ea,oe) :: pins) Z H s):Inv (Xp X ea oe) pins Z H s :=
 ⟨I.ok.Ld,I.os,I.bare,I.base,I.loc,I.cell,I.free,I.fT,fun p hp=>I.pin p (by
  have hp:p∈(ea,oe) :: (X.pn++pins):=hp;rcases N9.mp hp with z | z
  ·rw [z];exact Ol _ N5
  ·rcases Pf.mp z with z | z
   ·exact PN _ z
   ·exact Ol _ (NZ _ z)),I.hok,I.len⟩
theorem Inv.tH (ok:X.Ok) (I:Inv (Xp X ea oe) pins Z H s):Inv X pins Z H s :=
 ⟨ok,I.os,I.bare,I.base,I.loc,I.cell,I.free,I.fT,fun p hp=>I.pin p (NZ _ hp),I.hok,I.len⟩
theorem SP.tH (ok:X.Ok) (h:SP (Xp X ea oe) pins D f s):SP X pins D f s:=by
 cases f with
 | next=>obtain ⟨Z',H',I',q⟩:=h;exact ⟨Z',H',I'.tH ok,q⟩
 | brk=>obtain ⟨Z',H',I',q⟩:=h;exact ⟨Z',H',I'.tH ok,q⟩
 | cont=>obtain ⟨Z',H',I',q⟩:=h;exact ⟨Z',H',I'.tH ok,q⟩
 | ret u=>obtain ⟨v,Z',H',I',q⟩:=h;exact ⟨v,Z',H',I'.tH ok,q⟩
def rXt (K:Fg) (ea C:Qz):List V->Hp->VK->Prop:=fun vs H Q=>∃ (tp:Qz) (Bs:List Qz) (b:Bool),vs=[.ref ea,.ref tp]/\H tp=some (.tup (Bs.map V.ref))/\PySem.W.kitAny K (.ref C) (Bs.map Value.ref)=some b/\Q (.bl b) H
theorem nK:∀ {Bs:List Qz} {its:List Qj},Vals (Bs.map V.ref) its->its=Bs.map Value.ref
 | [],_,.nil=>rfl
 | B :: Bs,_,.cons r1 r2=>by rw [nK r2,show _=Value.ref B from r1];rfl
theorem ot {K:Fg} {v:Qj}:∀ {Bs:List Qz},(∀ B∈Bs,PySem.W.kitOne K v (.ref B)=some false)->PySem.W.kitAny K v (Bs.map Value.ref)=some false
 | [],_=>rfl
 | B :: Bs,h=>by
  rw [List.map_cons];unfold PySem.W.kitAny;rw [h B N5];exact ot fun b hb=>h b (NZ _ hb)
end
section
variable {X:Cx} {ea C D dx:Qz} {oe:Obj} {vs:Array Qj} {iC:Option Qj} {fld:Str}
theorem Cg {i:Nat} {cx:Str} {p pos:Pos} (xC:lg X.K C iC) (xF:Ie X.K C D fld) (oc:oe.cls=.ref C) (od:oe.dict=some dx) (of:oe.data=.fields vs) (hi:X.N[i]?=some cx) (hv:Vis X.env.scope cx) (hd:(cx==("__debug__" : Str))=false) (hc:(cx==("__classdict__" : Str))=false)
  (hb:attributeBase (.Name cx p) fld X.env (eval (.Name cx p) X.env)=eval (.Name cx p) X.env) :
  PE (Xp X ea oe) (.Attribute (.Name cx p) fld pos) (fun Z H Q=>Z[i]?=some (some (.ref ea))/\∃ v,dY v=true/\H dx=some (.xd [(fld,v)])/\Q v H):=by
 intro pins s Z H Q I h;obtain ⟨ei,v,hp,ed,q⟩:=h;refine vC hb (thn (jk (X:=Xp X ea oe) hi hv hd hc pins s Z H (fun v' H'=>v'=.ref ea/\H'=H) I ⟨_,ei,rfl,rfl⟩) fun u s1 z=>?_);obtain ⟨_,H',I1,r,rfl,rfl⟩:=z;cases (show u=Value.ref ea from r);have hpin:=I1.pin (ea,oe) N5;obtain ⟨mA,⟨oD,es,ep,g1,g2,g3,g4,g5⟩,hrel⟩:=(show cP X.prog X.w H' s1.heap dx (.xd [(fld,v)]) from I1.hok dx _ ed);have hr:=hrel fld;have hl:([(fld,v)]:List (Str×V)).lookup fld=some v:=by rw [OW,P7]
 rw [hl,<-g5 fld] at hr;obtain ⟨u,eu,ru⟩:∃ u,nsFind es fld=some u/\RelV v u:=by
  cases z:nsFind es fld with
  | none=>rw [z] at hr;exact hr.elim
  | some u=>rw [z] at hr;exact ⟨u,rfl,hr⟩
 obtain ⟨bm,N,nm,q',bs,hdct,sn,sub,ab,col,dd,k0,k1,k2,k3,k5,mN,hC,_,_,T,_⟩:=xC.own I1.kIn;have J:PySem.W.InstAt s1.heap ea oe C (some oD):=⟨hpin.1,oc,by unfold PySem.W.notCls;rw [of],by rw [od];exact g1⟩;have hf:PySem.W.findObj X.K C (some oD) fld=some (.value u):=by
  obtain ⟨cd,hcd,hdd⟩:=PySem.W.any_some xF.hd;unfold PySem.W.findObj;rw [hcd,xF.na];show (PySem.W.ownOf cd (some oD) fld).bind _=_;unfold PySem.W.ownOf;rw [N4 hdd];show (PySem.W.lookIn fld oD).bind _=_;unfold PySem.W.lookIn;rw [g2];unfold nsFind findBy at eu;rw [<- Array.find?_toList] at eu;obtain ⟨en,e1,e2⟩:=Ou.mp eu;dsimp only;rw [e1,<-e2];rfl
 have hh:PySem.W.handedIn u=true:=by
  cases v with
  | int n=>obtain ⟨t,rfl⟩:=(show ∃ t,u=Value.int n t from ru);rfl
  | _=>cases hp
 obtain ⟨hp1,gn,dr,tk,os⟩:=s1;exact ML I1.kIn J xC.ga xC.gg hC (T.hasType rfl) hf hh ⟨v,H',I1.tok _,ru,q⟩
theorem wz (xC:lg X.K C iC) (oc:oe.cls=.ref C):bu (Xp X ea oe) (.builtin "isinstance") (rX X.K ea C):=by
 intro pins s Z H xs us Q I r h;obtain ⟨c,cv,b,rfl,hc,hk,hq⟩:=h;obtain ⟨u,w',rfl,r1,r2⟩:=vals2 r;cases (show u=Value.ref ea from r1);cases hc _ r2;exact Pt (Hq xC) I.kIn ⟨oe,(I.pin (ea,oe) N5).1,oc⟩ hk (fun z=>nomatch z) fun tk=>⟨.bl b,H,I.tok tk,rfl,hq⟩
theorem DX (xC:lg X.K C iC) (oc:oe.cls=.ref C):bu (Xp X ea oe) (.builtin "isinstance") (rXt X.K ea C):=by
 intro pins s Z H xs us Q I r h;obtain ⟨tp,Bs,b,rfl,ht,hk,hq⟩:=h;obtain ⟨u,w',rfl,r1,r2⟩:=vals2 r;cases (show u=Value.ref ea from r1);cases (show w'=Value.ref tp from r2);obtain ⟨_,its,rv,⟨o,g1,g2,n,g3⟩⟩:=(show cP X.prog X.w H s.heap tp (.tup (Bs.map V.ref)) from I.hok tp _ ht);have e:=nK rv;subst e;have htp:s.heap.get? tp=some ⟨.type "tuple", o.dict,.seq (Bs.map Value.ref).toArray n,o.slots⟩:=by
  rw [g1];obtain ⟨c,dd,da,sl⟩:=o;have g2:c=.type "tuple" := g2;have g3:da=_:=g3;subst g2 g3;rfl
 exact PySem.W.kia_tup (Hq xC) I.kIn ⟨oe,(I.pin (ea,oe) N5).1,oc⟩ htp hk (fun z=>nomatch z) fun tk=>⟨.bl b,H,I.tok tk,rfl,hq⟩
end
theorem dM {P:Program} {w:World} {K:Fg} {mg:Str->Option Qj} {base:Heap} {N:List Str} {qual:Str} {scope:Scope} {f:Qz} {cd:Qj} {A:Around} {outer:List Env} {s:Qx} {H:Hp} {E:XK} :
  Passes (CX2 P w) (tN (CX2 P w) P w K mg base N qual scope f cd A outer s H E) E:=by
 intro pins Z H1 s1 e s2 I hcx;obtain ⟨ea,C,t,dx,H',b,rfl,ho,hb,u,k,hok,fl,ew⟩:=hcx;have nfr:∀ c,c∈frs (envOfC qual scope s.heap.objs.size f cd :: outer)->c=s.heap.objs.size\/c∈frs outer:=fun c hc=>N9.mp (I.mR c hc);show wpAny _ _ (leaving _ _) _ _ _;unfold leaving;refine N3 (xK I.ok.frames rfl fl fun h3 hd3 sl3=>lJ (s:={ s2 with heap:=h3 }) hd3 fun h4 fl4 sl4=>?_);have I2:=o5 I ho hb u k hok fl.fly fl4.1 (sl3.trans sl4);have U:Un (frs outer) [] H H' s.heap h4:=I2.base;have U1:Un (frs outer) [] H H1 s.heap s1.heap:=I.base;refine ⟨ea,C,t,dx,H',b,rfl,ho.trans I.os,hb,U,fun c o q hc=>?_,hok,⟨fl4.1,fl4.2.1,fl4.2.2.1.2.2,fl4.2.2.2⟩,ew⟩;obtain ⟨o1,q1⟩:=U1.there c o q (by simp);refine k c o1 q1 fun z=>?_;rcases nfr c z with z | z
 ·exact absurd (Oe q) (by rw [z];exact OJ _)
 ·exact hc z
theorem Jo:Passes (CX2 P w) X NoE:=fun _ _ _ _ _ _ _ h=>by
 obtain ⟨ea,C,t,dx,H',b,rfl,ho,hb,u,k,hok,fl,ew⟩:=h;exact ew.elim
section
variable {X:Cx} {x m f:Str} {p p2 pos apos:Pos} {e a b o:Expr} {es:List Expr} {t:TA} {te:TE} {ps:List Str} {k n i:Nat} {st:Stmt} {q:Qz×FuncData} {ad:Qz} {fd:FuncData} {fn:Fn} {E:XK} {pl:Sem Bool}
theorem eCX (F:de X.prog X.w X.K X.mg X.base (CX2 X.prog X.w) k q.1 q.2 ps (spX fn X.K)) (hr:dh n X.A) (D:Fa X.K X.mg x st ps q) (hp:Passes (CX2 X.prog X.w) X E) (ha:JA X (e :: es) t)
  (a:k<=n:=by omega) (b:Gl X x:=by exact rfl) (h1:PySem.W.isStarred e=false:=by exact rfl) (h2:es.all (fun e=>!PySem.W.isStarred e)=true:=by exact rfl) (c:(x==("__debug__" : Str))=false:=by exact rfl):JE X (.Call (.Name x p) (e :: es) [] pos) (nY (spX fn X.K) [] E t) :=
 CQ F (hr.mono a) b D.m D.F.kp D.b .nil hp ha h1 h2 c
theorem eMX (c:Cls X.K clsAt) (hm:Meth X.K clsAt m ad) (F:de X.prog X.w X.K X.mg X.base (CX2 X.prog X.w) k ad fd ps (spX fn X.K)) (hr:dh n X.A) (hb:Binds X.K fd ps []) (hp:Passes (CX2 X.prog X.w) X E) (he:JE X o (fE i)) (ha:JA X (e :: es) t)
  (hk:k<=n:=by omega) (hst:PySem.W.isStarred e=false:=by exact rfl) (hpl:es.all (fun e=>!PySem.W.isStarred e)=true:=by exact rfl)
  (ht:eval (.Call (.Attribute o m apos) (e :: es) [] pos) X.env=(do
   let ov<-eval o X.env
   standAt apos.atName
   let (f,first)<-holding [ov] (getMethod ov m pl)
   callWith pos f first (backTo pos (starEach (e :: es) X.env)) (backToKw pos (keywordEach [] X.env))):=by exact rfl) :
  JE X (.Call (.Attribute o m apos) (e :: es) [] pos) (fun Z H Q=>fE i Z H fun x H1=>(∃ a dx fs,x=.ref a/\H1 a=some (.ins clsAt dx fs)/\fs.lookup m=none)/\t Z H1 fun xs H2=>spX fn X.K (x :: xs) H2 Q E):=⟨fun pins s Z H Q I h=>by
 refine yO (pl:=pl) he.h c hm F (hr.mono hk) hb .nil hp ha.h (aV hst) (bM hpl) ht pins s Z H Q I ?_;obtain ⟨v,hv,⟨a,dx,fs,e1,e2,e3⟩,q⟩:=h;refine ⟨v,hv,a,dx,fs,e1,e2,e3,?_⟩;simp only [Oz]
 exact q⟩
theorem Mc {f:Qz} {nm:Str} {np cpos:Pos} (M:XMk X.prog X.w X.K X.mg X.base excAt f cD fd ps) (hrm:dh n X.A) (hm:X.mg nm=some (.ref excAt)) (hex:X.ex=[]) (hL:Fd X E excAt cD) (ha:JE X a te)
  (hk:2<=n:=by omega) (hg:Gl X nm:=by exact rfl) (hd:(nm==("__debug__" : Str))=false:=by exact rfl) (hs:PySem.W.isStarred a=false:=by exact rfl) :
  JS X (.Raise (some (.Call (.Name nm np) [a] [] cpos)) none pos) (fun _ Z H=>te Z H fun v H1=>dY v=true/\∀ dx,H1 dx=none->E (.ref excAt) (some dx) (upd H1 dx (.xd [(cD,v)]))):=by
 refine ⟨fun pins s Z H D I h=>?_⟩;rw [arm_exec_Raise];refine N3 (wpAny_standAt ?_);obtain ⟨bm,N,nm',q',bs,hdct,sn,sub,ab,col,dd,k0,k1,k2,k3,k5,mN,hC,hN,hi,T,_⟩:=M.cls.own I.ok.mod.kin;refine HK (C:=excAt) (N:=N) (nm:=nm') (q:=q') (bs:=bs) (bm:=bm) (hdct:=hdct) (sn:=sn) (sub:=sub) (ab:=ab) (col:=col) (dd:=dd) (k0:=k0) (k1:=k1) (k2:=k2) (k3:=k3) (k5:=k5) (T.hasType rfl) (hrm.mono hk).hd
  (N3 (OF (NB (QN:=fun v H1=>∀ dx,H1 dx=none->E (.ref excAt) (some dx) (upd H1 dx (.xd [(cD,v)]))) M (hrm.mono hk) hg hm hd ha.h hs hex I h fun v H1 z=>z) (fun u s2 z=>N3 (wpAny_standAt (Om ?_))) fun _ _ z=>z))
 obtain ⟨e,dx,v,H1,rfl,fr,h1,h2,ne,I2,hp,q⟩:=z;have he2:upd (upd H1 e (i4 excAt e (some dx))) dx (.xd [(cD,v)]) e=some (i4 excAt e (some dx)):=by unfold upd;rw [Od ne,N4 rfl]
 obtain ⟨⟨t,et⟩,_⟩:=(show cP X.prog X.w _ s2.heap e (i4 excAt e (some dx)) from I2.hok e _ he2);exact ⟨e,_,_,rfl,I2.bk _ _ hC,et,rfl,rfl,rfl,hL pins Z H1 s2 e dx v I2 h1 h2 ne fr (q dx h2)⟩
end
theorem Fa.okM {P:Program} {w:World} {K:Fg} {mg:Str->Option Qj} {base:Heap} {x qual:Str} {st:Stmt} {f:Qz} {fd:FuncData} {ps:List Str} {k:Nat} {b:XS} {gd:List Qq} {ga:Nat->V} {ms:List PM}
  (F:Fun K x qual st f fd) (N:List Str) (hg:∀ g d,gd[g]?=some d->∀ F H,Dm K F H d (ga g))
  (j:∀ {cdv:Qj} {A:Around} {outer:List Env} {s:Qx} {H:Hp} {E:XK},bZ N ps (ag st)->dh k (A.deeper (envOfC qual (ag st) s.heap.objs.size f cdv))->JSs (tN CX0 P w K mg base N qual (ag st) f cdv A outer s H E).nox (aU st) (rS K ⟨ga,NoE⟩ b))
  (hl:ms.length<=N.length:=by decide) (hp:ms.length=ps.length:=by exact rfl) (S:bZ N ps (ag st):=by exact scm):de P w K mg base CX0 (k+1) f fd ps (jS (bO gd ms N.length b) K) :=
 F.okX S hg rfl (fun hr=>j S hr) hl hp
theorem Fa.okN {P:Program} {w:World} {K:Fg} {mg:Str->Option Qj} {base:Heap} {x:Str} {st:Stmt} {a:Qz×FuncData} {ps:List Str} {k:Nat} {b:XS} {gd:List Qq} {ga:Nat->V} {ms:List PM}
  (D:Fa K mg x st ps a) (N:List Str) (hg:∀ g d,gd[g]?=some d->∀ F H,Dm K F H d (ga g))
  (j:∀ {cdv:Qj} {A:Around} {outer:List Env} {s:Qx} {H:Hp} {E:XK},bZ N ps (ag st)->dh k (A.deeper (envOfC x (ag st) s.heap.objs.size a.1 cdv))->JSs (tN CX0 P w K mg base N x (ag st) a.1 cdv A outer s H E).nox (aU st) (rS K ⟨ga,NoE⟩ b))
  (hl:ms.length<=N.length:=by decide) (hp:ms.length=ps.length:=by exact rfl) (S:bZ N ps (ag st):=by exact scm):de P w K mg base CX0 (k+1) a.1 a.2 ps (jS (bO gd ms N.length b) K) :=
 Fa.okM D.F N hg j hl hp S
theorem Fa.okX {P:Program} {w:World} {K:Fg} {mg:Str->Option Qj} {base:Heap} {x qual:Str} {st:Stmt} {f:Qz} {fd:FuncData} {ps:List Str} {k:Nat} {b:XS} {gd:List Qq} {ga:Nat->V} {ms:List PM}
  (F:Fun K x qual st f fd) (N:List Str) (hg:∀ g d,gd[g]?=some d->∀ F H,Dm K F H d (ga g))
  (j:∀ {cdv:Qj} {A:Around} {outer:List Env} {s:Qx} {H:Hp} {E:XK},bZ N ps (ag st)->dh k (A.deeper (envOfC qual (ag st) s.heap.objs.size f cdv))->JSs (tN (CX2 P w) P w K mg base N qual (ag st) f cdv A outer s H E) (aU st) (rS K ⟨ga,E⟩ b))
  (hl:ms.length<=N.length:=by decide) (hp:ms.length=ps.length:=by exact rfl) (S:bZ N ps (ag st):=by exact scm):de P w K mg base (CX2 P w) (k+1) f fd ps (spX (bO gd ms N.length b) K):=by
 obtain ⟨oc,od,kV,doc,pm,an,cdv,ct,osl,rfl,lk,hcd⟩:=F.ex;refine FH lk hcd S (fun vs H Q E h=>(CV h).trans hp) fun A outer s H vs Q E hr hsp=>?_;exact ⟨_,(j S hr).h,AD (ga:=⟨ga,E⟩) hg hsp hl⟩
theorem de.noX {P:Program} {w:World} {K:Fg} {mg:Str->Option Qj} {base:Heap} {k:Nat} {f:Qz} {fd:FuncData} {ps:List Str} {ms:List PM} {x q:Str} {st:Stmt} {N:List Str} (F:Fun K x q st f fd) (S:bZ N ps (ag st)):de P w K mg base (CX2 P w) (k+1) f fd ps (spX (Fn.no ms) K) :=
 have no:∀ vs H Q E,¬spX (Fn.no ms) K vs H Q E:=fun vs H Q E h=>by
  rcases h with ⟨G,ds,is,pr,outs,hF,_⟩ | ⟨G,ds,is,p,hX,_⟩
  ·cases hF
  ·cases hX
 ⟨fun vs H Q E h=>(no _ _ _ _ h).elim,fun A outer s H args us vs Q E _ _ _ _ h=>(no _ _ _ _ h).elim⟩
def HE (fn:Fn) (K:Fg) (vs:List V) (H:Hp) (Q:VK):Prop:=spX fn K vs H (fun _ H'=>∀ H'',aY H' H''->Q .non H'') fun c o H'=>∃ dx H0 p,c=.ref excAt/\o=some dx/\dY (.int p)=true/\H0 dx=none/\H'=upd H0 dx (.xd [(cD,.int p)])/\∀ H'',aY H' H''->Q (.int p) H''
def E1 (fn:Fn) (hm:fn.ms=[.dat]):Prm where
 r:=HE fn
 f:=fun ds=>match ds with
  | [.str x]=>match fn.F [.str x] with
   | some (_,[])=>some (.dat .none)
   | some _=>none
   | none=>(fn.X [.str x]).map fun p=>.dat (.int p)
  | _=>none
 ok:=fun K F H ds vs pr Q hf hv hd q=>by
  split at hf
  ·rename_i x;obtain ⟨v,r,rfl,hv,rfl⟩:=hv;have ha:bH K F (·∈([]:List Qz)) H fn.ms [.str x] [v] []:=by rw [hm];exact ⟨hv,rfl⟩
   split at hf
   ·rename_i pr' e;cases hf;exact .inl ⟨F,_,[],pr',[],e,ha,hd,fun v' H' hk _ H'' sm=>q .non H'' (fun b o z=>sm b o (hk b o z (by simp))) rfl⟩
   ·cases hf
   ·obtain ⟨p,e,rfl⟩:=Ou.mp hf;exact .inr ⟨F,_,[],p,e,ha,hd,fun dx H' hk h0 hp=>⟨dx,H',p,rfl,rfl,hp,h0,rfl,fun H'' sm=>q (.int p) H'' (fun b o z=>sm b o (aY.nw _ h0 b o (hk b o z (by simp)))) rfl⟩⟩
  ·cases hf
section
variable {X:Cx}
theorem Jj {rs:List Stmt} {k i j:Nat} {f Dc Db:Qz} {iC iD:Option Qj} {B1 B2 B3:List Qz} {fd:FuncData} {ps:List Str} {fn:Fn} {hm1:fn.ms=[.dat]} {g cx th n dn An:Str} {es1 es2 es3:List Expr} {ta1 ta2 ta3:TA} {b1 b2 b3 b4:List Stmt} {j1 j2 j3:Nat} {x1 x2 x3}
  {p1 p2 p3 p4 p5 p6 p7 p8 p9 p10 p11 np hp q1 q2 q3 q4 q5 q6 q7 q8 q9 q10 q11 q12 q13 q14 r1 r2 r3 r4 r7 s1 s2 s3 s4 s7 u1 u2 u3 u4 w1 w2 w3 w4 w5 w6 w7 w8 w9 w10 w11 w12 w13 t1 t2 t4 c1 c3 c4 q0:Pos}
  (er:rs=[.If (.Compare (.Name cx c1) [.Is] [.Constant .none j2 c3] c4) [.Return (some (.Constant .none j3 q12)) q13] [] q14,
    .If (.Call (.Name "isinstance" r1) [.Name cx r2,.Tuple es1 x1 r3] [] r4) b1 [] r7,
    .If (.Call (.Name "isinstance" s1) [.Name cx s2,.Tuple es2 x2 s3] [] s4) b2 [] s7,
    .If (.BoolOp .Or [.UnaryOp .Not (.Call (.Name "isinstance" q1) [.Name cx q2,.Name An q3] [] q4) q5,.UnaryOp .Not (.Call (.Name "isinstance" q6) [.Name cx q7,.Name "ValueError" q8] [] q9) q10,.Call (.Name "isinstance" u1) [.Name cx u2,.Tuple es3 x3 u3] [] u4] q11) b3 [] q0,
    .If (.BoolOp .Or [.UnaryOp .Not (.Call (.Name "isinstance" w1) [.Attribute (.Name cx w2) cD w3,.Name "int" w4] [] w5) w6,.Call (.Name "isinstance" w7) [.Attribute (.Name cx w8) cD w9,.Name "bool" w10] [] w11] w12) b4 [] w13,
    .Return (some (.Attribute (.Name cx t1) cD t2)) t4])
  (F:de X.prog X.w X.K X.mg X.base (CX2 X.prog X.w) k f fd ps (spX fn X.K)) (hr:dh k X.A) (hgf:Gl X g) (hmf:X.mg g=some (.ref f)) (hk:PySem.W.keepIn X.K (.ref f)=true) (hb:Binds X.K fd ps []) (hdg:(g==("__debug__" : Str))=false)
  (nd:X.N.Nodup) (hi:X.N[i]?=some cx) (hx:Loc X.env.scope cx) (hfn:X.fn cx=true\/X.env.scope.names.lookup cx=some .local) (hcv:Vis X.env.scope cx) (hcd:(cx==("__debug__" : Str))=false) (hcc:(cx==("__classdict__" : Str))=false)
  (hj:X.N[j]?=some th) (hv:Vis X.env.scope th) (hdt:(th==("__debug__" : Str))=false) (hct:(th==("__classdict__" : Str))=false) (hij:i≠j)
  (hw0:swapsWith (.Constant .none j1 p2) (some (.Name cx p1)) p3.line X.env=pure false) (hw1:swapsWith (.Call (.Name g p4) [.Name th p5] [] p6) none p7.line X.env=pure false) (hw2:swapsWith (.Name n p9) (some (.Name cx p8)) p10.line X.env=pure false)
  (hl:X.env.kindOf n=some .local) (hdn:(n==("__debug__" : Str))=false) (hcn:(n==("__classdict__" : Str))=false) (hn:n ∉ X.N) (xC:lg X.K excAt iC) (xF:Ie X.K excAt Db cD) (xD:lg X.K Dc iD) (hm:PySem.W.mroIn X.K excAt (.ref Dc)=some true) (hgD:Gl X dn) (hmD:X.mg dn=some (.ref Dc)) (hdd:(dn==("__debug__" : Str))=false)
  (hst:X.stack=X.env :: X.outer) (hfr:X.env.frame=some X.env.locals) (hxe:∀ e s,¬X.xe e s)
  (hgi:Gl X "isinstance") (hmi:X.mg "isinstance" = none) (hgA:Gl X An) (hmA:X.mg An=some (.ref excAt)) (hdA:(An==("__debug__" : Str))=false) (hgV:Gl X "ValueError") (hmV:X.mg "ValueError" = none) (hV:PySem.W.mroIn X.K excAt (.type "ValueError")=some true)
  (hgI:Gl X "int") (hmI:X.mg "int" = none) (hgB:Gl X "bool") (hmB:X.mg "bool" = none)
  (hB1:∀ ea oe,JA (Xp X ea oe) es1 ta1) (ht1:ta1=fun Z H Q=>Q (B1.map V.ref) H) (hB2:∀ ea oe,JA (Xp X ea oe) es2 ta2) (ht2:ta2=fun Z H Q=>Q (B2.map V.ref) H) (hB3:∀ ea oe,JA (Xp X ea oe) es3 ta3) (ht3:ta3=fun Z H Q=>Q (B3.map V.ref) H) (hBl:B1.length<=20/\B2.length<=20/\B3.length<=20)
  (hBk:∀ B∈B1++B2++B3,PySem.W.kitOne X.K (.ref excAt) (.ref B)=some false)
  (hba:∀ p,attributeBase (.Name cx p) cD X.env (eval (.Name cx p) X.env)=eval (.Name cx p) X.env) (hmk:behindInMarks .Is (.Constant .none j2 c3)=false) :
  JSs X (.Assign [.Name cx p1] (.Constant .none j1 p2) p3 :: .Try [.Expr (.Call (.Name g p4) [.Name th p5] [] p6) p7] [.ExceptHandler (some (.Name dn np)) (some n) [.Assign [.Name cx p8] (.Name n p9) p10] hp] [] [] p11 :: rs)
   (Hs (tCB ((E1 fn hm1).r X.K) (fR (fE j) rl))):=by
 subst ht1 ht2 ht3;have kA:PySem.W.kitOne X.K (.ref excAt) (.ref excAt)=some true:=by unfold PySem.W.kitOne;rw [N4 (by simp)]
 have kV:PySem.W.kitOne X.K (.ref excAt) (.type "ValueError")=some true:=by
  unfold PySem.W.kitOne;rw [Od (by simp)];unfold PySem.W.kitCls;show (if PySem.W.kitMeta "ValueError" = true then PySem.W.subIn X.K (.ref excAt) (.type "ValueError") else none)=some true;rw [N4 (by decide +kernel)];exact hV
 have nv:∀ {Y:Cx} (b:List Stmt),JSs Y b xG:=fun b=>⟨fun _ _ _ _ _ _ h=>absurd h id⟩;have z1:JSs X rs (Ib (Ip (t5 (tOp Km (fE i) (tC .non))) (Hs (tC .non)) AE) xG):=er ▸
  au (bt (d4 pL (GC i hi hcv hcd hcc) mJ hmk) (aF (aN mJ)) bC) (nv _)
 have vt:∀ {Y:Cx} {e:Expr} {t:TE},JE Y e t->(∀ whole,isTrue e Y.env whole=(do let v<-whole;standAt e.pos;holding [v] (truthy v)))->JT Y e (tB t):=fun h e=>Ax h e;have z2:∀ ea oe dx vs,oe.cls=.ref excAt->oe.dict=some dx->oe.data=.fields vs->JSs (Xp X ea oe) rs _:=fun ea oe dx vs oc od of =>
  have vr:∀ {p:Pos},JE (Xp X ea oe) (.Name cx p) (fE i):=fun {p}=>GC i hi hcv hcd hcc;have at':∀ {p p':Pos},JE (Xp X ea oe) (.Attribute (.Name cx p) cD p') _:=fun {p p'}=>⟨Cg xC xF oc od of hi hcv hcd hcc (hba p)⟩;have tp:∀ {es:List Expr} {Bs:List Qz} {x p p2 p3 p4},JA (Xp X ea oe) es (fun Z H Q=>Q (Bs.map V.ref) H)->JE (Xp X ea oe) (.Call (.Name "isinstance" p) [.Name cx p2,.Tuple es x p3] [] p4) _:=fun h=>eB (DX xC oc) hgi hmi (by decide +kernel) (eA vr (eA (fG h) ae rfl) rfl) rfl rfl (by decide) rfl
  er▸(au (bt (d4 pL vr mJ hmk) (nv _) bC) <| au (bt (Ax (tp (hB1 ea oe)) fun _=>rfl) (nv b1) bC) <| au (bt (Ax (tp (hB2 ea oe)) fun _=>rfl) (nv b2) bC) <|
   au (bt (eW (oV (fF (Ax (eB (wz xC oc) hgi hmi (by decide +kernel) (eA vr (eA (bg (v:=.ref excAt) hgA hmA rfl hdA) ae rfl) rfl) rfl rfl (by decide) rfl) fun _=>rfl))
    (oV (fF (Ax (eB (wz xC oc) hgi hmi (by decide +kernel) (eA vr (eA (HW (v:=.ty "ValueError") hgV hmV PyProof.Rows.Boot.«ValueError» rfl (by decide) rfl) ae rfl) rfl) rfl rfl (by decide) rfl) fun _=>rfl)) (g6 (Ax (tp (hB3 ea oe)) fun _=>rfl))))) (nv b3) bC) <|
   au (bt (eW (oV (fF (Ax (K9 (T := "int") hgi hmi at' rfl (HW hgI hmI (by decide +kernel) rfl (by decide) rfl)) fun _=>rfl)) (g6 (Ax (K9 (T := "bool") hgi hmi at' rfl (HW hgB hmB (by decide +kernel) rfl (by decide) rfl)) fun _=>rfl)))) (nv b4) bC) <|
   aF (aN at'))
 refine ⟨fun pins s Z H D I h=>?_⟩;have il:i < Z.length:=by rw [I.len];exact (NW.mp hi).1
 obtain ⟨y,ej,h⟩:=(show (fE j) Z H (fun x H3=>HE fn X.K [x] H3 D.rt) from h);refine Ph (thn ((Ki (i:=i) mJ nd hi hx hw0 hfn).h pins s Z H { nx:=fun Z' H'=>Z'=Z.set i (some .non)/\H'=H,rt:=fun _ _=>False } I ⟨rfl,rfl⟩) fun fl s1 q=>?_);cases fl with
 | ret v=>obtain ⟨_,_,_,_,_,q⟩:=q;exact q.elim
 | brk=>obtain ⟨_,_,_,q⟩:=q;exact q.elim
 | cont=>obtain ⟨_,_,_,q⟩:=q;exact q.elim
 | next =>
 obtain ⟨Z1,H1,I1,rfl,rfl⟩:=q;have ej1:(Z.set i (some V.non))[j]?=some (some y):=by rw [NU hij];exact ej
 have ha:JA X [.Name th p5] (fR (fE j) rl):=eA (GC j hj hv hdt hct) ae rfl;refine Ph (wpAny_Try_except ?_);refine Ph (wpAny_Expr_any ?_ I1.quiet hw1);refine Pw (gT I1 hgf hmf ?_ hdg);refine PV (h₀:=X.base) I1.ok.mod.kin hk (OF (ha.h p6 pins _ _ H1 (fun vs H'=>vs=[y]/\H'=H1) I1 ⟨y,ej1,rfl,rfl⟩) (fun us s3 z=>?_) fun e s z=>(hxe e s z).elim) (aV rfl) (bM rfl);obtain ⟨vs,H3,I3,r3,rfl,rfl⟩:=z;refine ⟨I3.kIn,?_⟩;have hlen:us.length=ps.length:=by rw [<- r3.length];exact F.len _ _ _ _ h
 have hb':BindsTo s3 fd ⟨us,[]⟩ (ps.zip us):=by
  have z:=hb s3 us I3.kIn (by rw [Oz];exact hlen);rw [Oz] at z;exact z
 refine wpAny_call (P8 (F.run X.A X.stack s3 H3 ⟨us,[]⟩ us _ _ _ hr I3.Eu hb' r3 h) fun r s' hq=>?_);cases r with
 | ok fl =>
  cases fl with
  | next=>exact False.elim hq
  | brk=>exact False.elim hq
  | cont=>exact False.elim hq
  | ret u =>
   obtain ⟨v,H4,I4,r4,q4⟩:=I3.after hq;refine Pq (Pq ?_);have ei:(Z.set i (some V.non))[i]?=some (some V.non):=Oa il;exact z1.h pins s' _ H4 D I4 ⟨_,ei,rfl,true,rfl,q4 H4 (aY.rf _)⟩
 | error e =>
  obtain ⟨ea,C',t,dx,H',b,rfl,ho,hbr,u,kk,hok,fl,dx',H0,p,ec,ed,hpay,h0,rfl,q⟩:=hq;cases ec;cases ed;refine rW (D:=Dc) rfl I3 ho hbr u kk hok fl hst hfr xC xD hm hgD hmD hl hn nd hdd fun oe ws s5 oc od of I5=>?_;have ndN:(X.N++[n]).Nodup:=by
   rw [List.nodup_append]
   exact ⟨nd,by simp,fun a ha c hc z=>hn (by
    have hc:c=n:=by simpa using hc
    rw [<- hc,<-z];exact ha)⟩
  have iN:i < X.N.length:=(NW.mp hi).1;have len:(Z.set i (some V.non)).length=X.N.length:=I1.len;have ps:PS (Xs X ea oe n) (.Assign [.Name cx p8] (.Name n p9) p10) (uC (fE X.N.length) (e7 i)) :=
   Bk (X:=Xs X ea oe n) (i:=i) ndN (by show (X.N++[n])[i]?=some cx;rw [N1 iN];exact hi) hx (jk (by show (X.N++[n])[X.N.length]?=some n;simp) (.inl hl) hdn hcn) hw2 hfn
  have run:=uX ps pins s5 _ _ { nx:=fun τ H4=>τ=(Z.set i (some V.non)++[some (V.ref ea)]).set i (some (V.ref ea))/\H4=upd H0 dx (.xd [(cD,.int p)]),rt:=fun _ _=>False } I5 ⟨_,by rw [<- len];simp,rfl,rfl⟩;refine OF run (fun fl s6 z=>?_) fun _ _ z=>z.elim;cases fl with
  | ret v=>obtain ⟨_,_,_,_,_,q⟩:=z;exact q.elim
  | brk=>obtain ⟨_,_,_,q⟩:=z;exact q.elim
  | cont=>obtain ⟨_,_,_,q⟩:=z;exact q.elim
  | next =>
   obtain ⟨τ,H4,I6,rfl,rfl⟩:=z;have I6':Inv (Xs X ea oe n) ((ea,oe) :: pins) ((Z.set i (some V.non)++[some (V.ref ea)]).set i (some (V.ref ea))) (upd H0 dx (.xd [(cD,.int p)])) s6:=I6.gj fun p hp=>by
    rcases N9.mp hp with z | z
    ·rw [z];exact I6.pin (ea,oe) N5
    ·exact I6.pin p (Ol _ z)
   refine ⟨rfl,_,_,_,I6',fun s7 I7=>?_⟩;rw [List.set_append_left _ _ (by rw [len];exact iN),List.take_append_of_le_length (by rw [Oq,len];exact Oc _),O6 (by rw [Oq,len];exact Oc _),Pk] at I7;have ei:(Z.set i (some (V.ref ea)))[i]?=some (some (V.ref ea)):=Oa il;refine OF ((z2 ea oe dx ws oc od of).h pins s7 _ _ D I7.Ld ?_) (fun f s z=>z.tH I.ok) fun _ _ z=>z;have kB:∀ {Bs:List Qz},(∀ B∈Bs,B∈B1++B2++B3)->PySem.W.kitAny X.K (.ref excAt) (Bs.map Value.ref)=some false:=fun h=>ot fun B hB=>hBk B (h B hB);have sz:20<=sizeLine:=by decide
   have gx:∀ {H':Hp},aY (upd H0 dx (.xd [(cD,.int p)])) H'->H' dx=some (.xd [(cD,.int p)]):=fun sm=>sm _ _ aG;refine ⟨_,ei,rfl,false,rfl,?_⟩;refine ⟨_,ei,by rw [NT];exact Oi hBl.1 sz,fun tp htp=>⟨tp,B1,false,rfl,aG,kB fun B h=>by simp [h],false,rfl,?_⟩⟩;have S1:=aY.nw (.tup (B1.map V.ref)) htp;refine ⟨_,ei,by rw [NT];exact Oi hBl.2.1 sz,fun tp htp=>⟨tp,B2,false,rfl,aG,kB fun B h=>by simp [h],false,rfl,?_⟩⟩;have S2:=aY.tr S1 (aY.nw (.tup (B2.map V.ref)) htp);refine ⟨_,ei,.ref excAt,.ref excAt,true,rfl,(fun u z=>z),kA,true,rfl,?_⟩;dsimp only;rw [Od (by decide)];refine ⟨_,ei,.ty "ValueError", .type "ValueError", true,rfl,(fun u z=>z),kV,true,rfl,?_⟩;dsimp only;rw [Od (by decide)];refine ⟨_,ei,by rw [NT];exact Oi hBl.2.2 sz,fun tp htp=>⟨tp,B3,false,rfl,aG,kB fun B h=>by simp [h],false,rfl,?_⟩⟩;have S3:=aY.tr S2 (aY.nw (.tup (B3.map V.ref)) htp);refine ⟨ei,_,hpay,gx S3,fun _=>False,.int p,true,rfl,rfl,true,rfl,?_⟩;dsimp only;rw [Od (by decide)];exact ⟨ei,_,hpay,gx S3,fun _=>False,.int p,false,rfl,rfl,false,rfl,ei,_,hpay,gx S3,q _ S3⟩
end
theorem lg.lk {K:Fg} {C:Qz} {i:Option Qj} (x:lg K C i):∃ cd bm,PySem.W.clsIn K C=some cd/\cd.mro=.ref C :: bm/\PySem.W.typeIn K (.ref C)=some (.type "type"):=by
 obtain ⟨dd,cd,bm,k0,k1,k2,k3,k5,lk,em,_⟩:=x.ex;exact ⟨cd,bm,by unfold PySem.W.clsIn;rw [lk],em,by show Option.map (fun x=>x.cls) (K.lookup C)=_;rw [lk];rfl⟩
theorem Ad {K:Fg} {C B:Qz} {i:Option Qj} {dd:Option Qz} {cd:ClassData} {sl:Array (Option Qj)} (x:lg K C i) (y:K.lookup B=some ⟨.type "type", dd,.cls cd,sl⟩) (h:PySem.W.mroIn K C (.ref B)=some false):PySem.W.kitOne K (.ref C) (.ref B)=some false:=by
 obtain ⟨c1,b1,e1,m1,t1⟩:=x.lk;unfold PySem.W.kitOne;rw [Od]
 ·unfold PySem.W.kitCls;show (if ((PySem.W.clsIn K B).isSome&&PySem.W.typeIn K (.ref B)==some (.type "type"))=true then PySem.W.subIn K (.ref C) (.ref B) else none)=some false;have k1:PySem.W.clsIn K B=some cd:=by unfold PySem.W.clsIn;rw [y]
  have k2:PySem.W.typeIn K (.ref B)=some (.type "type"):=by show Option.map (fun x=>x.cls) (K.lookup B)=_;rw [y];rfl
  rw [k1,k2,N4 (by simp)];exact h
 ·intro q;have q:C=B:=Value.ref.inj (Pe.mp q);subst q;unfold PySem.W.mroIn at h;rw [e1] at h;have h:(if c1.mro.isEmpty then none else some (c1.mro.contains (.ref C)))=some false:=h;rw [m1] at h;simp at h
noncomputable def zC (s:Stmt):Stmt:=match s with
 | .ClassDef _ _ _ b _ _ _ _ _ _ _=>b.getD 0 (.Pass ⟨0,0,0,0⟩)
 | _=>.Pass ⟨0,0,0,0⟩
theorem iOp (ho:OpR X (binaryOp op) (fun x y=>p.r X.K [x,y])) (ha:JE X a (rE X.K ga a')) (hb:JE X b (rE X.K ga b')):JE X (.BinOp a op b pos) (rE X.K ga (p2 p a' b')):=eOp ho ha hb
def Ya (K:Fg) (mg:Str->Option Qj) (x:Str) (a:Qz):Prop:=mg x=some (.ref a)/\PySem.W.kitOne K (.ref excAt) (.ref a)=some false
def F5 (K:Fg) (mg:Str->Option Qj):List Str->Prop
 | []=>True
 | x :: r=>(∃ a,Ya K mg x a)/\F5 K mg r
theorem KS {K:Fg} {mg:Str->Option Qj} {h:Heap} {x:Str} {a:Qz} {i:Option Qj} {r:List Str} {dd:Option Qz} {cd:ClassData} {sl:Array (Option Qj)} (X:K.In h) (G:h.Ns mainGlobals mg) (xC:lg K excAt i) (n:PySem.W.nsIn K mainGlobals x=some (some (.ref a))) (l:K.lookup a=some ⟨.type "type", dd,.cls cd,sl⟩) (m:PySem.W.mroIn K excAt (.ref a)=some false) (hr:F5 K mg r):F5 K mg (x :: r) :=
 ⟨⟨a,OG X G n,Ad xC l m⟩,hr⟩
theorem LZ {K:Fg} {mg:Str->Option Qj}:∀ {l:List Str},F5 K mg l->∃ y:Nat->Qz,∀ i {x},l[i]?=some x->Ya K mg x (y i)
 | [],_=>⟨fun _=>0,fun i x h=>by cases h⟩
 | z :: r,⟨⟨a,ha⟩,hr⟩=>by
  obtain ⟨f,hf⟩:=LZ hr;refine ⟨fun i=>i.casesOn a f,fun i x h=>?_⟩;cases i with
  | zero=>cases h;exact ha
  | succ i=>exact hf i h
section
variable {gd:List Qq} {env e1:En} {E:Kn} {P:Option Int} {Q:RV->En->Prop} {QA:List AV->En->Prop} {i:Nat} {a b:XE} {as:XA} {s t:XS} {f:Fn} {avs:List AV}
def WX (gd:List Qq) (s:XS) (env:En) (E:Kn) (P:Option Int):Prop:=WS gd s env E\/∃ p,P=some p/\dS gd s env=none/\xS gd s env=some p
def WY (gd:List Qq) (e:XE) (env:En) (Q:RV->En->Prop) (P:Option Int):Prop:=WE gd e env Q\/∃ p,P=some p/\dE gd e env=none/\xE gd e env=some p
def WZ (gd:List Qq) (e:XA) (env:En) (Q:List AV->En->Prop) (P:Option Int):Prop:=WA gd e env Q\/∃ p,P=some p/\dA gd e env=none/\xA gd e env=some p
def WU (f:Fn) (ds:List Qq) (Q:PR->List Qq->Prop) (P:Option Int):Prop:=WF f ds Q\/∃ p,P=some p/\f.F ds=none/\f.X ds=some p
def WCx (f:Fn) (avs:List AV) (e:En) (Q:RV->En->Prop) (P:Option Int):Prop:=lT f avs e Q\/∃ p,P=some p/\lh f avs e=none/\tE f avs e=some p
theorem l9 (hl:ds.length=ms.length) (h:WX gd s (aC ms ds n) ⟨sW ms QF,Eo ms QF,fun _=>False,fun _=>False⟩ P):WU (bO gd ms n s) ds QF P:=by
 rcases h with h | ⟨p,ep,h1,h2⟩
 ·exact .inl (dw hl h)
 ·refine .inr ⟨p,ep,?_⟩;simp only [bO];rw [N4 hl,N4 hl,h1,h2];exact ⟨rfl,rfl⟩
theorem B6 (h:WX gd s env { E with nx:=fun e=>WX gd t e E P } P):WX gd (.seq s t) env E P:=by
 rcases h with ⟨o,ho,q⟩ | ⟨p,ep,h1,h2⟩
 ·cases o with
  | nx e =>
   rcases q with ⟨o2,h3,q⟩ | ⟨p,ep,h3,h4⟩
   ·exact .inl ⟨o2,by simp only [dS,ho,h3],q⟩
   ·exact .inr ⟨p,ep,by simp only [dS,ho,h3,h4],by simp only [xS,ho,h3,h4]⟩
  | rt r e=>exact .inl ⟨.rt r e,by simp only [dS,ho],q⟩
  | bk e=>exact .inl ⟨.bk e,by simp only [dS,ho],q⟩
  | ct e=>exact .inl ⟨.ct e,by simp only [dS,ho],q⟩
 ·exact .inr ⟨p,ep,by simp only [dS,h1,h2],by simp only [xS,h1,h2]⟩
theorem GL (h:WY gd a env (fun r e=>Dk i r e E.nx) P):WX gd (.aX i a) env E P:=by
 rcases h with h | ⟨p,ep,h1,h2⟩
 ·exact .inl (Bx h)
 ·exact .inr ⟨p,ep,by simp only [dS,h1,h2],by simp only [xS,h1,h2]⟩
theorem Gx (h:WY gd a env (fun _ e=>E.nx e) P):WX gd (.drop a) env E P:=by
 rcases h with h | ⟨p,ep,h1,h2⟩
 ·exact .inl (BB h)
 ·exact .inr ⟨p,ep,by simp only [dS,h1,h2],by simp only [xS,h1,h2]⟩
theorem K4 (h:WY gd a env E.rt P):WX gd (.ret a) env E P:=by
 rcases h with h | ⟨p,ep,h1,h2⟩
 ·exact .inl (Hz h)
 ·exact .inr ⟨p,ep,by simp only [dS,h1,h2],by simp only [xS,h1,h2]⟩
theorem JY {x:XT} (h:WT gd x env fun b e=>if b=true then WX gd s e E P else WX gd t e E P):WX gd (.ifs x s t) env E P:=by
 obtain ⟨b,e',h1,h2⟩:=h;cases b with
 | true =>
  rcases (show WX gd s e' E P from h2) with ⟨o,h3,q⟩ | ⟨p,ep,h3,h4⟩
  ·exact .inl ⟨o,by simp only [dS,h1,h3],q⟩
  ·exact .inr ⟨p,ep,by simp only [dS,h1,h3,h4],by simp only [xS,h1,h3,h4]⟩
 | false =>
  rcases (show WX gd t e' E P from h2) with ⟨o,h3,q⟩ | ⟨p,ep,h3,h4⟩
  ·exact .inl ⟨o,by simp only [dS,h1,h3],q⟩
  ·exact .inr ⟨p,ep,by simp only [dS,h1,h3,h4],by simp only [xS,h1,h3,h4]⟩
theorem Ly (h:WE gd a env fun r _=>∃ p,r.av=.dat (.int p)/\P=some p/\dY (.int p)=true):WX gd (.rse a) env E P:=by
 obtain ⟨r,e',h1,p,h2,ep,h3⟩:=h;exact .inr ⟨p,ep,by simp only [dS],by simp only [xS,h1,h2];exact N4 h3⟩
theorem Mf {N:Nat} {c:XT} (Inv:Nat->En->Prop) (m:Nat) (hm:m < N) (h0:Inv m env)
  (hs:∀ k e,k<=m->Inv k e->WT gd c e fun b e2=>if b=true then WX gd s e2 ⟨fun e3=>∃ j,j < k/\Inv j e3,E.rt,fun _=>False,fun _=>False⟩ P else E.nx e2):WX gd (.wh N c s) env E P:=by
 have key:∀ (n k:Nat) (e:En),k < n->k<=m->Inv k e->(∃ o,whL (dT gd c) (dS gd s) n e=some o/\E.at o)\/∃ p,P=some p/\whL (dT gd c) (dS gd s) n e=none/\whX (dT gd c) (dS gd s) (xS gd s) n e=some p:=by
  intro n;induction n with
  | zero=>intro k e h;omega
  | succ n ih =>
   intro k e h hN hI;obtain ⟨b,e2,h1,h2⟩:=hs k e hN hI;unfold whL whX;cases b with
   | false=>exact .inl ⟨.nx e2,by simp only [h1],h2⟩
   | true =>
    rcases (show WX gd s e2 _ P from h2) with ⟨o,h3,q⟩ | ⟨p,ep,h3,h4⟩
    ·cases o with
     | nx e3 =>
      obtain ⟨j,hj,hI3⟩:=q;simp only [h1,h3];exact ih j e3 (by omega) (by omega) hI3
     | rt r e3=>exact .inl ⟨.rt r e3,by simp only [h1,h3],q⟩
     | bk e3=>exact q.elim
     | ct e3=>exact q.elim
    ·exact .inr ⟨p,ep,by simp only [h1,h3],by simp only [h1,h3,h4]⟩
 rcases key N m env hm (Oc _) h0 with ⟨o,h1,q⟩ | ⟨p,ep,h1,h2⟩
 ·exact .inl ⟨o,by simp only [dS];exact h1,q⟩
 ·exact .inr ⟨p,ep,by simp only [dS];exact h1,by simp only [xS];exact h2⟩
theorem DS (h:WA gd as env fun avs e=>WCx f avs e Q P):WY gd (.bY f as) env Q P:=by
 obtain ⟨avs,e',h1,⟨rv,e2,h2,q⟩ | ⟨p,ep,h2,h3⟩⟩:=h
 ·exact .inl ⟨_,_,by simp only [dE,h1];exact h2,q⟩
 ·exact .inr ⟨p,ep,by simp only [dE,h1];exact h2,by simp only [xE,h1];exact h3⟩
theorem aj (h1:iu e1 f.ms avs=some ds) (h2:cU f.ms avs=is) (hc:ckA is (rz f.ms avs) is.length=true) (h:WU f ds (fun pr outs=>outs.length=is.length/\Q pr.rv (dJ e1 is outs)) P):WCx f avs e1 Q P:=by
 rcases h with ⟨pr,outs,h3,h4,h5⟩ | ⟨p,ep,h3,h4⟩
 ·exact .inl (aa h1 h2 ⟨pr,outs,h3,by rw [h4];exact hc,h5⟩)
 ·subst h2;refine .inr ⟨p,ep,by unfold lh;simp only [h1,h3],?_⟩;unfold tE;simp only [h1];rw [N4 hc];exact h4
theorem IG {m:Str} (h0:aR env i=some (.dict kvs)) (h1:Be m kvs=true) (h:WA gd as env fun avs e=>WCx f (.bor i :: avs) e Q P):WY gd (.mtx m f i as) env Q P:=by
 obtain ⟨avs,e',h2,⟨rv,e2,h3,q⟩ | ⟨p,ep,h3,h4⟩⟩:=h
 ·exact .inl ⟨_,_,by simp only [dE,h0];rw [N4 h1];simp only [h2];exact h3,q⟩
 ·refine .inr ⟨p,ep,?_,?_⟩
  ·simp only [dE,h0];rw [N4 h1];simp only [h2];exact h3
  ·simp only [xE,h0];rw [N4 h1];simp only [h2];exact h4
theorem IK {p:Prm} (h:WZ gd as env (fun avs e=>WPr p avs e Q) P):WY gd (.prm p as) env Q P:=by
 rcases h with h | ⟨p,ep,h1,h2⟩
 ·exact .inl (A4 h)
 ·exact .inr ⟨p,ep,by simp only [dE,h1,h2],by simp only [xE,h1,h2]⟩
theorem IX (h:WZ gd as env (fun avs e=>WTp (fun ds=>.dat (.tuple ds)) avs e Q) P):WY gd (.tup as) env Q P:=by
 rcases h with h | ⟨p,ep,h1,h2⟩
 ·exact .inl (BM h)
 ·exact .inr ⟨p,ep,by simp only [dE,h1,h2],by simp only [xE,h1,h2]⟩
theorem JH (h0:aR env i=some d) (h1:m.ty d=true) (h:WZ gd as env (fun avs e2=>WMr m i avs e2 Q) P):WY gd (.mtr m i as) env Q P:=by
 rcases h with h | ⟨p,ep,h2,h3⟩
 ·exact .inl (FU h0 h1 h)
 ·refine .inr ⟨p,ep,?_,?_⟩
  ·simp only [dE,h0];rw [N4 h1];simp only [h2]
  ·simp only [xE,h0];rw [N4 h1];exact h3
theorem FN (h:WY gd a env (fun r e=>WZ gd as e (fun avs e2=>QA (r.av :: avs) e2) P) P):WZ gd (.cons a as) env QA P:=by
 rcases h with ⟨r,e',h1,⟨avs,e2,h2,q⟩ | ⟨p,ep,h2,h3⟩⟩ | ⟨p,ep,h1,h2⟩
 ·exact .inl ⟨_,_,by simp only [dA,h1,h2],q⟩
 ·exact .inr ⟨p,ep,by simp only [dA,h1,h2,h3],by simp only [xA,h1,h2,h3]⟩
 ·exact .inr ⟨p,ep,by simp only [dA,h1,h2],by simp only [xA,h1,h2]⟩
theorem Ng (h:e=e') (q:WX gd s e' E P):WX gd s e E P:=h▸q
theorem NF (h:e=e') (q:WY gd a e' Q P):WY gd a e Q P:=h▸q
theorem MQ (h:e=e') (q:WZ gd as e' QA P):WZ gd as e QA P:=h▸q
theorem Lm (h:e=e') (q:WCx f avs e' Q P):WCx f avs e Q P:=h▸q
theorem Lo (h:WS gd s env E):WX gd s env E P:=.inl h
theorem Kr (h:WE gd a env Q):WY gd a env Q P:=.inl h
theorem Kl (h:WA gd as env QA):WZ gd as env QA P:=.inl h
end
end L2
end
set_option bootstrap.genMatcherCode true
section
namespace K22
open PySem PySem.Spec PyProof.Rows L2
noncomputable def top (i:Nat):Stmt:=PySem.Challenge.pw_webshapes_k22_whole_every_cut_of_a_text.main.body.getD i (.Pass ⟨0,0,0,0⟩)
def topC (i j:Nat):Stmt:=match top i with | .ClassDef _ _ _ b _ _ _ _ _ _ _=>b.getD j (.Pass ⟨0,0,0,0⟩) | _=>.Pass ⟨0,0,0,0⟩
abbrev eY:Stmt:=top 20
abbrev qo:Stmt:=top 21
abbrev mY:Stmt:=top 22
abbrev pX:Stmt:=top 23
abbrev qu:Stmt:=top 24
abbrev mh:Stmt:=top 25
abbrev gE:Stmt:=top 26
abbrev pE:Stmt:=top 27
abbrev ma:Stmt:=top 37
abbrev ke:Stmt:=top 38
abbrev gC:Stmt:=top 39
abbrev pb:Stmt:=top 44
abbrev lV:Stmt:=top 45
abbrev lX:Stmt:=top 46
abbrev mB:Stmt:=top 48
abbrev eU:Stmt:=top 49
abbrev k8:Stmt:=top 50
abbrev lC:Stmt:=top 52
abbrev kg:Stmt:=top 53
abbrev jf:Stmt:=top 54
abbrev oS:Stmt:=top 55
abbrev kY:Stmt:=top 56
abbrev lx:Stmt:=top 57
abbrev km:Stmt:=top 58
abbrev jM:Stmt:=top 59
abbrev nZ:Stmt:=top 60
abbrev lL:Stmt:=top 61
abbrev l7:Stmt:=top 62
abbrev mz:Stmt:=top 63
abbrev mI:Stmt:=top 64
abbrev me:Stmt:=top 65
abbrev Du:Stmt:=top 67
abbrev Ag:Stmt:=top 68
abbrev oA:Stmt:=top 69
abbrev t9:Stmt:=top 70
abbrev AN:Stmt:=top 71
abbrev D2:Stmt:=top 72
abbrev vJ:Stmt:=top 73
abbrev rB:Stmt:=top 74
abbrev lR:Stmt:=top 76
abbrev tu:Stmt:=top 77
abbrev ig:Stmt:=top 78
abbrev Aq:Stmt:=top 79
abbrev AQ:Stmt:=top 80
abbrev pq:Stmt:=top 81
abbrev ki:Stmt:=top 82
abbrev zP:Stmt:=top 83
abbrev pN:Stmt:=top 84
abbrev DW:Stmt:=top 85
abbrev bD:Stmt:=topC 51 0
abbrev ba:Stmt:=topC 51 1
abbrev bh:Stmt:=topC 51 2
abbrev bE:Stmt:=topC 51 3
abbrev d5:Stmt:=zC (top 7)
def Mx:Str×Stmt×List Str:=("", top 0,[])
def dfs:List (Str×Stmt×List Str):=("are_letters", eY,["thing", "fewest"]) :: ("is_name", qo,["thing"]) :: ("is_whole", mY,["thing"]) :: ("is_said", pX,["thing"]) :: ("kind_of", qu,["node"]) :: ("show_node", mh,["node"]) :: ("number_in", gE,["text"]) :: ("node_in", pE,["text"]) :: ("length_of", ma,["word"]) :: ("are_bounds", ke,["low", "high"]) :: ("straight_parts", gC,["form"]) :: ("run_end", pb,["text", "at", "signs"]) :: ("token_end", lV,["text", "at"]) :: ("tokens_of", lX,["text"]) :: ("show_high", mB,["high"]) :: ("show_inside", eU,["form"]) :: ("show_form", k8,["form"]) :: ("read_word", lC,["reader"]) :: ("read_value", kg,["reader"]) :: ("read_number", jf,["reader"]) :: ("read_low", oS,["reader"]) :: ("read_high", kY,["reader", "low"]) :: ("read_step", lx,["reader"]) :: ("read_comma", km,["reader", "has_room"]) :: ("read_closed", jM,["reader"]) :: ("read_not", nZ,["reader", "depth", "walked"]) :: ("read_list", lL,["reader", "head", "depth", "walked"]) :: ("read_walk", l7,["reader", "head", "depth"]) :: ("may_begin", mz,["head", "forms", "depth", "walked"]) :: ("read_part", mI,["reader", "depth", "walked"]) :: ("read_form", me,["text"]) :: ("_law_pen", Du,["_law_script"]) :: ("_law_take", Ag,["_law_pen_here", "_law_most"]) :: ("_law_names", oA,["_law_pen_here", "_law_many"]) :: ("_law_number", t9,["_law_pen_here"]) :: ("_law_node", AN,["_law_pen_here", "_law_things"]) :: ("_law_tip", D2,["_law_pen_here", "_law_names_here", "_law_free"]) :: ("_law_count", vJ,["_law_pen_here", "_law_names_here"]) :: ("_law_form", rB,["_law_pen_here", "_law_names_here", "_law_room", "_law_deep", "_law_free"]) :: ("_law_node_text", lR,["_law_node_here"]) :: ("_law_commas", tu,["_law_rows"]) :: ("_law_tokens", ig,["_law_form_here"]) :: ("_law_grow", Aq,["_law_one", "_law_other"]) :: ("_law_laid", AQ,["_law_pen_here", "_law_tokens_here"]) :: ("_law_refused", pq,["_law_text"]) :: ("_law_whole_read", ki,["_law_form_here", "_law_text"]) :: ("_law_cuts", zP,["_law_pen_here", "_law_tokens_here", "_law_text", "_law_places"]) :: ("_law_strange", pN,["_law_pen_here", "_law_tokens_here"]) :: ("law", DW,["_law_script"]) :: []
noncomputable def ycs:List Str:=["NoText", "NoRow", "NoNode", "NoMay", "NoFact", "NoBook", "Missing", "Clash", "Unknown", "Twice", "NotSimple", "NoWeb", "Mixed", "Against"]
structure Adr where
 f:Nat->Qz×FuncData
 fv:Qz×FuncData
 ar:Qz×FuncData
 aA:Qz×FuncData
 aH:Qz×FuncData
 i:Qz×FuncData
 xd:Qz
 y:Nat->Qz
 jI:Qz
 fi:Qz
 ju:Qz
 xN:Tok
 Lg:Tok
 vK:Tok
 wZ:Tok
 nR:Tok
 o9:Tok
 ka:Tok
 mP:Tok
 j6:Tok
 mw:Tok
noncomputable def bx:List (Str×Cst):=[("any", (.i 1)),("thing", (.i 1)),("number", (.i 1)),("said", (.i 1)),("from", (.i 2)),("upto", (.i 2)),("is", (.i 2)),("keeps", (.i 2)),("not", (.i 2)),("all", (.i 2)),("some", (.i 2)),("one", (.i 2)),("none", (.i 2)),("many", (.i 5)),("each", (.i 5)),("closed", (.i 2))]
structure Txt (w:World) (K:Fg) (mg:Str->Option Qj) (t:Adr):Prop where
 d:∀ i {x st ps},dfs[i]?=some (x,st,ps)->Fa K mg x st ps (t.f i)
 AJ:Fun K "__init__" "FormReader.__init__" bD t.fv.1 t.fv.2
 zY:Binds K t.fv.2 ["self", "text"] []
 vQ:Fun K "shown" "FormReader.shown" ba t.ar.1 t.ar.2
 a9:Binds K t.ar.2 ["self"] []
 ar:Meth K clsAt "shown" t.ar.1
 yB:Fun K "taken" "FormReader.taken" bh t.aA.1 t.aA.2
 bP:Binds K t.aA.2 ["self", "value", "fits"] []
 aA:Meth K clsAt "taken" t.aA.1
 yY:Fun K "skip" "FormReader.skip" bE t.aH.1 t.aH.2
 bF:Binds K t.aH.2 ["self", "token"] []
 aH:Meth K clsAt "skip" t.aH.1
 cl:Cls K clsAt
 cmk:Mk K clsAt t.fv.1
 cg:mg "FormReader" = some (.ref clsAt)
 gy:eQ K clsAt "forms"
 gu:eQ K clsAt "place"
 jt:eQ K clsAt "tokens"
 oo:mg "ValueError" = none
 DP:mg "abs" = none
 F3:mg "all" = none
 BC:mg "bool" = none
 wW:mg "int" = none
 aQ:mg "isinstance" = none
 du:mg "len" = none
 Kk:mg "min" = none
 fZ:mg "range" = none
 rC:mg "sorted" = none
 i5:mg "str" = none
 fQ:mg "tuple" = none
 wM:mg "DEEPEST" = some (Value.int 8 t.xN)
 Gk:mg "END" = some (Value.str "" t.Lg)
 oQ:mg "FIGURES" = some (Value.str "0123456789" t.vK)
 xk:mg "LENGTHS" = some (.ref t.ju)
 jc:mg "LETTERS" = some (Value.str "abcdefghijklmnopqrstuvwxyz" t.wZ)
 yM:mg "LISTS" = some (.ref t.jI)
 n5:mg "MOST_BONDS" = some (Value.int 8 t.nR)
 jU:mg "MOST_ENDS" = some (Value.int 60 t.o9)
 j7:mg "MOST_FIGURES" = some (Value.int 30 t.ka)
 iM:mg "MOST_FORMS" = some (Value.int 40 t.mP)
 jZ:mg "MOST_LETTERS" = some (Value.int 8 t.j6)
 l6:mg "MOST_LISTED" = some (Value.int 6 t.mw)
 jK:mg "WALKS" = some (.ref t.fi)
 x8:KG w K t.ju bx
 DG:∀ H,SqT K H t.jI [.str "all", .str "some", .str "one", .str "none"]
 CM:∀ H,SqT K H t.fi [.str "many", .str "each"]
 xc:lg K excAt (some (.ref t.i.1))
 xf:Ie K excAt t.xd cD
 xm:mg "NoForm" = some (.ref excAt)
 kp:PySem.W.keepIn K (.ref excAt)=true
 Fi:Fun K "__init__" "NoForm.__init__" d5 t.i.1 t.i.2
 bi:Binds K t.i.2 ["self", "at"] []
 fo:∃ o,K.lookup t.i.1=some o/\o.cls=.type "function"
 xd:lg K t.xd none
 xdm:mg "ShapeError" = some (.ref t.xd)
 mr:PySem.W.mroIn K excAt (.ref t.xd)=some true
 mv:PySem.W.mroIn K excAt (.type "ValueError")=some true
 y:∀ i {x},ycs[i]?=some x->Ya K mg x (t.y i)
noncomputable def gds:List Qq:=[.tuple [PyData.str "all", PyData.str "some", PyData.str "one", PyData.str "none"],.tuple [PyData.str "many", PyData.str "each"]]
noncomputable def gav (t:Adr):Nat->V:=fun g=>([.ref t.jI,.ref t.fi]:List V)[g]?.getD .non
theorem aL {w:World} {K:Fg} {mg:Str->Option Qj} {t:Adr} (T:Txt w K mg t):∀ g d,gds[g]?=some d->∀ F H,Dm K F H d (gav t g):=by
 intro g d h F H;rcases g with _ | g
 ·cases h;exact ⟨_,_,rfl,T.DG H,by decide,⟨_,_,rfl,⟨rfl,by decide +kernel,ck _⟩,⟨_,_,rfl,⟨rfl,by decide +kernel,ck _⟩,⟨_,_,rfl,⟨rfl,by decide +kernel,ck _⟩,⟨_,_,rfl,⟨rfl,by decide +kernel,ck _⟩,rfl⟩⟩⟩⟩⟩
 rcases g with _ | g
 ·cases h;exact ⟨_,_,rfl,T.CM H,by decide,⟨_,_,rfl,⟨rfl,by decide +kernel,ck _⟩,⟨_,_,rfl,⟨rfl,by decide +kernel,ck _⟩,rfl⟩⟩⟩
 cases h
theorem BF {P:Program} {w:World} {K:Fg} {mg:Str->Option Qj} {base:Heap} {t:Adr} (T:Txt w K mg t):XMk P w K mg base excAt t.i.1 cD t.i.2 ["self", "at"] :=
 ⟨T.xc,T.fo,T.kp,T.Fi.ok (scm (N:=["self", "at"])) (fun vs H Q E ⟨e,v,h,_⟩=>by rw [h];rfl) (fun cdv A outer s H vs Q E hr h=>⟨GK excAt cD,pJ T.xc T.xf rfl T.xdm rfl rfl rfl (Or.inl rfl) (Or.inl rfl) rfl rfl rfl rfl (by decide) rfl ⟨_,rfl⟩ rfl,by obtain ⟨e,v,rfl,hp,he,q⟩:=h;exact ⟨e,v,rfl,rfl,hp,he,q⟩⟩),T.bi⟩
abbrev vr0:XE:=vr 0
abbrev vr1:XE:=vr 1
abbrev vr2:XE:=vr 2
abbrev vr3:XE:=vr 3
abbrev vr4:XE:=vr 4
abbrev vr5:XE:=vr 5
abbrev vr6:XE:=vr 6
abbrev vr7:XE:=vr 7
abbrev vr8:XE:=vr 8
abbrev HN:XE:=vr 10
abbrev MJ:XE:=vr 11
abbrev ci0:XE:=ci 0
abbrev ci1:XE:=ci 1
abbrev ci2:XE:=ci 2
abbrev xa1 (a:XE):XA:=.cons a .nil
abbrev xa2 (a b:XE):XA:=.cons a (.cons b .nil)
abbrev xa3 (a b c:XE):XA:=.cons a (.cons b (.cons c .nil))
abbrev xa4 (a b c d:XE):XA:=.cons a (.cons b (.cons c (.cons d .nil)))
def fK:XS :=
 (.seq (.ifs (.or (.not (.tst (p1 (uE "str") vr0))) (.not (.tst (.chn leP leP vr1 (p1 jV vr0) (ci 8))))) (.ret (.cst (.b false))) .skip)
  (.ret (p1 HM (.cmp [] (.str vr0) .yes (.chn leP leP (cs "a") vr0 (cs "z"))))))
def bp:Fn:=bO gds [.dat,.dat] 2 fK
def kv:XS :=
 (.ret (.call bp (xa2 vr0 ci1)))
def bT:Fn:=bO gds [.dat] 1 kv
def jG:XS :=
 (.ret (.mL (p1 (uE "int") vr0) (.Et (p1 (uE "bool") vr0))))
def bR:Fn:=bO gds [.dat] 1 jG
def kz:XS :=
 (.ret (.mL (p1 (uE "tuple") vr0) (.mL (p2 eqP (p1 jV vr0) ci1) (.call bp (xa2 (p2 ixP vr0 ci0) ci0)))))
def fB:Fn:=bO gds [.dat] 1 kz
def tG:XS :=
 (.seq (.ifs (.tst (p1 (uE "str") vr0)) (.ret (cs "thing")) .skip)
  (.seq (.ifs (.tst (p1 (uE "tuple") vr0)) (.ret (cs "said")) .skip)
  (.ret (cs "number"))))
def g8:Fn:=bO gds [.dat] 1 tG
def iQ:XS :=
 (.seq (.aX 1 (.call g8 (xa1 vr0)))
  (.seq (.ifs (.tst (p2 eqP vr1 (cs "number"))) (.ret (p1 yW vr0)) .skip)
  (.seq (.ifs (.tst (p2 eqP vr1 (cs "said"))) (.ret (p2 bK (cs "'") (p2 ixP vr0 ci0))) .skip)
  (.ret vr0))))
def c5:Fn:=bO gds [.dat] 2 iQ
def eM:XS :=
 (.seq (.aX 1 (.ifx (.tst (.met xq vr0 (xa1 (cs "-")))) (p2 He vr0 ci1) vr0))
  (.seq (.ifs (.or (.not (.tst (.chn leP leP ci1 (p1 jV vr1) (ci 30)))) (.not (.tst (p1 HM (.cmp [] (.str vr1) .yes (.chn leP leP (cs "0") vr0 (cs "9"))))))) (.ret (.cst .n)) .skip)
  (.seq (.aX 2 (p1 mV vr0))
  (.ret (.ifx (.tst (p2 eqP (p1 yW vr2) vr0)) vr2 (.cst .n))))))
def cZ:Fn:=bO gds [.dat] 3 eM
def kq:XS :=
 (.seq (.ifs (.not (.tst (p1 (uE "str") vr0))) (.ret (.cst .n)) .skip)
  (.seq (.ifs (.tst (.met xq vr0 (xa1 (cs "'")))) (.seq (.aX 1 (.tup (xa1 (p2 He vr0 ci1))))
  (.ret (.ifx (.tst (.call fB (xa1 vr1))) vr1 (.cst .n)))) .skip)
  (.ret (.ifx (.tst (.call bT (xa1 vr0))) vr0 (.call cZ (xa1 vr0))))))
def bo:Fn:=bO gds [.dat] 2 kq
def iV:XS :=
 (.ret (p1 (Hd bx) vr0))
def bU:Fn:=bO gds [.dat] 1 iV
def dX:XS :=
 (.seq (.ifs (.or (.not (.tst (.call bR (xa1 vr0)))) (.not (.tst (.chn leP leP ci0 vr0 (ci 60))))) (.ret (.cst (.b false))) .skip)
  (.ret (.orv (p2 isP vr1 (.cst .n)) (.mL (.call bR (xa1 vr1)) (.chn leP leP vr0 vr1 (ci 60))))))
def bf:Fn:=bO gds [.dat,.dat] 2 dX
def gY:XS :=
 (.seq (.aX 1 (p2 ixP vr0 ci0))
  (.seq (.ifs (.tst (p2 eqP vr1 (cs "not"))) (.ret (.tup (xa1 (p2 ixP vr0 ci1)))) .skip)
  (.seq (.ifs (.tst (p2 inP vr1 (.glb 0))) (.ret (p2 ixP vr0 ci1)) .skip)
  (.seq (.ifs (.tst (p2 inP vr1 (.glb 1))) (.ret (.tup (xa1 (p2 ixP vr0 (ci 4))))) .skip)
  (.ret (.tup .nil))))))
def b8:Fn:=bO gds [.dat] 2 gY
def ky:XS :=
 (.seq (.wh 100000 (.and (.tst (p2 ltP vr1 (p1 jV vr0))) (.tst (p2 inP (p2 ixP vr0 vr1) vr2))) (.aX 1 (p2 bK vr1 ci1)))
  (.ret vr1))
def cF:Fn:=bO gds [.dat,.dat,.dat] 3 ky
def iU:XS :=
 (.seq (.ifs (.tst (p2 inP (p2 ixP vr0 vr1) (cs "abcdefghijklmnopqrstuvwxyz"))) (.ret (.call cF (xa3 vr0 vr1 (cs "abcdefghijklmnopqrstuvwxyz")))) .skip)
  (.seq (.ifs (.tst (p2 eqP (p2 ixP vr0 vr1) (cs "'"))) (.ret (.call cF (xa3 vr0 (p2 bK vr1 ci1) (cs "abcdefghijklmnopqrstuvwxyz")))) .skip)
  (.seq (.ifs (.or (.tst (p2 eqP (p2 ixP vr0 vr1) (cs "-"))) (.tst (p2 inP (p2 ixP vr0 vr1) (cs "0123456789")))) (.ret (.call cF (xa3 vr0 (p2 bK vr1 ci1) (cs "0123456789")))) .skip)
  (.ret (p2 bK vr1 ci1)))))
def cY:Fn:=bO gds [.dat,.dat] 2 iU
def iA:XS :=
 (.seq (.tZ 1 (.lst .nil))
  (.seq (.aX 2 ci0)
  (.seq (.wh 100000 (.tst (p2 ltP vr2 (p1 jV vr0))) (.seq (.aX 3 (.call cY (xa2 vr0 vr2)))
  (.seq (.ifs (.tst (p2 neP (p2 ixP vr0 vr2) (cs " "))) (.drop (.mtr vD 1 (xa1 (.tup (xa2 (.sl2 Mb vr0 vr2 vr3) vr2))))) .skip)
  (.aX 2 vr3))))
  (.seq (.drop (.mtr vD 1 (xa1 (.tup (xa2 (cs "") (p1 jV vr0))))))
  (.ret (.tke 1))))))
def c6:Fn:=bO gds [.dat] 4 iA
def iH:XS :=
 (.ret (.ifx (.tst (p2 isP vr0 (.cst .n))) (cs "*") (p1 yW vr0)))
def cX:Fn:=bO gds [.dat] 1 iH
def bL (F_show_form:Fn):XS :=
 (.seq (.ifs (.tst (p2 eqP (p2 ixP vr0 ci0) (cs "closed"))) (.ret (.met joinM (cs ", ") (xa1 (p2 ixP vr0 ci1)))) .skip)
  (.seq (.aX 1 (.ifx (.tst (p2 inP (p2 ixP vr0 ci0) (.glb 1))) (.lst (xa3 (p1 yW (p2 ixP vr0 ci1)) (.call cX (xa1 (p2 ixP vr0 ci2))) (p2 ixP vr0 (ci 3)))) (.lst .nil)))
  (.ret (.met joinM (cs ", ") (xa1 (p2 bK vr1 (.cmp [] (.tup (.call b8 (xa1 vr0))) .yes (.call F_show_form (xa1 vr0)))))))))
def iX (F_show_inside:Fn):XS :=
 (.seq (.aX 1 (p2 ixP vr0 ci0))
  (.seq (.ifs (.tst (p2 eqP (.call bU (xa1 vr1)) ci1)) (.ret vr1) .skip)
  (.seq (.ifs (.tst (p2 eqP vr1 (cs "keeps"))) (.ret (p2 bK (p2 bK vr1 (cs " ")) (p2 ixP vr0 ci1))) .skip)
  (.seq (.ifs (.tst (p2 inP vr1 (.tup (xa3 (cs "from") (cs "upto") (cs "is"))))) (.ret (p2 bK (p2 bK vr1 (cs " ")) (.call c5 (xa1 (p2 ixP vr0 ci1))))) .skip)
  (.seq (.aX 2 (.call F_show_inside (xa1 vr0)))
  (.ret (.fst (xa4 (p1 fvP vr1) (cs "(") (p1 fvP vr2) (cs ")")))))))))
def bj (F_show_form:Fn):Fn:=bO gds [.dat] 2 (bL F_show_form)
def ax:Nat->Fn
 | 0=>Fn.no [.dat]
 | n+1=>bO gds [.dat] 3 (iX (bj (ax n)))
def dg (n:Nat):Fn:=bj (ax n)
def kK:XS :=
 (.ret (p2 ixP (p2 ixP (p1 (sR "tokens") vr0) (p1 (sR "place") vr0)) ci0))
def ao:Fn:=bO gds [.ino] 1 kK
def kF:XS :=
 (.seq (.ifs (.not (.tst vr2)) (.rse (p2 ixP (p2 ixP (p1 (sR "tokens") vr0) (p1 (sR "place") vr0)) ci1)) .skip)
  (.seq (.sto (A6 "place") 0 (.cst .n) (p2 bK (p1 (sR "place") vr0) ci1))
  (.ret vr1)))
def aB:Fn:=bO gds [.ino,.dat,.dat] 3 kF
def iB:XS :=
 (.seq (.aX 1 (.mtr (cy "shown" ao) 0 .nil))
  (.ret (.mtx "taken" aB 0 (xa2 vr1 (.call bT (xa1 vr1))))))
def bB:Fn:=bO gds [.ino] 2 iB
def gv:XS :=
 (.seq (.aX 1 (.call bo (xa1 (.mtr (cy "shown" ao) 0 .nil))))
  (.ret (.mtx "taken" aB 0 (xa2 vr1 (p2 nU vr1 (.cst .n))))))
def cB:Fn:=bO gds [.ino] 2 gv
def fI:XS :=
 (.seq (.aX 1 (.call bo (xa1 (.mtr (cy "shown" ao) 0 .nil))))
  (.ret (.mtx "taken" aB 0 (xa2 vr1 (.call bR (xa1 vr1))))))
def cm:Fn:=bO gds [.ino] 2 fI
def jL:XS :=
 (.seq (.aX 1 (.call bo (xa1 (.mtr (cy "shown" ao) 0 .nil))))
  (.ret (.mtx "taken" aB 0 (xa2 vr1 (.call bf (xa2 vr1 (.cst .n)))))))
def d6:Fn:=bO gds [.ino] 2 jL
def eS:XS :=
 (.seq (.ifs (.tst (p2 eqP (.mtr (cy "shown" ao) 0 .nil) (cs "*"))) (.ret (.mtx "taken" aB 0 (xa2 (.cst .n) (.cst (.b true))))) .skip)
  (.seq (.aX 2 (.call bo (xa1 (.mtr (cy "shown" ao) 0 .nil))))
  (.ret (.mtx "taken" aB 0 (xa2 vr2 (.mL (p2 nU vr2 (.cst .n)) (.call bf (xa2 vr1 vr2))))))))
def cq:Fn:=bO gds [.ino,.dat] 3 eS
def jD:XS :=
 (.drop (.mtx "taken" aB 0 (xa2 vr1 (p2 eqP (.mtr (cy "shown" ao) 0 .nil) vr1))))
def aE:Fn:=bO gds [.ino,.dat] 2 jD
def fj:XS :=
 (.seq (.ifs (.tst (p2 neP (.mtr (cy "shown" ao) 0 .nil) (cs "^"))) (.ret (.bY bB (xa1 vr0))) .skip)
  (.seq (.drop (.mtx "skip" aE 0 (xa1 (cs "^"))))
  (.ret (p2 bK (cs "^") (.bY bB (xa1 vr0))))))
def cu:Fn:=bO gds [.ino] 1 fj
def gM:XS :=
 (.drop (.mtx "taken" aB 0 (xa2 (cs ",") (.mL (p2 eqP (.mtr (cy "shown" ao) 0 .nil) (cs ",")) vr1))))
def bG:Fn:=bO gds [.ino,.dat] 2 gM
def fJ:XS :=
 (.seq (.tZ 1 (.lst .nil))
  (.seq (.drop (.mtx "skip" aE 0 (xa1 (cs "("))))
  (.seq (.wh 100000 (.tst (p2 neP (.mtr (cy "shown" ao) 0 .nil) (cs ")"))) (.seq (.ifs (.tru vr1) (.drop (.bY bG (xa2 vr0 (p2 ltP (p1 jV vr1) (ci 8))))) .skip)
  (.seq (.aX 2 (.mtr (cy "shown" ao) 0 .nil))
  (.drop (.mtr vD 1 (xa1 (.mtx "taken" aB 0 (xa2 vr2 (.mL (.call bT (xa1 vr2)) (p2 wV vr2 vr1))))))))))
  (.seq (.drop (.mtx "skip" aE 0 (xa1 (cs ")"))))
  (.ret (.tup (xa2 (cs "closed") (p1 oj (p1 lZ vr1)))))))))
def cp:Fn:=bO gds [.ino] 3 fJ
def fe:XS :=
 (.seq (.ifs (.or (.tst (p2 isP (.call bU (xa1 vr0)) (.cst .n))) (.and (.tst vr3) (.or (.tst (p2 inP vr0 (.glb 1))) (.tst (p2 eqP vr0 (cs "closed")))))) (.ret (.cst (.b false))) .skip)
  (.seq (.aX 4 (.ifx (.or (.tst (p2 inP vr0 (.glb 1))) (.tst (p2 eqP vr0 (cs "not")))) ci1 ci0))
  (.ret (.mL (p2 leP (p2 bK (p2 bK vr1 ci1) vr4) (ci 40)) (p2 leP (p2 bK vr2 vr4) (ci 8))))))
def aP:Fn:=bO gds [.dat,.dat,.dat,.dat] 5 fe
def jd (F_read_part:Fn):XS :=
 (.seq (.drop (.mtx "skip" aE 0 (xa1 (cs "("))))
  (.seq (.aX 3 (.bY F_read_part (xa3 vr0 (p2 bK vr1 ci1) vr2)))
  (.seq (.drop (.mtx "skip" aE 0 (xa1 (cs ")"))))
  (.ret (.tup (xa2 (cs "not") vr3))))))
def iJ (F_read_part:Fn):XS :=
 (.seq (.tZ 4 (.lst .nil))
  (.seq (.drop (.mtx "skip" aE 0 (xa1 (cs "("))))
  (.seq (.wh 100000 (.tst (p2 neP (.mtr (cy "shown" ao) 0 .nil) (cs ")"))) (.seq (.ifs (.tru vr4) (.drop (.bY bG (xa2 vr0 (.mL (p2 ltP (p1 jV vr4) (ci 6)) (p2 ltP (p1 (sR "forms") vr0) (ci 40)))))) .skip)
  (.drop (.mtr vD 4 (xa1 (.bY F_read_part (xa3 vr0 (p2 bK vr2 ci1) vr3)))))))
  (.seq (.drop (.mtx "skip" aE 0 (xa1 (cs ")"))))
  (.ret (.tup (xa2 vr1 (p1 oj vr4))))))))
def iW (F_read_part:Fn):XS :=
 (.seq (.drop (.mtx "skip" aE 0 (xa1 (cs "("))))
  (.seq (.aX 3 (.bY d6 (xa1 vr0)))
  (.seq (.drop (.mtx "skip" aE 0 (xa1 (cs ","))))
  (.seq (.aX 4 (.bY cq (xa2 vr0 vr3)))
  (.seq (.drop (.mtx "skip" aE 0 (xa1 (cs ","))))
  (.seq (.aX 5 (.bY cu (xa1 vr0)))
  (.seq (.drop (.mtx "skip" aE 0 (xa1 (cs ","))))
  (.seq (.aX 6 (.bY F_read_part (xa3 vr0 (p2 bK vr2 ci1) (.cst (.b true)))))
  (.seq (.drop (.mtx "skip" aE 0 (xa1 (cs ")"))))
  (.ret (.tup (.cons vr1 (xa4 vr3 vr4 vr5 vr6)))))))))))))
def fh (F_read_not:Fn) (F_read_list:Fn) (F_read_walk:Fn):XS :=
 (.seq (.aX 3 (.mtr (cy "shown" ao) 0 .nil))
  (.seq (.drop (.mtx "taken" aB 0 (xa2 vr3 (.call aP (xa4 vr3 (p1 (sR "forms") vr0) vr1 vr2)))))
  (.seq (.sto (A6 "forms") 0 (.cst .n) (p2 bK (p1 (sR "forms") vr0) ci1))
  (.seq (.ifs (.tst (p2 inP vr3 (.tup (xa2 (cs "from") (cs "upto"))))) (.ret (.tup (xa2 vr3 (.bY cm (xa1 vr0))))) .skip)
  (.seq (.ifs (.tst (p2 eqP vr3 (cs "is"))) (.ret (.tup (xa2 vr3 (.bY cB (xa1 vr0))))) .skip)
  (.seq (.ifs (.tst (p2 eqP vr3 (cs "keeps"))) (.ret (.tup (xa2 vr3 (.bY bB (xa1 vr0))))) .skip)
  (.seq (.ifs (.tst (p2 eqP vr3 (cs "closed"))) (.ret (.bY cp (xa1 vr0))) .skip)
  (.seq (.ifs (.tst (p2 eqP vr3 (cs "not"))) (.ret (.bY F_read_not (xa3 vr0 vr1 vr2))) .skip)
  (.seq (.ifs (.tst (p2 inP vr3 (.glb 0))) (.ret (.bY F_read_list (xa4 vr0 vr3 vr1 vr2))) .skip)
  (.seq (.ifs (.tst (p2 inP vr3 (.glb 1))) (.ret (.bY F_read_walk (xa3 vr0 vr3 vr1))) .skip)
  (.ret (.tup (xa1 vr3)))))))))))))
def fX (F_read_part:Fn):Fn:=bO gds [.ino,.dat,.dat] 4 (jd F_read_part)
def eX (F_read_part:Fn):Fn:=bO gds [.ino,.dat,.dat,.dat] 5 (iJ F_read_part)
def eK (F_read_part:Fn):Fn:=bO gds [.ino,.dat,.dat] 7 (iW F_read_part)
def aq:Nat->Fn
 | 0=>Fn.no [.ino,.dat,.dat]
 | n+1=>bO gds [.ino,.dat,.dat] 4 (fh (fX (aq n)) (eX (aq n)) (eK (aq n)))
def fO (n:Nat):Fn:=fX (aq n)
def fg (n:Nat):Fn:=eX (aq n)
def fq (n:Nat):Fn:=eK (aq n)
def nM:XS :=
 (.seq (.sto (A6 "tokens") 0 (.cst .n) (.call c6 (xa1 vr1)))
  (.seq (.sto (A6 "place") 0 (.cst .n) ci0)
  (.sto (A6 "forms") 0 (.cst .n) ci0)))
def gs:Fn:=bO gds [.ino,.dat] 2 nM
def iO:XS :=
 (.seq (.ifs (.not (.tst (p1 (uE "str") vr0))) (.rse ci0) .skip)
  (.seq (.tZ 1 (p1 (HP gs) vr0))
  (.seq (.aX 2 (.bY (aq 9) (xa3 vr1 ci1 (.cst (.b false)))))
  (.seq (.drop (.mtx "skip" aE 1 (xa1 (cs ""))))
  (.ret vr2)))))
def ak:Fn:=bO gds [.dat] 3 iO
noncomputable def GX:XS :=
 (.ret (.lst (xa3 vr0 ci0 ci0)))
def qG:Fn:=bO gds [.dat] 1 GX
def uG:XS :=
 (.seq (.ifs (.tst (p2 gtP (p2 ixP vr0 ci2) ci0)) (.seq (.aX 2 (p2 uA (p2 ixP vr0 ci2) vr1))
  (.seq (.sto rZ 0 ci2 (p2 zW (p2 ixP vr0 ci2) vr1))
  (.ret vr2))) .skip)
  (.seq (.aX 3 (p2 ixP vr0 ci1))
  (.seq (.sto rZ 0 ci1 (p2 bK vr3 ci1))
  (.seq (.aX 4 ci0)
  (.seq (.ifs (.tst (p2 gtP (p1 jV (p2 ixP vr0 ci0)) ci0)) (.aX 4 (p2 ixP (p2 ixP vr0 ci0) (p2 uA vr3 (p1 jV (p2 ixP vr0 ci0))))) .skip)
  (.seq (.ifs (.and (.tst (p2 ltP vr3 (p1 jV (p2 ixP vr0 ci0)))) (.tst (p2 geP (p1 HU vr4) (p2 Bl (ci 10) (ci 18))))) (.seq (.sto rZ 0 ci2 (p2 zW (p1 HU vr4) vr1))
  (.ret (p2 uA (p1 HU vr4) vr1))) .skip)
  (.seq (.aX 5 (p2 uA (p2 tX (p2 bK (p2 bK (p2 bK (p2 uA vr4 (ci 2147483629)) (p2 tX (p2 tX (ci 7919) vr3) vr3)) (p2 tX (ci 41) vr3)) (ci 17)) (ci 48271)) (ci 2147483647)))
  (.seq (.aX 5 (p2 uA (p2 bK (p2 bK (p2 tX vr5 vr5) (p2 tX (ci 69621) vr5)) vr3) (ci 2147483587)))
  (.ret (p2 uA (p2 zW vr5 (ci 7)) vr1))))))))))
def ah:Fn:=bO gds [.ino,.dat] 6 uG
def rV:XS :=
 (.seq (.aX 2 (cs "abcdefghijklmnopqrstuvwxyz"))
  (.seq (.aX 3 (.met joinM (cs "") (xa1 (.cmp [2,0] (.rng1 (xa1 (ci 8))) .yes (p2 ixP vr1 (.call ah (xa2 vr2 (ci 26))))))))
  (.seq (.aX 4 (.lst (.cons (cs "any") (.cons (cs "all") (.cons (cs "keeps") (.cons (cs "is") (xa4 (cs "many") (cs "each") (cs "not") (cs "closed"))))))))
  (.seq (.aX 5 (.call ah (xa2 vr0 (ci 4))))
  (.seq (.aX 6 (p2 bK ci1 (.call ah (xa2 vr0 (ci 8)))))
  (.seq (.aX 7 (.call ah (xa2 vr0 vr6)))
  (.seq (.aX 8 (.call ah (xa2 vr0 (ci 26))))
  (.seq (.tZ 9 (.lst .nil))
  (.seq (.fr 10 (.rng1 (xa1 vr1)) (.seq (.aX 11 (p2 ixP vr2 (p2 uA (p2 bK vr8 (p2 tX (ci 5) HN)) (ci 26))))
  (.ifs (.and (.tst (p2 eqP vr5 ci0)) (.tst (p2 ltP vr1 (ci 9)))) (.drop (.mtr vD 9 (xa1 (p2 Ej vr3 (p2 bK (p2 uA (p2 bK vr8 (p2 tX (ci 3) HN)) (ci 8)) ci1))))) (.ifs (.and (.tst (p2 eqP vr5 ci1)) (.tst (p2 ltP vr1 (ci 9)))) (.drop (.mtr vD 9 (xa1 (p2 ixP vr4 (p2 uA (p2 bK vr8 HN) (ci 8)))))) (.ifs (.tst (p2 eqP vr5 ci2)) (.drop (.mtr vD 9 (xa1 (p2 bK (p2 ixP vr4 (p2 uA HN (ci 8))) MJ)))) (.drop (.mtr vD 9 (xa1 (p2 bK (p2 bK (p2 Ej vr3 vr7) MJ) (.sl2 Mb vr3 (p2 bK vr7 ci1) vr6))))))))))
  (.ret (.tke 9)))))))))))
def ja:Fn:=bO gds [.ino,.dat] 12 rV
def nP:XS :=
 (.seq (.aX 1 (.call ah (xa2 vr0 (ci 4))))
  (.seq (.aX 2 (.call ah (xa2 vr0 (ci 21))))
  (.seq (.ifs (.tst (p2 eqP vr1 ci1)) (.aX 2 (p2 rO (p2 rO (p2 Bl (ci 10) (ci 30)) ci1) (.call ah (xa2 vr0 (ci 3))))) .skip)
  (.seq (.ifs (.tst (p2 eqP vr1 ci2)) (.aX 2 (p2 bK (p2 tX (p2 bK (p2 tX (.call ah (xa2 vr0 (p2 Bl (ci 10) (ci 9)))) (p2 Bl (ci 10) (ci 9))) (.call ah (xa2 vr0 (p2 Bl (ci 10) (ci 9))))) (p2 Bl (ci 10) (ci 12))) (.call ah (xa2 vr0 (p2 Bl (ci 10) (ci 12)))))) .skip)
  (.seq (.ifs (.tst (p2 eqP (.call ah (xa2 vr0 (ci 3))) ci0)) (.aX 2 (p2 rO ci0 vr2)) .skip)
  (.ret vr2))))))
def dU:Fn:=bO gds [.ino] 3 nP
def wB:XS :=
 (.seq (.aX 2 (.call ah (xa2 vr0 (ci 3))))
  (.seq (.ifs (.tst (p2 eqP vr2 ci0)) (.ret (p2 ixP vr1 (.call ah (xa2 vr0 (p1 jV vr1))))) .skip)
  (.seq (.ifs (.tst (p2 eqP vr2 ci1)) (.ret (.call dU (xa1 vr0))) .skip)
  (.seq (.aX 3 (cs ""))
  (.seq (.fr 4 (.rng1 (xa1 (p2 ixP (.lst (xa4 ci0 (ci 8) (p2 bK ci1 (.call ah (xa2 vr0 (ci 8)))) (ci 3))) (.call ah (xa2 vr0 (ci 4)))))) (.aX 3 (p2 bK vr3 (p2 ixP (cs "abcdefghijklmnopqrstuvwxyz") (.call ah (xa2 vr0 (ci 26)))))))
  (.ret (.tup (xa1 vr3))))))))
def my:Fn:=bO gds [.ino,.dat] 5 wB
def A8:XS :=
 (.seq (.aX 3 (p2 ixP (.lst (.cons (cs "any") (.cons (cs "thing") (.cons (cs "number") (.cons (cs "said") (.cons (cs "from") (.cons (cs "upto") (xa4 (cs "is") (cs "keeps") (cs "keeps") (cs "closed"))))))))) (.call ah (xa2 vr0 (ci 10)))))
  (.seq (.ifs (.tst (p2 inP vr3 (.tup (xa2 (cs "from") (cs "upto"))))) (.ret (.tup (xa2 vr3 (.call dU (xa1 vr0))))) .skip)
  (.seq (.ifs (.tst (p2 eqP vr3 (cs "is"))) (.ret (.tup (xa2 vr3 (.call my (xa2 vr0 vr1))))) .skip)
  (.seq (.ifs (.or (.tst (p2 eqP vr3 (cs "keeps"))) (.and (.tst (p2 eqP vr3 (cs "closed"))) (.not (.tst vr2)))) (.ret (.tup (xa2 (cs "keeps") (p2 ixP vr1 (.call ah (xa2 vr0 (p1 jV vr1))))))) .skip)
  (.seq (.ifs (.tst (p2 eqP vr3 (cs "closed"))) (.ret (.tup (xa2 vr3 (p1 oj (p1 lZ (p2 Ej vr1 (.call ah (xa2 vr0 (p2 bK (p1 jV vr1) ci1))))))))) .skip)
  (.ret (.tup (xa1 vr3))))))))
def rR:Fn:=bO gds [.ino,.dat,.dat] 4 A8
def qC:XS :=
 (.seq (.aX 2 (p2 ixP (.lst (.cons ci0 (.cons ci0 (xa4 ci1 ci2 (ci 60) (.call ah (xa2 vr0 (ci 61))))))) (.call ah (xa2 vr0 (ci 6)))))
  (.seq (.aX 3 (p2 ixP (.lst (xa3 (.cst .n) vr2 (p2 bK vr2 (.call ah (xa2 vr0 (p2 rO (ci 61) vr2)))))) (.call ah (xa2 vr0 (ci 3)))))
  (.seq (.aX 4 (p2 bK (p2 ixP (.lst (xa3 (cs "") (cs "") (cs "^"))) (.call ah (xa2 vr0 (ci 3)))) (p2 ixP vr1 (.call ah (xa2 vr0 (p1 jV vr1))))))
  (.ret (.tup (xa4 (p2 ixP (.lst (xa2 (cs "many") (cs "each"))) (.call ah (xa2 vr0 ci2))) vr2 vr3 vr4))))))
def i7:Fn:=bO gds [.ino,.dat] 5 qC
def yA (F_form:Fn):XS :=
 (.seq (.aX 5 (.call ah (xa2 vr0 (ci 10))))
  (.seq (.ifs (.or (.tst (p2 ltP vr5 (ci 3))) (.or (.tst (p2 ltP vr3 ci2)) (.tst (p2 ltP (p2 ixP vr2 ci0) ci1)))) (.ret (.call rR (xa3 vr0 vr1 vr4))) .skip)
  (.seq (.ifs (.tst (p2 eqP vr5 (ci 3))) (.seq (.sto rZ 2 ci0 (p2 rO (p2 ixP vr2 ci0) ci1))
  (.ret (.tup (xa2 (cs "not") (.call F_form (.cons vr0 (xa4 vr1 vr2 (p2 rO vr3 ci1) vr4))))))) .skip)
  (.seq (.ifs (.and (.tst (p2 ltP vr5 (ci 7))) (.tst vr4)) (.seq (.sto rZ 2 ci0 (p2 rO (p2 ixP vr2 ci0) ci1))
  (.ret (p2 bK (.call i7 (xa2 vr0 vr1)) (.tup (xa1 (.call F_form (.cons vr0 (xa4 vr1 vr2 (p2 rO vr3 ci1) (.cst (.b false)))))))))) .skip)
  (.seq (.aX 6 (p2 ME (.call ah (xa2 vr0 (ci 7))) (p2 ixP vr2 ci0)))
  (.seq (.sto rZ 2 ci0 (p2 rO (p2 ixP vr2 ci0) vr6))
  (.seq (.aX 7 (.cmp [0,1,2,4,3] (.rng1 (xa1 vr6)) .yes (.call F_form (.cons vr1 (xa4 vr2 vr3 (p2 rO vr5 ci1) vr4)))))
  (.ret (.tup (xa2 (p2 ixP (.lst (xa4 (cs "all") (cs "some") (cs "one") (cs "none"))) (.call ah (xa2 vr0 (ci 4)))) (p1 oj vr7)))))))))))
def cQ:Nat->Fn
 | 0=>Fn.no [.ino,.dat,.ino,.dat,.dat]
 | n+1=>bO gds [.ino,.dat,.ino,.dat,.dat] 8 (yA (cQ n))
def iI:XS :=
 (.seq (.ifs (.tst (p1 (uE "tuple") vr0)) (.ret (p2 bK (cs "'") (p2 ixP vr0 ci0))) .skip)
  (.ret (p1 yW vr0)))
def cW:Fn:=bO gds [.dat] 1 iI
def m8:XS :=
 (.seq (.tZ 1 (.lst .nil))
  (.seq (.fr 2 (.lst vr0) (.seq (.ifs (.tst (p2 neP vr1 (.lst .nil))) (.drop (.mtr vD 1 (xa1 (cs ",")))) .skip)
  (.drop (.mtr Ml 1 (xa1 vr2)))))
  (.ret (.tke 1))))
def cM:Fn:=bO gds [.dat] 3 m8
def m3 (F_tokens:Fn):XS :=
 (.seq (.aX 1 (p2 ixP vr0 ci0))
  (.seq (.ifs (.tst (p2 eqP vr1 (cs "is"))) (.ret (.lst (xa2 vr1 (.call cW (xa1 (p2 ixP vr0 ci1)))))) .skip)
  (.seq (.ifs (.tst (p2 inP vr1 (.tup (xa3 (cs "from") (cs "upto") (cs "keeps"))))) (.ret (.lst (xa2 vr1 (p1 yW (p2 ixP vr0 ci1))))) .skip)
  (.seq (.ifs (.tst (p2 eqP vr1 (cs "closed"))) (.ret (p2 bK (p2 bK (.lst (xa2 vr1 (cs "("))) (.call cM (xa1 (.cmp [] (.tup (p2 ixP vr0 ci1)) .yes (.lst (xa1 vr0)))))) (.lst (xa1 (cs ")"))))) .skip)
  (.seq (.ifs (.tst (p2 eqP vr1 (cs "not"))) (.ret (p2 bK (p2 bK (.lst (xa2 vr1 (cs "("))) (.call F_tokens (xa1 (p2 ixP vr0 ci1)))) (.lst (xa1 (cs ")"))))) .skip)
  (.seq (.ifs (.tst (p2 inP vr1 (.tup (xa2 (cs "many") (cs "each"))))) (.seq (.aX 2 (p2 ixP (.lst (xa2 (cs "*") (p1 yW (p2 ixP vr0 ci2)))) (p1 mV (p2 nU (p2 ixP vr0 ci2) (.cst .n)))))
  (.seq (.aX 3 (.lst (xa1 (p2 ixP vr0 (ci 3)))))
  (.seq (.ifs (.tst (p2 eqP (p2 ixP (p2 ixP vr0 (ci 3)) ci0) (cs "^"))) (.aX 3 (.lst (xa2 (cs "^") (p2 He (p2 ixP vr0 (ci 3)) ci1)))) .skip)
  (.ret (p2 bK (p2 bK (.lst (xa2 vr1 (cs "("))) (.call cM (xa1 (.lst (xa4 (.lst (xa1 (p1 yW (p2 ixP vr0 ci1)))) (.lst (xa1 vr2)) vr3 (.call F_tokens (xa1 (p2 ixP vr0 (ci 4))))))))) (.lst (xa1 (cs ")")))))))) .skip)
  (.seq (.ifs (.tst (p2 inP vr1 (.tup (xa4 (cs "all") (cs "some") (cs "one") (cs "none"))))) (.ret (p2 bK (p2 bK (.lst (xa2 vr1 (cs "("))) (.call cM (xa1 (.cmp [] (.tup (p2 ixP vr0 ci1)) .yes (.call F_tokens (xa1 vr0)))))) (.lst (xa1 (cs ")"))))) .skip)
  (.ret (.lst (xa1 vr1))))))))))
def bz:Nat->Fn
 | 0=>Fn.no [.dat]
 | n+1=>bO gds [.dat] 4 (m3 (bz n))
def vW:XS :=
 (.seq (.aX 2 (cs "abcdefghijklmnopqrstuvwxyz"))
  (.seq (.aX 3 (cs "0123456789"))
  (.ret (.orv (.mL (p2 inP (p2 ixP vr0 (p1 EU ci1)) (p2 bK vr2 (cs "'"))) (p2 inP (p2 ixP vr1 ci0) vr2)) (.mL (p2 inP (p2 ixP vr0 (p1 EU ci1)) (p2 bK vr3 (cs "-"))) (p2 inP (p2 ixP vr1 ci0) vr3))))))
def mG:Fn:=bO gds [.dat,.dat] 4 vW
def xY:XS :=
 (.seq (.aX 2 (p2 ixP (.lst (xa3 ci1 ci2 (ci 4))) (.call ah (xa2 vr0 (ci 3)))))
  (.seq (.aX 3 (p2 A3 (cs " ") (.call ah (xa2 vr0 vr2))))
  (.seq (.tZ 4 (.lst .nil))
  (.seq (.fr 5 (.rng1 (xa1 (p1 jV vr1))) (.seq (.aX 6 (.call ah (xa2 vr0 vr2)))
  (.seq (.ifs (.and (.tst (p2 gtP vr5 ci0)) (.and (.tst (p2 eqP vr6 ci0)) (.tst (.call mG (xa2 (p2 ixP vr1 (p2 rO vr5 ci1)) (p2 ixP vr1 vr5)))))) (.aX 6 ci1) .skip)
  (.seq (.aX 3 (p2 bK vr3 (p2 A3 (cs " ") (p2 tX vr6 (p1 mV (p2 gtP vr5 ci0))))))
  (.seq (.drop (.mtr vD 4 (xa1 (p1 jV vr3))))
  (.aX 3 (p2 bK vr3 (p2 ixP vr1 vr5))))))))
  (.ret (.tup (xa2 vr3 (.tke 4))))))))
def gk:Fn:=bO gds [.ino,.dat] 7 xY
def gS:XS :=
 (.ret (.prm (E1 ak rfl) (xa1 vr0)))
def aZ:Fn:=bO gds [.dat] 2 gS
def gJ:XS :=
 (.seq (.ifs (.or (.tst (p2 nU (.call aZ (xa1 vr1)) (.cst .n))) (.tst (p2 neP (.bY ak (xa1 vr1)) vr0))) (.ret (.cst (.b false))) .skip)
  (.ret (.mL (p2 eqP (.bY ak (xa1 (.call (ax 8) (xa1 vr0)))) vr0) (p2 eqP (.call (ax 8) (xa1 (.bY ak (xa1 vr1)))) (.call (ax 8) (xa1 vr0))))))
def cE:Fn:=bO gds [.dat,.dat] 2 gJ
def vM:XS :=
 (.seq (.fr 4 (.rng1 (xa1 (ci 12))) (.seq (.aX 5 (.call ah (xa2 vr0 (p1 jV vr1))))
  (.seq (.aX 6 (p2 Ej vr2 (p2 ixP vr3 vr5)))
  (.seq (.ifs (.and (.tst (p2 gtP vr5 ci0)) (.tst (p2 eqP (.call ah (xa2 vr0 ci2)) ci0))) (.aX 6 (p2 Ej vr2 (p2 bK (p2 ixP vr3 (p2 rO vr5 ci1)) (p1 jV (p2 ixP vr1 (p2 rO vr5 ci1)))))) .skip)
  (.ifs (.tst (p2 neP (.call aZ (xa1 vr6)) (p1 jV vr6))) (.ret (.cst (.b false))) .skip)))))
  (.ret (.cst (.b true))))
def lD:Fn:=bO gds [.ino,.dat,.dat,.dat] 7 vM
def kE:XS :=
 (.seq (.fr 2 (.rng1 (xa1 (ci 6))) (.seq (.aX 3 (.call ah (xa2 vr0 (p2 bK (p1 jV vr1) ci1))))
  (.seq (.aX 4 (p2 ixP (.lst (.cons (cs "A") (.cons (cs "_") (.cons (cs "-") (.cons (cs "\n") (.cons (cs "#") (.cons (cs ".") (.cons (cs "/") (xa4 (cs "=") (cs "~") (cs "[") (cs "&")))))))))) (.call ah (xa2 vr0 (ci 11)))))
  (.seq (.aX 5 (p2 ixP (.lst (xa4 (p2 He vr1 vr3) (p2 He vr1 (p2 bK vr3 ci1)) (.lst (xa1 (cs "any"))) (.lst .nil))) (.call ah (xa2 vr0 (ci 4)))))
  (.seq (.BZ [6,7] (.call gk (xa2 vr0 (p2 bK (p2 bK (p2 Ej vr1 vr3) (.lst (xa1 vr4))) vr5))))
  (.ifs (.tst (p2 neP (.call aZ (xa1 vr6)) (p2 ixP vr7 vr3))) (.ret (.cst (.b false))) .skip))))))
  (.ret (.cst (.b true))))
def fu:Fn:=bO gds [.ino,.dat] 8 kE
def BH:XS :=
 (.seq (.tZ 1 (.call qG (xa1 vr0)))
  (.seq (.aX 2 (.call ja (xa2 vr1 (ci 6))))
  (.seq (.aX 3 (.gho 1 2 8 (.lst (xa1 (p2 ixP (.lst (xa3 (ci 3) (ci 12) (ci 39))) (.call ah (xa2 vr1 (ci 3)))))) (.call (cQ 8) (.cons vr1 (xa4 vr2 vr8 (p2 ixP (.lst (xa2 (ci 3) (ci 8))) (.call ah (xa2 vr1 ci2))) (.cst (.b true)))))))
  (.seq (.aX 4 (.call (bz 8) (xa1 vr3)))
  (.seq (.BZ [5,6] (.call gk (xa2 vr1 vr4)))
  (.seq (.ifs (.or (.not (.tst (.call cE (xa2 vr3 vr5)))) (.or (.not (.tst (.call lD (xa4 vr1 vr4 vr5 vr6)))) (.not (.tst (.call fu (xa2 vr1 vr4)))))) (.ret (.cst (.b false))) .skip)
  (.seq (.aX 7 (p2 ixP (.lst (.cons (cs "any") (.cons (cs ")") (.cons (cs ",") (.cons (cs "(") (.cons (cs "*") (.cons (cs "^") (xa4 (cs "0") (cs "'") (p2 ixP vr2 ci0) (cs "not"))))))))) (.call ah (xa2 vr1 (ci 10)))))
  (.seq (.BZ [5,6] (.call gk (xa2 vr1 (p2 bK vr4 (.lst (xa1 vr7))))))
  (.ret (p2 eqP (.call aZ (xa1 vr5)) (p2 ixP vr6 (p1 EU ci1))))))))))))
def xW:Fn:=bO gds [.dat] 9 BH
def BR (K:Fg):Sp:=jS xW K
section
variable (P:Program) (w:World) (K:Fg) (mg:Str->Option Qj) (base:Heap) (t:Adr)
abbrev O (i l:Nat) (f:Fn):=de P w K mg base CX0 l (t.f i).1 (t.f i).2 (dfs.getD i Mx).2.2 (jS f K)
abbrev OX (i l:Nat) (f:Fn):=de P w K mg base (CX2 P w) l (t.f i).1 (t.f i).2 (dfs.getD i Mx).2.2 (spX f K)
abbrev OM (q:Qz×FuncData) (ps:List Str) (l:Nat) (f:Fn):=de P w K mg base CX0 l q.1 q.2 ps (jS f K)
abbrev OY (q:Qz×FuncData) (ps:List Str) (l:Nat) (f:Fn):=de P w K mg base (CX2 P w) l q.1 q.2 ps (spX f K)
end
section
variable {P:Program} {w:World} {K:Fg} {mg:Str->Option Qj} {base:Heap} {t:Adr} {n:Nat} {cdv:Qj} {A:Around} {outer:List Env} {s:Qx} {H:Hp} {E:XK}
theorem kh (T:Txt w K mg t):O P w K mg base t 0 1 bp :=
 (T.d 0 rfl).okN ["thing", "fewest"] (aL T) fun S hr=>au (bt (eW (oV (fF (eUx (eIz T.aQ (eVx 0) T.i5))) (g6 (fF (pj c7 c7 (eVx 1) (eBs aW T.du (eAx (eVx 0) ae)) (bg (v:=.int 8) rfl T.jZ ⟨_,rfl⟩ rfl) (by with_unfolding_all rfl)))))) (aF (aN eBl)) bC) (aF (aN (eBs (uY rfl) T.F3 (eAx (eKx [] (eIS (eVx 0)) eT0 (eC fun _ _ _ _=>(uL c7 c7 aD (eVx 0) aD (by with_unfolding_all rfl))) (bsc (sc:=ag eY) rfl (by decide +kernel)) trivial) ae))))
theorem sN (T:Txt w K mg t) (G0:O P w K mg base t 0 1 bp):O P w K mg base t 1 2 bT :=
 (T.d 1 rfl).okN ["thing"] (aL T) fun S hr=>aF (aN (eCx G0 hr (T.d 0 rfl) (eAx (eVx 0) (eAx ai ae))))
theorem qt (T:Txt w K mg t):O P w K mg base t 2 1 bR :=
 (T.d 2 rfl).okN ["thing"] (aL T) fun S hr=>aF (aN (uB (eIz T.aQ (eVx 0) T.wW) (sZ (NA (eIz T.aQ (eVx 0) T.BC)))))
theorem sr (T:Txt w K mg t) (G0:O P w K mg base t 0 1 bp):O P w K mg base t 3 2 fB :=
 (T.d 3 rfl).okN ["thing"] (aL T) fun S hr=>aF (aN (uB (eIz T.aQ (eVx 0) T.fQ) (uB (j5 (aI hr.units) (eBs aW T.du (eAx (eVx 0) ae)) ai (b6 _)) (sZ (eCx G0 hr (T.d 0 rfl) (eAx (eIy (eVx 0) ai) (eAx ai ae)))))))
theorem sY (T:Txt w K mg t):O P w K mg base t 4 1 g8 :=
 (T.d 4 rfl).okN ["node"] (aL T) fun S hr=>au (bt (eUx (eIz T.aQ (eVx 0) T.i5)) (aF (aN aD)) bC) (au (bt (eUx (eIz T.aQ (eVx 0) T.fQ)) (aF (aN aD)) bC) (aF (aN aD)))
theorem og (T:Txt w K mg t) (G4:O P w K mg base t 4 1 g8):O P w K mg base t 5 2 c5 :=
 (T.d 5 rfl).okN ["node", "kind"] (aL T) fun S hr=>au (eSx S.nd 1 (eCx G4 hr (T.d 4 rfl) (eAx (eVx 0) ae))) (au (bt (eTx (aI hr.units) (eVx 1) aD) (aF (aN (eTs eL T.i5 (eAx (eVx 0) ae)))) bC) (au (bt (eTx (aI hr.units) (eVx 1) aD) (aF (aN (eOp af aD (eIy (eVx 0) ai)))) bC) (aF (aN (eVx 0)))))
theorem n6 (T:Txt w K mg t):O P w K mg base t 6 1 cZ :=
 (T.d 6 rfl).okN ["text", "figures", "number"] (aL T) fun S hr=>au (eSx S.nd 1 (eIf (eUx (eBM (eVx 0) (eAx aD ae) oy Py PySem.F.slot_str_startswith PySem.F.type_str_startswith rfl rfl rfl rfl rfl)) (eSl (orS dP (orS cf dB)) (eVx 0) (eP ai) wO) (eVx 0))) (au (bt (eW (oV (fF (pj c7 c7 ai (eBs aW T.du (eAx (eVx 1) ae)) (bg (v:=.int 30) rfl T.j7 ⟨_,rfl⟩ rfl) (by with_unfolding_all rfl))) (g6 (fF (eUx (eBs (uY rfl) T.F3 (eAx (eKx [] (eIS (eVx 1)) eT0 (eC fun _ _ _ _=>(uL c7 c7 aD (eVx 0) aD (by with_unfolding_all rfl))) (bsc (sc:=ag gE) rfl (by decide +kernel)) trivial) ae))))))) (aF (aN mJ)) bC) (au (eSx S.nd 2 (eTs lE T.wW (eAx (eVx 0) ae))) (aF (aN (eIf (eTx (aI hr.units) (eTs eL T.i5 (eAx (eVx 2) ae)) (eVx 0)) (eVx 2) mJ)))))
theorem sV (T:Txt w K mg t) (G3:O P w K mg base t 3 2 fB) (G1:O P w K mg base t 1 2 bT) (G6:O P w K mg base t 6 1 cZ):O P w K mg base t 7 3 bo :=
 (T.d 7 rfl).okN ["text", "said"] (aL T) fun S hr=>au (bt (fF (eUx (eIz T.aQ (eVx 0) T.i5))) (aF (aN mJ)) bC) (au (bt (eUx (eBM (eVx 0) (eAx aD ae) oy Py PySem.F.slot_str_startswith PySem.F.type_str_startswith rfl rfl rfl rfl rfl)) (au (eSx S.nd 1 (fG (eAx (eSl (orS dP (orS cf dB)) (eVx 0) (eP ai) wO) ae))) (aF (aN (eIf (eUx (eCx G3 hr (T.d 3 rfl) (eAx (eVx 1) ae))) (eVx 1) mJ)))) bC) (aF (aN (eIf (eUx (eCx G1 hr (T.d 1 rfl) (eAx (eVx 0) ae))) (eVx 0) (eCx G6 hr (T.d 6 rfl) (eAx (eVx 0) ae))))))
theorem om (T:Txt w K mg t):O P w K mg base t 8 1 bU :=
 (T.d 8 rfl).okN ["word"] (aL T) fun S hr=>aF (aN (eKG (bg (v:=.ref t.ju) rfl T.xk rfl rfl) T.x8 (eVx 0) rfl rfl rfl rfl))
theorem l8 (T:Txt w K mg t) (G2:O P w K mg base t 2 1 bR):O P w K mg base t 9 2 bf :=
 (T.d 9 rfl).okN ["low", "high"] (aL T) fun S hr=>au (bt (eW (oV (fF (eUx (eCx G2 hr (T.d 2 rfl) (eAx (eVx 0) ae)))) (g6 (fF (pj c7 c7 ai (eVx 0) (bg (v:=.int 60) rfl T.jU ⟨_,rfl⟩ rfl) (by with_unfolding_all rfl)))))) (aF (aN eBl)) bC) (aF (aN (eOr (j5 xp (eVx 1) mJ (b6 _)) (sZ (uB (eCx G2 hr (T.d 2 rfl) (eAx (eVx 1) ae)) (sZ (uL c7 c7 (eVx 0) (eVx 1) (bg (v:=.int 60) rfl T.jU ⟨_,rfl⟩ rfl) (by with_unfolding_all rfl))))))))
theorem ip (T:Txt w K mg t):O P w K mg base t 10 1 b8 :=
 (T.d 10 rfl).okN ["form", "head"] (aL T) fun S hr=>au (eSx S.nd 1 (eIy (eVx 0) ai)) (au (bt (eTx (aI hr.units) (eVx 1) aD) (aF (aN (fG (eAx (eIy (eVx 0) ai) ae)))) bC) (au (bt (d4 (bS hr.units) (eVx 1) (bg (v:=.ref t.jI) rfl T.yM rfl rfl) (by with_unfolding_all rfl)) (aF (aN (eIy (eVx 0) ai))) bC) (au (bt (d4 (bS hr.units) (eVx 1) (bg (v:=.ref t.fi) rfl T.jK rfl rfl) (by with_unfolding_all rfl)) (aF (aN (fG (eAx (eIy (eVx 0) ai) ae)))) bC) (aF (aN (fG ae))))))
theorem tV (T:Txt w K mg t):O P w K mg base t 11 1 cF :=
 (T.d 11 rfl).okN ["text", "at", "signs"] (aL T) fun S hr=>au (qK (eW (jY (eTx eE (eVx 1) (eBs aW T.du (eAx (eVx 0) ae))) (gz (d4 (bS hr.units) (eIy (eVx 0) (eVx 1)) (eVx 2) (by with_unfolding_all rfl))))) (aF (eSx S.nd 1 (eOp af (eVx 1) ai))) PassesOwn.never) (aF (aN (eVx 1)))
theorem nC (T:Txt w K mg t) (G11:O P w K mg base t 11 1 cF):O P w K mg base t 12 2 cY :=
 (T.d 12 rfl).okN ["text", "at"] (aL T) fun S hr=>au (bt (d4 (bS hr.units) (eIy (eVx 0) (eVx 1)) (bg (v:=.str "abcdefghijklmnopqrstuvwxyz") rfl T.jc ⟨_,rfl⟩ rfl) (by with_unfolding_all rfl)) (aF (aN (eCx G11 hr (T.d 11 rfl) (eAx (eVx 0) (eAx (eVx 1) (eAx (bg (v:=.str "abcdefghijklmnopqrstuvwxyz") rfl T.jc ⟨_,rfl⟩ rfl) ae)))))) bC) (au (bt (eTx (aI hr.units) (eIy (eVx 0) (eVx 1)) aD) (aF (aN (eCx G11 hr (T.d 11 rfl) (eAx (eVx 0) (eAx (eOp af (eVx 1) ai) (eAx (bg (v:=.str "abcdefghijklmnopqrstuvwxyz") rfl T.jc ⟨_,rfl⟩ rfl) ae)))))) bC) (au (bt (eW (oV (eTx (aI hr.units) (eIy (eVx 0) (eVx 1)) aD) (g6 (d4 (bS hr.units) (eIy (eVx 0) (eVx 1)) (bg (v:=.str "0123456789") rfl T.oQ ⟨_,rfl⟩ rfl) (by with_unfolding_all rfl))))) (aF (aN (eCx G11 hr (T.d 11 rfl) (eAx (eVx 0) (eAx (eOp af (eVx 1) ai) (eAx (bg (v:=.str "0123456789") rfl T.oQ ⟨_,rfl⟩ rfl) ae)))))) bC) (aF (aN (eOp af (eVx 1) ai)))))
theorem nJ (T:Txt w K mg t) (G12:O P w K mg base t 12 2 cY):O P w K mg base t 13 3 c6 :=
 (T.d 13 rfl).okN ["text", "found", "at", "behind"] (aL T) fun S hr=>au (eSx S.nd 1 (cH ae)) (au (eSx S.nd 2 ai) (au (qK (eTx eE (eVx 2) (eBs aW T.du (eAx (eVx 0) ae))) (au (eSx S.nd 3 (eCx G12 hr (T.d 12 rfl) (eAx (eVx 0) (eAx (eVx 2) ae)))) (au (bt (eTx (iP hr.units) (eIy (eVx 0) (eVx 2)) aD) (aF (bV (eBM (eVx 1) (eAx (fG (eAx (eSl (orS dP (orS cf dB)) (eVx 0) (eP (eVx 2)) (eP (eVx 3))) (eAx (eVx 2) ae))) ae) bQ OD OI OH rfl rfl rfl rfl rfl) rfl)) bC) (aF (eSx S.nd 2 (eVx 3))))) PassesOwn.never) (au (bV (eBM (eVx 1) (eAx (fG (eAx (bg (v:=.str "") rfl T.Gk ⟨_,rfl⟩ rfl) (eAx (eBs aW T.du (eAx (eVx 0) ae)) ae))) ae) bQ OD OI OH rfl rfl rfl rfl rfl) rfl) (aF (aN (eVx 1))))))
theorem oa (T:Txt w K mg t):O P w K mg base t 14 1 cX :=
 (T.d 14 rfl).okN ["high"] (aL T) fun S hr=>aF (aN (eIf (eTx xp (eVx 0) mJ) aD (eTs eL T.i5 (eAx (eVx 0) ae))))
theorem fM (T:Txt w K mg t) (G14:O P w K mg base t 14 1 cX) (G10:O P w K mg base t 10 1 b8) (G16:O P w K mg base t 16 (4+2*n) (ax n)):O P w K mg base t 15 (5+2*n) (dg n) :=
 ((T.d 15 rfl).okN ["form", "ahead"] (aL T) fun S hr=>au (bt (eTx (aI hr.units) (eIy (eVx 0) ai) aD) (aF (aN (eBM aD (eAx (eIy (eVx 0) ai) ae) kS Py PySem.F.slot_str_join PySem.F.type_str_join rfl rfl rfl rfl rfl))) bC) (au (eSx S.nd 1 (eIf (d4 (bS hr.units) (eIy (eVx 0) ai) (bg (v:=.ref t.fi) rfl T.jK rfl rfl) (by with_unfolding_all rfl)) (cH (eAx (eTs eL T.i5 (eAx (eIy (eVx 0) ai) ae)) (eAx (eCx G14 hr (T.d 14 rfl) (eAx (eIy (eVx 0) ai) ae)) (eAx (eIy (eVx 0) ai) ae)))) (cH ae))) (aF (aN (eBM aD (eAx (eOp af (eVx 1) (eKx [] (eIT (eCx G10 hr (T.d 10 rfl) (eAx (eVx 0) ae))) eT0 (eC fun _ _ _ _=>(eCx G16 hr (T.d 16 rfl) (eAx (eVx 0) ae))) (bsc (sc:=ag eU) rfl (by decide +kernel)) trivial)) ae) kS Py PySem.F.slot_str_join PySem.F.type_str_join rfl rfl rfl rfl rfl)))):O P w K mg base t 15 ((4+2*n)+1) (dg n)).mono (by omega)
theorem m5 (T:Txt w K mg t) (G8:O P w K mg base t 8 1 bU) (G5:O P w K mg base t 5 2 c5) (G15:O P w K mg base t 15 (5+2*n) (dg n)):O P w K mg base t 16 (4+2*(n+1)) (ax (n+1)) :=
 ((T.d 16 rfl).okN ["form", "head", "inside"] (aL T) fun S hr=>au (eSx S.nd 1 (eIy (eVx 0) ai)) (au (bt (eTx (aI hr.units) (eCx G8 hr (T.d 8 rfl) (eAx (eVx 1) ae)) ai) (aF (aN (eVx 1))) bC) (au (bt (eTx (aI hr.units) (eVx 1) aD) (aF (aN (eOp af (eOp af (eVx 1) aD) (eIy (eVx 0) ai)))) bC) (au (bt (d4 (bS hr.units) (eVx 1) (fG (eAx aD (eAx aD (eAx aD ae)))) (by with_unfolding_all rfl)) (aF (aN (eOp af (eOp af (eVx 1) aD) (eCx G5 hr (T.d 5 rfl) (eAx (eIy (eVx 0) ai) ae))))) bC) (au (eSx S.nd 2 (eCx G15 hr (T.d 15 rfl) (eAx (eVx 0) ae))) (aF (aN (eFs (eFc (eFv (eVx 1)) (eFc aD (eFc (eFv (eVx 2)) (eFc aD eF0))))))))))):O P w K mg base t 16 ((5+2*n)+1) (ax (n+1))).mono (by omega)
theorem qm (T:Txt w K mg t):O P w K mg base t 16 (3+1) (ax 0):=de.no (k:=3) (T.d 16 rfl).F (scm (N:=["form", "head", "inside"])) fun vs H Q E h=>by obtain ⟨G,ds,is,pr,outs,hF,_⟩:=h;cases hF
theorem mU (T:Txt w K mg t) (G50:OM P w K mg base t.ar ["self"] 1 ao) (G51:OY P w K mg base t.aA ["self", "value", "fits"] 3 aB) (G1:O P w K mg base t 1 2 bT):OX P w K mg base t 17 4 bB :=
 Fa.okX (T.d 17 rfl).F ["reader", "word"] (aL T) fun S hr=>au (eSx S.nd 1 (tP T.cl T.ar G50 hr T.a9 (eVx 0))) (aF (aN (eMX T.cl T.aA G51 hr T.bP dM (eVx 0) (eAx (eVx 1) (eAx (eCx G1 hr (T.d 1 rfl) (eAx (eVx 1) ae)) ae)))))
theorem mx (T:Txt w K mg t) (G7:O P w K mg base t 7 3 bo) (G50:OM P w K mg base t.ar ["self"] 1 ao) (G51:OY P w K mg base t.aA ["self", "value", "fits"] 3 aB):OX P w K mg base t 18 4 cB :=
 Fa.okX (T.d 18 rfl).F ["reader", "node"] (aL T) fun S hr=>au (eSx S.nd 1 (eCx G7 hr (T.d 7 rfl) (eAx (tP T.cl T.ar G50 hr T.a9 (eVx 0)) ae))) (aF (aN (eMX T.cl T.aA G51 hr T.bP dM (eVx 0) (eAx (eVx 1) (eAx (j5 gI (eVx 1) mJ (b6 _)) ae)))))
theorem kf (T:Txt w K mg t) (G7:O P w K mg base t 7 3 bo) (G50:OM P w K mg base t.ar ["self"] 1 ao) (G51:OY P w K mg base t.aA ["self", "value", "fits"] 3 aB) (G2:O P w K mg base t 2 1 bR):OX P w K mg base t 19 4 cm :=
 Fa.okX (T.d 19 rfl).F ["reader", "number"] (aL T) fun S hr=>au (eSx S.nd 1 (eCx G7 hr (T.d 7 rfl) (eAx (tP T.cl T.ar G50 hr T.a9 (eVx 0)) ae))) (aF (aN (eMX T.cl T.aA G51 hr T.bP dM (eVx 0) (eAx (eVx 1) (eAx (eCx G2 hr (T.d 2 rfl) (eAx (eVx 1) ae)) ae)))))
theorem oW (T:Txt w K mg t) (G7:O P w K mg base t 7 3 bo) (G50:OM P w K mg base t.ar ["self"] 1 ao) (G51:OY P w K mg base t.aA ["self", "value", "fits"] 3 aB) (G9:O P w K mg base t 9 2 bf):OX P w K mg base t 20 4 d6 :=
 Fa.okX (T.d 20 rfl).F ["reader", "low"] (aL T) fun S hr=>au (eSx S.nd 1 (eCx G7 hr (T.d 7 rfl) (eAx (tP T.cl T.ar G50 hr T.a9 (eVx 0)) ae))) (aF (aN (eMX T.cl T.aA G51 hr T.bP dM (eVx 0) (eAx (eVx 1) (eAx (eCx G9 hr (T.d 9 rfl) (eAx (eVx 1) (eAx mJ ae))) ae)))))
theorem oH (T:Txt w K mg t) (G50:OM P w K mg base t.ar ["self"] 1 ao) (G51:OY P w K mg base t.aA ["self", "value", "fits"] 3 aB) (G7:O P w K mg base t 7 3 bo) (G9:O P w K mg base t 9 2 bf):OX P w K mg base t 21 4 cq :=
 Fa.okX (T.d 21 rfl).F ["reader", "low", "high"] (aL T) fun S hr=>au (bt (eTx (aI hr.units) (tP T.cl T.ar G50 hr T.a9 (eVx 0)) aD) (aF (aN (eMX T.cl T.aA G51 hr T.bP dM (eVx 0) (eAx mJ (eAx eBl ae))))) bC) (au (eSx S.nd 2 (eCx G7 hr (T.d 7 rfl) (eAx (tP T.cl T.ar G50 hr T.a9 (eVx 0)) ae))) (aF (aN (eMX T.cl T.aA G51 hr T.bP dM (eVx 0) (eAx (eVx 2) (eAx (uB (j5 gI (eVx 2) mJ (b6 _)) (sZ (eCx G9 hr (T.d 9 rfl) (eAx (eVx 1) (eAx (eVx 2) ae))))) ae))))))
theorem nA (T:Txt w K mg t) (G50:OM P w K mg base t.ar ["self"] 1 ao) (G17:OX P w K mg base t 17 4 bB) (G52:OY P w K mg base t.aH ["self", "token"] 4 aE):OX P w K mg base t 22 5 cu :=
 Fa.okX (T.d 22 rfl).F ["reader"] (aL T) fun S hr=>au (bt (eTx (iP hr.units) (tP T.cl T.ar G50 hr T.a9 (eVx 0)) aD) (aF (aN (eCX G17 hr (T.d 17 rfl) dM (eAx (eVx 0) ae)))) bC) (au (bV (eMX T.cl T.aH G52 hr T.bF dM (eVx 0) (eAx aD ae)) rfl) (aF (aN (eOp af aD (eCX G17 hr (T.d 17 rfl) dM (eAx (eVx 0) ae))))))
theorem lK (T:Txt w K mg t) (G51:OY P w K mg base t.aA ["self", "value", "fits"] 3 aB) (G50:OM P w K mg base t.ar ["self"] 1 ao):OX P w K mg base t 23 4 bG :=
 Fa.okX (T.d 23 rfl).F ["reader", "has_room"] (aL T) fun S hr=>aF (bV (eMX T.cl T.aA G51 hr T.bP dM (eVx 0) (eAx aD (eAx (uB (j5 (aI hr.units) (tP T.cl T.ar G50 hr T.a9 (eVx 0)) aD (b6 _)) (sZ (eVx 1))) ae))) rfl)
theorem kd (T:Txt w K mg t) (G52:OY P w K mg base t.aH ["self", "token"] 4 aE) (G50:OM P w K mg base t.ar ["self"] 1 ao) (G23:OX P w K mg base t 23 4 bG) (G51:OY P w K mg base t.aA ["self", "value", "fits"] 3 aB) (G1:O P w K mg base t 1 2 bT):OX P w K mg base t 24 5 cp :=
 Fa.okX (T.d 24 rfl).F ["reader", "bonds", "bond"] (aL T) fun S hr=>au (eSx S.nd 1 (cH ae)) (au (bV (eMX T.cl T.aH G52 hr T.bF dM (eVx 0) (eAx aD ae)) rfl) (au (qK (eTx (iP hr.units) (tP T.cl T.ar G50 hr T.a9 (eVx 0)) aD) (au (bt (Mv (eVx 1) (fun _=>rfl)) (aF (bV (eCX G23 hr (T.d 23 rfl) dM (eAx (eVx 0) (eAx (j5 eE (eBs aW T.du (eAx (eVx 1) ae)) (bg (v:=.int 8) rfl T.n5 ⟨_,rfl⟩ rfl) (b6 _)) ae))) rfl)) bC) (au (eSx S.nd 2 (tP T.cl T.ar G50 hr T.a9 (eVx 0))) (aF (bV (eBM (eVx 1) (eAx (eMX T.cl T.aA G51 hr T.bP dM (eVx 0) (eAx (eVx 2) (eAx (uB (eCx G1 hr (T.d 1 rfl) (eAx (eVx 2) ae)) (sZ (j5 (xu hr.units) (eVx 2) (eVx 1) (by with_unfolding_all rfl)))) ae))) ae) bQ OD OI OH rfl rfl rfl rfl rfl) rfl)))) PassesOwn.leaving) (au (bV (eMX T.cl T.aH G52 hr T.bF dM (eVx 0) (eAx aD ae)) rfl) (aF (aN (fG (eAx aD (eAx (eTs gB T.fQ (eAx (eBs ko T.rC (eAx (eVx 1) ae)) ae)) ae))))))))
theorem jT (T:Txt w K mg t) (G52:OY P w K mg base t.aH ["self", "token"] 4 aE) (G29:OX P w K mg base t 29 (9+2*n) (aq n)):OX P w K mg base t 25 (10+2*n) (fO n) :=
 (Fa.okX (T.d 25 rfl).F ["reader", "depth", "walked", "part"] (aL T) fun S hr=>au (bV (eMX T.cl T.aH G52 hr T.bF dM (eVx 0) (eAx aD ae)) rfl) (au (eSx S.nd 3 (eCX G29 hr (T.d 29 rfl) dM (eAx (eVx 0) (eAx (eOp af (eVx 1) ai) (eAx (eVx 2) ae))))) (au (bV (eMX T.cl T.aH G52 hr T.bF dM (eVx 0) (eAx aD ae)) rfl) (aF (aN (fG (eAx aD (eAx (eVx 3) ae))))))):OX P w K mg base t 25 ((9+2*n)+1) (fO n)).mono (by omega)
theorem iE (T:Txt w K mg t) (G52:OY P w K mg base t.aH ["self", "token"] 4 aE) (G50:OM P w K mg base t.ar ["self"] 1 ao) (G23:OX P w K mg base t 23 4 bG) (G29:OX P w K mg base t 29 (9+2*n) (aq n)):OX P w K mg base t 26 (10+2*n) (fg n) :=
 (Fa.okX (T.d 26 rfl).F ["reader", "head", "depth", "walked", "parts"] (aL T) fun S hr=>au (eSx S.nd 4 (cH ae)) (au (bV (eMX T.cl T.aH G52 hr T.bF dM (eVx 0) (eAx aD ae)) rfl) (au (qK (eTx (iP hr.units) (tP T.cl T.ar G50 hr T.a9 (eVx 0)) aD) (au (bt (Mv (eVx 4) (fun _=>rfl)) (aF (bV (eCX G23 hr (T.d 23 rfl) dM (eAx (eVx 0) (eAx (uB (j5 eE (eBs aW T.du (eAx (eVx 4) ae)) (bg (v:=.int 6) rfl T.l6 ⟨_,rfl⟩ rfl) (b6 _)) (sZ (j5 eE (eFl T.cl T.gy (eVx 0)) (bg (v:=.int 40) rfl T.iM ⟨_,rfl⟩ rfl) (b6 _)))) ae))) rfl)) bC) (aF (bV (eBM (eVx 4) (eAx (eCX G29 hr (T.d 29 rfl) dM (eAx (eVx 0) (eAx (eOp af (eVx 2) ai) (eAx (eVx 3) ae)))) ae) bQ OD OI OH rfl rfl rfl rfl rfl) rfl))) PassesOwn.leaving) (au (bV (eMX T.cl T.aH G52 hr T.bF dM (eVx 0) (eAx aD ae)) rfl) (aF (aN (fG (eAx (eVx 1) (eAx (eTs gB T.fQ (eAx (eVx 4) ae)) ae)))))))):OX P w K mg base t 26 ((9+2*n)+1) (fg n)).mono (by omega)
theorem iG (T:Txt w K mg t) (G52:OY P w K mg base t.aH ["self", "token"] 4 aE) (G20:OX P w K mg base t 20 4 d6) (G21:OX P w K mg base t 21 4 cq) (G22:OX P w K mg base t 22 5 cu) (G29:OX P w K mg base t 29 (9+2*n) (aq n)):OX P w K mg base t 27 (10+2*n) (fq n) :=
 (Fa.okX (T.d 27 rfl).F ["reader", "head", "depth", "low", "high", "step", "part"] (aL T) fun S hr=>au (bV (eMX T.cl T.aH G52 hr T.bF dM (eVx 0) (eAx aD ae)) rfl) (au (eSx S.nd 3 (eCX G20 hr (T.d 20 rfl) dM (eAx (eVx 0) ae))) (au (bV (eMX T.cl T.aH G52 hr T.bF dM (eVx 0) (eAx aD ae)) rfl) (au (eSx S.nd 4 (eCX G21 hr (T.d 21 rfl) dM (eAx (eVx 0) (eAx (eVx 3) ae)))) (au (bV (eMX T.cl T.aH G52 hr T.bF dM (eVx 0) (eAx aD ae)) rfl) (au (eSx S.nd 5 (eCX G22 hr (T.d 22 rfl) dM (eAx (eVx 0) ae))) (au (bV (eMX T.cl T.aH G52 hr T.bF dM (eVx 0) (eAx aD ae)) rfl) (au (eSx S.nd 6 (eCX G29 hr (T.d 29 rfl) dM (eAx (eVx 0) (eAx (eOp af (eVx 2) ai) (eAx eBl ae))))) (au (bV (eMX T.cl T.aH G52 hr T.bF dM (eVx 0) (eAx aD ae)) rfl) (aF (aN (fG (eAx (eVx 1) (eAx (eVx 3) (eAx (eVx 4) (eAx (eVx 5) (eAx (eVx 6) ae)))))))))))))))):OX P w K mg base t 27 ((9+2*n)+1) (fq n)).mono (by omega)
theorem oF (T:Txt w K mg t) (G8:O P w K mg base t 8 1 bU):O P w K mg base t 28 2 aP :=
 (T.d 28 rfl).okN ["head", "forms", "depth", "walked", "within"] (aL T) fun S hr=>au (bt (eW (oV (eTx xp (eCx G8 hr (T.d 8 rfl) (eAx (eVx 0) ae)) mJ) (g6 (eW (jY (eUx (eVx 3)) (gz (eW (oV (d4 (bS hr.units) (eVx 0) (bg (v:=.ref t.fi) rfl T.jK rfl rfl) (by with_unfolding_all rfl)) (g6 (eTx (aI hr.units) (eVx 0) aD)))))))))) (aF (aN eBl)) bC) (au (eSx S.nd 4 (eIf (eW (oV (d4 (bS hr.units) (eVx 0) (bg (v:=.ref t.fi) rfl T.jK rfl rfl) (by with_unfolding_all rfl)) (g6 (eTx (aI hr.units) (eVx 0) aD)))) ai ai)) (aF (aN (uB (j5 c7 (eOp af (eOp af (eVx 1) ai) (eVx 4)) (bg (v:=.int 40) rfl T.iM ⟨_,rfl⟩ rfl) (b6 _)) (sZ (j5 c7 (eOp af (eVx 2) (eVx 4)) (bg (v:=.int 8) rfl T.wM ⟨_,rfl⟩ rfl) (b6 _)))))))
theorem oh (T:Txt w K mg t) (G50:OM P w K mg base t.ar ["self"] 1 ao) (G51:OY P w K mg base t.aA ["self", "value", "fits"] 3 aB) (G28:O P w K mg base t 28 2 aP) (G19:OX P w K mg base t 19 4 cm) (G18:OX P w K mg base t 18 4 cB) (G17:OX P w K mg base t 17 4 bB) (G24:OX P w K mg base t 24 5 cp) (G25:OX P w K mg base t 25 (10+2*n) (fO n)) (G26:OX P w K mg base t 26 (10+2*n) (fg n)) (G27:OX P w K mg base t 27 (10+2*n) (fq n)):OX P w K mg base t 29 (9+2*(n+1)) (aq (n+1)) :=
 (Fa.okX (T.d 29 rfl).F ["reader", "depth", "walked", "head"] (aL T) fun S hr=>au (eSx S.nd 3 (tP T.cl T.ar G50 hr T.a9 (eVx 0))) (au (bV (eMX T.cl T.aA G51 hr T.bP dM (eVx 0) (eAx (eVx 3) (eAx (eCx G28 hr (T.d 28 rfl) (eAx (eVx 3) (eAx (eFl T.cl T.gy (eVx 0)) (eAx (eVx 1) (eAx (eVx 2) ae))))) ae))) rfl) (au (eSF T.cl T.gy (eVx 0) (eOp af (eFl T.cl T.gy (eVx 0)) ai)) (au (bt (d4 (bS hr.units) (eVx 3) (fG (eAx aD (eAx aD ae))) (by with_unfolding_all rfl)) (aF (aN (fG (eAx (eVx 3) (eAx (eCX G19 hr (T.d 19 rfl) dM (eAx (eVx 0) ae)) ae))))) bC) (au (bt (eTx (aI hr.units) (eVx 3) aD) (aF (aN (fG (eAx (eVx 3) (eAx (eCX G18 hr (T.d 18 rfl) dM (eAx (eVx 0) ae)) ae))))) bC) (au (bt (eTx (aI hr.units) (eVx 3) aD) (aF (aN (fG (eAx (eVx 3) (eAx (eCX G17 hr (T.d 17 rfl) dM (eAx (eVx 0) ae)) ae))))) bC) (au (bt (eTx (aI hr.units) (eVx 3) aD) (aF (aN (eCX G24 hr (T.d 24 rfl) dM (eAx (eVx 0) ae)))) bC) (au (bt (eTx (aI hr.units) (eVx 3) aD) (aF (aN (eCX G25 hr (T.d 25 rfl) dM (eAx (eVx 0) (eAx (eVx 1) (eAx (eVx 2) ae)))))) bC) (au (bt (d4 (bS hr.units) (eVx 3) (bg (v:=.ref t.jI) rfl T.yM rfl rfl) (by with_unfolding_all rfl)) (aF (aN (eCX G26 hr (T.d 26 rfl) dM (eAx (eVx 0) (eAx (eVx 3) (eAx (eVx 1) (eAx (eVx 2) ae))))))) bC) (au (bt (d4 (bS hr.units) (eVx 3) (bg (v:=.ref t.fi) rfl T.jK rfl rfl) (by with_unfolding_all rfl)) (aF (aN (eCX G27 hr (T.d 27 rfl) dM (eAx (eVx 0) (eAx (eVx 3) (eAx (eVx 1) ae)))))) bC) (aF (aN (fG (eAx (eVx 3) ae))))))))))))):OX P w K mg base t 29 ((10+2*n)+1) (aq (n+1))).mono (by omega)
theorem pK (T:Txt w K mg t):OX P w K mg base t 29 (8+1) (aq 0):=de.noX (k:=8) (T.d 29 rfl).F (scm (N:=["reader", "depth", "walked", "head"]))
theorem m4 (T:Txt w K mg t) (G49:OM P w K mg base t.fv ["self", "text"] 4 gs) (G29:OX P w K mg base t 29 27 (aq 9)) (G52:OY P w K mg base t.aH ["self", "token"] 4 aE):OX P w K mg base t 30 28 ak :=
 Fa.okX (T.d 30 rfl).F ["text", "reader", "form"] (aL T) fun S hr=>au (bt (fF (eUx (eIz T.aQ (eVx 0) T.i5))) (aF (Mc (BF T) hr T.xm rfl F8 ai)) bC) (au (eSx S.nd 1 (eNw T.cmk G49 hr T.cg T.zY (eAx (eVx 0) ae))) (au (eSx S.nd 2 (eCX G29 hr (T.d 29 rfl) dM (eAx (eVx 1) (eAx ai (eAx eBl ae))))) (au (bV (eMX T.cl T.aH G52 hr T.bF dM (eVx 1) (eAx (bg (v:=.str "") rfl T.Gk ⟨_,rfl⟩ rfl) ae)) rfl) (aF (aN (eVx 2))))))
theorem HH (T:Txt w K mg t):O P w K mg base t 31 1 qG :=
 (T.d 31 rfl).okN ["_law_script"] (aL T) fun S hr=>aF (aN (cH (eAx (eVx 0) (eAx ai (eAx ai ae)))))
theorem DE (T:Txt w K mg t):O P w K mg base t 32 1 ah :=
 (T.d 32 rfl).okN ["_law_pen_here", "_law_most", "_law_found", "_law_at", "_law_cell", "_law_number_here"] (aL T) fun S hr=>au (bt (eTx nT (eIy (eVx 0) ai) ai) (au (eSx S.nd 2 (eOp cG (eIy (eVx 0) ai) (eVx 1))) (au (AG (eOp lS (eIy (eVx 0) ai) (eVx 1)) (Em (eVx 0) ai set_list (fun _=>rfl)) rfl rfl rfl) (aF (aN (eVx 2))))) bC) (au (eSx S.nd 3 (eIy (eVx 0) ai)) (au (AG (eOp af (eVx 3) ai) (Em (eVx 0) ai set_list (fun _=>rfl)) rfl rfl rfl) (au (eSx S.nd 4 ai) (au (bt (eTx nT (eBs aW T.du (eAx (eIy (eVx 0) ai) ae)) ai) (aF (eSx S.nd 4 (eIy (eIy (eVx 0) ai) (eOp cG (eVx 3) (eBs aW T.du (eAx (eIy (eVx 0) ai) ae)))))) bC) (au (bt (eW (jY (eTx eE (eVx 3) (eBs aW T.du (eAx (eIy (eVx 0) ai) ae))) (gz (eTx FL (eBs pB T.DP (eAx (eVx 4) ae)) (eOp fV ai ai))))) (au (AG (eOp lS (eBs pB T.DP (eAx (eVx 4) ae)) (eVx 1)) (Em (eVx 0) ai set_list (fun _=>rfl)) rfl rfl rfl) (aF (aN (eOp cG (eBs pB T.DP (eAx (eVx 4) ae)) (eVx 1))))) bC) (au (eSx S.nd 5 (eOp cG (eOp cK (eOp af (eOp af (eOp af (eOp cG (eVx 4) ai) (eOp cK (eOp cK ai (eVx 3)) (eVx 3))) (eOp cK ai (eVx 3))) ai) ai) ai)) (au (eSx S.nd 5 (eOp cG (eOp af (eOp af (eOp cK (eVx 5) (eVx 5)) (eOp cK ai (eVx 5))) (eVx 3)) ai)) (aF (aN (eOp cG (eOp lS (eVx 5) ai) (eVx 1)))))))))))
theorem Ak (T:Txt w K mg t) (G32:O P w K mg base t 32 1 ah):O P w K mg base t 33 2 ja :=
 (T.d 33 rfl).okN ["_law_pen_here", "_law_many", "_law_letters", "_law_base", "_law_words", "_law_way", "_law_size", "_law_at", "_law_turn", "_law_found", "_law_k", "_law_sign"] (aL T) fun S hr=>au (eSy S.nd 2 aD) (au (eSx S.nd 3 (eBM aD (eAx (eKx ["_law_letters", "_law_pen_here"] (eR1 rfl T.fZ (eAx ai ae) rfl) eT0 (eC fun _ _ _ _=>(eIy (eVy 1) (eCx G32 hr (T.d 32 rfl) (eAx (eVy 2) (eAx ai ae))))) (bsc (sc:=ag oA) rfl (by decide +kernel)) ⟨rfl,⟨rfl,rfl⟩,⟨rfl,⟨rfl,rfl⟩,trivial⟩⟩) ae) kS Py PySem.F.slot_str_join PySem.F.type_str_join rfl rfl rfl rfl rfl)) (au (eSx S.nd 4 (cH (eAx aD (eAx aD (eAx aD (eAx aD (eAx aD (eAx aD (eAx aD (eAx aD ae)))))))))) (au (eSx S.nd 5 (eCx G32 hr (T.d 32 rfl) (eAx (eVy 0) (eAx ai ae)))) (au (eSx S.nd 6 (eOp af ai (eCx G32 hr (T.d 32 rfl) (eAx (eVy 0) (eAx ai ae))))) (au (eSx S.nd 7 (eCx G32 hr (T.d 32 rfl) (eAx (eVy 0) (eAx (eVx 6) ae)))) (au (eSx S.nd 8 (eCx G32 hr (T.d 32 rfl) (eAx (eVy 0) (eAx ai ae)))) (au (eSx S.nd 9 (cH ae)) (au (eFx (eR1 rfl T.fZ (eAx (eVx 1) ae) rfl) (eGx S.nd 10) (au (eSx S.nd 11 (eIy (eVy 2) (eOp cG (eOp af (eVx 8) (eOp cK ai (eVx 10))) ai))) (aF (bt (eW (jY (eTx (aI hr.units) (eVx 5) ai) (gz (eTx eE (eVx 1) ai)))) (aF (bV (eBM (eVx 9) (eAx (eSl (orS dP (orS cf dB)) (eVx 3) wO (eP (eOp af (eOp cG (eOp af (eVx 8) (eOp cK ai (eVx 10))) ai) ai))) ae) bQ OD OI OH rfl rfl rfl rfl rfl) rfl)) (aF (bt (eW (jY (eTx (aI hr.units) (eVx 5) ai) (gz (eTx eE (eVx 1) ai)))) (aF (bV (eBM (eVx 9) (eAx (eIy (eVx 4) (eOp cG (eOp af (eVx 8) (eVx 10)) ai)) ae) bQ OD OI OH rfl rfl rfl rfl rfl) rfl)) (aF (bt (eTx (aI hr.units) (eVx 5) ai) (aF (bV (eBM (eVx 9) (eAx (eOp af (eIy (eVx 4) (eOp cG (eVx 10) ai)) (eVx 11)) ae) bQ OD OI OH rfl rfl rfl rfl rfl) rfl)) (aF (bV (eBM (eVx 9) (eAx (eOp af (eOp af (eSl (orS dP (orS cf dB)) (eVx 3) wO (eP (eVx 7))) (eVx 11)) (eSl (orS dP (orS cf dB)) (eVx 3) (eP (eOp af (eVx 7) ai)) (eP (eVx 6)))) ae) bQ OD OI OH rfl rfl rfl rfl rfl) rfl)))))))))) (aF (aN (eVx 9)))))))))))
theorem yH (T:Txt w K mg t) (G32:O P w K mg base t 32 1 ah):O P w K mg base t 34 2 dU :=
 (T.d 34 rfl).okN ["_law_pen_here", "_law_way", "_law_number_here"] (aL T) fun S hr=>au (eSx S.nd 1 (eCx G32 hr (T.d 32 rfl) (eAx (eVx 0) (eAx ai ae)))) (au (eSx S.nd 2 (eCx G32 hr (T.d 32 rfl) (eAx (eVx 0) (eAx ai ae)))) (au (bt (eTx (aI hr.units) (eVx 1) ai) (aF (eSx S.nd 2 (eOp b7 (eOp b7 (eOp fV ai ai) ai) (eCx G32 hr (T.d 32 rfl) (eAx (eVx 0) (eAx ai ae)))))) bC) (au (bt (eTx (aI hr.units) (eVx 1) ai) (aF (eSx S.nd 2 (eOp af (eOp cK (eOp af (eOp cK (eCx G32 hr (T.d 32 rfl) (eAx (eVx 0) (eAx (eOp fV ai ai) ae))) (eOp fV ai ai)) (eCx G32 hr (T.d 32 rfl) (eAx (eVx 0) (eAx (eOp fV ai ai) ae)))) (eOp fV ai ai)) (eCx G32 hr (T.d 32 rfl) (eAx (eVx 0) (eAx (eOp fV ai ai) ae)))))) bC) (au (bt (eTx (aI hr.units) (eCx G32 hr (T.d 32 rfl) (eAx (eVx 0) (eAx ai ae))) ai) (aF (eSx S.nd 2 (eOp b7 ai (eVx 2)))) bC) (aF (aN (eVx 2)))))))
theorem DA (T:Txt w K mg t) (G32:O P w K mg base t 32 1 ah) (G34:O P w K mg base t 34 2 dU):O P w K mg base t 35 3 my :=
 (T.d 35 rfl).okN ["_law_pen_here", "_law_things", "_law_way", "_law_word", "_law_k"] (aL T) fun S hr=>au (eSx S.nd 2 (eCx G32 hr (T.d 32 rfl) (eAx (eVx 0) (eAx ai ae)))) (au (bt (eTx (aI hr.units) (eVx 2) ai) (aF (aN (eIy (eVx 1) (eCx G32 hr (T.d 32 rfl) (eAx (eVx 0) (eAx (eBs aW T.du (eAx (eVx 1) ae)) ae)))))) bC) (au (bt (eTx (aI hr.units) (eVx 2) ai) (aF (aN (eCx G34 hr (T.d 34 rfl) (eAx (eVx 0) ae)))) bC) (au (eSx S.nd 3 aD) (au (eFx (eR1 rfl T.fZ (eAx (eIy (cH (eAx ai (eAx ai (eAx (eOp af ai (eCx G32 hr (T.d 32 rfl) (eAx (eVx 0) (eAx ai ae)))) (eAx ai ae))))) (eCx G32 hr (T.d 32 rfl) (eAx (eVx 0) (eAx ai ae)))) ae) rfl) (eGx S.nd 4) (aF (eSx S.nd 3 (eOp af (eVx 3) (eIy aD (eCx G32 hr (T.d 32 rfl) (eAx (eVx 0) (eAx ai ae)))))))) (aF (aN (fG (eAx (eVx 3) ae))))))))
theorem EW (T:Txt w K mg t) (G32:O P w K mg base t 32 1 ah) (G34:O P w K mg base t 34 2 dU) (G35:O P w K mg base t 35 3 my):O P w K mg base t 36 4 rR :=
 (T.d 36 rfl).okN ["_law_pen_here", "_law_names_here", "_law_free", "_law_word"] (aL T) fun S hr=>au (eSx S.nd 3 (eIy (cH (eAx aD (eAx aD (eAx aD (eAx aD (eAx aD (eAx aD (eAx aD (eAx aD (eAx aD (eAx aD ae))))))))))) (eCx G32 hr (T.d 32 rfl) (eAx (eVx 0) (eAx ai ae))))) (au (bt (d4 (bS hr.units) (eVx 3) (fG (eAx aD (eAx aD ae))) (by with_unfolding_all rfl)) (aF (aN (fG (eAx (eVx 3) (eAx (eCx G34 hr (T.d 34 rfl) (eAx (eVx 0) ae)) ae))))) bC) (au (bt (eTx (aI hr.units) (eVx 3) aD) (aF (aN (fG (eAx (eVx 3) (eAx (eCx G35 hr (T.d 35 rfl) (eAx (eVx 0) (eAx (eVx 1) ae))) ae))))) bC) (au (bt (eW (oV (eTx (aI hr.units) (eVx 3) aD) (g6 (eW (jY (eTx (aI hr.units) (eVx 3) aD) (gz (fF (eUx (eVx 2))))))))) (aF (aN (fG (eAx aD (eAx (eIy (eVx 1) (eCx G32 hr (T.d 32 rfl) (eAx (eVx 0) (eAx (eBs aW T.du (eAx (eVx 1) ae)) ae)))) ae))))) bC) (au (bt (eTx (aI hr.units) (eVx 3) aD) (aF (aN (fG (eAx (eVx 3) (eAx (eTs gB T.fQ (eAx (eBs ko T.rC (eAx (eSl (orS dP (orS cf dB)) (eVx 1) wO (eP (eCx G32 hr (T.d 32 rfl) (eAx (eVx 0) (eAx (eOp af (eBs aW T.du (eAx (eVx 1) ae)) ai) ae))))) ae)) ae)) ae))))) bC) (aF (aN (fG (eAx (eVx 3) ae))))))))
theorem Aa (T:Txt w K mg t) (G32:O P w K mg base t 32 1 ah):O P w K mg base t 37 2 i7 :=
 (T.d 37 rfl).okN ["_law_pen_here", "_law_names_here", "_law_low", "_law_high", "_law_step"] (aL T) fun S hr=>au (eSx S.nd 2 (eIy (cH (eAx ai (eAx ai (eAx ai (eAx ai (eAx ai (eAx (eCx G32 hr (T.d 32 rfl) (eAx (eVx 0) (eAx ai ae))) ae))))))) (eCx G32 hr (T.d 32 rfl) (eAx (eVx 0) (eAx ai ae))))) (au (eSx S.nd 3 (eIy (cH (eAx mJ (eAx (eVx 2) (eAx (eOp af (eVx 2) (eCx G32 hr (T.d 32 rfl) (eAx (eVx 0) (eAx (eOp b7 ai (eVx 2)) ae)))) ae)))) (eCx G32 hr (T.d 32 rfl) (eAx (eVx 0) (eAx ai ae))))) (au (eSx S.nd 4 (eOp af (eIy (cH (eAx aD (eAx aD (eAx aD ae)))) (eCx G32 hr (T.d 32 rfl) (eAx (eVx 0) (eAx ai ae)))) (eIy (eVx 1) (eCx G32 hr (T.d 32 rfl) (eAx (eVx 0) (eAx (eBs aW T.du (eAx (eVx 1) ae)) ae)))))) (aF (aN (fG (eAx (eIy (cH (eAx aD (eAx aD ae))) (eCx G32 hr (T.d 32 rfl) (eAx (eVx 0) (eAx ai ae)))) (eAx (eVx 2) (eAx (eVx 3) (eAx (eVx 4) ae)))))))))
theorem Eh (T:Txt w K mg t) (G32:O P w K mg base t 32 1 ah) (G36:O P w K mg base t 36 4 rR) (G38:O P w K mg base t 38 (5+n) (cQ n)) (G37:O P w K mg base t 37 2 i7):O P w K mg base t 38 (5+(n+1)) (cQ (n+1)) :=
 ((T.d 38 rfl).okN ["_law_pen_here", "_law_names_here", "_law_room", "_law_deep", "_law_free", "_law_way", "_law_many", "_law_some"] (aL T) fun S hr=>au (eSx S.nd 5 (eCx G32 hr (T.d 32 rfl) (eAx (eVy 0) (eAx ai ae)))) (au (bt (eW (oV (eTx eE (eVx 5) ai) (oV (eTx eE (eVy 3) ai) (g6 (eTx eE (eIy (eVy 2) ai) ai))))) (aF (aN (eCx G36 hr (T.d 36 rfl) (eAx (eVy 0) (eAx (eVy 1) (eAx (eVy 4) ae)))))) bC) (au (bt (eTx (aI hr.units) (eVx 5) ai) (au (AG (eOp b7 (eIy (eVy 2) ai) ai) (Em (eVy 2) ai set_list (fun _=>rfl)) rfl rfl rfl) (aF (aN (fG (eAx aD (eAx (eCx G38 hr (T.d 38 rfl) (eAx (eVy 0) (eAx (eVy 1) (eAx (eVy 2) (eAx (eOp b7 (eVy 3) ai) (eAx (eVy 4) ae)))))) ae)))))) bC) (au (bt (eW (jY (eTx eE (eVx 5) ai) (gz (eUx (eVy 4))))) (au (AG (eOp b7 (eIy (eVy 2) ai) ai) (Em (eVy 2) ai set_list (fun _=>rfl)) rfl rfl rfl) (aF (aN (eOp af (eCx G37 hr (T.d 37 rfl) (eAx (eVy 0) (eAx (eVy 1) ae))) (fG (eAx (eCx G38 hr (T.d 38 rfl) (eAx (eVy 0) (eAx (eVy 1) (eAx (eVy 2) (eAx (eOp b7 (eVy 3) ai) (eAx eBl ae)))))) ae)))))) bC) (au (eSx S.nd 6 (eBs (De rfl) T.Kk (eAx (eCx G32 hr (T.d 32 rfl) (eAx (eVy 0) (eAx ai ae))) (eAx (eIy (eVy 2) ai) ae)))) (au (AG (eOp b7 (eIy (eVy 2) ai) (eVx 6)) (Em (eVy 2) ai set_list (fun _=>rfl)) rfl rfl rfl) (au (LQ (i:=7) ["_law_pen_here", "_law_names_here", "_law_room", "_law_free", "_law_deep"] (eR1 rfl T.fZ (eAx (eVx 6) ae) rfl) eT0 (eC fun _ _ _ _=>(eCx G38 hr (T.d 38 rfl) (eAx (eVy 1) (eAx (eVy 2) (eAx (eVy 3) (eAx (eOp b7 (eVy 5) ai) (eAx (eVy 4) ae))))))) S.nd rfl rfl rfl rfl (bsc (sc:=ag rB) rfl (by decide +kernel)) (by decide +kernel) ⟨rfl,⟨rfl,rfl⟩,⟨rfl,⟨rfl,rfl⟩,⟨rfl,⟨rfl,rfl⟩,⟨rfl,⟨rfl,rfl⟩,⟨rfl,⟨rfl,rfl⟩,trivial⟩⟩⟩⟩⟩ (fun _=>rfl)) (aF (aN (fG (eAx (eIy (cH (eAx aD (eAx aD (eAx aD (eAx aD ae))))) (eCx G32 hr (T.d 32 rfl) (eAx (eVy 0) (eAx ai ae)))) (eAx (eTs gB T.fQ (eAx (eVx 7) ae)) ae))))))))))):O P w K mg base t 38 ((5+n)+1) (cQ (n+1))).mono (by omega)
theorem GW (T:Txt w K mg t):O P w K mg base t 38 (4+1) (cQ 0):=de.no (k:=4) (T.d 38 rfl).F (scm (N:=["_law_pen_here", "_law_names_here", "_law_room", "_law_deep", "_law_free", "_law_way", "_law_many", "_law_some"])) fun vs H Q E h=>by obtain ⟨G,ds,is,pr,outs,hF,_⟩:=h;cases hF
theorem oG (T:Txt w K mg t):O P w K mg base t 39 1 cW :=
 (T.d 39 rfl).okN ["_law_node_here"] (aL T) fun S hr=>au (bt (eUx (eIz T.aQ (eVx 0) T.fQ)) (aF (aN (eOp af aD (eIy (eVx 0) ai)))) bC) (aF (aN (eTs eL T.i5 (eAx (eVx 0) ae))))
theorem vA (T:Txt w K mg t):O P w K mg base t 40 1 cM :=
 (T.d 40 rfl).okN ["_law_rows", "_law_found", "_law_row"] (aL T) fun S hr=>au (eSx S.nd 1 (cH ae)) (au (eFx (eIL (eVx 0)) (eGx S.nd 2) (au (bt (eTx (iP hr.units) (eVx 1) (cH ae)) (aF (bV (eBM (eVx 1) (eAx aD ae) bQ OD OI OH rfl rfl rfl rfl rfl) rfl)) bC) (aF (bV (eBM (eVx 1) (eAx (eVx 2) ae) tS OD PySem.F.slot_list_extend PySem.F.type_list_extend rfl rfl rfl rfl rfl) rfl)))) (aF (aN (eVx 1))))
theorem wH (T:Txt w K mg t) (G39:O P w K mg base t 39 1 cW) (G40:O P w K mg base t 40 1 cM) (G41:O P w K mg base t 41 (3+n) (bz n)):O P w K mg base t 41 (3+(n+1)) (bz (n+1)) :=
 ((T.d 41 rfl).okN ["_law_form_here", "_law_word", "_law_high", "_law_step"] (aL T) fun S hr=>au (eSx S.nd 1 (eIy (eVx 0) ai)) (au (bt (eTx (aI hr.units) (eVx 1) aD) (aF (aN (cH (eAx (eVx 1) (eAx (eCx G39 hr (T.d 39 rfl) (eAx (eIy (eVx 0) ai) ae)) ae))))) bC) (au (bt (d4 (bS hr.units) (eVx 1) (fG (eAx aD (eAx aD (eAx aD ae)))) (by with_unfolding_all rfl)) (aF (aN (cH (eAx (eVx 1) (eAx (eTs eL T.i5 (eAx (eIy (eVx 0) ai) ae)) ae))))) bC) (au (bt (eTx (aI hr.units) (eVx 1) aD) (aF (aN (iOp af (iOp af (cH (eAx (eVx 1) (eAx aD ae))) (eCx G40 hr (T.d 40 rfl) (eAx (eKx [] (eIT (eIy (eVx 0) ai)) eT0 (eC fun _ _ _ _=>(cH (eAx (eVx 0) ae))) (bsc (sc:=ag ig) rfl (by decide +kernel)) trivial) ae))) (cH (eAx aD ae))))) bC) (au (bt (eTx (aI hr.units) (eVx 1) aD) (aF (aN (iOp af (iOp af (cH (eAx (eVx 1) (eAx aD ae))) (eCx G41 hr (T.d 41 rfl) (eAx (eIy (eVx 0) ai) ae))) (cH (eAx aD ae))))) bC) (au (bt (d4 (bS hr.units) (eVx 1) (fG (eAx aD (eAx aD ae))) (by with_unfolding_all rfl)) (au (eSx S.nd 2 (eIy (cH (eAx aD (eAx (eTs eL T.i5 (eAx (eIy (eVx 0) ai) ae)) ae))) (eTs lE T.wW (eAx (j5 gI (eIy (eVx 0) ai) mJ (b6 _)) ae)))) (au (eSx S.nd 3 (cH (eAx (eIy (eVx 0) ai) ae))) (au (bt (eTx (aI hr.units) (eIy (eIy (eVx 0) ai) ai) aD) (aF (eSx S.nd 3 (cH (eAx aD (eAx (eSl (orS dP (orS cf dB)) (eIy (eVx 0) ai) (eP ai) wO) ae))))) bC) (aF (aN (iOp af (iOp af (cH (eAx (eVx 1) (eAx aD ae))) (eCx G40 hr (T.d 40 rfl) (eAx (cH (eAx (cH (eAx (eTs eL T.i5 (eAx (eIy (eVx 0) ai) ae)) ae)) (eAx (cH (eAx (eVx 2) ae)) (eAx (eVx 3) (eAx (eCx G41 hr (T.d 41 rfl) (eAx (eIy (eVx 0) ai) ae)) ae))))) ae))) (cH (eAx aD ae)))))))) bC) (au (bt (d4 (bS hr.units) (eVx 1) (fG (eAx aD (eAx aD (eAx aD (eAx aD ae))))) (by with_unfolding_all rfl)) (aF (aN (iOp af (iOp af (cH (eAx (eVx 1) (eAx aD ae))) (eCx G40 hr (T.d 40 rfl) (eAx (eKx [] (eIT (eIy (eVx 0) ai)) eT0 (eC fun _ _ _ _=>(eCx G41 hr (T.d 41 rfl) (eAx (eVx 0) ae))) (bsc (sc:=ag ig) rfl (by decide +kernel)) trivial) ae))) (cH (eAx aD ae))))) bC) (aF (aN (cH (eAx (eVx 1) ae)))))))))):O P w K mg base t 41 ((3+n)+1) (bz (n+1))).mono (by omega)
theorem Ar (T:Txt w K mg t):O P w K mg base t 41 (2+1) (bz 0):=de.no (k:=2) (T.d 41 rfl).F (scm (N:=["_law_form_here", "_law_word", "_law_high", "_law_step"])) fun vs H Q E h=>by obtain ⟨G,ds,is,pr,outs,hF,_⟩:=h;cases hF
theorem Dr (T:Txt w K mg t):O P w K mg base t 42 1 mG :=
 (T.d 42 rfl).okN ["_law_one", "_law_other", "_law_letters", "_law_figures"] (aL T) fun S hr=>au (eSx S.nd 2 aD) (au (eSx S.nd 3 aD) (aF (aN (eOr (uB (j5 (bS hr.units) (eIy (eVx 0) (eUy ai)) (eOp af (eVx 2) aD) (by with_unfolding_all rfl)) (sZ (j5 (bS hr.units) (eIy (eVx 1) ai) (eVx 2) (by with_unfolding_all rfl)))) (sZ (uB (j5 (bS hr.units) (eIy (eVx 0) (eUy ai)) (eOp af (eVx 3) aD) (by with_unfolding_all rfl)) (sZ (j5 (bS hr.units) (eIy (eVx 1) ai) (eVx 3) (by with_unfolding_all rfl)))))))))
theorem DD (T:Txt w K mg t) (G32:O P w K mg base t 32 1 ah) (G42:O P w K mg base t 42 1 mG):O P w K mg base t 43 2 gk :=
 (T.d 43 rfl).okN ["_law_pen_here", "_law_tokens_here", "_law_most", "_law_text", "_law_places", "_law_k", "_law_blanks"] (aL T) fun S hr=>au (eSx S.nd 2 (eIy (cH (eAx ai (eAx ai (eAx ai ae)))) (eCx G32 hr (T.d 32 rfl) (eAx (eVx 0) (eAx ai ae))))) (au (eSx S.nd 3 (eOp qZ aD (eCx G32 hr (T.d 32 rfl) (eAx (eVx 0) (eAx (eVx 2) ae))))) (au (eSx S.nd 4 (cH ae)) (au (eFx (eR1 rfl T.fZ (eAx (eBs aW T.du (eAx (eVx 1) ae)) ae) rfl) (eGx S.nd 5) (au (eSx S.nd 6 (eCx G32 hr (T.d 32 rfl) (eAx (eVx 0) (eAx (eVx 2) ae)))) (au (bt (eW (jY (eTx nT (eVx 5) ai) (jY (eTx (aI hr.units) (eVx 6) ai) (gz (eUx (eCx G42 hr (T.d 42 rfl) (eAx (eIy (eVx 1) (eOp b7 (eVx 5) ai)) (eAx (eIy (eVx 1) (eVx 5)) ae)))))))) (aF (eSx S.nd 6 ai)) bC) (au (eSx S.nd 3 (eOp af (eVx 3) (eOp qZ aD (eOp cK (eVx 6) (eTs lE T.wW (eAx (j5 nT (eVx 5) ai (b6 _)) ae)))))) (au (bV (eBM (eVx 4) (eAx (eBs aW T.du (eAx (eVx 3) ae)) ae) bQ OD OI OH rfl rfl rfl rfl rfl) rfl) (aF (eSx S.nd 3 (eOp af (eVx 3) (eIy (eVx 1) (eVx 5)))))))))) (aF (aN (fG (eAx (eVx 3) (eAx (eVx 4) ae))))))))
theorem r8 (T:Txt w K mg t) (G30:OX P w K mg base t 30 28 ak):O P w K mg base t 44 29 aZ :=
 (T.d 44 rfl).okN ["_law_text", "_law_caught"] (aL T) fun S hr=>Jj (i:=1) (j:=0) (B1:=[t.y 7,t.y 6,t.y 5,t.y 4,t.y 3,t.y 2,t.y 1,t.y 0]) (B2:=[t.y 11,t.y 10,t.y 9,t.y 8]) (B3:=[t.y 13,t.y 12]) (hm1:=rfl) rfl G30 (hr.mono (by omega)) rfl (T.d 30 rfl).m (T.d 30 rfl).F.kp (T.d 30 rfl).b rfl S.nd rfl (.inl rfl) (.inl rfl) (.inl rfl) rfl rfl rfl (.inl rfl) rfl rfl (by decide) rfl rfl rfl rfl rfl rfl (by show ¬("e" : Str)∈(["_law_text", "_law_caught"]:List Str);decide +kernel) T.xc T.xf T.xd T.mr rfl T.xdm rfl rfl rfl (fun _ _ z=>z) rfl T.aQ rfl T.xm rfl rfl T.oo T.mv rfl T.wW rfl T.BC (fun _ _=>(eAx (bg (v:=.ref (t.y 7)) rfl (T.y 7 rfl).1 rfl rfl) (eAx (bg (v:=.ref (t.y 6)) rfl (T.y 6 rfl).1 rfl rfl) (eAx (bg (v:=.ref (t.y 5)) rfl (T.y 5 rfl).1 rfl rfl) (eAx (bg (v:=.ref (t.y 4)) rfl (T.y 4 rfl).1 rfl rfl) (eAx (bg (v:=.ref (t.y 3)) rfl (T.y 3 rfl).1 rfl rfl) (eAx (bg (v:=.ref (t.y 2)) rfl (T.y 2 rfl).1 rfl rfl) (eAx (bg (v:=.ref (t.y 1)) rfl (T.y 1 rfl).1 rfl rfl) (eAx (bg (v:=.ref (t.y 0)) rfl (T.y 0 rfl).1 rfl rfl) ae))))))))) rfl (fun _ _=>(eAx (bg (v:=.ref (t.y 11)) rfl (T.y 11 rfl).1 rfl rfl) (eAx (bg (v:=.ref (t.y 10)) rfl (T.y 10 rfl).1 rfl rfl) (eAx (bg (v:=.ref (t.y 9)) rfl (T.y 9 rfl).1 rfl rfl) (eAx (bg (v:=.ref (t.y 8)) rfl (T.y 8 rfl).1 rfl rfl) ae))))) rfl (fun _ _=>(eAx (bg (v:=.ref (t.y 13)) rfl (T.y 13 rfl).1 rfl rfl) (eAx (bg (v:=.ref (t.y 12)) rfl (T.y 12 rfl).1 rfl rfl) ae))) rfl ⟨OP rfl,OP rfl,OP rfl⟩ (fun B h=>by simp only [List.cons_append,OL,N9,Ox,O9] at h;rcases h with rfl | rfl | rfl | rfl | rfl | rfl | rfl | rfl | rfl | rfl | rfl | rfl | rfl | rfl <;> exact (T.y _ rfl).2) (fun _=>rfl) (b6 _)
theorem lA (T:Txt w K mg t) (G44:O P w K mg base t 44 29 aZ) (G30:OX P w K mg base t 30 28 ak) (G16:O P w K mg base t 16 20 (ax 8)):O P w K mg base t 45 30 cE :=
 (T.d 45 rfl).okN ["_law_form_here", "_law_text"] (aL T) fun S hr=>au (bt (eW (oV (eTx gI (eCx G44 hr (T.d 44 rfl) (eAx (eVx 1) ae)) mJ) (g6 (eTx (iP hr.units) (eCX G30 hr (T.d 30 rfl) Jo (eAx (eVx 1) ae)) (eVx 0))))) (aF (aN eBl)) bC) (aF (aN (uB (j5 (aI hr.units) (eCX G30 hr (T.d 30 rfl) Jo (eAx (eCx G16 hr (T.d 16 rfl) (eAx (eVx 0) ae)) ae)) (eVx 0) (b6 _)) (sZ (j5 (aI hr.units) (eCx G16 hr (T.d 16 rfl) (eAx (eCX G30 hr (T.d 30 rfl) Jo (eAx (eVx 1) ae)) ae)) (eCx G16 hr (T.d 16 rfl) (eAx (eVx 0) ae)) (b6 _))))))
theorem Cu (T:Txt w K mg t) (G32:O P w K mg base t 32 1 ah) (G44:O P w K mg base t 44 29 aZ):O P w K mg base t 46 30 lD :=
 (T.d 46 rfl).okN ["_law_pen_here", "_law_tokens_here", "_law_text", "_law_places", "_law_k", "_law_many", "_law_cut"] (aL T) fun S hr=>au (eFx (eR1 rfl T.fZ (eAx ai ae) rfl) (eGx S.nd 4) (au (eSx S.nd 5 (eCx G32 hr (T.d 32 rfl) (eAx (eVx 0) (eAx (eBs aW T.du (eAx (eVx 1) ae)) ae)))) (au (eSx S.nd 6 (eSl (orS dP (orS cf dB)) (eVx 2) wO (eP (eIy (eVx 3) (eVx 5))))) (au (bt (eW (jY (eTx nT (eVx 5) ai) (gz (eTx (aI hr.units) (eCx G32 hr (T.d 32 rfl) (eAx (eVx 0) (eAx ai ae))) ai)))) (aF (eSx S.nd 6 (eSl (orS dP (orS cf dB)) (eVx 2) wO (eP (eOp af (eIy (eVx 3) (eOp b7 (eVx 5) ai)) (eBs aW T.du (eAx (eIy (eVx 1) (eOp b7 (eVx 5) ai)) ae))))))) bC) (aF (bt (eTx (iP hr.units) (eCx G44 hr (T.d 44 rfl) (eAx (eVx 6) ae)) (eBs aW T.du (eAx (eVx 6) ae))) (aF (aN eBl)) bC)))))) (aF (aN eBl))
theorem sJ (T:Txt w K mg t) (G32:O P w K mg base t 32 1 ah) (G43:O P w K mg base t 43 2 gk) (G44:O P w K mg base t 44 29 aZ):O P w K mg base t 47 30 fu :=
 (T.d 47 rfl).okN ["_law_pen_here", "_law_tokens_here", "_law_k", "_law_at", "_law_sign", "_law_behind", "_law_text", "_law_places"] (aL T) fun S hr=>au (eFx (eR1 rfl T.fZ (eAx ai ae) rfl) (eGx S.nd 2) (au (eSx S.nd 3 (eCx G32 hr (T.d 32 rfl) (eAx (eVx 0) (eAx (eOp af (eBs aW T.du (eAx (eVx 1) ae)) ai) ae)))) (au (eSx S.nd 4 (eIy (cH (eAx aD (eAx aD (eAx aD (eAx aD (eAx aD (eAx aD (eAx aD (eAx aD (eAx aD (eAx aD (eAx aD ae)))))))))))) (eCx G32 hr (T.d 32 rfl) (eAx (eVx 0) (eAx ai ae))))) (au (eSx S.nd 5 (eIy (cH (eAx (eSl (orS dP (orS cf dB)) (eVx 1) (eP (eVx 3)) wO) (eAx (eSl (orS dP (orS cf dB)) (eVx 1) (eP (eOp af (eVx 3) ai)) wO) (eAx (cH (eAx aD ae)) (eAx (cH ae) ae))))) (eCx G32 hr (T.d 32 rfl) (eAx (eVx 0) (eAx ai ae))))) (au (AG (eCx G43 hr (T.d 43 rfl) (eAx (eVx 0) (eAx (eOp af (eOp af (eSl (orS dP (orS cf dB)) (eVx 1) wO (eP (eVx 3))) (cH (eAx (eVx 4) ae))) (eVx 5)) ae))) (eGT (n:=2) rfl (Ek (i:=6) S.nd rfl (Or.inl rfl) (Or.inl rfl) (Ek (i:=7) S.nd rfl (Or.inl rfl) (Or.inl rfl) JX)) rfl rfl) rfl rfl rfl) (aF (bt (eTx (iP hr.units) (eCx G44 hr (T.d 44 rfl) (eAx (eVx 6) ae)) (eIy (eVx 7) (eVx 3))) (aF (aN eBl)) bC))))))) (aF (aN eBl))
theorem Hn (T:Txt w K mg t) (G31:O P w K mg base t 31 1 qG) (G33:O P w K mg base t 33 2 ja) (G38:O P w K mg base t 38 13 (cQ 8)) (G32:O P w K mg base t 32 1 ah) (G41:O P w K mg base t 41 11 (bz 8)) (G43:O P w K mg base t 43 2 gk) (G45:O P w K mg base t 45 30 cE) (G46:O P w K mg base t 46 30 lD) (G47:O P w K mg base t 47 30 fu) (G44:O P w K mg base t 44 29 aZ):O P w K mg base t 48 31 xW :=
 (T.d 48 rfl).okN ["_law_script", "_law_pen_here", "_law_names_here", "_law_form_here", "_law_tokens_here", "_law_text", "_law_places", "_law_more", "_gh"] (aL T) fun S hr=>au (eSx S.nd 1 (eCx G31 hr (T.d 31 rfl) (eAx (eVx 0) ae))) (au (eSx S.nd 2 (eCx G33 hr (T.d 33 rfl) (eAx (eVx 1) (eAx ai ae)))) (au (eSx S.nd 3 (MZ (i1:=1) (i2:=2) (h:=8) (g := "_gh") (f:=(cQ 8)) (K:=K) (fun t ha=>CQ G38 (hr.mono (by omega)) rfl (T.d 38 rfl).m (T.d 38 rfl).F.kp (T.d 38 rfl).b .nil vI ha rfl rfl rfl) rfl (Ll rfl) (by decide) (by decide) rfl rfl rfl (eVx 1) (eVx 2) (cH (eAx (eIy (cH (eAx ai (eAx ai (eAx ai ae)))) (eCx G32 hr (T.d 32 rfl) (eAx (eVx 1) (eAx ai ae)))) ae)) (eAx (eIy (cH (eAx ai (eAx ai ae))) (eCx G32 hr (T.d 32 rfl) (eAx (eVx 1) (eAx ai ae)))) (eAx eBl ae)))) (au (eSx S.nd 4 (eCx G41 hr (T.d 41 rfl) (eAx (eVx 3) ae))) (au (AG (eCx G43 hr (T.d 43 rfl) (eAx (eVx 1) (eAx (eVx 4) ae))) (eGT (n:=2) rfl (Ek (i:=5) S.nd rfl (Or.inl rfl) (Or.inl rfl) (Ek (i:=6) S.nd rfl (Or.inl rfl) (Or.inl rfl) JX)) rfl rfl) rfl rfl rfl) (au (bt (eW (oV (fF (eUx (eCx G45 hr (T.d 45 rfl) (eAx (eVx 3) (eAx (eVx 5) ae))))) (oV (fF (eUx (eCx G46 hr (T.d 46 rfl) (eAx (eVx 1) (eAx (eVx 4) (eAx (eVx 5) (eAx (eVx 6) ae))))))) (g6 (fF (eUx (eCx G47 hr (T.d 47 rfl) (eAx (eVx 1) (eAx (eVx 4) ae))))))))) (aF (aN eBl)) bC) (au (eSx S.nd 7 (eIy (cH (eAx aD (eAx aD (eAx aD (eAx aD (eAx aD (eAx aD (eAx aD (eAx aD (eAx (eIy (eVx 2) ai) (eAx aD ae))))))))))) (eCx G32 hr (T.d 32 rfl) (eAx (eVx 1) (eAx ai ae))))) (au (AG (eCx G43 hr (T.d 43 rfl) (eAx (eVx 1) (eAx (eOp af (eVx 4) (cH (eAx (eVx 7) ae))) ae))) (eGT (n:=2) rfl (Ek (i:=5) S.nd rfl (Or.inl rfl) (Or.inl rfl) (Ek (i:=6) S.nd rfl (Or.inl rfl) (Or.inl rfl) JX)) rfl rfl) rfl rfl rfl) (aF (aN (j5 (aI hr.units) (eCx G44 hr (T.d 44 rfl) (eAx (eVx 5) ae)) (eIy (eVx 6) (eUy ai)) (b6 _)))))))))))
theorem xH (T:Txt w K mg t) (G13:O P w K mg base t 13 3 c6):OM P w K mg base t.fv ["self", "text"] 4 gs :=
 Fa.okM T.AJ ["self", "text"] (aL T) fun S hr=>au (eSF T.cl T.jt (eVx 0) (eCx G13 hr (T.d 13 rfl) (eAx (eVx 1) ae))) (au (eSF T.cl T.gu (eVx 0) ai) (aF (eSF T.cl T.gy (eVx 0) ai)))
theorem r9 (T:Txt w K mg t):OM P w K mg base t.ar ["self"] 1 ao :=
 Fa.okM T.vQ ["self"] (aL T) fun S hr=>aF (aN (eIy (eIy (eFl T.cl T.jt (eVx 0)) (eFl T.cl T.gu (eVx 0))) ai))
theorem sD (T:Txt w K mg t):OY P w K mg base t.aA ["self", "value", "fits"] 3 aB :=
 Fa.okX T.yB ["self", "value", "fits"] (aL T) fun S hr=>au (bt (fF (eUx (eVx 2))) (aF (Mc (BF T) hr T.xm rfl F8 (eIy (eIy (eFl T.cl T.jt (eVx 0)) (eFl T.cl T.gu (eVx 0))) ai))) bC) (au (eSF T.cl T.gu (eVx 0) (eOp af (eFl T.cl T.gu (eVx 0)) ai)) (aF (aN (eVx 1))))
theorem vP (T:Txt w K mg t) (G51:OY P w K mg base t.aA ["self", "value", "fits"] 3 aB) (G50:OM P w K mg base t.ar ["self"] 1 ao):OY P w K mg base t.aH ["self", "token"] 4 aE :=
 Fa.okX T.yY ["self", "token"] (aL T) fun S hr=>aF (bV (eMX T.cl T.aA G51 hr T.bP dM (eVx 0) (eAx (eVx 1) (eAx (j5 (aI hr.units) (tP T.cl T.ar G50 hr T.a9 (eVx 0)) (eVx 1) (b6 _)) ae))) rfl)
end
theorem Ge {P:Program} {w:World} {K:Fg} {mg:Str->Option Qj} {base:Heap} {t:Adr} (T:Txt w K mg t):de P w K mg base CX0 31 (t.f 48).1 (t.f 48).2 ["_law_script"] (BR K):=by
 have h0:=HH (P:=P) (w:=w) (base:=base) T;have h1:=DE (P:=P) (w:=w) (base:=base) T;have h2:=Ak T h1;have h3:=yH T h1;have h4:=DA T h1 h3;have h5:=EW T h1 h3 h4;have h6:=Aa T h1;have m_form:∀ n,O P w K mg base t 38 (5+n) (cQ n):=by
  intro n;induction n with
  | zero=>exact (GW T).mono (by omega)
  | succ n h7 =>
   exact (Eh (n:=n) T h1 h5 h7 h6).mono (by omega)
 have h7:=m_form 8;have h8:=oG (P:=P) (w:=w) (base:=base) T;have h9:=vA (P:=P) (w:=w) (base:=base) T;have m_tokens:∀ n,O P w K mg base t 41 (3+n) (bz n):=by
  intro n;induction n with
  | zero=>exact (Ar T).mono (by omega)
  | succ n h10 =>
   exact (wH (n:=n) T h8 h9 h10).mono (by omega)
 have h10:=m_tokens 8;have h11:=Dr (P:=P) (w:=w) (base:=base) T;have h12:=DD T h1 h11;have h13:=tV (P:=P) (w:=w) (base:=base) T;have h14:=nC T h13;have h15:=nJ T h14;have h16:=xH T h15;have h17:=sD (P:=P) (w:=w) (base:=base) T;have h18:=r9 (P:=P) (w:=w) (base:=base) T;have h19:=vP T h17 h18;have h20:=lK T h17 h18;have h21:=kh (P:=P) (w:=w) (base:=base) T;have h22:=sr T h21;have h23:=sN T h21;have h24:=n6 (P:=P) (w:=w) (base:=base) T;have h25:=sV T h22 h23 h24;have h26:=qt (P:=P) (w:=w) (base:=base) T;have h27:=l8 T h26;have h28:=oW T h25 h18 h17 h27;have h29:=oH T h18 h17 h25 h27;have h30:=mU T h18 h17 h23;have h31:=nA T h18 h30 h19;have h32:=om (P:=P) (w:=w) (base:=base) T;have h33:=oF T h32;have h34:=kf T h25 h18 h17 h26;have h35:=mx T h25 h18 h17;have h36:=kd T h19 h18 h20 h17 h23;have m_read_part:∀ n,OX P w K mg base t 29 (9+2*n) (aq n):=by
  intro n;induction n with
  | zero=>exact (pK T).mono (by omega)
  | succ n h37 =>
   have h38:=jT (n:=n) T h19 h37;have h39:=iE (n:=n) T h19 h18 h20 h37;have h40:=iG (n:=n) T h19 h28 h29 h31 h37;exact (oh (n:=n) T h18 h17 h33 h34 h35 h30 h36 h38 h39 h40).mono (by omega)
 have h37:=m_read_part 9;have h38:=jT (n:=9) T h19 h37;have h39:=iE (n:=9) T h19 h18 h20 h37;have h40:=iG (n:=9) T h19 h28 h29 h31 h37;have h41:=m4 T h16 h37 h19;have h42:=r8 T h41;have h43:=oa (P:=P) (w:=w) (base:=base) T;have h44:=ip (P:=P) (w:=w) (base:=base) T;have h45:=sY (P:=P) (w:=w) (base:=base) T;have h46:=og T h45;have m_show_form:∀ n,O P w K mg base t 16 (4+2*n) (ax n):=by
  intro n;induction n with
  | zero=>exact (qm T).mono (by omega)
  | succ n h47 =>
   have h48:=fM (n:=n) T h43 h44 h47;exact (m5 (n:=n) T h32 h46 h48).mono (by omega)
 have h47:=m_show_form 8;have h48:=fM (n:=8) T h43 h44 h47;have h49:=lA T h42 h41 h47;have h50:=Cu T h1 h42;have h51:=sJ T h1 h12 h42;have h52:=Hn T h0 h2 h7 h1 h10 h12 h49 h50 h51 h42;exact h52
theorem EH {w:World} {K:Fg} {h:Heap} {mg:Str->Option Qj} (X:K.In h) (G:h.Ns mainGlobals mg) (D:Ex K mg dfs)
  {fm0:Qz} {va vb:Option Qz} {vc:Array (Option Qj)} {vd ve vf vg vh vi:Qj}
  (am0:PySem.W.findIn K (.ref clsAt) "__init__" = some (some (.ref fm0))) (lm0:K.lookup fm0=some ⟨vd,va,.func (PySem.W.fnOf "__init__" "FormReader.__init__" (bJ bD) (aU bD) (ag bD) .none ve vf vg vb vh vi),vc⟩) (cm0:PySem.W.codeIn K vh "FormReader.__init__" = true) (km0:PySem.W.keepIn K (.ref fm0)=true) (im0:PySem.W.isFn K (.ref fm0)=true)
  {fm1:Qz} {vj vk:Option Qz} {vl:Array (Option Qj)} {vm vn vo vp vq vr:Qj}
  (am1:PySem.W.findIn K (.ref clsAt) "shown" = some (some (.ref fm1))) (lm1:K.lookup fm1=some ⟨vm,vj,.func (PySem.W.fnOf "shown" "FormReader.shown" (bJ ba) (aU ba) (ag ba) .none vn vo vp vk vq vr),vl⟩) (cm1:PySem.W.codeIn K vq "FormReader.shown" = true) (km1:PySem.W.keepIn K (.ref fm1)=true) (im1:PySem.W.isFn K (.ref fm1)=true)
  {fm2:Qz} {vs vt:Option Qz} {vu:Array (Option Qj)} {vv vw vx vy vz v0:Qj}
  (am2:PySem.W.findIn K (.ref clsAt) "taken" = some (some (.ref fm2))) (lm2:K.lookup fm2=some ⟨vv,vs,.func (PySem.W.fnOf "taken" "FormReader.taken" (bJ bh) (aU bh) (ag bh) .none vw vx vy vt vz v0),vu⟩) (cm2:PySem.W.codeIn K vz "FormReader.taken" = true) (km2:PySem.W.keepIn K (.ref fm2)=true) (im2:PySem.W.isFn K (.ref fm2)=true)
  {fm3:Qz} {v1 v2:Option Qz} {v3:Array (Option Qj)} {v4 v5 v6 v7 v8 v9:Qj}
  (am3:PySem.W.findIn K (.ref clsAt) "skip" = some (some (.ref fm3))) (lm3:K.lookup fm3=some ⟨v4,v1,.func (PySem.W.fnOf "skip" "FormReader.skip" (bJ bE) (aU bE) (ag bE) .none v5 v6 v7 v2 v8 v9),v3⟩) (cm3:PySem.W.codeIn K v8 "FormReader.skip" = true) (km3:PySem.W.keepIn K (.ref fm3)=true) (im3:PySem.W.isFn K (.ref fm3)=true)
  (C_g:PySem.W.nsIn K mainGlobals "FormReader" = some (some (.ref clsAt))) (ua:PySem.W.plainGet K clsAt Str.empty=true) (ub:PySem.W.hasDictIn K clsAt=true) (uc:PySem.W.plainOver K clsAt=true) (ud:PySem.W.findIn K (.ref clsAt) "__setattr__" = some (some (.builtin "object.__setattr__"))) (ue:PySem.W.makesIn K clsAt=true) (uf:PySem.W.keepIn K (.ref clsAt)=true)
  (ug:PySem.W.findIn K (.ref clsAt) "forms" = some none)
  (uh:PySem.W.findIn K (.ref clsAt) "place" = some none)
  (ui:PySem.W.findIn K (.ref clsAt) "tokens" = some none)
  (uj:PySem.W.nsIn K mainGlobals "ValueError" = some none)
  (uk:PySem.W.nsIn K mainGlobals "abs" = some none)
  (ul:PySem.W.nsIn K mainGlobals "all" = some none)
  (um:PySem.W.nsIn K mainGlobals "bool" = some none)
  (un:PySem.W.nsIn K mainGlobals "int" = some none)
  (uo:PySem.W.nsIn K mainGlobals "isinstance" = some none)
  (up:PySem.W.nsIn K mainGlobals "len" = some none)
  (uq:PySem.W.nsIn K mainGlobals "min" = some none)
  (ur:PySem.W.nsIn K mainGlobals "range" = some none)
  (ut:PySem.W.nsIn K mainGlobals "sorted" = some none)
  (uu:PySem.W.nsIn K mainGlobals "str" = some none)
  (uv:PySem.W.nsIn K mainGlobals "tuple" = some none)
  {uw:Tok} (ux:PySem.W.nsIn K mainGlobals "DEEPEST" = some (some (Value.int 8 uw)))
  {uy:Tok} (uz:PySem.W.nsIn K mainGlobals "END" = some (some (Value.str "" uy)))
  {u0:Tok} (u1:PySem.W.nsIn K mainGlobals "FIGURES" = some (some (Value.str "0123456789" u0)))
  {u2:Tok} (u3:PySem.W.nsIn K mainGlobals "LETTERS" = some (some (Value.str "abcdefghijklmnopqrstuvwxyz" u2)))
  {u4:Tok} (u5:PySem.W.nsIn K mainGlobals "MOST_BONDS" = some (some (Value.int 8 u4)))
  {u6:Tok} (u7:PySem.W.nsIn K mainGlobals "MOST_ENDS" = some (some (Value.int 60 u6)))
  {u8:Tok} (u9:PySem.W.nsIn K mainGlobals "MOST_FIGURES" = some (some (Value.int 30 u8)))
  {za:Tok} (zb:PySem.W.nsIn K mainGlobals "MOST_FORMS" = some (some (Value.int 40 za)))
  {zc:Tok} (zd:PySem.W.nsIn K mainGlobals "MOST_LETTERS" = some (some (Value.int 8 zc)))
  {ze:Tok} (zf:PySem.W.nsIn K mainGlobals "MOST_LISTED" = some (some (Value.int 6 ze)))
  {zg:Qz} (zh:PySem.W.nsIn K mainGlobals "LISTS" = some (some (.ref zg)))
  {zi:Option Qz} {zj:Array (Option Qj)} {zk:Nat} {zl:Tok} {zm:Tok} {zn:Tok} {zo:Tok} (zp:K.lookup zg=some ⟨.type "tuple", zi,.seq #[.str "all" zl,.str "some" zm,.str "one" zn,.str "none" zo] zk,zj⟩)
  {zq:Qz} (zr:PySem.W.nsIn K mainGlobals "WALKS" = some (some (.ref zq)))
  {zs:Option Qz} {zt:Array (Option Qj)} {zu:Nat} {zv:Tok} {zw:Tok} (zx:K.lookup zq=some ⟨.type "tuple", zs,.seq #[.str "many" zv,.str "each" zw] zu,zt⟩)
  {zy:Qz} (zz:PySem.W.nsIn K mainGlobals "LENGTHS" = some (some (.ref zy)))
  {z0:Array DictEntry} {z1:Nat} {z2:Tok} {z3:Tok} {z4:Tok} {z5:Tok} {z6:Tok} {z7:Tok} {z8:Tok} {z9:Tok} {ya:Tok} {yb:Tok} {yc:Tok} {yd:Tok} {ye:Tok} {yf:Tok} {yg:Tok} {yh:Tok} (yi:K.lookup zy=some ⟨.type "dict", none,.dict z0 z1,#[]⟩) (yj:PySem.W.KeysLit w.params z0.toList) (yk:(zy==sysModules)=false) (yl:z0.toList.map El=bx.map fun p=>some p.1) (ym:PySem.W.nsIn K zy "any" = some (some (Value.int 1 z2))) (yn:PySem.W.nsIn K zy "thing" = some (some (Value.int 1 z3))) (yo:PySem.W.nsIn K zy "number" = some (some (Value.int 1 z4))) (yp:PySem.W.nsIn K zy "said" = some (some (Value.int 1 z5))) (yq:PySem.W.nsIn K zy "from" = some (some (Value.int 2 z6))) (yr:PySem.W.nsIn K zy "upto" = some (some (Value.int 2 z7))) (ys:PySem.W.nsIn K zy "is" = some (some (Value.int 2 z8))) (yt:PySem.W.nsIn K zy "keeps" = some (some (Value.int 2 z9))) (yu:PySem.W.nsIn K zy "not" = some (some (Value.int 2 ya))) (yv:PySem.W.nsIn K zy "all" = some (some (Value.int 2 yb))) (yw:PySem.W.nsIn K zy "some" = some (some (Value.int 2 yc))) (yx:PySem.W.nsIn K zy "one" = some (some (Value.int 2 yd))) (yy:PySem.W.nsIn K zy "none" = some (some (Value.int 2 ye))) (yz:PySem.W.nsIn K zy "many" = some (some (Value.int 5 yf))) (y0:PySem.W.nsIn K zy "each" = some (some (Value.int 5 yg))) (y1:PySem.W.nsIn K zy "closed" = some (some (Value.int 2 yh)))
  {xi xda:Qz}
  {y2:Option Qz} {y3:ClassData} {y4 y5 y6 y7 y8:Option Qj} (xal:K.lookup excAt=some ⟨.type "type", y2,.cls y3,#[y4,y5,y6,y7,some (.builtin "ValueError.__new__"),y8]⟩) {xab:List Qj} (xam:y3.mro=.ref excAt :: xab) (xah:y3.hasDel=false) (xat:PySem.W.tailIn K bmV xab=true) (xan:PySem.W.nsOkIn K y3.ns=true) (xaj:PySem.W.nsIn K y3.ns "__init__" = some (some (.ref xi)))
  (y9:PySem.W.findIn K (.ref excAt) "__class__" = some (some (.builtin "object.__class__"))) (qa:PySem.W.findIn K (.ref excAt) "__getattribute__" = some (some (.builtin "BaseException.__getattribute__"))) (qb:PySem.W.findIn K (.ref excAt) "__getattr__" = some none)
  {qc:Option Qz} {qd:ClassData} {qe qf qg qh qi:Option Qj} (xbl:K.lookup xda=some ⟨.type "type", qc,.cls qd,#[qe,qf,qg,qh,some (.builtin "ValueError.__new__"),qi]⟩) {xbb:List Qj} (xbm:qd.mro=.ref xda :: xbb) (xbh:qd.hasDel=false) (xbt:PySem.W.tailIn K bmV xbb=true) (xbn:PySem.W.nsOkIn K qd.ns=true) (xbj:PySem.W.nsIn K qd.ns "__init__" = some none)
  (qj:PySem.W.findIn K (.ref xda) "__class__" = some (some (.builtin "object.__class__"))) (qk:PySem.W.findIn K (.ref xda) "__getattribute__" = some (some (.builtin "BaseException.__getattribute__"))) (ql:PySem.W.findIn K (.ref xda) "__getattr__" = some none)
  (gxa:PySem.W.nsIn K mainGlobals "NoForm" = some (some (.ref excAt))) (gxb:PySem.W.nsIn K mainGlobals "ShapeError" = some (some (.ref xda)))
  (sa:PySem.W.findIn K (.ref excAt) "__setattr__" = some (some (.builtin "object.__setattr__"))) (po:HS K excAt=true) (tk:PySem.W.takerIn K excAt cD=some none) (hd:PySem.W.hasDictIn K excAt=true) (sp:PySem.W.specialIn K (.ref xda) "__getattribute__" = some (some (.builtin "type.__getattribute__"))) (rd:PySem.W.readsIn K xda (.type "type")=true) (na:PySem.W.findIn K (.ref excAt) cD=some none) (fc:PySem.W.findCls K (.ref xda) (.type "type") "__init__" = some (.val (.builtin "ValueError.__init__"))) (kpx:PySem.W.keepIn K (.ref excAt)=true)
  {odI anI:Option Qz} {slI:Array (Option Qj)} {kVI dcI pmI cdI ctI:Qj} (lI:K.lookup xi=some ⟨.type "function", odI,.func (PySem.W.fnOf "__init__" "NoForm.__init__" (bJ d5) (aU d5) (ag d5) .none kVI dcI pmI anI cdI ctI),slI⟩) (cI:PySem.W.codeIn K cdI "NoForm.__init__" = true) (kI:PySem.W.keepIn K (.ref xi)=true)
  (mr:PySem.W.mroIn K excAt (.ref xda)=some true) (mv:PySem.W.mroIn K excAt (.type "ValueError")=some true)
  (Y:lg K excAt (some (.ref xi))->F5 K mg ycs)
  : ∃ t:Adr,(∀ (s:Qx) (u:Qj),BindsTo s (t.f 48).2 ⟨[u],[]⟩ [("_law_script", u)])/\Txt w K mg t:=by
 obtain ⟨f,hf⟩:=Nn D;obtain ⟨y,hy⟩:=LZ (Y ⟨⟨_,_,_,_,_,_,_,_,xal,xam,xah,xat,xan,xaj⟩,y9,qa,qb⟩)
 exact ⟨⟨f,(fm0,PySem.W.fnOf "__init__" "FormReader.__init__" (bJ bD) (aU bD) (ag bD) .none ve vf vg vb vh vi),(fm1,PySem.W.fnOf "shown" "FormReader.shown" (bJ ba) (aU ba) (ag ba) .none vn vo vp vk vq vr),(fm2,PySem.W.fnOf "taken" "FormReader.taken" (bJ bh) (aU bh) (ag bh) .none vw vx vy vt vz v0),(fm3,PySem.W.fnOf "skip" "FormReader.skip" (bJ bE) (aU bE) (ag bE) .none v5 v6 v7 v2 v8 v9),(xi,PySem.W.fnOf "__init__" "NoForm.__init__" (bJ d5) (aU d5) (ag d5) .none kVI dcI pmI anI cdI ctI),xda,y,zg,zq,zy,uw,uy,u0,u2,u4,u6,u8,za,zc,ze⟩,fun s u=>.of_eq ((hf 48 rfl).c [u] rfl),⟨hf,
  e8 (st:=bD) lm0 cm0 km0,
  (e8 (st:=bD) lm0 cm0 km0).binds (ps:=["self", "text"]) fun _ _ _ _ _ _ us hl=>match us,hl with | [_,_],_=>rfl,
  e8 (st:=ba) lm1 cm1 km1,
  (e8 (st:=ba) lm1 cm1 km1).binds (ps:=["self"]) fun _ _ _ _ _ _ us hl=>match us,hl with | [_],_=>rfl,
  ⟨am1,im1,km1⟩,
  e8 (st:=bh) lm2 cm2 km2,
  (e8 (st:=bh) lm2 cm2 km2).binds (ps:=["self", "value", "fits"]) fun _ _ _ _ _ _ us hl=>match us,hl with | [_,_,_],_=>rfl,
  ⟨am2,im2,km2⟩,
  e8 (st:=bE) lm3 cm3 km3,
  (e8 (st:=bE) lm3 cm3 km3).binds (ps:=["self", "token"]) fun _ _ _ _ _ _ us hl=>match us,hl with | [_,_],_=>rfl,
  ⟨am3,im3,km3⟩,
  ⟨ua,ub,uc,ud⟩,
  ⟨ue,am0,im0,uf⟩,
  OG X G C_g,
  ug,
  uh,
  ui,
  OO X G uj,
  OO X G uk,
  OO X G ul,
  OO X G um,
  OO X G un,
  OO X G uo,
  OO X G up,
  OO X G uq,
  OO X G ur,
  OO X G ut,
  OO X G uu,
  OO X G uv,
  OG X G ux,
  OG X G uz,
  OG X G u1,
  OG X G zz,
  OG X G u3,
  OG X G zh,
  OG X G u5,
  OG X G u7,
  OG X G u9,
  OG X G zb,
  OG X G zd,
  OG X G zf,
  OG X G zr,
  ⟨_,_,yi,yj,yk,Jz yl (fun p hp=>by unfold bx at hp;simp only [N9,Ox,O9] at hp;rcases hp with rfl | rfl | rfl | rfl | rfl | rfl | rfl | rfl | rfl | rfl | rfl | rfl | rfl | rfl | rfl | rfl <;> exact ⟨_,PySem.W.find_K yi (by assumption),_,rfl⟩)⟩,
  fun H=>Or.inr ⟨_,_,_,zp,rfl,rfl,(by show 4<=sizeLine;decide),(.cons ⟨_,rfl⟩ (.cons ⟨_,rfl⟩ (.cons ⟨_,rfl⟩ (.cons ⟨_,rfl⟩ .nil))))⟩,
  fun H=>Or.inr ⟨_,_,_,zx,rfl,rfl,(by show 2<=sizeLine;decide),(.cons ⟨_,rfl⟩ (.cons ⟨_,rfl⟩ .nil))⟩,
  ⟨⟨_,_,_,_,_,_,_,_,xal,xam,xah,xat,xan,xaj⟩,y9,qa,qb⟩,
  ⟨sa,po,tk,hd,sp,rd,na,fc⟩,
  OG X G gxa,
  kpx,
  e8 (st:=d5) lI cI kI,
  (e8 (st:=d5) lI cI kI).binds (ps:=["self", "at"]) fun _ _ _ _ _ _ us hl=>match us,hl with | [_,_],_=>rfl,
  ⟨_,lI,rfl⟩,
  ⟨⟨_,_,_,_,_,_,_,_,xbl,xbm,xbh,xbt,xbn,xbj⟩,qj,qk,ql⟩,
  OG X G gxb,
  mr,
  mv,
  hy⟩⟩
local macro_rules | `(tactic| walk_at "e")=>`(tactic| (case e9=>exact rfl))
local macro_rules | `(tactic| walk_at "p")=>`(tactic| first | with_reducible refine oK ?_ | walk_at "p0")
local macro_rules | `(tactic| walk_at "p0")=>`(tactic| first
 | (with_reducible first | refine Bf ?_ | refine Bx ?_ | refine BS ?_ | refine EA ?_ | refine BB ?_ | refine Hz ?_ | refine Bi ?_ | refine J6 ?_ | refine MR ?_ | refine E9 ?_ | refine Dg ?_ | refine wj ?_ | refine CT ?_)
 | ((with_reducible refine w_var (d:=?d9) ?e9 ?_);walk_at "e") | ((with_reducible refine Ez (d:=?d9) ?e9 ?_);walk_at "e") | ((with_reducible refine Hj (d:=?d9) ?e9 ?_);walk_at "e") | ((with_reducible refine HF (d:=?d9) ?e9 ?_);walk_at "e")
 | ((with_reducible refine KJ (d:=?d9) ?e9 ?_);walk_at "e") | ((with_reducible refine Jc (d:=?d9) ?e9 ?_);walk_at "e") | ((with_reducible refine Jl (d:=?d9) ?e9 ?_);walk_at "e")
 | (with_reducible first | refine A4 ?_ | refine GV ?_ | refine Ke ?_) | ((with_reducible refine FU (d:=?d9) ?e9 ?f9 ?_);walk_at "e"; (case f9=>exact rfl))
 | (with_reducible first | refine BM ?_ | refine E2 ?_ | refine JR ?_ | refine HA ?_ | refine Kc ?_ | refine F7 ?_ | refine EF ?_ | refine JP ?_ | refine Jx rfl ?_ | refine Lr ?_ | refine Js ?_ | refine w_and ?_ | refine w_or ?_ | refine w_not ?_ | refine Kp ?_ | refine MV ?_ | refine Nb ?_ | refine Nq ?_ | refine Nl ?_)
 | walk_at "q")
local macro_rules | `(tactic| walk_at "q0")=>`(tactic| first
 | ((with_reducible refine d7 ?e9 ?_);walk_at "e") | ((with_reducible refine cC ?e9 ?_);walk_at "e")
 | ((show WPr _ _ _ _);refine kPr rfl rfl ?_) | ((show WPr _ _ _ _);(refine kPr rfl (N4 ?c9) ?_);(case c9=>walk_at "c")) | ((show Eo _ _ _ _);refine kFi rfl rfl ?_) | ((show sW _ _ _);refine kFN rfl ?_) | ((show Gj _ _ _ _ _ _ _);refine kS1 rfl rfl ?_) | ((show Cc _ _ _ _ _ _);refine kS2 rfl rfl rfl ?_) | ((show Gm _ _ _ _ _ _);refine kM1 rfl rfl ?_) | ((show AM _ _ _ _ _);refine kM2 rfl rfl rfl ?_) | ((show WMr _ _ _ _ _);refine kMr rfl rfl rfl ?_) | ((show WTp _ _ _ _);refine kTp rfl (OP rfl) ?_) | ((show Es _ _ _ _);refine kAT rfl rfl ?_) | ((show Dk _ _ _ _);refine kAs rfl rfl ?_) | ((show su _ _ _ _);refine kAO rfl rfl ?_)
 | ((show WBo _ _);refine kBo ?_) | ((with_reducible refine ⟨_,rfl,?_⟩)))
local macro_rules | `(tactic| walk_at "pp")=>`(tactic| repeat walk_at "p")
local macro_rules | `(tactic| walk_at "c")=>`(tactic| first | exact rfl | assumption | (simp only [mulC,Pu,Ot,OQ] <;> omega))
local macro_rules | `(tactic| walk_at "pz")=>`(tactic| repeat walk_at "p0")
local macro_rules | `(tactic| walk_at "n=")=>`(tactic| ((try dsimp only [Cst.i,Cst.s,Cst.b,Cst.n,RV.av,aC,List.replicate_succ,List.replicate_zero,dJ,gr,CO,IJ,bq,gq,pV,List.set_cons_zero,List.set_cons_succ,List.getElem?_cons_zero,List.getElem?_cons_succ,List.map_cons,List.map_nil,List.tail_cons,Option.getD_some,decide_true,decide_false,List.drop_succ_cons,List.drop_zero]);exact rfl))
local macro_rules | `(tactic| walk_at "n")=>`(tactic| ((with_reducible first | refine GS (e':=?e9) ?h9 ?_ | refine C8 (e':=?e9) ?h9 ?_ | refine Fw (e':=?e9) ?h9 ?_ | refine NC (e':=?e9) ?h9 ?_ | refine Nw (e':=?e9) ?h9 ?_ | refine Nc (e':=?e9) ?h9 ?_ | refine NN (e':=?e9) ?h9 ?_ | refine M5 (e':=?e9) ?h9 ?_ | refine Iu (e':=?e9) ?h9 ?_ | refine C4 (e':=?e9) ?h9 ?_ | refine Kx (e':=?e9) ?h9 ?_ | refine Jg (e':=?e9) ?h9 ?_ | refine Kb (e':=?e9) ?h9 ?_ | refine FJ (e':=?e9) ?h9 ?_ | refine Fm (e':=?e9) ?h9 ?_ | refine DL (e':=?e9) ?h9 ?_ | refine F9 (e':=?e9) ?h9 ?_ | refine GQ (e':=?e9) ?h9 ?_ | refine Hh (e':=?e9) ?h9 ?_);(case h9=>walk_at "n=")))
local macro_rules | `(tactic| walk_at "P") => `(tactic| repeat walk_at "p")
local macro_rules | `(tactic| walk_at "N") => `(tactic| (walk_at "n";walk_at "P"))
local macro_rules | `(tactic| walk_at "soft")=>`(tactic| first | exact sH | exact i0 | exact Ko | assumption)
local macro_rules | `(tactic| walk_at "l")=>`(tactic| (rename_i h9;apply wc.out h9;clear h9;dsimp only [zZ];intros))
local macro_rules | `(tactic| walk_at "L1")=>`(tactic| first | exact (rfl:wc [] []) | refine ⟨_,?_,rfl⟩ | ((refine ⟨_,_,?s9,?_,rfl⟩);(case s9=>walk_at "soft")))
local macro_rules | `(tactic| walk_at "L")=>`(tactic| repeat walk_at "L1")
local macro_rules | `(tactic| walk_at "q")=>`(tactic| first | walk_at "q0" | ((show Lp _ _ _ _);refine kC1 rfl rfl rfl ?_) | ((show KO _ _ _ _ _);refine kC2 rfl rfl ?_) | ((show Dk _ _ _ _);(refine kAs rfl (pz rfl ?s9) ?_);(case s9=>walk_at "soft")) | ((show su _ _ _ _);(refine kAO rfl (pz rfl ?s9) ?_);(case s9=>walk_at "soft")))
local macro_rules | `(tactic| walk_at "f")=>`(tactic| ((refine CA ?h9 ?_);(case h9=>((refine pz rfl ?s9);(case s9=>walk_at "soft")));walk_at "n"))
local macro_rules | `(tactic| walk_at "ps1")=>`(tactic| ((fail_if_success (with_reducible refine isEq ?_));walk_at "p"))
local macro_rules | `(tactic| walk_at "ps")=>`(tactic| repeat walk_at "ps1")
variable {Q:PR->List Qq->Prop} {x w Z s t z y:Str} {d pn u:Qq} {n j k B fm a i dep c pl b:Nat} {TK T ns bs:List Str} {e e1:En} {fr up wk:Bool} {cs:List Int} {Ts:List (List Str)} {ts:List (List Nat)} {L r W:List Nat} {us ds:List Qq} {avs:List AV} {lo:Int} {f:Fn} {P hi:Option Int}
noncomputable def chB (c:Nat):Bool:=decide (97<=c)&&decide (c<=122)
def xJ (d:Qq) (k:Int):Bool:=match d with
 | .str x=>decide (k<=(x.length:Int))&&(decide ((x.length:Int)<=8)&&x.cps.toList.all chB)
 | _=>false
theorem NO (c:Nat):leS (Str.ofString "a") ⟨#[c]⟩=decide (97<=c):=by
 have e:(Str.ofString "a").cps.toList=[97]:=by decide +kernel
 unfold leS;rw [e];by_cases h:97<=c
 ·rw [NY h,N6]
  ·rfl
  ·intro z;have:c < 97:=by simpa [O2] using z
   lia
 ·rw [N6 h,NY]
  ·rfl
  ·simp [O2];lia
theorem NM (c:Nat):leS ⟨#[c]⟩ (Str.ofString "z")=decide (c<=122):=by
 have e:(Str.ofString "z").cps.toList=[122]:=by decide +kernel
 unfold leS;rw [e];by_cases h:c<=122
 ·rw [NY h,N6]
  ·rfl
  ·intro z;have:122 < c:=by simpa [O2] using z
   lia
 ·rw [N6 h,NY]
  ·rfl
  ·simp [O2];lia
theorem fL {k:Int} (q:Q (.dat (.bool (xJ (.str x) k))) []):WF bp [.str x,.int k] Q:=by
 refine dw rfl ?_;unfold fK;replace q:Q (.dat (.bool (decide (k<=(x.length:Int))&&(decide ((x.length:Int)<=8)&&x.cps.toList.all chB)))) []:=q;walk_at "P";refine fH (fun c1=>?_) (fun c1=>?_)
 ·have c1:decide (k<=(x.length:Int))=true:=c1;walk_at "P";rw [c1,O4] at q;refine fH (fun c2=>?_) (fun c2=>?_)
  ·have c2:(!decide ((x.length:Int)<=8))=true:=c2;have c2:decide ((x.length:Int)<=8)=false:=by simpa using c2
   walk_at "P";rw [c2] at q;exact q
  ·have c2:(!decide ((x.length:Int)<=8))=false:=c2;have c2:decide ((x.length:Int)<=8)=true:=by simpa using c2
   rw [c2,O4] at q;walk_at "P";refine fU (fun i ys ec=>ys=((x.cps.toList.take i).map chB).map .bool/\ec=[]) ⟨rfl,rfl⟩ ?_ ?_
   ·rintro i d ys ec hd ⟨rfl,rfl⟩;rw [Oj] at hd;obtain ⟨c,hc,rfl⟩:=Ou.mp hd;have e0:((x.cps.toList.take (i+1)).map chB).map PyData.bool=((x.cps.toList.take i).map chB).map PyData.bool++[.bool (chB c)]:=by rw [<- PU hc,Oo,Oo];rfl
    refine jN ?_;walk_at "P";have e1:=NO c;have e2:=NM c;refine fH (fun d1=>?_) (fun d1=>?_)
    ·have d1:leS (Str.ofString "a") ⟨#[c]⟩=true:=d1;walk_at "P";refine ⟨?_,rfl⟩;rw [e0];unfold chB;rw [<- e1,d1,<-e2];rfl
    ·have d1:leS (Str.ofString "a") ⟨#[c]⟩=false:=d1;walk_at "P";refine ⟨?_,rfl⟩;rw [e0];unfold chB;rw [<- e1,d1];rfl
   ·rintro ys ec ⟨rfl,rfl⟩;rw [NT,Pj];walk_at "N";refine w_all (bs:=x.cps.toList.map chB) rfl ?_;have e3:(x.cps.toList.map chB).all id=x.cps.toList.all chB:=by rw [List.all_map];rfl
    rw [e3];walk_at "P";exact q
 ·have c1:decide (k<=(x.length:Int))=false:=c1;walk_at "P";rw [c1] at q;exact q
theorem g7 (q:Q (.dat (.bool (xJ (.str x) 1))) []):WF bT [.str x] Q:=by
 refine dw rfl ?_;unfold kv;walk_at "P";refine aa (is:=[]) rfl rfl (fL ⟨rfl,?_⟩);walk_at "P";exact q
noncomputable def whB:Qq->Bool
 | .int _=>true
 | _=>false
theorem cL (hd:Ih d=false) (q:Q (.dat (.bool (whB d))) []):WF bR [d] Q:=by
 refine dw rfl ?_;unfold jG;cases d <;> first | (cases hd;done) | (walk_at "P"; exact q)
noncomputable def L4:Qq->Bool
 | .int i=>decide ((if i < 0 then -i else i)<=999999999999999999999999999999)
 | _=>false
def tK:Qq->Bool
 | .tuple [x]=>xJ x 0
 | _=>false
theorem sU (q:Q (.dat (.bool (tK (.tuple [.str x])))) []):WF fB [.tuple [.str x]] Q:=by
 refine dw rfl ?_;unfold kz;walk_at "P";refine aa (is:=[]) rfl rfl (fL ⟨rfl,?_⟩);walk_at "P";exact q
def sP (d:Qq):Bool:=xJ d 1||(L4 d||tK d)
open PySem.NumText in
theorem MH:∀ {l:List Nat},AllDigits l->(l.map Char.ofNat).map Char.toNat=l
 | [],_=>rfl
 | c :: l,h=>by
  have hc:=h.head;have e:(Char.ofNat c).toNat=c:=by
   have:∀ c,c < 58->(Char.ofNat c).toNat=c:=by decide
   exact this c (by lia)
  rw [List.map_cons,List.map_cons,e,MH h.tail]
noncomputable def codes (m:Nat):List Nat:=(Nat.toDigits 10 m).map Char.toNat
theorem dch:∀ d,d < 10->(Nat.digitChar d).toNat=48+d:=by decide
theorem cN (q:Nat):codes q=(if 9 < q then codes (q / 10) else [])++[48+q % 10]:=by
 by_cases h:9 < q
 ·rw [N4 h];have hm:q % 10 < 10:=Nat.mod_lt q (by decide);have t:Nat.toDigits 10 (q / 10)++Nat.toDigits 10 (q % 10)=Nat.toDigits 10 (10*(q / 10)+q % 10):=Nat.toDigits_append_toDigits (by decide) (by lia) hm;rw [Nat.div_add_mod] at t;unfold codes;rw [<- t,Oo,Nat.toDigits_of_lt_base hm];show _++[(Nat.digitChar (q % 10)).toNat]=_;rw [dch _ hm]
 ·rw [Od h];have hq:q < 10:=by lia
  unfold codes;rw [Nat.toDigits_of_lt_base hq];show [(Nat.digitChar q).toNat]=[48+q % 10];rw [dch _ hq,Nat.mod_eq_of_lt hq]
theorem oE:∀ (k m:Nat),m < 10 ^ (k+1)->(codes m).length<=k+1
 | 0,m,h=>by
  have h:m < 10:=h;rw [cN,Od (by lia)];exact Oc 1
 | k+1,m,h=>by
  rw [cN];by_cases h9:9 < m
  ·rw [N4 h9,NS];have hp:10 ^ (k+1+1)=10*10 ^ (k+1):=by rw [Nat.pow_succ,Nat.mul_comm]
   have:=oE k (m / 10) (by rw [hp] at h;lia);have:[48+m % 10].length=1:=rfl;lia
  ·rw [Od h9];show 1<=_;lia
theorem As (m:Nat):codes m≠[]:=by rw [cN];simp
open PySem.NumText in
theorem ji (m:Nat):AllDigits (codes m):=by
 induction m using Nat.strongRecOn with
 | _ m ih =>
  intro c hc;rw [cN] at hc;rcases Pf.mp hc with h | h
  ·split at h
   ·exact ih (m / 10) (by lia) c h
   ·simp at h
  ·have:c=48+m % 10:=by simpa using h
   lia
open PySem.NumText in
theorem vN (m:Nat):digitsVal (codes m)=m:=PySem.W.KIN.val_back m
open PySem.NumText in
theorem uN {f:List Nat} (h:AllDigits f):codes (digitsVal f)=(match f.dropWhile (·==48) with | []=>[48] | c :: r=>c :: r):=by
 unfold codes;rw [toDigits_all f h];have hs:AllDigits (f.dropWhile (·==48)):=fun c hc=>h c ((List.dropWhile_sublist _).mem hc);cases e:f.dropWhile (·==48) with
 | nil=>rfl
 | cons c r =>
  rw [e] at hs;exact MH hs
open PySem.NumText in
theorem sd {f:List Nat} (h:AllDigits f) (hne:f≠[]):codes (digitsVal f)=f↔(f.head?=some 48->f=[48]):=by
 rw [uN h];cases f with
 | nil=>exact absurd rfl hne
 | cons c r =>
  by_cases hc:c=48
  ·subst hc;rw [List.dropWhile_cons,N4 (show ((48:Nat)==48)=true from rfl)];constructor
   ·intro z _;have hl:=congrArg List.length z;have:=(List.dropWhile_sublist (l:=r) (·==48)).length_le;cases e:r.dropWhile (·==48) with
    | nil =>
     rw [e] at z;exact z.symm
    | cons c2 r2 =>
     rw [e] at hl this;have hl:(c2 :: r2).length=(48 :: r).length:=hl;rw [NV (a:=48)] at hl;lia
   ·intro z;have z:=z rfl;injection z with _ z;rw [z];rfl
  ·rw [List.dropWhile_cons,Od (by simpa using hc)];exact ⟨fun _ z=>absurd (by simpa using z) hc,fun _=>rfl⟩
theorem fC (m:Nat):(az (m:Int)).cps.toList=codes m:=PySem.W.KIN.signs_num m
theorem ij {m:Nat} (h:0 < m):(az (-(m:Int))).cps.toList=45 :: codes m:=by
 obtain ⟨k,rfl⟩:∃ k,m=k+1:=⟨m - 1,by lia⟩;unfold az;rw [PyProof.Rows.signs_ofString];show ("-" ++ Nat.repr (k+1)).toList.map Char.toNat=_;rw [String.toList_append,Oo,Nat.toList_repr];rfl
theorem fY (h:x.cps.toList=y.cps.toList):x=y:=by
 obtain ⟨⟨a⟩⟩:=x;obtain ⟨⟨b⟩⟩:=y;have h:a=b:=h;rw [h]
noncomputable def gO (x:Str):List Nat:=match x.cps.toList with | 45 :: r=>r | l=>l
noncomputable def isNeg (x:Str):Bool:=decide (x.cps.toList.head?=some 45)
noncomputable def cT (c:Nat):Bool:=decide (48<=c)&&decide (c<=57)
open PySem.NumText in
def uP (x:Str):Int:=if isNeg x=true then -(digitsVal (gO x):Int) else (digitsVal (gO x):Int)
def eR (x:Str):Bool:=decide (1<=(gO x).length)&&(decide ((gO x).length<=30)&&(gO x).all cT)
def sx (x:Str):Qq:=if eR x=true/\((gO x).head?=some 48->x.cps.toList=[48]) then .int (uP x) else .none
theorem kT (h:x.cps.toList=45 :: r):gO x=r:=by unfold gO;rw [h];rfl
theorem mX (h:x.cps.toList=45 :: r):isNeg x=true:=by unfold isNeg;rw [h];rfl
theorem dH (x:Str):(∃ r,x.cps.toList=45 :: r/\gO x=r/\isNeg x=true)\/(gO x=x.cps.toList/\isNeg x=false):=by
 cases e:x.cps.toList with
 | nil=>exact .inr ⟨by unfold gO;rw [e],by unfold isNeg;rw [e];rfl⟩
 | cons c r =>
  by_cases hc:c=45
  ·subst hc;exact .inl ⟨r,rfl,kT e,mX e⟩
  ·refine .inr ⟨?_,?_⟩
   ·unfold gO;rw [e];split
    ·rename_i r2 z;injection z with z _;exact absurd z hc
    ·rfl
   ·unfold isNeg;rw [e];exact N6 (by simpa using hc)
open PySem.NumText in
theorem gw (h:eR x=true):AllDigits (gO x)/\gO x≠[]/\(gO x).length<=30:=by
 unfold eR at h;simp only [Ot,OQ,O8] at h;refine ⟨fun c hc=>?_,fun z=>by rw [z] at h;simp at h,h.2.1⟩;have:=h.2.2 c hc;unfold cT at this;simpa using this
theorem HI (h:(gO x).length<=30):x.length<=31:=by
 rw [<- aw];rcases dH x with ⟨r,e,f,_⟩ | ⟨f,_⟩
 ·rw [e,NV,<-f];lia
 ·rw [<- f];lia
open PySem.NumText in
theorem vL (h:eR x=true):PySem.intText? x=some (uP x):=by
 obtain ⟨h1,h2,h3⟩:=gw h;have hl:=HI h3;unfold uP;rcases dH x with ⟨r,e,f,g⟩ | ⟨f,g⟩
 ·rw [g,N4 rfl,f];rw [f] at h1 h2;exact intText_neg e h1 h2 (by lia)
 ·rw [g,Od (by decide),f];rw [f] at h1 h2;exact intText_digits h1 h2 (by lia)
open PySem.NumText in
theorem Bv:∀ (n:Nat) (f:List Nat),f.length=n->AllDigits f->digitsVal f < 10 ^ n
 | 0,[],_,_=>by decide
 | n+1,f,hl,h=>by
  have hne:f≠[]:=by intro e;rw [e] at hl;simp at hl
  have e:=List.dropLast_concat_getLast hne;generalize f.dropLast=l at e;generalize f.getLast hne=c at e;subst e;have h1:AllDigits l:=fun d hd=>h d (PN _ hd);have hc:48<=c/\c<=57:=h c (Ol _ (Oh.mpr rfl));have:=Bv n l (by rw [NS,Ow] at hl;lia) h1;rw [digitsVal_snoc,Nat.pow_succ];lia
theorem DY (h:eR x=true):(uP x).natAbs < 10 ^ 30:=by
 obtain ⟨h1,h2,h3⟩:=gw h;have h4:=Ob (Bv _ _ rfl h1) (PL (by decide) h3);unfold uP;split <;> lia
open PySem.NumText in
theorem lM (h:eR x=true):az (uP x)=x↔((gO x).head?=some 48->x.cps.toList=[48]):=by
 obtain ⟨h1,h2,h3⟩:=gw h;have cb:=sd h1 h2;unfold uP;rcases dH x with ⟨r,e,f,g⟩ | ⟨f,g⟩
 ·rw [g,N4 rfl];rw [f] at cb ⊢;by_cases h0:digitsVal r=0
  ·rw [h0];constructor
   ·intro z;have z:=congrArg (fun z:Str=>z.cps.toList) z;have z:(az ((0:Nat):Int)).cps.toList=x.cps.toList:=z;rw [fC,e,cN] at z;injection z with z _;exact absurd z (by decide)
   ·intro z;have hh:r.head?=some 48:=by
     rw [f] at h2 h1;cases r with
     | nil=>exact absurd rfl h2
     | cons c r =>
      have hc:=h1.head;by_cases h49:49<=c
      ·have:=digitsVal_pos (cs:=r) h49;lia
      ·rw [List.head?_cons,show c=48 by lia]
    rw [e] at z;exact absurd (z hh) (by simp)
  ·constructor
   ·intro z;have z:=congrArg (fun z:Str=>z.cps.toList) z;have z:(az (-(digitsVal r:Int))).cps.toList=x.cps.toList:=z;rw [ij (by lia),e] at z;injection z with _ z;intro hh;have z2:=cb.mp z hh;rw [z2] at h0;exact absurd rfl h0
   ·intro z;refine fY ?_;rw [ij (by lia),e];congr 1;refine cb.mpr fun hh=>?_;rw [e] at z;exact absurd (z hh) (by simp)
 ·rw [g,Od (by decide)];rw [f] at cb ⊢;constructor
  ·intro z;have z:=congrArg (fun z:Str=>z.cps.toList) z;have z:(az (digitsVal x.cps.toList:Int)).cps.toList=x.cps.toList:=z;rw [fC] at z;exact cb.mp z
  ·intro z;refine fY ?_;rw [fC];exact cb.mpr z
def gi (x:Str):Qq:=match x.cps.toList with
 | []=>.none
 | c :: r=>if c=39 then (if r.length<=8/\r.all chB=true then .tuple [.str ⟨r.toArray⟩] else .none)
  else if chB c=true then (if r.length<=7/\r.all chB=true then .str x else .none) else sx x
theorem mn (x y:Str) (c:Nat) (hy:y.cps=#[c]):(decide (y.length<=x.length)&&Builtin.Str.subAt x y 0)=decide (x.cps.toList.head?=some c):=by
 obtain ⟨⟨l⟩⟩:=x;obtain ⟨yc⟩:=y;have hy:yc=#[c]:=hy;subst hy;cases l with
 | nil=>rfl
 | cons a l =>
  unfold Builtin.Str.subAt;have e1:decide ((⟨#[c]⟩:Str).length<=(⟨⟨a :: l⟩⟩:Str).length)=true:=NY (by show 1<=(a :: l).length;simp);rw [e1,O4];have e2:((⟨⟨a :: l⟩⟩:Str).cps.extract 0 (0+(⟨#[c]⟩:Str).length))=#[a]:=by
   show (⟨a :: l⟩:Array Nat).extract 0 1=#[a];simp
  rw [e2];show ((#[a]:Array Nat)==#[c])=decide (some a=some c);by_cases h:a=c
  ·subst h;simp
  ·rw [N6 (by simpa using h)];simp [h]
theorem Di {k:Int} (h:0<=k):(g9 x (some k) none).cps.toList=x.cps.toList.drop k.toNat:=by
 unfold g9;show List.take (x.length - HT.sIx x.length 0 (some k)) (List.drop (HT.sIx x.length 0 (some k)) x.cps.toList)=_;have e:HT.sIx x.length 0 (some k)=min k.toNat x.length:=by
  show (if k < 0 then (k+(x.length:Int)).toNat else min k.toNat x.length)=_;rw [Od (by lia)]
 rw [e,O6 (by rw [OR,aw];exact Oc _)];by_cases hk:k.toNat<=x.length
 ·rw [Nat.min_eq_left hk]
 ·rw [Nat.min_eq_right (by lia),List.drop_of_length_le (by rw [aw];exact Oc _),List.drop_of_length_le (by rw [aw];lia)]
theorem le_0 (c:Nat):leS (Str.ofString "0") ⟨#[c]⟩=decide (48<=c):=by
 have e:(Str.ofString "0").cps.toList=[48]:=by decide +kernel
 unfold leS;rw [e];by_cases h:48<=c
 ·rw [NY h,N6]
  ·rfl
  ·intro z;have:c < 48:=by simpa [O2] using z
   lia
 ·rw [N6 h,NY]
  ·rfl
  ·simp [O2];lia
theorem Nu (c:Nat):leS ⟨#[c]⟩ (Str.ofString "9")=decide (c<=57):=by
 have e:(Str.ofString "9").cps.toList=[57]:=by decide +kernel
 unfold leS;rw [e];by_cases h:c<=57
 ·rw [NY h,N6]
  ·rfl
  ·intro z;have:57 < c:=by simpa [O2] using z
   lia
 ·rw [N6 h,NY]
  ·rfl
  ·simp [O2];lia
theorem Hk {a:AV} {n:Int} {Q:RV->En->Prop} (h1:aK e [a]=some [.str x]) (h2:x.length<=640) (h3:PySem.intText? x=some n) (q:Q (.dat (.int n)) e):WPr mV [a] e Q :=
 ⟨_,.dat (.int n),h1,by show Ai (.str x)=_;unfold Ai;simp only [h2,PQ,h3,Option.map_some],q⟩
theorem nW (hx:x.length<=100) (q:Q (.dat (sx x)) []):WF cZ [.str x] Q:=by
 refine dw rfl ?_;unfold eM;walk_at "pz";with_reducible refine cV fun N eN=>?_
 have rest:∀ f:Str,f.cps.toList=gO x->N ([.dat (.str x),.dat (.str f),.un]:En):=by
  intro f hf;rw [eN];have hfl:(f.length:Int)=((gO x).length:Nat):=by rw [<- hf,aw]
  have no:eR x=false->Q (.dat .none) []:=fun z=>by
   have:sx x=.none:=by unfold sx;rw [Od (by rw [z];simp)]
   rw [this] at q;exact q
  walk_at "P";refine fH (fun c1=>?_) (fun c1=>?_)
  ·have c1:(1:Int)<=(f.length:Int):=OV c1;walk_at "P";refine fH (fun c2=>?_) (fun c2=>?_)
   ·have c2:(!decide ((f.length:Int)<=30))=true:=c2;have c2:¬(f.length:Int)<=30:=by simpa using c2
    walk_at "P";refine no ?_;unfold eR;rw [N6 (p:=(gO x).length<=30) (by lia)];simp
   ·have c2:(!decide ((f.length:Int)<=30))=false:=c2;have c2:(f.length:Int)<=30:=by simpa using c2
    walk_at "P";refine fU (fun i ys ec=>ys=((f.cps.toList.take i).map cT).map .bool/\ec=[]) ⟨rfl,rfl⟩ ?_ ?_
    ·rintro i d ys ec hd ⟨rfl,rfl⟩;rw [Oj] at hd;obtain ⟨c,hc,rfl⟩:=Ou.mp hd;have e0:((f.cps.toList.take (i+1)).map cT).map PyData.bool=((f.cps.toList.take i).map cT).map PyData.bool++[.bool (cT c)]:=by rw [<- PU hc,Oo,Oo];rfl
     refine jN ?_;walk_at "P";have e1:=le_0 c;have e2:=Nu c;refine fH (fun d1=>?_) (fun d1=>?_)
     ·have d1:leS (Str.ofString "0") ⟨#[c]⟩=true:=d1;walk_at "P";refine ⟨?_,rfl⟩;rw [e0];unfold cT;rw [<- e1,d1,<-e2];rfl
     ·have d1:leS (Str.ofString "0") ⟨#[c]⟩=false:=d1;walk_at "P";refine ⟨?_,rfl⟩;rw [e0];unfold cT;rw [<- e1,d1];rfl
    ·rintro ys ec ⟨rfl,rfl⟩;rw [NT,Pj];walk_at "N";refine w_all (bs:=f.cps.toList.map cT) rfl ?_;have e3:(f.cps.toList.map cT).all id=(gO x).all cT:=by rw [List.all_map,hf];rfl
     rw [e3];have fk:eR x=(gO x).all cT:=by
      unfold eR;rw [NY (p:=1<=(gO x).length) (by lia),NY (p:=(gO x).length<=30) (by lia),O4,O4]
     rw [<- fk];walk_at "P";refine fH (fun c3=>?_) (fun c3=>?_)
     ·have c3:(!eR x)=true:=c3;walk_at "P";exact no (by simpa using c3)
     ·have c3:(!eR x)=false:=c3;have c3:eR x=true:=by simpa using c3
      walk_at "P";refine Hk rfl (by lia) (vL c3) ?_;walk_at "P";refine iF rfl (Ob (DY c3) (PL (by decide) (by decide))) ?_;walk_at "P";rw [Ee];by_cases hs:az (uP x)=x
      ·refine d7 (NY hs) ?_;walk_at "P";have:sx x=.int (uP x):=by unfold sx;rw [N4 ⟨c3,(lM c3).mp hs⟩]
       rw [this] at q;exact q
      ·refine cC (N6 hs) ?_;walk_at "P";have:sx x=.none:=by unfold sx;rw [Od fun z=>hs ((lM c3).mpr z.2)]
       rw [this] at q;exact q
  ·have c1:¬(1:Int)<=(f.length:Int):=Pd c1;walk_at "P";refine no ?_;unfold eR;rw [N6 (p:=1<=(gO x).length) (by lia)];rfl
 walk_at "P";refine fH (fun c1=>?_) (fun c1=>?_)
 ·have c1:=(mn x (Str.ofString "-") 45 rfl).symm.trans c1;have c1:x.cps.toList.head?=some 45:=OV c1;walk_at "P";refine rest _ ?_;rw [Di (by decide)];cases e:x.cps.toList with
  | nil=>rw [e] at c1;cases c1
  | cons a r =>
   rw [e] at c1;cases c1;rw [kT e];rfl
 ·have c1:=(mn x (Str.ofString "-") 45 rfl).symm.trans c1;have c1:¬x.cps.toList.head?=some 45:=Pd c1;walk_at "P";refine rest _ ?_;rcases dH x with ⟨r,e,_⟩ | ⟨f,_⟩
  ·rw [e] at c1;exact absurd rfl c1
  ·exact f.symm
theorem kR (h:x.cps.toList=39 :: r):gi x=if r.length<=8/\r.all chB=true then .tuple [.str ⟨r.toArray⟩] else .none:=by
 unfold gi;rw [h];show (if (39:Nat)=39 then _ else _)=_;rw [N4 rfl]
theorem DH (h:x.cps.toList=c :: r) (hc:chB c=true):sx x=.none:=by
 have hc:97<=c/\c<=122:=by unfold chB at hc;simpa using hc
 unfold sx;refine Od fun z=>?_;obtain ⟨h1,_,_⟩:=gw z.1;rcases dH x with ⟨r2,e,_⟩ | ⟨f,_⟩
 ·rw [h] at e;injection e with e _;lia
 ·have:=h1 c (by rw [f,h];exact N5);lia
theorem nh (h:xJ (.str x) 1=true):gi x=.str x:=by
 have h:(decide ((1:Int)<=(x.length:Int))&&(decide ((x.length:Int)<=8)&&x.cps.toList.all chB))=true:=h;simp only [Ot,OQ] at h;obtain ⟨h1,h2,h3⟩:=h;have hl:=aw x;cases e:x.cps.toList with
 | nil=>rw [e] at hl;simp at hl;lia
 | cons c r =>
  rw [e] at hl h3;rw [List.all_cons,Ot] at h3;rw [NV] at hl;have hc:97<=c/\c<=122:=by have:=h3.1;unfold chB at this;simpa using this
  unfold gi;rw [e];show (if c=39 then _ else if chB c=true then _ else _)=_;rw [Od (by lia),N4 h3.1,N4 ⟨by lia,h3.2⟩]
theorem oR (h0:x.cps.toList.head?≠some 39) (h:xJ (.str x) 1=false):gi x=sx x:=by
 have h:(decide ((1:Int)<=(x.length:Int))&&(decide ((x.length:Int)<=8)&&x.cps.toList.all chB))=false:=h;have hl:=aw x;cases e:x.cps.toList with
 | nil =>
  have f0:gO x=[]:=by unfold gO;rw [e]
  unfold gi sx eR;rw [e,f0];rfl
 | cons c r =>
  rw [e] at hl h h0;rw [NV] at hl;have hne:c≠39:=fun z=>h0 (by rw [z];rfl);by_cases hc:chB c=true
  ·rw [DH e hc];unfold gi;rw [e];show (if c=39 then _ else if chB c=true then _ else _)=_;rw [Od hne,N4 hc];refine Od fun z=>?_;rw [List.all_cons,hc,z.2,NY (by lia),NY (by lia)] at h;exact absurd h (by decide)
  ·unfold gi;rw [e];show (if c=39 then _ else if chB c=true then _ else _)=_;rw [Od hne,Od hc]
theorem fA (hx:x.length<=100) (q:Q (.dat (gi x)) []):WF bo [.str x] Q:=by
 refine dw rfl ?_;unfold kq;walk_at "P";refine fH (fun c1=>?_) (fun c1=>?_)
 ·have c1:=(mn x (Str.ofString "'") 39 rfl).symm.trans c1;have c1:x.cps.toList.head?=some 39:=OV c1;obtain ⟨r,e⟩:∃ r,x.cps.toList=39 :: r:=by
   cases e:x.cps.toList with
   | nil=>rw [e] at c1;cases c1
   | cons a r=>rw [e] at c1;cases c1;exact ⟨r,rfl⟩
  have ec:(g9 x (some 1) none).cps.toList=r:=by
   rw [Di (by decide),e];rfl
  have ec2:g9 x (some 1) none=⟨r.toArray⟩:=fY ec;rw [kR e] at q;walk_at "P";rw [ec2];refine aa (ds:=[.tuple [.str ⟨r.toArray⟩]]) (is:=[]) rfl rfl (sU ⟨rfl,?_⟩);have eb:tK (.tuple [.str ⟨r.toArray⟩])=decide (r.length<=8/\r.all chB=true):=by
   have e0:tK (.tuple [.str ⟨r.toArray⟩])=(decide ((0:Int)<=((⟨r.toArray⟩:Str).length:Int))&&(decide (((⟨r.toArray⟩:Str).length:Int)<=8)&&(⟨r.toArray⟩:Str).cps.toList.all chB)):=rfl;have l1:(⟨r.toArray⟩:Str).length=r.length:=by rw [<- aw]
   rw [e0,l1,NY (p:=(0:Int)<=(r.length:Int)) (by lia),O4];show (decide ((r.length:Int)<=8)&&r.all chB)=_;by_cases h8:r.length<=8
   ·rw [NY (by lia),O4];cases h9:r.all chB <;> simp [h8]
   ·rw [N6 (by lia),N6 (fun z=>h8 z.1)];rfl
  rw [eb];walk_at "P";refine fH (fun c2=>?_) (fun c2=>?_)
  ·walk_at "P";rw [N4 (OV c2)] at q;exact q
  ·walk_at "P";rw [Od (Pd c2)] at q;exact q
 ·have c1:=(mn x (Str.ofString "'") 39 rfl).symm.trans c1;have c1:¬x.cps.toList.head?=some 39:=Pd c1;walk_at "P";refine aa (ds:=[.str x]) (is:=[]) rfl rfl (g7 ⟨rfl,?_⟩);walk_at "P";refine fH (fun c2=>?_) (fun c2=>?_)
  ·walk_at "P";rw [nh c2] at q;exact q
  ·walk_at "P";rw [oR c1 c2] at q;refine aa (ds:=[.str x]) (is:=[]) rfl rfl (nW hx ⟨rfl,?_⟩);walk_at "P";exact q
theorem ly {a b:Int} (h:PyData.eqv (.int a) (.int b)=true):a=b:=by simpa [PyData.eqv] using h
noncomputable def Ei (cs:List Int) (p l:Int):Qq:=.list [.list (cs.map .int),.int p,.int l]
theorem M9 {p:Int} (h:0 < cs.length):∃ c,atI (cs.map PyData.int) (p % (((cs.map PyData.int).length:Nat):Int))=some (.int c):=by
 have hn:(((cs.map PyData.int).length:Nat):Int)=cs.length:=by rw [NT]
 rw [hn];have hj0:=Int.emod_nonneg p (by lia:(cs.length:Int)≠0);have hj1:=Int.emod_lt_of_pos p (by lia:(0:Int) < cs.length);obtain ⟨v,hv,ev⟩:=atV (xs:=cs.map PyData.int) hj0 (by rw [NT];exact hj1);obtain ⟨c,_,rfl⟩:=OE.mp hv;exact ⟨c,ev⟩
theorem FK {ns:List Int} (q:Q (.frs (Ei ns 0 0)) []):WF qG [.list (ns.map .int)] Q:=⟨_,_,rfl,q⟩
theorem CF {p l m:Int} (hp:0<=p) (hb:p < 2 ^ 60) (hl:0<=l) (h0:0 < m) (hm:m < 2 ^ 200) (q:∀ v p' l',0<=v->v < m->0<=p'->p'<=p+1->0<=l'->Q (.dat (.int v)) [Ei cs p' l']):WF ah [Ei cs p l,.int m] Q:=by
 refine dw rfl ?_;have m0:∀ x:Int,0<=x % m/\x % m < m:=fun x=>⟨Int.emod_nonneg _ (by lia),Int.emod_lt_of_pos _ h0⟩;have d0:∀ x:Int,0<=x->0<=x / m:=fun x h=>Int.ediv_nonneg h (Int.le_of_lt h0);have fin:∀ c:Int,0<=(if c < 0 then -c else c):=fun c=>by split <;> lia
 unfold uG;walk_at "P";refine fH (fun e0=>?_) (fun e0=>?_)
 ·walk_at "P";exact q _ _ _ (m0 l).1 (m0 l).2 hp (by lia) (d0 l hl)
 ·walk_at "P";refine fH (fun e1=>?_) (fun e1=>?_)
  ·have h1:(0:Int) < (((cs.map PyData.int).length:Nat):Int):=OV e1;obtain ⟨c,hc⟩:=M9 (cs:=cs) (p:=p) (by rw [NT] at h1;lia);walk_at "P";refine gf rfl hc ?_;clear hc;walk_at "P";refine fH (fun e2=>?_) (fun e2=>?_)
   ·walk_at "P";refine fH (fun e3=>?_) (fun e3=>?_)
    ·walk_at "P";exact q _ _ _ (m0 _).1 (m0 _).2 (by lia) (by lia) (d0 _ (fin c))
    ·walk_at "P";exact q _ _ _ (m0 _).1 (m0 _).2 (by lia) (by lia) hl
   ·walk_at "P";exact q _ _ _ (m0 _).1 (m0 _).2 (by lia) (by lia) hl
  ·walk_at "P";refine fH (fun e2=>?_) (fun e2=>?_)
   ·walk_at "P";exact q _ _ _ (m0 _).1 (m0 _).2 (by lia) (by lia) hl
   ·walk_at "P";exact q _ _ _ (m0 _).1 (m0 _).2 (by lia) (by lia) hl
def aO (cs:List Int) (k:Nat) (d:Qq):Prop:=∃ p l:Int,d=Ei cs p l/\0<=p/\p+k<=2 ^ 59/\0<=l
theorem aO.dn {R:Nat} (h:aO cs (R+k) d):aO cs R d:=by
 obtain ⟨p,l,e,a,b,c⟩:=h;exact ⟨p,l,e,a,by lia,c⟩
theorem i3 {m:Int} {Q:RV->En->Prop} (hi:aR e1 i=some pn) (hP:aO cs (k+1) pn) (h0:0 < m) (hm:m < 2 ^ 200) (q:∀ v pn',aO cs k pn'->0<=v->v < m->Q (.dat (.int v)) (gr e1 i pn')):lT ah [.bor i,.dat (.int m)] e1 Q:=by
 obtain ⟨p,l,rfl,hp,hb',hl⟩:=hP;refine aa (ds:=[Ei cs p l,.int m]) (is:=[i]) ?_ rfl (CF hp (by lia) hl h0 hm fun v p' l' a b c d e=>⟨?_,q v _ ⟨p',l',rfl,c,by lia,e⟩ a b⟩)
 ·show iu e1 [.ino,.dat] _=_;simp only [iu,Lk,hi]
 ·rfl
local macro_rules | `(tactic| walk_at "d")=>`(tactic| ((repeat walk_at "p");(refine i3 (cs:=?c9) (k:=?b9) (pn:=?n9) (m:=?m9) (hi:=?hi9) (hP:=?hP9) ?h09 ?hm9 ?_);(case hi9=>exact rfl);(case hP9=>assumption);(case h09=>first | decide | omega);(case hm9=>first | decide | omega)))
abbrev abc:Str := "abcdefghijklmnopqrstuvwxyz"
abbrev wds:List Qq:=[.str "any", .str "all", .str "keeps", .str "is", .str "many", .str "each", .str "not", .str "closed"]
abbrev wdS:List Str:=["any", "all", "keeps", "is", "many", "each", "not", "closed"]
def Ltr (x:Str):Prop:=∀ c∈x.cps.toList,97<=c/\c<=122
theorem aJ (x y:Str):(x++y).length=x.length+y.length:=jF x y
theorem br (x y:Str):(x++y).cps.toList=x.cps.toList++y.cps.toList:=by
 show (x.cps++y.cps).toList=_;simp
theorem d8 (c:Nat):(⟨#[c]⟩:Str).length=1:=rfl
theorem kZ (hx:Ltr x) (hy:Ltr y):Ltr (x++y):=fun c hc=>by
 rw [br] at hc;rcases Pf.mp hc with h | h
 ·exact hx c h
 ·exact hy c h
theorem EC:∀ n < 26,abc.cps.toList[n]?=some (97+n):=by decide +kernel
theorem uW {r:Int} (h0:0<=r) (h1:r < 26):atI abc.cps.toList r=some (97+r.toNat):=by
 have:=cz (xs:=abc.cps.toList) (j:=r.toNat) (EC r.toNat (by lia))
 rwa [Int.toNat_of_nonneg h0] at this
theorem Ij {r:Int} (h0:0<=r) (h1:r < 26):Ltr ⟨#[97+r.toNat]⟩:=fun c hc=>by
 have:c=97+r.toNat:=by simpa using hc
 lia
theorem wt {k:Int} (h:Ltr x) (h1:k<=x.length) (h2:x.length<=8):xJ (.str x) k=true:=by
 show (decide (k<=(x.length:Int))&&(decide ((x.length:Int)<=8)&&x.cps.toList.all chB))=true;rw [NY h1,NY (by lia),O4,O4,O8];intro c hc;have:=h c hc;unfold chB;rw [NY this.1,NY this.2];rfl
theorem tF {k:Int} (h:0<=k):(g9 x none (some k)).cps.toList=x.cps.toList.take k.toNat:=by
 have:=k7 (xs:=x.cps.toList) h;unfold L2.cutD at this;rw [aw] at this;unfold g9;simpa using this
theorem FX {j k:Int} (hj:0<=j) (hk:0<=k):(g9 x (some j) (some k)).cps.toList=(x.cps.toList.take k.toNat).drop j.toNat:=by
 unfold g9;have e1:HT.sIx x.length 0 (some j)=min j.toNat x.length:=by
  simp only [HT.sIx];rw [Od (by lia)]
 have e2:HT.sIx x.length x.length (some k)=min k.toNat x.length:=by
  simp only [HT.sIx];rw [Od (by lia)]
 rw [e1,e2];show (((x.cps.toList.drop (min j.toNat x.length)).take (min k.toNat x.length - min j.toNat x.length)).toArray).toList=_;apply List.ext_getElem?;intro i;have hn:=aw x;simp only [List.getElem?_take,List.getElem?_drop];by_cases h1:i < min k.toNat x.length - min j.toNat x.length
 ·rw [N4 h1,N4 (by lia)];congr 1;lia
 ·rw [Od h1];by_cases h2:j.toNat+i < k.toNat
  ·rw [N4 h2,PF (by rw [hn];lia)]
  ·rw [Od h2]
theorem pY (h:Ltr x) (hs:∀ c∈y.cps.toList,c∈x.cps.toList):Ltr y:=fun c hc=>h c (hs c hc)
theorem uR:∀ w∈wdS,2<=w.length/\w.length<=6/\Ltr w:=by unfold Ltr;decide +kernel
theorem GA {k:Int} (h0:0<=k) (h1:k < 8):∃ w,wdS[k.toNat]?=some w/\atI wds k=some (.str w):=by
 have hk:k.toNat < wdS.length:=by show k.toNat < 8;lia
 refine ⟨wdS[k.toNat],N7 hk,?_⟩;have:wds[k.toNat]?=some (.str wdS[k.toNat]):=by
  show (wdS.map PyData.str)[k.toNat]?=_;rw [Oj,N7 hk];rfl
 have:=cz this
 rwa [Int.toNat_of_nonneg h0] at this
theorem A9:∀ i < 8,∀ j < 8,wdS[i]?=wdS[j]?->i=j:=by decide +kernel
def NmK (bs:Str) (wy tn at_ sz:Int) (k:Nat) (x:Str):Prop :=
 (wy=0/\x=g9 bs none (some ((tn+3*k) % 8+1)))\/(wy=1/\wdS[((tn+k) % 8).toNat]?=some x) \/
 (wy=2/\∃ w,wdS[k % 8]?=some w/\x=w++⟨#[97+((tn+5*k) % 26).toNat]⟩) \/
 (x=g9 bs none (some at_)++⟨#[97+((tn+5*k) % 26).toNat]⟩++g9 bs (some (at_+1)) (some sz)/\wy≠0/\wy≠1/\wy≠2)
theorem Dh {bs:Str} {wy tn at_ sz:Int} (h:NmK bs wy tn at_ sz k x) (hb:Ltr bs) (hl:bs.length=8) (ha:0<=at_) (has:at_ < sz) (hz:sz<=8):Ltr x/\1<=x.length/\x.length<=8:=by
 have hn:=aw bs;rcases h with ⟨_,rfl⟩ | ⟨_,h⟩ | ⟨_,w,h,rfl⟩ | ⟨rfl,_⟩
 ·have e:=tF (x:=bs) (k:=(tn+3*k) % 8+1) (by lia);have el:(g9 bs none (some ((tn+3*k) % 8+1))).length=min ((tn+3*k) % 8+1).toNat 8:=by rw [<- aw,e,OB,hn,hl]
  exact ⟨pY hb fun c hc=>by rw [e] at hc;exact Pb hc,by rw [el];lia,by rw [el];lia⟩
 ·obtain ⟨a,b,c⟩:=uR x (Ov h);exact ⟨c,by lia,by lia⟩
 ·obtain ⟨a,b,c⟩:=uR w (Ov h);exact ⟨kZ c (Ij (by lia) (by lia)),by rw [aJ,d8];lia,by rw [aJ,d8];lia⟩
 ·have e1:=tF (x:=bs) ha;have e2:=FX (x:=bs) (j:=at_+1) (k:=sz) (by lia) (by lia);have l1:(g9 bs none (some at_)).length=at_.toNat:=by rw [<- aw,e1,OB,hn,hl];lia
  have l2:(g9 bs (some (at_+1)) (some sz)).length=sz.toNat - (at_+1).toNat:=by rw [<- aw,e2,OR,OB,hn,hl];lia
  refine ⟨kZ (kZ (pY hb fun c hc=>?_) (Ij (by lia) (by lia))) (pY hb fun c hc=>?_),?_,?_⟩
  ·rw [e1] at hc;exact Pb hc
  ·rw [e2] at hc;exact Pb (List.mem_of_mem_drop hc)
  ·rw [aJ,aJ,d8];lia
  ·rw [aJ,aJ,d8,l1,l2];lia
theorem pU {a b:Str} (h:x++a=y++b) (hl:a.length=b.length):x=y/\a=b:=by
 have e:x.cps.toList++a.cps.toList=y.cps.toList++b.cps.toList:=by rw [<- br,<-br,h]
 have hll:a.cps.toList.length=b.cps.toList.length:=by rw [aw,aw,hl]
 obtain ⟨e1,e2⟩:=List.append_inj' e hll;constructor
 ·cases x;cases y;simp only [Str.mk.injEq];exact Array.toList_inj.mp e1
 ·cases a;cases b;simp only [Str.mk.injEq];exact Array.toList_inj.mp e2
theorem one_inj (h:(⟨#[a]⟩:Str)=⟨#[b]⟩):a=b:=by
 injection h with h;simpa using h
theorem Dt {bs:Str} {wy tn at_ sz:Int} (h:NmK bs wy tn at_ sz i x) (h':NmK bs wy tn at_ sz j x) (hl:bs.length=8) (hi:i < 12) (hj:j < 12) (hs:wy=0\/wy=1->i < 8/\j < 8):i=j:=by
 have hn:=aw bs;rcases h with ⟨z1,rfl⟩ | ⟨z1,h⟩ | ⟨z1,w,h,rfl⟩ | ⟨rfl,y0,y1,y2⟩
 ·rcases h' with ⟨_,h'⟩ | ⟨z,_⟩ | ⟨z,_⟩ | ⟨_,z,_⟩
  ·have e:=congrArg (fun s:Str=>s.cps.toList.length) h';rw [tF (by lia),tF (by lia),OB,OB,hn,hl] at e;have:=hs (.inl z1);lia
  ·lia
  ·lia
  ·exact absurd z1 z
 ·rcases h' with ⟨z,_⟩ | ⟨_,h'⟩ | ⟨z,_⟩ | ⟨_,_,z,_⟩
  ·lia
  ·have:=A9 _ (by lia) _ (by lia) (h.trans h'.symm);have:=hs (.inr z1);lia
  ·lia
  ·exact absurd z1 z
 ·rcases h' with ⟨z,_⟩ | ⟨z,_⟩ | ⟨_,w',h',e⟩ | ⟨_,_,_,z⟩
  ·lia
  ·lia
  ·obtain ⟨e1,e2⟩:=pU e rfl;subst e1;have a1:=A9 _ (by omega) _ (by omega) (h.trans h'.symm);have a2:=one_inj e2;omega
  ·exact absurd z1 z
 ·rcases h' with ⟨z,_⟩ | ⟨z,_⟩ | ⟨z,_⟩ | ⟨e,_⟩
  ·exact absurd z y0
  ·exact absurd z y1
  ·exact absurd z y2
  ·obtain ⟨e1,_⟩:=pU e rfl;obtain ⟨_,e2⟩:=pU e1 rfl;have a2:=one_inj e2;omega
theorem foldl_nil:∀ (ps:List Str) (acc:Array Nat),(ps.foldl (fun acc p=>acc++(Str.ofString "").cps++p.cps) acc).toList=acc.toList++ps.flatMap fun s=>s.cps.toList
 | [],acc=>by simp
 | p :: ps,acc=>by
  rw [Qa,foldl_nil ps,List.flatMap_cons];have e:(Str.ofString "").cps=#[]:=by decide +kernel
  rw [e];simp
theorem nS (ss:List Str):(PySem.Txt.join "" ss).cps.toList=ss.flatMap fun s=>s.cps.toList:=by
 cases ss with
 | nil=>rfl
 | cons x r =>
  show (r.foldl (fun acc p=>acc++(Str.ofString "").cps++p.cps) x.cps).toList=_;rw [foldl_nil,List.flatMap_cons]
def Nm (x:Str):Prop:=xJ (.str x) 1=true/\x.length<=8
theorem Aw {R:Nat} (hP:aO cs (R+12) pn) (q:∀ (xs:List Str) pn',aO cs R pn'->xs.length=6->xs.Nodup->(∀ x∈xs,Nm x)->Q (.frs (.list (xs.map .str))) [pn']):WF ja [pn,.int 6] Q:=by
 refine dw rfl ?_;unfold rV;walk_at "P";refine ⟨⟨by lia,by lia⟩,?_⟩;refine fU (fun i ys ec=>∃ (ss:List Str) (pn':Qq),ys=ss.map .str/\ss.length=i/\(∀ s∈ss,s.length=1/\Ltr s)/\aO cs (R+4+(8 - i)) pn'/\ec=[.dat (.str abc),.ino pn']) ⟨[],pn,rfl,rfl,fun s h=>(by cases h),hP,rfl⟩ ?_ ?_
 ·rintro i d ys ec hd ⟨ss,pn',rfl,hsl,h1,hP',rfl⟩;obtain ⟨rfl,hi⟩:=gh hd;have hi:i < 8:=hi;obtain ⟨j,ej⟩:∃ j,8 - i=j+1:=⟨7 - i,by lia⟩;rw [ej] at hP';refine jN ?_;walk_at "d";intro v pn4 hP4 v0 v1;walk_at "N";refine fD rfl (uW v0 v1) ?_;exact ⟨_,rfl,ss++[⟨#[97+v.toNat]⟩],pn4,by simp,by rw [NS,hsl];rfl,Ac h1 ⟨rfl,Ij v0 v1⟩,by rw [show 8 - (i+1)=j by lia];exact hP4,rfl⟩
 rintro ys ec ⟨ss,pn1,rfl,hsl,h1,hP1,rfl⟩;rw [jq] at hsl hP1;replace hsl:ss.length=8:=hsl;replace hP1:aO cs (R+4) pn1:=hP1;walk_at "N";have hs:=Bm (k:=1) (ss:=ss) fun s h=>by have:=(h1 s h).1;lia
 have hjo:eD "" ss=true:=by simp only [eD,OQ];have e0:(Str.ofString "").length=0:=(by decide);rw [e0];lia
 refine BP (ss:=ss) rfl rfl hjo ?_;have hj:(Txt.join "" ss).cps.toList=ss.flatMap fun s=>s.cps.toList:=nS ss;have hjl:(Txt.join "" ss).length=8:=by
  rw [<- aw,hj,<-hsl];clear hj hjo hs hsl hP1;induction ss with
  | nil=>rfl
  | cons s r ih =>
   rw [List.flatMap_cons,NS,ih fun x hx=>h1 x (NZ _ hx),aw,(h1 s N5).1,NV];lia
 have hjL:Ltr (Txt.join "" ss):=fun c hc=>by
  rw [hj] at hc;obtain ⟨s,hs,hc⟩:=List.mem_flatMap.mp hc;exact (h1 s hs).2 c hc
 clear hj;generalize Txt.join "" ss=bs at hjl hjL;walk_at "n";walk_at "d";intro wy pn2 hP2 wy0 wy1;walk_at "n";walk_at "d";intro sz pn3 hP3 sz0 sz1;walk_at "n";walk_at "d";intro at_ pn4 hP4 at0' at1;walk_at "n";walk_at "d";intro tn pn5 hP5 tn0 tn1;walk_at "N";refine ⟨⟨by lia,by lia⟩,?_⟩;have fins:∀ (xs:List Str),xs.length=6->(∀ k x,xs[k]?=some x->NmK bs (wy) tn at_ (1+sz) k x)->xs.Nodup/\∀ x∈xs,Nm x:=by
  intro xs hxl hx;constructor
  ·refine List.pairwise_iff_getElem.mpr fun i j hi hj hij e=>?_;have a:=hx i _ (N7 hi);have b:=hx j _ (N7 hj);rw [e] at a;have:=Dt a b hjl (by lia) (by lia) fun _=>by lia
   lia
  ·intro x hm';obtain ⟨k,hk⟩:=List.mem_iff_getElem?.mp hm';obtain ⟨a,b,c⟩:=Dh (hx k x hk) hjL hjl at0' at1 (by lia);exact ⟨wt a (by lia) c,c⟩
 refine iz (fun i e=>∃ (xs:List Str),xs.length=i/\(∀ k x,xs[k]?=some x->NmK bs (wy) tn at_ (1+sz) k x)/\wc [some (.ino pn5),some (.dat (.int 6)),some (.dat (.str abc)),some (.dat (.str bs)),some (.dat (.list wds)),some (.dat (.int wy)),some (.dat (.int (1+sz))),some (.dat (.int at_)),some (.dat (.int tn)),some (.own (.list (xs.map .str))),none,none] e) ⟨[],rfl,fun k x h=>by simp at h,by walk_at "L"⟩ ?_ ?_
 ·rintro i d e hd ⟨xs,hxl,hx,_⟩;walk_at "l";obtain ⟨rfl,hi⟩:=gh hd;walk_at "f";walk_at "P";refine fD rfl (uW (r:=(tn+5*i) % 26) (by lia) (by lia)) ?_;walk_at "n";have hxz:(xs.map PyData.str).length < sizeLine:=by rw [NT,hxl];show i < 2 ^ 24;lia
  have snoc:∀ y:Str,NmK bs (wy) tn at_ (1+sz) i y->∀ k x,(xs++[y])[k]?=some x->NmK bs (wy) tn at_ (1+sz) k x:=by
   intro y hy k x h;rcases Nat.lt_or_ge k xs.length with z | z
   ·rw [N1 z] at h;exact hx k x h
   ·rw [NX z] at h;have hk:k - xs.length=0:=by
     rcases Nat.eq_zero_or_pos (k - xs.length) with y | y
     ·exact y
     ·rw [PF (by simp;lia)] at h;cases h
    rw [hk] at h;have hk2:k=i:=by lia
    subst hk2;cases h;exact hy
  have fin:∀ (y:Str) (x11:Sl),soft x11->NmK bs (wy) tn at_ (1+sz) i y->∃ (zs:List Str),zs.length=i+1/\(∀ k x,zs[k]?=some x->NmK bs (wy) tn at_ (1+sz) k x)/\wc [some (.ino pn5),some (.dat (.int 6)),some (.dat (.str abc)),some (.dat (.str bs)),some (.dat (.list wds)),some (.dat (.int wy)),some (.dat (.int (1+sz))),some (.dat (.int at_)),some (.dat (.int tn)),some (.own (.list (zs.map .str))),none,none] ([.ino pn5,.dat (.int 6),.dat (.str abc),.dat (.str bs),.dat (.list wds),.dat (.int wy),.dat (.int (1+sz)),.dat (.int at_),.dat (.int tn),.own (.list (xs.map .str++[.str y])),.dat (.int i),x11]:En) :=
   fun y x11 s11 hy=>⟨xs++[y],by rw [NS,hxl];rfl,snoc y hy,by rw [Oo];walk_at "L"⟩
  walk_at "P";have c1':=d3 bs none (some at_);have c2':=d3 bs (some (at_+1)) (some (1+sz));refine fH (fun a1=>?_) (fun a1=>?_)
  ·have a1:wy=0:=ly a1;walk_at "P";refine kj rfl hxz rfl ?_;exact fin (g9 bs none (some ((tn+3*(i:Int)) % 8+1))) _ i0 (.inl ⟨a1,rfl⟩)
  ·have a1:wy≠0:=fun z=>by subst z;cases a1
   walk_at "P";refine fH (fun a2=>?_) (fun a2=>?_)
   ·have a2:wy=1:=ly a2;walk_at "P";obtain ⟨w,hw,ew⟩:=GA (k:=(tn+i) % 8) (by lia) (by lia);refine gf rfl ew ?_;walk_at "P";refine kj rfl hxz rfl ?_;exact fin w _ i0 (.inr (.inl ⟨a2,hw⟩))
   ·have a2:wy≠1:=fun z=>by subst z;cases a2
    walk_at "P";refine fH (fun a3=>?_) (fun a3=>?_)
    ·have a3:wy=2:=ly a3;walk_at "P";obtain ⟨w,hw,ew⟩:=GA (k:=(i:Int) % 8) (by lia) (by lia);have hw2:=(uR w (Ov hw)).2.1;refine gf rfl ew ?_;walk_at "P";refine eJ rfl (by rw [d8];show _<=2 ^ 24;lia) ?_;walk_at "P";refine kj rfl hxz rfl ?_;exact fin _ _ i0 (.inr (.inr (.inl ⟨a3,w,by rw [<- hw];congr 1,rfl⟩)))
    ·have a3:wy≠2:=fun z=>by subst z;cases a3
     walk_at "P";refine eJ rfl (by rw [d8];show _<=2 ^ 24;lia) ?_;walk_at "P";refine ⟨_,_,rfl,rfl,?_⟩;walk_at "P";refine eJ rfl (by rw [aJ,d8];show _<=2 ^ 24;lia) ?_;walk_at "P";refine kj rfl hxz rfl ?_;exact fin _ _ i0 (.inr (.inr (.inr ⟨rfl,by lia⟩)))
 ·rintro e ⟨xs,hxl,hx,_⟩;walk_at "l";replace hxl:xs.length=6:=by rw [jq] at hxl;exact hxl
  obtain ⟨f1,f2⟩:=fins xs hxl hx;walk_at "P";exact q xs pn5 hP5 hxl f1 f2
theorem Gf {v:Int} (h:v.natAbs < 10 ^ 30):L4 (.int v)=true:=by
 show decide ((if v < 0 then -v else v)<=999999999999999999999999999999)=true;rw [NY];split <;> lia
theorem nB {R:Nat} (hP:aO cs (R+7) pn) (q:∀ (v:Int) pn',aO cs R pn'->v.natAbs < 10 ^ 30->Q (.dat (.int v)) [pn']):WF dU [pn] Q:=by
 refine dw rfl ?_;unfold nP;walk_at "d";intro w pn1 hP1 w0 w1;walk_at "n";walk_at "d";intro v pn2 hP2 v0 v1;walk_at "n";walk_at "q";with_reducible refine cV fun N eN=>?_
 have rest:∀ (v:Int) (pn':Qq),0<=v->v < 10 ^ 30->aO cs (R+4) pn'->N ([.ino pn',.dat (.int w),.dat (.int v)]:En):=by
  intro v pn' v0 v1 hP';rw [eN];clear eN N;with_reducible refine cV fun N eN=>?_
  have rest:∀ (v:Int) (pn':Qq),0<=v->v < 10 ^ 30->aO cs (R+1) pn'->N ([.ino pn',.dat (.int w),.dat (.int v)]:En):=by
   intro v pn' v0 v1 hP';rw [eN];walk_at "d";intro u pn2 hP2 u0 u1;walk_at "N";refine fH (fun e5=>?_) (fun e5=>?_)
   ·walk_at "P";exact q _ _ hP2 (by lia)
   ·walk_at "P";exact q _ _ hP2 (by lia)
  walk_at "P";refine fH (fun e5=>?_) (fun e5=>?_)
  ·walk_at "P";refine i3 (hi:=rfl) (hP:=hP') (m:=1000000000) (by decide) (by decide) ?_;intro u pn2 hP2 u0 u1;walk_at "N";refine i3 (hi:=rfl) (hP:=hP2) (m:=1000000000) (by decide) (by decide) ?_;intro u' pn3 hP3 u0' u1';walk_at "N";refine Bb (i:=u*1000000000+u') (j:=1000000000000) rfl (by decide) (by decide) ?_;walk_at "P";refine i3 (hi:=rfl) (hP:=hP3) (m:=1000000000000) (by decide) (by decide) ?_;intro u'' pn4 hP4 u0'' u1'';walk_at "N";exact rest ((u*1000000000+u')*1000000000000+u'') pn4 (by lia) (by lia) hP4
  ·walk_at "P";exact rest _ _ v0 v1 (aO.dn (R:=R+1) (k:=3) hP')
 walk_at "P";refine fH (fun e5=>?_) (fun e5=>?_)
 ·walk_at "d";intro u pn3 hP3 u0 u1;walk_at "N";exact rest (10 ^ 30 - 1 - u) pn3 (by lia) (by lia) hP3
 ·walk_at "P";exact rest _ _ v0 (by lia) (aO.dn (R:=R+4) (k:=1) hP2)
theorem Cd {R:Nat} (hP:aO cs (R+11) pn) (hn:0 < ns.length) (hn2:ns.length<=12) (hs:∀ x∈ns,Nm x) (q:∀ d pn',aO cs R pn'->sP d=true->Q (.dat d) [pn']):WF my [pn,.list (ns.map .str)] Q:=by
 refine dw rfl ?_;unfold wB;walk_at "d";intro w pn1 hP1 w0 w1;walk_at "N";refine fH (fun e5=>?_) (fun e5=>?_)
 ·walk_at "P";refine i3 (hi:=rfl) (hP:=hP1) (m:=((ns.map PyData.str).length:Nat)) (by rw [NT];lia) (by rw [NT];lia) ?_;intro v pn2 hP2 v0 v1;walk_at "N";obtain ⟨d,hd,ed⟩:=atV (xs:=ns.map PyData.str) v0 v1;obtain ⟨x,hx,rfl⟩:=OE.mp hd;refine gf rfl ed ?_;walk_at "P";exact q _ _ hP2.dn (by unfold sP;rw [(hs x hx).1];rfl)
 ·walk_at "P";refine fH (fun e6=>?_) (fun e6=>?_)
  ·walk_at "P";refine aa (is:=[0]) rfl rfl (nB (aO.dn (R:=R+7) (k:=3) hP1) fun v pn2 hP2 hv=>⟨rfl,?_⟩);walk_at "N";exact q _ _ hP2 (by unfold sP;rw [Gf hv];rfl)
  ·walk_at "d";intro u pn2 hP2 u0 u1;walk_at "n";walk_at "d";intro z pn3 hP3 z0 z1;walk_at "N";obtain ⟨d,hd,ed⟩:=atV (xs:=([.int 0,.int 8,.int (1+u),.int 3]:List Qq)) z0 z1;have hc:∃ i:Int,d=.int i/\0<=i/\i<=8:=by
    simp only [N9,Ox,O9] at hd;rcases hd with rfl | rfl | rfl | rfl <;> exact ⟨_,rfl,by lia,by lia⟩
   obtain ⟨m,rfl,hm0,hm1⟩:=hc;refine gf rfl ed ?_;walk_at "P";refine ⟨⟨by lia,by lia⟩,?_⟩;refine iz (fun i e=>∃ (wd:Str) (pn':Qq),wd.length=i/\Ltr wd/\aO cs (R+(8 - i)) pn'/\wc [some (.ino pn'),some (.dat (.list (ns.map .str))),some (.dat (.int w)),some (.dat (.str wd)),none] e)
    ⟨"", pn3,rfl,by unfold Ltr;decide,hP3,by walk_at "L"⟩ ?_ ?_
   ·rintro i d e hd ⟨wd,pn',hw,hL,hP',_⟩;walk_at "l";obtain ⟨rfl,hi⟩:=gh hd;obtain ⟨j,ej⟩:∃ j,8 - i=j+1:=⟨7 - i,by lia⟩;rw [ej] at hP';walk_at "f";walk_at "d";intro v pn4 hP4 v0 v1;walk_at "N";refine fD rfl (uW v0 v1) ?_;walk_at "P";refine eJ rfl (by rw [hw,d8];show _<=2 ^ 24;lia) ?_;walk_at "P";exact ⟨_,pn4,by rw [aJ,hw,d8],kZ hL (Ij v0 v1),(by rw [show 8 - (i+1)=j by lia];exact hP4),by walk_at "L"⟩
   ·rintro e ⟨wd,pn',hw,hL,hP',_⟩;walk_at "l";rw [jq] at hw hP';walk_at "P";refine q _ _ hP'.dn ?_;unfold sP;have:tK (.tuple [.str wd])=true:=wt (k:=0) hL (by lia) (by lia);rw [this];simp
theorem vE {i:Int} (h:i.natAbs < 10 ^ 30):i.natAbs < 10 ^ 400:=Ob h (PL (by decide) (by decide))
def Sh (x:Str):Prop:=Ltr x/\1<=x.length/\x.length<=8
def Sa (x:Str):Prop:=Ltr x/\x.length<=8
def j9 (d:Qq) (T:Str):Prop:=(∃ x,d=.str x/\Sh x/\T=x)\/(∃ i:Int,d=.int i/\i.natAbs < 10 ^ 30/\T=az i)\/∃ x,d=.tuple [.str x]/\Sa x/\T=("'" : Str)++x
theorem dW {i:Int} (h:i.natAbs < 10 ^ 30):(az i).length<=61:=by
 show (Str.ofString (toString i)).length<=_;rw [PySem.ofString_length];exact Oi (int_text_length_le10 (k:=30) (by decide) h) (by decide)
theorem kU {T:Str} (h:j9 d T):T.length<=61:=by
 rcases h with ⟨x,_,h,rfl⟩ | ⟨i,_,h,rfl⟩ | ⟨x,_,h,rfl⟩
 ·have:=h.2.2;lia
 ·exact dW h
 ·rw [aJ];have:("'" : Str).length=1:=by decide
  have:=h.2;lia
theorem yI {k:Int} (h:xJ (.str x) k=true):Ltr x/\k<=x.length/\x.length<=8:=by
 have h:(decide (k<=(x.length:Int))&&(decide ((x.length:Int)<=8)&&x.cps.toList.all chB))=true:=h;rw [Ot,Ot] at h;have h1:=OV h.1;have h2:=OV h.2.1;refine ⟨fun c hc=>?_,h1,by lia⟩;have:=O8.mp h.2.2 c hc;unfold chB at this;rw [Ot] at this;exact ⟨OV this.1,OV this.2⟩
theorem DF (h:Sh x):Nm x:=⟨wt h.1 (by have:=h.2.1;lia) h.2.2,h.2.2⟩
theorem xX (h:Nm x):Sh x:=by
 have:=yI h.1;exact ⟨this.1,by lia,this.2.2⟩
theorem iT (h:decide (x=y)=false):PyData.eqv (.str x) (.str y)=false:=by simpa [PyData.eqv] using h
theorem dZ:PyData.eqv (.str x) (.str x)=true:=by simp [PyData.eqv]
theorem mH:∀ (ss:List Str),kQ (ss.map .str) (.str z)=ss.any fun s=>decide (s=z)
 | []=>rfl
 | s :: ss=>by
  have:=(mH ss:kQ (ss.map .str) (.str z)=_);unfold kQ at this ⊢;rw [List.map_cons,List.any_cons,List.any_cons,this];have:PyData.eqv (.str s) (.str z)=decide (s=z):=by
   simp only [PyData.eqv];rfl
  rw [this]
theorem lQ:∀ (ss:List Str),fN (ss.map .str)=true
 | []=>by simp [fN]
 | s :: ss=>by simp [fN,noD,lQ ss]
theorem w_inS {x y:AV} (ss:List Str) {Q:RV->En->Prop} (h1:aK e [x,y]=some [.str z,.tuple (ss.map .str)]) (q:Q (.dat (.bool (ss.any fun s=>decide (s=z)))) e):WPr inP [x,y] e Q:=by
 refine ⟨_,.dat (.bool (ss.any fun s=>decide (s=z))),h1,?_,q⟩;show (if yQ (.str z)=true/\fN (ss.map .str)=true then some (PR.dat (.bool (ngB false (kQ (ss.map .str) (.str z))))) else none)=_;rw [N4 ⟨by simp [yQ,noD,PyData.depth],lQ ss⟩,mH];rfl
theorem iR {T:Str} (h:j9 d T) (q:Q (.dat (.str T)) []):WF c5 [d] Q:=by
 refine dw rfl ?_;unfold iQ;rcases h with ⟨x,rfl,hx,rfl⟩ | ⟨i,rfl,hi,rfl⟩ | ⟨x,rfl,hx,rfl⟩
 ·walk_at "P";refine aa rfl rfl ⟨_,_,rfl,rfl,?_⟩;walk_at "P";exact q
 ·walk_at "P";refine aa rfl rfl ⟨_,_,rfl,rfl,?_⟩;walk_at "P";refine iF rfl (Ob hi (PL (by decide) (by decide))) ?_;walk_at "P";exact q
 ·walk_at "P";refine aa rfl rfl ⟨_,_,rfl,rfl,?_⟩;walk_at "P";refine eJ rfl (by have:(Str.ofString "'").length=1:=(by decide);rw [this];have:=hx.2;show _<=2 ^ 24;lia) ?_;walk_at "P";exact q
theorem Ea (h:sP d=true):∃ T,j9 d T:=by
 unfold sP at h;rw [Pu,Pu] at h;rcases h with h | h | h
 ·cases d with
  | str x=>have:=yI h;exact ⟨x,.inl ⟨x,rfl,⟨this.1,by lia,this.2.2⟩,rfl⟩⟩
  | _=>cases h
 ·cases d with
  | int i =>
   have h:decide ((if i < 0 then -i else i)<=999999999999999999999999999999)=true:=h;have h:=OV h;refine ⟨_,.inr (.inl ⟨i,rfl,?_,rfl⟩)⟩;split at h <;> lia
  | _=>cases h
 ·unfold tK at h;split at h
  ·rename_i x;cases x with
   | str x=>have:=yI h;exact ⟨_,.inr (.inr ⟨x,rfl,⟨this.1,this.2.2⟩,rfl⟩)⟩
   | _=>cases h
  ·cases h
theorem m7 {T:Str} (h:j9 d T) (q:Q (.dat (.str T)) []):WF cW [d] Q:=by
 refine dw rfl ?_;unfold iI;rcases h with ⟨x,rfl,hx,rfl⟩ | ⟨i,rfl,hi,rfl⟩ | ⟨x,rfl,hx,rfl⟩
 ·walk_at "P";exact q
 ·walk_at "P";refine iF rfl (Ob hi (PL (by decide) (by decide))) ?_;walk_at "P";exact q
 ·walk_at "P";refine eJ rfl (by have:(Str.ofString "'").length=1:=(by decide);rw [this];have:=hx.2;show _<=2 ^ 24;lia) ?_;walk_at "P";exact q
theorem cA {is:List Nat} {ms:List PM} {Q:RV->En->Prop} (hm:f.ms=ms) (h1:iu e1 ms avs=some ds) (h2:cU ms avs=is) (h:WF f ds fun pr outs=>ckA is (rz ms avs) outs.length=true/\Q pr.rv (dJ e1 is outs)):lT f avs e1 Q:=by
 subst hm;exact aa h1 h2 h
def Rest (Z:Str) (a:Nat) (L:List Nat):Prop:=a<=Z.length/\Z.length<=99000/\Z.cps.toList.drop a=L
theorem Rest.skip (h:Rest Z a (W++L)):Rest Z (a+W.length) L:=by
 obtain ⟨h1,h2,h3⟩:=h;have e:=congrArg List.length h3;rw [OR,aw,NS] at e;refine ⟨by lia,h2,?_⟩;rw [<- List.drop_drop,h3,List.drop_left]
theorem Rest.len (h:Rest Z a L):a+L.length=Z.length:=by
 have e:=congrArg List.length h.2.2;rw [OR,aw] at e;have:=h.1;lia
theorem Rest.at (h:Rest Z a L) (hc:L[j]?=some c):atI Z.cps.toList ((a+j:Nat):Int)=some c:=by
 refine cz ?_;rw [<- List.getElem?_drop,h.2.2];exact hc
theorem Rest.cut (h:Rest Z a (W++L)):g9 Z (some (a:Int)) (some ((a+W.length:Nat):Int))=⟨W.toArray⟩:=by
 refine fY ?_;rw [FX (by lia) (by lia)];show (Z.cps.toList.take (a+W.length)).drop a=W;rw [List.drop_take,h.2.2,show a+W.length - a=W.length by lia,List.take_left]
def Nx (p:Nat->Bool) (L:List Nat):Prop:=∀ c r,L=c :: r->p c=false
theorem nI {x y:AV} {p:Nat->Bool} {Q:RV->En->Prop} (hp:∀ c,decide (c∈z.cps.toList)=p c) (h1:aK e [x,y]=some [.str ⟨#[c]⟩,.str z]) (q:Q (.dat (.bool (p c))) e):WPr inP [x,y] e Q :=
 ⟨_,.dat (.bool (p c)),h1,by rw [<- hp c,<-PySem.StrLaws.found_one z c];rfl,q⟩
theorem x9 {b:Bool} {Q:RV->En->Prop} (h:WPr (HQ b) avs e Q):WPr (HQ b) avs e Q:=h
theorem yE {m:Str} {Q:RV->En->Prop} (h:WMr (cy m f) i avs e Q):WMr (cy m f) i avs e Q:=h
abbrev dgs:Str := "0123456789"
theorem jy (c:Nat):decide (c∈abc.cps.toList)=chB c:=by
 by_cases h:c < 123
 ·have:∀ c < 123,decide (c∈abc.cps.toList)=chB c:=by decide +kernel
  exact this c h
 ·have h2:∀ d∈abc.cps.toList,d < 123:=by decide +kernel
  rw [N6 fun z=>h (h2 c z)];unfold chB;rw [N6 (p:=c<=122) (by lia),Bool.and_false]
theorem jr (c:Nat):decide (c∈dgs.cps.toList)=cT c:=by
 by_cases h:c < 58
 ·have:∀ c < 58,decide (c∈dgs.cps.toList)=cT c:=by decide +kernel
  exact this c h
 ·have h2:∀ d∈dgs.cps.toList,d < 58:=by decide +kernel
  rw [N6 fun z=>h (h2 c z)];unfold cT;rw [N6 (p:=c<=57) (by lia),Bool.and_false]
local macro_rules | `(tactic| walk_at "pm1")=>`(tactic| ((fail_if_success (with_reducible refine yE ?_));(fail_if_success (with_reducible refine x9 ?_));walk_at "p"))
local macro_rules | `(tactic| walk_at "pm")=>`(tactic| repeat walk_at "pm1")
local macro_rules | `(tactic| walk_at "pz1")=>`(tactic| ((fail_if_success (with_reducible refine yE ?_));(fail_if_success (with_reducible refine x9 ?_));walk_at "p0"))
local macro_rules | `(tactic| walk_at "pmz")=>`(tactic| repeat walk_at "pz1")
theorem fx {SG:Str} {p:Nat->Bool} (hp:∀ c,decide (c∈SG.cps.toList)=p c) (h:Rest Z a (W++L)) (hW:∀ c∈W,p c=true) (hL:Nx p L) (q:Q (.dat (.int ((a+W.length:Nat):Int))) []):WF cF [.str Z,.int (a:Int),.str SG] Q:=by
 have hl:=h.len;have hz:=h.2.1;rw [NS] at hl;refine dw rfl ?_;unfold ky;with_reducible refine cV fun N eN=>?_
 have rest:N ([.dat (.str Z),.dat (.int ((a+W.length:Nat):Int)),.dat (.str SG)]:En):=by
  rw [eN];walk_at "pm";exact q
 refine Mt (fun k e=>∃ j,j+k=W.length/\e=([.dat (.str Z),.dat (.int ((a+j:Nat):Int)),.dat (.str SG)]:En)) W.length (by lia) ⟨0,by lia,rfl⟩ ?_;rintro k e hk ⟨j,hj,rfl⟩;walk_at "pm";by_cases k0:k=0
 ·obtain rfl:j=W.length:=by lia
  cases L with
  | nil =>
   rw [Og] at hl;refine cC (N6 (by lia)) ?_;exact rest
  | cons c r =>
   rw [NV] at hl;refine d7 (NY (by lia)) ?_;walk_at "pm";refine fD rfl (h.at (j:=W.length) (c:=c) (by simp)) ?_;walk_at "pm";refine nI hp rfl ?_;rw [hL c r rfl];walk_at "pm";exact rest
 ·have hjl:j < W.length:=by lia
  have hc:(W++L)[j]?=some W[j]:=by rw [N1 hjl,N7 hjl]
  refine d7 (NY (by lia)) ?_;walk_at "pm";refine fD rfl (h.at hc) ?_;walk_at "pm";refine nI hp rfl ?_;rw [hW _ (List.getElem_mem hjl)];walk_at "pm";exact ⟨k - 1,by lia,j+1,by lia,rfl⟩
def wQ (t L:List Nat):Prop:=∃ c r,t=c :: r/\((chB c=true/\(∀ x∈r,chB x=true)/\Nx chB L)\/(c=39/\(∀ x∈r,chB x=true)/\Nx chB L)\/((c=45\/cT c=true)/\(∀ x∈r,cT x=true)/\Nx cT L)\/(chB c=false/\c≠39/\c≠45/\cT c=false/\r=[]))
theorem eq1 (c d:Nat):PyData.eqv (.str ⟨#[c]⟩) (.str ⟨#[d]⟩)=decide (c=d):=by
 by_cases h:c=d
 ·rw [h,NY rfl];exact dZ
 ·rw [N6 h];exact iT (N6 fun z=>h (one_inj z))
theorem nL {t:List Nat} (h:Rest Z a (t++L)) (ht:wQ t L) (q:Q (.dat (.int ((a+t.length:Nat):Int))) []):WF cY [.str Z,.int (a:Int)] Q:=by
 obtain ⟨c,r,rfl,ht⟩:=ht;have hl:=h.len;have hz:=h.2.1;have h0:atI Z.cps.toList (a:Int)=some c:=h.at (j:=0) rfl;have h1:Rest Z (a+1) (r++L):=h.skip (W:=[c]);have el:a+(c :: r).length=a+1+r.length:=by rw [NV];lia
 have e39:("'" : Str)=⟨#[39]⟩:=by decide +kernel
 have e45:("-" : Str)=⟨#[45]⟩:=by decide +kernel
 refine dw rfl ?_;unfold iU;walk_at "pm";refine fD rfl h0 ?_;walk_at "pm";refine nI jy rfl ?_;by_cases hc:chB c=true
 ·rw [hc];walk_at "pm";have:(∀ x∈r,chB x=true)/\Nx chB L:=by
   rcases ht with h | h | h | h
   ·exact h.2
   ·exact h.2
   ·rcases h.1 with rfl | h
    ·cases hc
    ·unfold chB at hc;unfold cT at h;simp only [Ot,OQ] at hc h;lia
   ·rw [h.1] at hc;cases hc
  refine aa (is:=[]) rfl rfl (fx jy h (fun x hx=>?_) this.2 ⟨rfl,?_⟩)
  ·rcases N9.mp hx with rfl | hx
   ·exact hc
   ·exact this.1 x hx
  ·walk_at "pm";exact q
 ·rw [Bool.not_eq_true] at hc;rw [hc];walk_at "pm";refine fD rfl h0 ?_;walk_at "pm";have q39:PyData.eqv (.str ⟨#[c]⟩) (.str "'")=decide (c=39):=by rw [e39];exact eq1 c 39
  have q45:PyData.eqv (.str ⟨#[c]⟩) (.str "-")=decide (c=45):=by rw [e45];exact eq1 c 45
  by_cases h39:c=39
  ·refine d7 (q39.trans (NY h39)) ?_;have:(∀ x∈r,chB x=true)/\Nx chB L:=by
    rcases ht with h | h | h | h
    ·exact h.2
    ·exact h.2
    ·rcases h.1 with z | z
     ·lia
     ·rw [h39] at z;cases z
    ·exact absurd h39 h.2.1
   walk_at "pm";refine aa (is:=[]) rfl rfl (fx jy h1 this.1 this.2 ⟨rfl,?_⟩);walk_at "pm";rw [<- el];exact q
  ·refine cC (q39.trans (N6 h39)) ?_;walk_at "pm";refine fD rfl h0 ?_;walk_at "pm";have ht:((c=45\/cT c=true)/\(∀ x∈r,cT x=true)/\Nx cT L)\/(chB c=false/\c≠39/\c≠45/\cT c=false/\r=[]):=by
    rcases ht with h | h | h | h
    ·rw [h.1] at hc;cases hc
    ·exact absurd h.1 h39
    ·exact .inl h
    ·exact .inr h
   have fin:(c=45\/cT c=true)->(∀ x∈r,cT x=true)/\Nx cT L:=fun z=>by
    rcases ht with h | h
    ·exact h.2
    ·rcases z with z | z
     ·exact absurd z h.2.2.1
     ·rw [h.2.2.2.1] at z;cases z
   by_cases h45:c=45
   ·refine d7 (q45.trans (NY h45)) ?_;walk_at "pm";refine aa (is:=[]) rfl rfl (fx jr h1 (fin (.inl h45)).1 (fin (.inl h45)).2 ⟨rfl,?_⟩);walk_at "pm";rw [<- el];exact q
   ·refine cC (q45.trans (N6 h45)) ?_;walk_at "pm";refine fD rfl h0 ?_;walk_at "pm";refine nI jr rfl ?_;by_cases hd:cT c=true
    ·rw [hd];walk_at "pm";refine aa (is:=[]) rfl rfl (fx jr h1 (fin (.inr hd)).1 (fin (.inr hd)).2 ⟨rfl,?_⟩);walk_at "pm";rw [<- el];exact q
    ·rw [Bool.not_eq_true] at hd;rw [hd];obtain rfl:r=[]:=by
      rcases ht with h | h
      ·rcases h.1 with z | z
       ·exact absurd z h45
       ·rw [hd] at z;cases z
      ·exact h.2.2.2.2
     walk_at "pm";exact q
def Pcs:List (List Nat)->Prop
 | []=>True
 | t :: ts=>wQ t ts.flatten/\Pcs ts
noncomputable def toks (a:Nat):List (List Nat)->List Qq
 | []=>[]
 | t :: ts=>(if t=[32] then [] else [.tuple [.str ⟨t.toArray⟩,.int (a:Int)]])++toks (a+t.length) ts
theorem l5:∀ {ts:List (List Nat)},Pcs ts->ts.length<=ts.flatten.length
 | [],_=>Oc _
 | t :: ts,h=>by
  have:=l5 h.2;obtain ⟨c,r,rfl,_⟩:=h.1;rw [PD,NS,NV,NV];lia
theorem gA:∀ (ts:List (List Nat)) (a:Nat),(toks a ts).length<=ts.length
 | [],_=>Oc _
 | t :: ts,a=>by
  have:=gA ts (a+t.length);show ((if t=[32] then [] else [PyData.tuple [.str ⟨t.toArray⟩,.int (a:Int)]])++toks (a+t.length) ts).length<=_;rw [NS,NV];split
  ·rw [Og];lia
  ·rw [Ow];lia
theorem FZ {t:List Nat} (h:wQ t L):∃ c r,t=c :: r/\(c=32↔t=[32]):=by
 obtain ⟨c,r,rfl,h⟩:=h;refine ⟨c,r,rfl,fun e=>?_,fun e=>by injection e⟩;subst e;rcases h with h | h | h | h
 ·cases h.1
 ·exact absurd h.1 (by decide)
 ·rcases h.1 with z | z
  ·exact absurd z (by decide)
  ·cases z
 ·rw [h.2.2.2.2]
theorem nt (hz:Z.length<=99000) (h:Pcs ts) (hZ:Z.cps.toList=ts.flatten) (q:Q (.frs (.list (toks 0 ts++[.tuple [.str "", .int (Z.length:Int)]]))) []):WF c6 [.str Z] Q:=by
 have pl:=l5 h;have zl:Z.length=ts.flatten.length:=by rw [<- aw,hZ]
 have hR:Rest Z 0 ts.flatten:=⟨O0 _,hz,by simpa using hZ⟩;have e32:(" " : Str)=⟨#[32]⟩:=by decide +kernel
 refine dw rfl ?_;unfold iA;with_reducible refine oK ?_
 walk_at "pmz";with_reducible refine oK ?_
 walk_at "pmz";with_reducible refine cV fun N eN=>?_
 have rest:∀ x:Sl,soft x->N ([.dat (.str Z),.own (.list (toks 0 ts)),.dat (.int (Z.length:Int)),x]:En):=by
  intro x hx;rw [eN];walk_at "pm";have t1:=gA ts 0;refine kj rfl (by show _ < 2 ^ 24;lia) rfl ?_;walk_at "pm";exact q
 refine Mt (fun k e=>∃ (ts2:List (List Nat)) (F:List Qq) (a:Nat) (x:Sl),ts2.length=k/\F++toks a ts2=toks 0 ts/\F.length<=a/\Pcs ts2/\Rest Z a ts2.flatten/\soft x/\e=([.dat (.str Z),.own (.list F),.dat (.int (a:Int)),x]:En)) ts.length (by lia) ⟨ts,[],0,.un,rfl,rfl,Oc _,h,hR,sH,rfl⟩ ?_;rintro k e hk ⟨ts2,F,a,x,rfl,hF,hFa,hP,hr,hx,rfl⟩;have hl:=hr.len;have t1:=gA ts 0;walk_at "pm"
 match ts2,hF,hP,hr,hl with
 | [],hF,hP,hr,hl =>
  have hl:a=Z.length:=hl;have hF:F++[]=toks 0 ts:=hF;rw [Oz] at hF;subst hF;subst hl;refine cC (N6 (by lia)) ?_;exact rest x hx
 | t :: ts',hF,hP,hr,hl =>
  obtain ⟨c,r,et,h32⟩:=FZ hP.1;have hr:Rest Z a (t++ts'.flatten):=hr;have h0:atI Z.cps.toList (a:Int)=some c:=hr.at (j:=0) (by rw [et];rfl);have tl:1<=t.length:=by rw [et,NV];lia
  have hF:F++((if t=[32] then [] else [.tuple [.str ⟨t.toArray⟩,.int (a:Int)]])++toks (a+t.length) ts')=toks 0 ts:=hF;rw [PD,NS] at hl;refine d7 (NY (by lia)) ?_;walk_at "pm";refine aa (is:=[]) rfl rfl (nL hr hP.1 ⟨rfl,?_⟩);walk_at "n";walk_at "pm";refine fD rfl h0 ?_;walk_at "pm";have q32:PyData.eqv (.str ⟨#[c]⟩) (.str " ")=decide (c=32):=by rw [e32];exact eq1 c 32
  by_cases hc:c=32
  ·refine cC (by show (!PyData.eqv (.str ⟨#[c]⟩) (.str " "))=false;rw [q32,NY hc];rfl) ?_;rw [N4 (h32.mp hc),OL] at hF;walk_at "pm";exact ⟨ts'.length,O7 _,ts',F,a+t.length,_,rfl,hF,by lia,hP.2,hr.skip,i0,rfl⟩
  ·refine d7 (by show (!PyData.eqv (.str ⟨#[c]⟩) (.str " "))=true;rw [q32,N6 hc];rfl) ?_;rw [Od fun z=>hc (h32.mpr z),<-Oy] at hF;have fl:=congrArg List.length hF;rw [NS,NS,Ow] at fl;walk_at "pm";refine ⟨_,.dat (.str ⟨t.toArray⟩),rfl,?_,?_⟩
   ·rw [<- hr.cut];rfl
   ·walk_at "pm";refine kj rfl (by show _ < 2 ^ 24;lia) rfl ?_;walk_at "pm";exact ⟨ts'.length,O7 _,ts',_,a+t.length,_,rfl,hF,by rw [NS,Ow];lia,hP.2,hr.skip,i0,rfl⟩
abbrev rdr (L:List Qq) (pl fm:Nat):Qq:=.dict [(.str "tokens", .list L),(.str "place", .int (pl:Int)),(.str "forms", .int (fm:Int))]
section
variable {L:List Qq} {pl fm:Nat} {e:En} {x:AV} {Q:RV->En->Prop}
theorem Ms (h:aK e [x]=some [rdr L pl fm]) (q:Q (.dat (.list L)) e):WPr (sR "tokens") [x] e Q:=⟨_,.dat (.list L),h,rfl,q⟩
theorem MI (h:aK e [x]=some [rdr L pl fm]) (q:Q (.dat (.int (pl:Int))) e):WPr (sR "place") [x] e Q:=⟨_,.dat (.int (pl:Int)),h,rfl,q⟩
theorem Mn (h:aK e [x]=some [rdr L pl fm]) (q:Q (.dat (.int (fm:Int))) e):WPr (sR "forms") [x] e Q:=⟨_,.dat (.int (fm:Int)),h,rfl,q⟩
end
theorem IP {m:Str} {ms:List PM} {as:List (Bool×Qq)} {Q:RV->En->Prop} (hm:f.ms=.ino :: ms) (h1:aR e i=some d) (h2:cO e avs=some as) (h3:o3 ms as=true) (h4:d :: as.map Prod.snd=ds) (h:WF f ds fun pr outs=>∃ x d',pr=.dat x/\outs=[d']/\Q (.dat x) (gr e i d')):WMr (cy m f) i avs e Q:=by
 subst h4;obtain ⟨pr,outs,hF,x,d',rfl,rfl,q⟩:=h;refine ⟨d,as,d',x,h1,h2,?_,q⟩;show (match f.ms with | .ino :: ms=>if o3 ms as=true then (match f.F (d :: as.map Prod.snd) with | some (.dat x,[d'])=>some (d',x) | _=>none) else none | _=>none)=_;rw [hm];show (if o3 ms as=true then (match f.F (d :: as.map Prod.snd) with | some (.dat x,[d'])=>some (d',x) | _=>none) else none)=_;rw [N4 h3,hF]
theorem pP {f:Str} {v k:Qq} {rk:RV} {kvs kvs':List (Qq×Qq)} {N:En->Prop} (h1:aR e i=some (.dict kvs)) (hk:rk.view e=some k) (h3:f.length<=sizeLine/\PyData.strOk f=true/\kvs.length < 1000) (h2:tU f v kvs=some kvs') (q:N (gr e i (.dict kvs'))):Cc (A6 f) i v rk e N :=
 ⟨_,_,.dict kvs',hk,h1,by show (if f.length<=sizeLine/\PyData.strOk f=true/\kvs.length < 1000 then (tU f v kvs).map PyData.dict else none)=_;rw [N4 h3,h2];rfl,q⟩
theorem pH (i:Int):(az i).cps.toList=(if i < 0 then [45] else [])++codes i.natAbs:=by
 by_cases h:i < 0
 ·rw [N4 h];have:=ij (m:=i.natAbs) (by lia);rw [show (-(i.natAbs:Int))=i by lia] at this;exact this
 ·rw [Od h];have:=fC i.natAbs;rw [show ((i.natAbs:Nat):Int)=i by lia] at this;exact this
theorem gR (m:Nat):∃ c r,codes m=c :: r/\48<=c/\c<=57:=by
 cases e:codes m with
 | nil=>exact absurd e (As m)
 | cons c r =>
  have:=ji m c (by rw [e];exact N5);exact ⟨c,r,rfl,this⟩
theorem gD {i:Int} (h:i.natAbs < 10 ^ 30):gi (az i)=.int i:=by
 obtain ⟨c,r,ec,c0,c1⟩:=gR i.natAbs;have ei:=pH i;have hd:(az i).cps.toList.head?≠some 39/\∃ k s,(az i).cps.toList=k :: s/\chB k=false:=by
  rw [ei,ec];split
  ·exact ⟨fun z=>(by have z:some 45=some 39:=z;cases z),45,c :: r,rfl,by decide⟩
  ·refine ⟨fun z=>?_,c,r,rfl,?_⟩
   ·have z:some c=some 39:=z;injection z with z;lia
   ·unfold chB;rw [N6 (p:=97<=c) (by lia)];rfl
 obtain ⟨h0,k,s,es,hk⟩:=hd;have hl:xJ (.str (az i)) 1=false:=by
  show (decide _&&(decide _&&(az i).cps.toList.all chB))=false;rw [es,List.all_cons,hk];simp
 rw [oR h0 hl];have hf:gO (az i)=codes i.natAbs/\isNeg (az i)=decide (i < 0):=by
  by_cases hi:i < 0
  ·rw [N4 hi] at ei;exact ⟨kT ei,(mX ei).trans (NY hi).symm⟩
  ·rw [Od hi,OL] at ei;rw [N6 hi];rcases dH (az i) with ⟨r2,e2,_,_⟩ | ⟨f,g⟩
   ·rw [ei,ec] at e2;injection e2 with e2 _;lia
   ·exact ⟨f.trans ei,g⟩
 have fk:eR (az i)=true:=by
  unfold eR;rw [hf.1];have l1:=oE 29 i.natAbs h;have l2:1<=(codes i.natAbs).length:=by rw [ec];simp
  rw [NY l2,NY (p:=(codes i.natAbs).length<=30) (by lia),O4,O4,O8];intro d hd;have:=ji _ d hd;unfold cT;rw [NY this.1,NY this.2];rfl
 have nv:uP (az i)=i:=by
  unfold uP;rw [hf.1,hf.2,vN];by_cases hi:i < 0
  ·rw [NY hi,N4 rfl];lia
  ·rw [N6 hi,Od (by decide)];lia
 have cnd:=(lM fk).mp (by rw [nv]);unfold sx;rw [N4 ⟨fk,cnd⟩,nv]
local macro_rules | `(tactic| walk_at "pm1")=>`(tactic| ((fail_if_success (with_reducible refine yE ?_));(fail_if_success (with_reducible refine x9 ?_));first | ((with_reducible refine Ms ?e9 ?_);(case e9=>exact rfl)) | ((with_reducible refine MI ?e9 ?_);(case e9=>exact rfl)) | ((with_reducible refine Mn ?e9 ?_);(case e9=>exact rfl)) | walk_at "p"))
local macro_rules | `(tactic| walk_at "pr")=>`(tactic| repeat walk_at "pm1")
local macro_rules | `(tactic| walk_at "pz1")=>`(tactic| ((fail_if_success (with_reducible refine yE ?_));(fail_if_success (with_reducible refine x9 ?_));first | ((with_reducible refine Ms ?e9 ?_);(case e9=>exact rfl)) | ((with_reducible refine MI ?e9 ?_);(case e9=>exact rfl)) | ((with_reducible refine Mn ?e9 ?_);(case e9=>exact rfl)) | walk_at "p0"))
local macro_rules | `(tactic| walk_at "prz")=>`(tactic| repeat walk_at "pz1")
local macro_rules | `(tactic| walk_at "x1")=>`(tactic| ((fail_if_success (with_reducible refine yE ?_));(fail_if_success (with_reducible refine x9 ?_));first
 | (with_reducible first | refine B6 ?_ | refine GL ?_ | refine Gx ?_ | refine K4 ?_ | refine JY ?_ | refine Ly ?_ | refine DS ?_ | refine IK ?_ | refine IX ?_ | refine FN ?_)
 | ((with_reducible refine IG (kvs:=?k9) ?e9 ?f9 ?_);(case e9=>exact rfl);(case f9=>exact rfl)) | ((with_reducible refine JH (d:=?d9) ?e9 ?f9 ?_);(case e9=>exact rfl);(case f9=>exact rfl))
 | ((with_reducible refine Lo ?_);with_reducible first | refine Bf ?_ | refine BS ?_ | refine E9 ?_ | refine Bi ?_)
 | (with_reducible refine Kr ?_) | (with_reducible refine Kl ?_) | walk_at "pm1"))
local macro_rules | `(tactic| walk_at "x")=>`(tactic| repeat walk_at "x1")
local macro_rules | `(tactic| walk_at "xz1")=>`(tactic| ((fail_if_success (with_reducible refine B6 ?_));walk_at "x1"))
local macro_rules | `(tactic| walk_at "xz")=>`(tactic| repeat walk_at "xz1")
local macro_rules | `(tactic| walk_at "xn")=>`(tactic| first | ((with_reducible first | refine Ng (e':=?e9) ?h9 ?_ | refine NF (e':=?e9) ?h9 ?_ | refine MQ (e':=?e9) ?h9 ?_ | refine Lm (e':=?e9) ?h9 ?_);(case h9=>walk_at "n=")) | walk_at "n")
local macro_rules | `(tactic| walk_at "X") => `(tactic| (walk_at "xn";walk_at "x"))
local macro_rules | `(tactic| walk_at "y1")=>`(tactic| first | walk_at "x1" | walk_at "p")
local macro_rules | `(tactic| walk_at "y")=>`(tactic| repeat walk_at "y1")
def Bad (x:Str):Prop:=(x ≠ "(" /\ x ≠ ")" /\ x ≠ "," /\ x ≠ "*" /\ x ≠ "^")/\xJ (.str x) 1=false/\gi x=.none/\x.length<=1/\kgD bx x=.none
structure Sm (L:List Qq) (b:Nat) (P:Option Int) (pl:Nat) (TK:List Str):Prop where
 le:pl<=b
 len:L.length<=99001
 bad:(P=none/\pl+TK.length < b+1)\/∃ x p,L[b]?=some (.tuple [.str x,.int p])/\Bad x/\P=some p
 pay:∀ p,P=some p->dY (.int p)=true
 tk:∀ j t,TK[j]?=some t->pl+j < b->∃ p:Int,L[pl+j]?=some (.tuple [.str t,.int p])
theorem qY {gd:List Qq} {s t:XS} {env:En} {E:Kn} (h:∀ N:En->Prop,N=(fun e=>WX gd t e E P)->WX gd s env { E with nx:=N } P):WX gd (.seq s t) env E P:=B6 (h _ rfl)
section
variable {L:List Qq} {b pl fm i:Nat} {P:Option Int} {t:Str} {TK A B:List Str} {Q:PR->List Qq->Prop}
theorem Sm.skip (h:Sm L b P pl (A++B)) (hl:pl+A.length<=b):Sm L b P (pl+A.length) B :=
 ⟨hl,h.len,h.bad.imp (fun z=>⟨z.1,by have:=z.2;rw [NS] at this;lia⟩) id,h.pay,fun j t e hj=>by
  have:=h.tk (A.length+j) t (by rw [NX (by lia),show A.length+j - A.length=j by lia];exact e) (by lia)
  rwa [show pl+(A.length+j)=pl+A.length+j by lia] at this⟩
theorem Sm.tl (h:Sm L b P pl (t :: TK)) (hl:pl+1<=b):Sm L b P (pl+1) TK:=Sm.skip (A:=[t]) h hl
theorem Sm.pre (h:Sm L b P pl (A++B)):Sm L b P pl A:=⟨h.le,h.len,h.bad.imp (fun z=>⟨z.1,by have:=z.2;rw [NS] at this;lia⟩) id,h.pay,fun j t e hj=>h.tk j t (by rw [N1 (NW.mp e).1];exact e) hj⟩
theorem Sm.any {TK':List Str} (h:Sm L b P pl (t :: TK)) (e:pl=b):Sm L b P pl TK':=⟨h.le,h.len,h.bad.elim (fun z=>absurd z.2 (by rw [NV];lia)) .inr,h.pay,fun j t _ hj=>by lia⟩
theorem Sm.cur (h:Sm L b P pl (t :: TK)):∃ (s:Str) (p:Int),L[pl]?=some (.tuple [.str s,.int p])/\((s=t/\pl+1<=b)\/(Bad s/\P=some p/\pl=b)):=by
 by_cases hb:pl < b
 ·obtain ⟨p,e⟩:=h.tk 0 t rfl (by lia);exact ⟨t,p,e,.inl ⟨rfl,hb⟩⟩
 ·obtain rfl:pl=b:=by have:=h.le;lia
  obtain ⟨_,z⟩ | ⟨x,p,e,hx,ep⟩:=h.bad
  ·rw [NV] at z;lia
  ·exact ⟨x,p,e,.inr ⟨hx,ep,rfl⟩⟩
theorem HJ {x:Qq} (h:L[pl]?=some x):atI L (pl:Int)=some x:=cz h
theorem zI {s:Str} {p:Int} (h:L[pl]?=some (.tuple [.str s,.int p])) (q:Q (.dat (.str s)) [rdr L pl fm]):WF ao [rdr L pl fm] Q:=by
 refine dw rfl ?_;unfold kK;walk_at "pr";refine gf rfl (HJ h) ?_;walk_at "pr";exact q
theorem bw {s:Str} {p:Int} {avs:List AV} {e:En} {Q:RV->En->Prop} (h1:aR e i=some (rdr L pl fm)) (h2:cO e avs=some []) (h:L[pl]?=some (.tuple [.str s,.int p])) (q:Q (.dat (.str s)) (gr e i (rdr L pl fm))):WMr (cy "shown" ao) i avs e Q :=
 IP rfl h1 h2 rfl rfl (zI h ⟨_,_,rfl,rfl,q⟩)
theorem bI {s:Str} {p:Int} {v:Qq} {ok:Bool} (h:L[pl]?=some (.tuple [.str s,.int p])) (hP:∀ p,P=some p->dY (.int p)=true) (hb:ok=false->P=some p) (q:ok=true->Q (.dat v) [rdr L (pl+1) fm]):WU aB [rdr L pl fm,v,.bool ok] Q P:=by
 refine l9 rfl ?_;unfold kF;cases ok with
 | true =>
  have q:=q rfl;walk_at "x";refine pP rfl rfl ⟨by decide +kernel,by decide +kernel,OP rfl⟩ rfl ?_;walk_at "x";exact q
 | false =>
  have ep:=hb rfl;walk_at "x";refine gf rfl (HJ h) ?_;walk_at "x";exact ⟨ep,hP _ ep⟩
theorem eg {t:Str} (h:Sm L b P pl (t :: TK)) (ht:t = "(" \/ t = ")" \/ t = "," \/ t = "^") (q:pl+1<=b->Q (.dat .none) [rdr L (pl+1) fm]):WU aE [rdr L pl fm,.str t] Q P:=by
 obtain ⟨s,p,es,hc⟩:=h.cur;refine l9 rfl ?_;unfold jD;walk_at "x";refine bw rfl rfl es ?_;walk_at "X";refine aj (is:=[0]) rfl rfl rfl (bI es h.pay (fun z=>?_) fun z=>?_)
 ·rcases hc with ⟨rfl,_⟩ | ⟨_,e,_⟩
  ·rw [dZ] at z;cases z
  ·exact e
 ·rcases hc with ⟨rfl,hb⟩ | ⟨hx,_⟩
  ·refine ⟨rfl,?_⟩;walk_at "x";exact q hb
  ·have:s≠t:=by
    rcases ht with rfl | rfl | rfl | rfl
    ·exact hx.1.1
    ·exact hx.1.2.1
    ·exact hx.1.2.2.1
    ·exact hx.1.2.2.2.2
   rw [iT (N6 this)] at z;cases z
end
theorem Ed {T:Str} (h:j9 d T):gi T=d/\mF d=false:=by
 rcases h with ⟨x,rfl,h,rfl⟩ | ⟨i,rfl,h,rfl⟩ | ⟨x,rfl,h,rfl⟩
 ·exact ⟨nh (DF h).1,rfl⟩
 ·exact ⟨gD h,rfl⟩
 ·have e:(("'" : Str)++x).cps.toList=39 :: x.cps.toList:=by rw [br];rfl
  refine ⟨?_,rfl⟩;rw [kR e,N4];refine ⟨by rw [aw];exact h.2,O8.mpr fun c hc=>?_⟩;have:=h.1 c hc;unfold chB;rw [NY this.1,NY this.2];rfl
section
variable {L:List Qq} {b pl fm:Nat} {P:Option Int} {TK:List Str} {Q:PR->List Qq->Prop}
theorem fW {t:Str} (h:Sm L b P pl (t :: TK)) (ht:Sh t) (q:pl+1<=b->Q (.dat (.str t)) [rdr L (pl+1) fm]):WU bB [rdr L pl fm] Q P:=by
 obtain ⟨s,p,es,hc⟩:=h.cur;refine l9 rfl ?_;unfold iB;walk_at "x";refine bw rfl rfl es ?_;walk_at "X";refine aa (is:=[]) rfl rfl (g7 ⟨rfl,?_⟩);walk_at "x";refine aj (is:=[0]) rfl rfl rfl (bI es h.pay (fun z=>?_) fun z=>?_)
 ·rcases hc with ⟨rfl,_⟩ | ⟨_,e,_⟩
  ·rw [(DF ht).1] at z;cases z
  ·exact e
 ·rcases hc with ⟨rfl,hb⟩ | ⟨hx,_⟩
  ·refine ⟨rfl,?_⟩;walk_at "x";exact q hb
  ·rw [hx.2.1] at z;cases z
theorem Sm.node {d:Qq} {t:Str} (h:Sm L b P pl (t :: TK)) (hd:gi t=d) (ht:t.length<=100) (hs:t ≠ "*"):∃ (s:Str) (p:Int) (x:Qq),L[pl]?=some (.tuple [.str s,.int p])/\s.length<=100/\s ≠ "*" /\ gi s=x/\((x=d/\pl+1<=b)\/(x=.none/\P=some p)):=by
 obtain ⟨s,p,es,⟨rfl,hb⟩ | ⟨hx,e,_⟩⟩:=h.cur
 ·exact ⟨s,p,_,es,ht,hs,rfl,.inl ⟨hd,hb⟩⟩
 ·exact ⟨s,p,_,es,by have:=hx.2.2.2.1;lia,hx.1.2.2.2.1,rfl,.inr ⟨hx.2.2.1,e⟩⟩
theorem i9 {i:Int}:az i≠("*" : Str):=fun z=>by
 have z:=congrArg (fun x:Str=>x.cps.toList) z;have z:(az i).cps.toList=[42]:=z;obtain ⟨c,r,ec,c0,c1⟩:=gR i.natAbs;rw [pH,ec] at z;split at z
 ·cases z
 ·injection z with z _;lia
theorem xt {d:Qq} {T:Str} (h:j9 d T):T ≠ "*" := by
 rcases h with ⟨x,_,h,rfl⟩ | ⟨i,_,h,rfl⟩ | ⟨x,_,h,rfl⟩
 ·intro z;have:=h.1 42 (by rw [z];decide +kernel);lia
 ·exact i9
 ·intro z;have z:=congrArg (fun x:Str=>x.cps.toList) z;have e:(("'" : Str)++x).cps.toList=39 :: x.cps.toList:=by rw [br];rfl
  have z:(("'" : Str)++x).cps.toList=[42]:=z;rw [e] at z;injection z with z _;lia
theorem mT {x:Qq} {T:Str} (h:Sm L b P pl (T :: TK)) (hx:j9 x T) (q:pl+1<=b->Q (.dat x) [rdr L (pl+1) fm]):WU cB [rdr L pl fm] Q P:=by
 have nr:=Ed hx;obtain ⟨s,p,y,es,hs,_,en,hc⟩:=h.node nr.1 (Oi (kU hx) (by decide)) (xt hx);refine l9 rfl ?_;unfold gv;walk_at "x";refine bw rfl rfl es ?_;walk_at "X";refine aa (is:=[]) rfl rfl (fA hs ⟨rfl,?_⟩);rw [en];walk_at "X";refine aj (is:=[0]) rfl rfl rfl (bI es h.pay (fun z=>?_) fun z=>?_)
 ·rcases hc with ⟨rfl,_⟩ | ⟨_,e⟩
  ·rw [nr.2] at z;cases z
  ·exact e
 ·rcases hc with ⟨rfl,hb⟩ | ⟨rfl,_⟩
  ·refine ⟨rfl,?_⟩;walk_at "x";exact q hb
  ·cases z
theorem la {i:Int} (h:Sm L b P pl (az i :: TK)) (hi:i.natAbs < 10 ^ 30) (q:pl+1<=b->Q (.dat (.int i)) [rdr L (pl+1) fm]):WU cm [rdr L pl fm] Q P:=by
 obtain ⟨s,p,y,es,hs,_,en,hc⟩:=h.node (gD hi) (Oi (dW hi) (by decide)) i9;refine l9 rfl ?_;unfold fI;walk_at "x";refine bw rfl rfl es ?_;walk_at "X";refine aa (is:=[]) rfl rfl (fA hs ⟨rfl,?_⟩);rw [en];walk_at "X";refine aa (is:=[]) rfl rfl (cL (by rcases hc with ⟨rfl,_⟩ | ⟨rfl,_⟩ <;> rfl) ⟨rfl,?_⟩);walk_at "x";refine aj (is:=[0]) rfl rfl rfl (bI es h.pay (fun z=>?_) fun z=>?_)
 ·rcases hc with ⟨rfl,_⟩ | ⟨_,e⟩
  ·cases z
  ·exact e
 ·rcases hc with ⟨rfl,hb⟩ | ⟨rfl,_⟩
  ·refine ⟨rfl,?_⟩;walk_at "x";exact q hb
  ·cases z
end
noncomputable def hiD:Option Int->Qq
 | none=>.none
 | some h=>.int h
def zB (lo:Int):Option Int->Prop
 | none=>True
 | some h=>lo<=h/\h<=60
theorem nX (h0:0<=lo) (h1:lo<=60) (hh:zB lo hi) (q:Q (.dat (.bool true)) []):WF bf [.int lo,hiD hi] Q:=by
 refine dw rfl ?_;unfold dX;cases hi with
 | none =>
  walk_at "P";refine aa (is:=[]) rfl rfl (cL rfl ⟨rfl,?_⟩);walk_at "P";refine d7 (NY h0) ?_;walk_at "P";refine cC (by show (!decide (lo<=60))=false;rw [NY h1];rfl) ?_;walk_at "P";exact q
 | some h =>
  obtain ⟨g1,g2⟩:=(show lo<=h/\h<=60 from hh);walk_at "P";refine aa (is:=[]) rfl rfl (cL rfl ⟨rfl,?_⟩);walk_at "P";refine d7 (NY h0) ?_;walk_at "P";refine cC (by show (!decide (lo<=60))=false;rw [NY h1];rfl) ?_;walk_at "P";refine aa (is:=[]) rfl rfl (cL rfl ⟨rfl,?_⟩);walk_at "P";refine d7 (NY g1) ?_;walk_at "P";show Q (.dat (.bool (decide (h<=60)))) [];rw [NY g2];exact q
theorem vR (q:Q (.dat (.bool false)) []):WF bf [.none,.none] Q:=by
 refine dw rfl ?_;unfold dX;walk_at "P";refine aa (is:=[]) rfl rfl (cL rfl ⟨rfl,?_⟩);walk_at "P";exact q
section
variable {L:List Qq} {b pl fm:Nat} {P:Option Int} {TK:List Str} {Q:PR->List Qq->Prop}
theorem cR {i:Int} (h0:0<=i) (h1:i<=60):i.natAbs < 10 ^ 30:=Nat.lt_of_le_of_lt (show i.natAbs<=60 by lia) (by decide)
theorem sM {lo:Int} (h:Sm L b P pl (az lo :: TK)) (h0:0<=lo) (h1:lo<=60) (q:pl+1<=b->Q (.dat (.int lo)) [rdr L (pl+1) fm]):WU d6 [rdr L pl fm] Q P:=by
 obtain ⟨s,p,y,es,hs,_,en,hc⟩:=h.node (gD (cR h0 h1)) (Oi (dW (cR h0 h1)) (by decide)) i9;refine l9 rfl ?_;unfold jL;walk_at "x";refine bw rfl rfl es ?_;walk_at "X";refine aa (is:=[]) rfl rfl (fA hs ⟨rfl,?_⟩);rw [en];walk_at "X";rcases hc with ⟨rfl,hb⟩ | ⟨rfl,e⟩
 ·refine aa (is:=[]) rfl rfl (nX (hi:=none) h0 h1 trivial ⟨rfl,?_⟩);walk_at "x";refine aj (is:=[0]) rfl rfl rfl (bI es h.pay (fun z=>by cases z) fun _=>⟨rfl,?_⟩);walk_at "x";exact q hb
 ·refine aa (is:=[]) rfl rfl (vR ⟨rfl,?_⟩);walk_at "x";exact aj (is:=[0]) rfl rfl rfl (bI es h.pay (fun _=>e) fun z=>by cases z)
def hiT:Option Int->Str
 | none => "*"
 | some h=>az h
theorem pf {lo:Int} {hi:Option Int} (h:Sm L b P pl (hiT hi :: TK)) (h0:0<=lo) (h1:lo<=60) (hh:zB lo hi) (q:pl+1<=b->Q (.dat (hiD hi)) [rdr L (pl+1) fm]):WU cq [rdr L pl fm,.int lo] Q P:=by
 have key:∀ (s:Str) (p:Int) (y:Qq),L[pl]?=some (.tuple [.str s,.int p])->s.length<=100->s ≠ "*" -> gi s=y->((∃ g,hi=some g/\y=.int g/\pl+1<=b)\/(y=.none/\P=some p))->WU cq [rdr L pl fm,.int lo] Q P:=by
  intro s p y es hs hst en hc;refine l9 rfl ?_;unfold eS;walk_at "x";refine bw rfl rfl es ?_;walk_at "X";refine cC (iT (N6 hst)) ?_;walk_at "x";refine bw rfl rfl es ?_;walk_at "X";refine aa (is:=[]) rfl rfl (fA hs ⟨rfl,?_⟩);rw [en];walk_at "X";rcases hc with ⟨g,rfl,rfl,hb⟩ | ⟨rfl,e⟩
  ·walk_at "x";refine aa (is:=[]) rfl rfl (nX (hi:=some g) h0 h1 hh ⟨rfl,?_⟩);walk_at "x";refine aj (is:=[0]) rfl rfl rfl (bI es h.pay (fun z=>by cases z) fun _=>⟨rfl,?_⟩);walk_at "x";exact q hb
  ·walk_at "x";exact aj (is:=[0]) rfl rfl rfl (bI es h.pay (fun _=>e) fun z=>by cases z)
 obtain ⟨s,p,es,hc⟩:=h.cur;rcases hc with ⟨rfl,hb⟩ | ⟨hx,e,_⟩
 ·cases hi with
  | none =>
   have es:L[pl]?=some (.tuple [.str ("*" : Str),.int p]):=es;refine l9 rfl ?_;unfold eS;walk_at "x";refine bw rfl rfl es ?_;walk_at "X";refine aj (is:=[0]) rfl rfl rfl (bI es h.pay (fun z=>by cases z) fun _=>⟨rfl,?_⟩);walk_at "x";exact q hb
  | some g =>
   obtain ⟨g1,g2⟩:=(show lo<=g/\g<=60 from hh);have sm:=cR (i:=g) (by lia) g2;exact key _ p _ es (Oi (dW sm) (by decide)) i9 (gD sm) (.inl ⟨g,rfl,rfl,hb⟩)
 ·exact key s p _ es (by have:=hx.2.2.2.1;lia) hx.1.2.2.2.1 hx.2.2.1 (.inr ⟨rfl,e⟩)
theorem eO {ok:Bool} (h:Sm L b P pl ((Str.ofString ",") :: TK)) (hk:pl+1<=b->ok=true) (q:pl+1<=b->Q (.dat .none) [rdr L (pl+1) fm]):WU bG [rdr L pl fm,.bool ok] Q P:=by
 obtain ⟨s,p,es,hc⟩:=h.cur;refine l9 rfl ?_;unfold gM;walk_at "x";refine bw rfl rfl es ?_;walk_at "X";rcases hc with ⟨rfl,hb⟩ | ⟨hx,e,_⟩
 ·obtain rfl:=hk hb;refine d7 dZ ?_;walk_at "x";refine aj (is:=[0]) rfl rfl rfl (bI es h.pay (fun z=>by cases z) fun _=>⟨rfl,?_⟩);walk_at "x";exact q hb
 ·refine cC (iT (N6 hx.1.2.2.1)) ?_;walk_at "x";exact aj (is:=[0]) rfl rfl rfl (bI es h.pay (fun _=>e) fun z=>by cases z)
end
noncomputable def stT (up:Bool) (s:Str):List Str:=if up then ["^", s] else [s]
noncomputable def stS (up:Bool) (s:Str):Str:=if up then ("^" : Str)++s else s
theorem Fe (h:Sh s):s≠("^" : Str):=fun z=>by
 have:=h.1 94 (by rw [z];decide +kernel);lia
theorem qr {L:List Qq} (h:Sm L b P pl (stT up s++TK)) (hs:Sh s) (q:pl+(stT up s).length<=b->Q (.dat (.str (stS up s))) [rdr L (pl+(stT up s).length) fm]):WU cu [rdr L pl fm] Q P:=by
 have one:∀ (c:Str) (p:Int) (t:Str) (Q:PR->List Qq->Prop),L[pl]?=some (.tuple [.str c,.int p])->c ≠ "^" -> Sm L b P pl [t]->Sh t->(pl+1<=b->Q (.dat (.str t)) [rdr L (pl+1) fm])->WU cu [rdr L pl fm] Q P:=by
  intro c p t Q es hc hm ht q;refine l9 rfl ?_;unfold fj;walk_at "x";refine bw rfl rfl es ?_;walk_at "X";refine d7 (congrArg not (iT (N6 hc))) ?_;walk_at "x";refine aj (is:=[0]) rfl rfl rfl (fW hm ht fun hb=>⟨rfl,?_⟩);walk_at "x";exact q hb
 cases up with
 | false =>
  have h:Sm L b P pl (s :: TK):=h;obtain ⟨c,p,es,hc⟩:=h.cur;refine one c p s Q es ?_ (Sm.pre (A:=[s]) h) hs q;rcases hc with ⟨rfl,_⟩ | ⟨hx,_⟩
  ·exact Fe hs
  ·exact hx.1.2.2.2.2
 | true =>
  have h:Sm L b P pl (Str.ofString "^" :: s :: TK):=h;obtain ⟨c,p,es,hc⟩:=h.cur;rcases hc with ⟨rfl,hb⟩ | ⟨hx,rfl,rfl⟩
  ·refine l9 rfl ?_;unfold fj;walk_at "x";refine bw rfl rfl es ?_;walk_at "X";refine aj (is:=[0]) rfl rfl rfl (eg h (.inr (.inr (.inr rfl))) fun hb=>⟨rfl,?_⟩);walk_at "X";refine aj (is:=[0]) rfl rfl rfl (fW (h.tl hb) hs fun hb2=>⟨rfl,?_⟩);walk_at "X";refine eJ rfl (by have:=hs.2.2;have e:(Str.ofString "^").length=1:=(by decide);rw [e];show _<=2 ^ 24;lia) ?_;walk_at "x";exact q hb2
  ·refine one c p s Q es hx.1.2.2.2.2 (h.any rfl) hs fun z=>by lia
def Lf (w:Str):Prop:=w = "any" \/ w = "thing" \/ w = "number" \/ w = "said"
def Lst (w:Str):Prop:=w = "all" \/ w = "some" \/ w = "one" \/ w = "none"
def Wlk (w:Str):Prop:=w = "many" \/ w = "each"
theorem bN (q:Q (.dat (kgD bx w)) []):WF bU [.str w] Q:=by
 refine dw rfl ?_;unfold iV;walk_at "P";exact q
theorem rq {a b:Bool} {i:Int} (hL:kgD bx w=.int i) (hW:((["many", "each"]:List Str).any fun s=>decide (s=w))=a) (hC:wk=true->a=false/\PyData.eqv (.str w) (.str "closed")=false) (hN:PyData.eqv (.str w) (.str "not")=b) (hj:j=if a||b then 1 else 0) (h1:fm+1+j<=40) (h2:dep+j<=8) (q:Q (.dat (.bool true)) []):WF aP [.str w,.int (fm:Int),.int (dep:Int),.bool wk] Q:=by
 refine dw rfl ?_;unfold fe;with_reducible refine cV fun N eN=>?_
 have rest:N ([.dat (.str w),.dat (.int (fm:Int)),.dat (.int (dep:Int)),.dat (.bool wk),.un]:En):=by
  rw [eN];clear eN N;with_reducible refine cV fun N eN=>?_
  have rest:N ([.dat (.str w),.dat (.int (fm:Int)),.dat (.int (dep:Int)),.dat (.bool wk),.dat (.int (j:Int))]:En):=by
   rw [eN];walk_at "pr";refine d7 (NY (by lia)) ?_;walk_at "pr";show Q (.dat (.bool (decide _))) [];rw [NY (by lia)];exact q
  walk_at "pr";refine w_inS ["many", "each"] rfl ?_;rw [hW];cases a with
  | true =>
   subst hj;walk_at "pr";exact rest
  | false =>
   walk_at "pr";cases b with
   | true =>
    subst hj;refine d7 hN ?_;walk_at "pr";exact rest
   | false =>
    subst hj;refine cC hN ?_;walk_at "pr";exact rest
 walk_at "pr";refine aa (is:=[]) rfl rfl (bN ⟨rfl,?_⟩);rw [hL];cases wk with
 | false =>
  walk_at "pr";exact rest
 | true =>
  walk_at "pr";refine w_inS ["many", "each"] rfl ?_;rw [hW,(hC rfl).1];walk_at "pr";refine cC (hC rfl).2 ?_;walk_at "pr";exact rest
theorem FO (hw:Lf w\/Lst w\/w = "from" \/ w = "upto" \/ w = "is" \/ w = "keeps") (h1:fm+1<=40) (h2:dep+0<=8) (q:Q (.dat (.bool true)) []):WF aP [.str w,.int (fm:Int),.int (dep:Int),.bool wk] Q:=by
 rcases hw with (rfl | rfl | rfl | rfl) | (rfl | rfl | rfl | rfl) | rfl | rfl | rfl | rfl <;> exact rq (j:=0) rfl rfl (fun _=>⟨rfl,rfl⟩) rfl rfl h1 h2 q
theorem MW (hw:w = "closed" \/ w = "closed") (h1:fm+1<=40) (h2:dep+0<=8) (q:Q (.dat (.bool true)) []):WF aP [.str w,.int (fm:Int),.int (dep:Int),.bool false] Q:=by
 rcases hw with rfl | rfl <;> exact rq (j:=0) rfl rfl (fun z=>by cases z) rfl rfl h1 h2 q
theorem MN (hw:w = "not" \/ w = "not") (h1:fm+2<=40) (h2:dep+1<=8) (q:Q (.dat (.bool true)) []):WF aP [.str w,.int (fm:Int),.int (dep:Int),.bool wk] Q:=by
 rcases hw with rfl | rfl <;> exact rq (j:=1) rfl rfl (fun _=>⟨rfl,rfl⟩) rfl rfl h1 h2 q
theorem NI (hw:Wlk w) (h1:fm+2<=40) (h2:dep+1<=8) (q:Q (.dat (.bool true)) []):WF aP [.str w,.int (fm:Int),.int (dep:Int),.bool false] Q:=by
 rcases hw with rfl | rfl <;> exact rq (j:=1) rfl rfl (fun z=>by cases z) rfl rfl h1 h2 q
theorem CS (hx:Bad x) (q:Q (.dat (.bool false)) []):WF aP [.str x,.int (fm:Int),.int (dep:Int),.bool wk] Q:=by
 refine dw rfl ?_;unfold fe;walk_at "pr";refine aa (is:=[]) rfl rfl (bN ⟨rfl,?_⟩);rw [hx.2.2.2.2];walk_at "pr";exact q
abbrev kO:Str := "("
abbrev kC:Str := ")"
abbrev kM:Str := ","
noncomputable def aS (f:Bool):List (List Str)->List Str
 | []=>[]
 | l :: ls=>(if f then [] else [kM])++(l++aS false ls)
def lq (P:Qq->List Str->Nat->Prop):List Qq->List (List Str)->Nat->Prop
 | [],[],k=>k=0
 | u :: us,T :: Ts,k=>∃ j m,P u T j/\lq P us Ts m/\k=j+m
 | _,_,_=>False
def Bnd (bs:List Str):Prop:=(∀ b∈bs,Sh b)/\bs.Nodup/\bs.length<=6/\sC bs=bs
def Fr:Nat->Bool->Qq->List Str->Nat->Prop
 | 0,_,_,_,_=>False
 | n+1,fr,d,TK,k =>
   (k=1/\∃ w,Lf w/\d=.tuple [.str w]/\TK=[w])
  \/ (k=1/\∃ (w:Str) (i:Int),(w = "from" \/ w = "upto")/\i.natAbs < 10 ^ 30/\d=.tuple [.str w,.int i]/\TK=[w,az i])
  \/ (k=1/\∃ x T,j9 x T/\d=.tuple [.str "is", x]/\TK=[("is" : Str),T])
  \/ (k=1/\∃ s,Sh s/\d=.tuple [.str "keeps", .str s]/\TK=[("keeps" : Str),s])
  \/ (k=1/\fr=true/\∃ bs:List Str,Bnd bs/\d=.tuple [.str "closed", .tuple (bs.map .str)]/\TK=[("closed" : Str),kO]++(aS true (bs.map fun b=>[b])++[kC]))
  \/ (∃ u T j,Fr n fr u T j/\k=j+1/\d=.tuple [.str "not", u]/\TK=[("not" : Str),kO]++(T++[kC]))
  \/ (∃ w us Ts j,Lst w/\lq (Fr n fr) us Ts j/\us.length<=6/\k=j+1/\d=.tuple [.str w,.tuple us]/\TK=[w,kO]++(aS true Ts++[kC]))
  \/ (fr=true/\∃ (w:Str) (lo:Int) (hi:Option Int) (up:Bool) (s:Str) (u:Qq) (T:List Str) (j:Nat),Wlk w/\0<=lo/\lo<=60/\zB lo hi/\Sh s/\Fr n false u T j/\k=j+1/\d=.tuple [.str w,.int lo,hiD hi,.str (stS up s),u]/\TK=[w,kO,az lo,kM,hiT hi,kM]++(stT up s++(kM :: (T++[kC]))))
theorem jg (h:Fr n fr d TK k):1<=k/\1<=n:=by
 cases n with
 | zero=>exact h.elim
 | succ n =>
  refine ⟨?_,by lia⟩;rcases h with ⟨rfl,_⟩ | ⟨rfl,_⟩ | ⟨rfl,_⟩ | ⟨rfl,_⟩ | ⟨rfl,_⟩ | ⟨_,_,_,_,rfl,_⟩ | ⟨_,_,_,_,_,_,_,rfl,_⟩ | ⟨_,_,_,_,_,_,_,_,_,_,_,_,_,_,_,rfl,_⟩ <;> lia
theorem qF {L:List Qq} {p:Int} (es:L[pl]?=some (.tuple [.str x,.int p])) (hx:Bad x) (ep:P=some p) (hP:∀ p,P=some p->dY (.int p)=true):WU (aq (n+1)) [rdr L pl fm,.int (dep:Int),.bool wk] Q P:=by
 refine l9 rfl ?_;unfold fh;walk_at "x";refine bw rfl rfl es ?_;walk_at "X";refine aa (is:=[]) rfl rfl (CS hx ⟨rfl,?_⟩);walk_at "x";exact aj (is:=[0]) rfl rfl rfl (bI es hP (fun _=>ep) fun z=>by cases z)
def yC (n:Nat):Prop:=∀ {fr:Bool} {d:Qq} {TK:List Str} {k pl fm dep b:Nat} {L:List Qq} {P:Option Int} {Q:PR->List Qq->Prop},Fr n fr d TK k->Sm L b P pl TK->fm+k<=40->dep+n<=9->(pl+TK.length<=b->Q (.dat d) [rdr L (pl+TK.length) (fm+k)])->WU (aq (n+1)) [rdr L pl fm,.int (dep:Int),.bool (!fr)] Q P
section
variable {n k pl fm dep b:Nat} {L:List Qq} {P:Option Int} {Q:PR->List Qq->Prop}
theorem Hy (ih:yC n) {fr:Bool} {d:Qq} {T:List Str} (h:Fr n fr d T k) (ha:Sm L b P pl ([kO]++(T++[kC]))) (hk:fm+k<=40) (hd:dep+1+n<=9) (q:pl+1+T.length+1<=b->Q (.dat (.tuple [.str "not", d])) [rdr L (pl+1+T.length+1) (fm+k)]):WU (fX (aq (n+1))) [rdr L pl fm,.int (dep:Int),.bool (!fr)] Q P:=by
 refine l9 rfl ?_;unfold jd;walk_at "x";refine aj (is:=[0]) rfl rfl rfl (eg ha (.inl rfl) fun h1=>⟨rfl,?_⟩);have a1:=ha.skip h1;walk_at "X";refine aj (is:=[0]) rfl rfl rfl (ih (dep:=dep+1) h a1.pre hk hd fun h2=>⟨rfl,?_⟩);walk_at "X";refine aj (is:=[0]) rfl rfl rfl (eg (a1.skip h2) (.inr (.inl rfl)) fun h3=>⟨rfl,?_⟩);walk_at "X";exact q h3
theorem D7 (ih:yC n) {w:Str} {lo:Int} {hi:Option Int} {up:Bool} {s:Str} {d:Qq} {T:List Str} (h0:0<=lo) (h1:lo<=60) (hh:zB lo hi) (hs:Sh s) (h:Fr n false d T k) (ha:Sm L b P pl ([kO]++([az lo]++([kM]++([hiT hi]++([kM]++(stT up s++([kM]++(T++[kC]))))))))) (hk:fm+k<=40) (hd:dep+1+n<=9) (q:pl+1+1+1+1+1+(stT up s).length+1+T.length+1<=b->Q (.dat (.tuple [.str w,.int lo,hiD hi,.str (stS up s),d])) [rdr L (pl+1+1+1+1+1+(stT up s).length+1+T.length+1) (fm+k)]):WU (eK (aq (n+1))) [rdr L pl fm,.str w,.int (dep:Int)] Q P:=by
 refine l9 rfl ?_;unfold iW;walk_at "x";refine aj (is:=[0]) rfl rfl rfl (eg ha (.inl rfl) fun g=>⟨rfl,?_⟩);have a1:=ha.skip g;clear ha g;walk_at "X";refine aj (is:=[0]) rfl rfl rfl (sM a1 h0 h1 fun g=>⟨rfl,?_⟩);have a2:=a1.skip g;clear a1 g;walk_at "X";refine aj (is:=[0]) rfl rfl rfl (eg a2 (.inr (.inr (.inl rfl))) fun g=>⟨rfl,?_⟩);have a3:=a2.skip g;clear a2 g;walk_at "X";refine aj (is:=[0]) rfl rfl rfl (pf a3 h0 h1 hh fun g=>⟨rfl,?_⟩);have a4:=a3.skip g;clear a3 g;walk_at "X";refine aj (is:=[0]) rfl rfl rfl (eg a4 (.inr (.inr (.inl rfl))) fun g=>⟨rfl,?_⟩);have a5:=a4.skip g;clear a4 g;walk_at "X";refine aj (is:=[0]) rfl rfl rfl (qr a5 hs fun g=>⟨rfl,?_⟩);have a6:=a5.skip g;clear a5 g;walk_at "X";refine aj (is:=[0]) rfl rfl rfl (eg a6 (.inr (.inr (.inl rfl))) fun g=>⟨rfl,?_⟩);have a7:=a6.skip g;clear a6 g;walk_at "X";refine aj (is:=[0]) rfl rfl rfl (ih (fr:=false) (dep:=dep+1) h a7.pre hk hd fun g=>⟨rfl,?_⟩);walk_at "X";refine aj (is:=[0]) rfl rfl rfl (eg (a7.skip g) (.inr (.inl rfl)) fun g=>⟨rfl,?_⟩);walk_at "X";exact q g
end
theorem jx (h:Fr n fr d TK k):∃ w T,TK=w :: T/\w≠kC:=by
 cases n with
 | zero=>exact h.elim
 | succ n =>
  rcases h with ⟨_,w,(rfl | rfl | rfl | rfl),_,rfl⟩ | ⟨_,w,_,(rfl | rfl),_,_,rfl⟩ | ⟨_,_,_,_,_,rfl⟩ | ⟨_,_,_,_,rfl⟩ | ⟨_,_,_,_,_,rfl⟩ | ⟨_,_,_,_,_,_,rfl⟩ | ⟨w,_,_,_,(rfl | rfl | rfl | rfl),_,_,_,_,rfl⟩ | ⟨_,w,_,_,_,_,_,_,_,(rfl | rfl),_,_,_,_,_,_,_,rfl⟩ <;> exact ⟨_,_,rfl,by decide +kernel⟩
section
variable {n k pl fm dep b:Nat} {L:List Qq} {P:Option Int} {Q:PR->List Qq->Prop}
theorem CU (ih:yC n) {fr:Bool} {w:Str} {us:List Qq} {Ts:List (List Str)} (h:lq (Fr n fr) us Ts k) (hu:us.length<=6) (ha:Sm L b P pl ([kO]++(aS true Ts++[kC]))) (hk:fm+k<=40) (hd:dep+1+n<=9) (q:pl+1+(aS true Ts).length+1<=b->Q (.dat (.tuple [.str w,.tuple us])) [rdr L (pl+1+(aS true Ts).length+1) (fm+k)]):WU (eX (aq (n+1))) [rdr L pl fm,.str w,.int (dep:Int),.bool (!fr)] Q P:=by
 refine l9 rfl ?_;unfold iJ;walk_at "x";refine aj (is:=[0]) rfl rfl rfl (eg ha (.inl rfl) fun g1=>⟨rfl,?_⟩);have a1:=ha.skip g1;walk_at "xn";with_reducible refine qY fun N eN=>?_
 have rest:pl+1+(aS true Ts).length<=b->N ([.ino (rdr L (pl+1+(aS true Ts).length) (fm+k)),.dat (.str w),.dat (.int (dep:Int)),.dat (.bool (!fr)),.own (.list us)]:En):=by
  intro g2;rw [eN];walk_at "x";refine aj (is:=[0]) rfl rfl rfl (eg (a1.skip g2) (.inr (.inl rfl)) fun g3=>⟨rfl,?_⟩);walk_at "X";exact q g3
 refine Mf (fun m e=>∃ (us1 us2:List Qq) (Ts2:List (List Str)) (k2 p fb:Nat),us=us1++us2/\us2.length=m/\lq (Fr n fr) us2 Ts2 k2/\Sm L b P p (aS us1.isEmpty Ts2++[kC])/\p+(aS us1.isEmpty Ts2).length=pl+1+(aS true Ts).length/\fb+k2=fm+k/\e=([.ino (rdr L p fb),.dat (.str w),.dat (.int (dep:Int)),.dat (.bool (!fr)),.own (.list us1)]:En)) us.length (by lia) ⟨[],us,Ts,k,pl+1,fm,rfl,rfl,h,a1,rfl,rfl,rfl⟩ ?_;rintro m e hm ⟨us1,us2,Ts2,k2,p,fb,rfl,rfl,hA2,hr2,hb,hf,rfl⟩;rw [NS] at hu;have hsh:∃ t TK,aS us1.isEmpty Ts2++[kC]=t :: TK/\(t=kC↔us2=[]):=by
  match us2,Ts2,hA2 with
  | [],[],_=>exact ⟨_,_,rfl,⟨fun _=>rfl,fun _=>rfl⟩⟩
  | u :: us',T :: Ts',hA2 =>
   obtain ⟨j,m2,hu2,hA3,rfl⟩:=hA2;obtain ⟨w0,T0,eT,hw0⟩:=jx hu2;cases us1 with
   | nil=>exact ⟨w0,_,by show ([]++(T++aS false Ts'))++_=_;rw [eT];rfl,⟨fun z=>absurd z hw0,fun z=>by cases z⟩⟩
   | cons _ _=>exact ⟨kM,_,rfl,⟨fun z=>absurd z (by decide +kernel),fun z=>by cases z⟩⟩
 obtain ⟨t,TK,et,ht⟩:=hsh;have hr3:=hr2;rw [et] at hr3;obtain ⟨s,p0,es,hc⟩:=hr3.cur;walk_at "x";refine bw rfl rfl es ?_;walk_at "X";by_cases hs:s=kC
 ·have g:us2=[]:=by
   rcases hc with ⟨rfl,_⟩ | ⟨hx,_⟩
   ·exact ht.mp hs
   ·exact absurd hs hx.1.2.1
  have hb2:p+1<=b:=by
   rcases hc with ⟨_,z⟩ | ⟨hx,_⟩
   ·exact z
   ·exact absurd hs hx.1.2.1
  subst g hs
  match Ts2,hA2 with
  | [],hA2 =>
   have hb:p=pl+1+(aS true Ts).length:=hb;obtain rfl:k2=0:=hA2;refine cC (show (!PyData.eqv (.str kC) (.str kC))=false by rw [dZ];rfl) ?_;rw [Oz,<-hb,<-hf] at rest;exact rest (by lia)
 ·refine d7 (congrArg not (iT (N6 hs))) ?_;walk_at "xz";with_reducible refine qY fun N2 eN2=>?_
  have go:∀ (p':Nat) (u:Qq) (us':List Qq) (T:List Str) (Ts':List (List Str)) (j m2:Nat),us2=u :: us'->Fr n fr u T j->lq (Fr n fr) us' Ts' m2->k2=j+m2->Sm L b P p' (T++(aS false Ts'++[kC]))->p'+T.length+(aS false Ts').length=pl+1+(aS true Ts).length->N2 ([.ino (rdr L p' fb),.dat (.str w),.dat (.int (dep:Int)),.dat (.bool (!fr)),.own (.list us1)]:En):=by
   intro p' u us' T Ts' j m2 e2 hu2 hA3 ek hr4 hb4;subst e2;have jp:=(jg hu2).1;rw [NV] at hu;rw [eN2];walk_at "x";refine aj (is:=[0]) rfl rfl rfl (ih (dep:=dep+1) hu2 hr4.pre (by lia) hd fun g=>⟨rfl,?_⟩);walk_at "X";refine kj rfl (by show _ < 2 ^ 24;lia) rfl ?_;walk_at "x";refine ⟨us'.length,O7 _,us1++[u],us',Ts',m2,p'+T.length,fb+j,by simp,rfl,hA3,?_,?_,by lia,rfl⟩
   ·rw [show (us1++[u]).isEmpty=false by cases us1 <;> rfl];exact hr4.skip g
   ·rw [show (us1++[u]).isEmpty=false by cases us1 <;> rfl];exact hb4
  cases us1 with
  | nil =>
   walk_at "x";refine ⟨rfl,?_⟩;walk_at "x"
   match us2,Ts2,hA2 with
   | [],[],hA2 =>
    rcases hc with ⟨rfl,_⟩ | ⟨hx,ep,_⟩
    ·exact absurd (ht.mpr rfl) hs
    ·rw [eN2];walk_at "x";exact aj (is:=[0]) rfl rfl rfl (qF es hx ep hr2.pay)
   | u :: us',T :: Ts',hA2 =>
    obtain ⟨j,m2,hu2,hA3,rfl⟩:=hA2;refine go p u us' T Ts' j m2 rfl hu2 hA3 rfl ?_ ?_
    ·have:Sm L b P p (([]++(T++aS false Ts'))++[kC]):=hr2
     rwa [OL,Oy] at this
    ·have:p+([]++(T++aS false Ts')).length=_:=hb;rw [OL,NS] at this;lia
  | cons v0 vs0 =>
   walk_at "x";refine ⟨rfl,?_⟩;walk_at "x";have hM:∃ TK2,Sm L b P p (kM :: TK2):=by
    match us2,Ts2,hA2 with
    | [],[],_ =>
     rcases hc with ⟨rfl,_⟩ | ⟨_,_,z⟩
     ·exact absurd (ht.mpr rfl) hs
     ·exact ⟨[],hr3.any z⟩
    | u :: us',T :: Ts',_=>exact ⟨_,hr2⟩
   obtain ⟨TK2,hM⟩:=hM;have more:p+1<=b->∃ u us' T Ts' j m2,us2=u :: us'/\Ts2=T :: Ts'/\Fr n fr u T j/\lq (Fr n fr) us' Ts' m2/\k2=j+m2:=by
    intro g
    match us2,Ts2,hA2 with
    | [],[],_ =>
     rcases hc with ⟨rfl,_⟩ | ⟨_,_,z⟩
     ·exact absurd (ht.mpr rfl) hs
     ·lia
    | u :: us',T :: Ts',hA2 =>
     obtain ⟨j,m2,hu2,hA3,rfl⟩:=hA2;exact ⟨u,us',T,Ts',j,m2,rfl,rfl,hu2,hA3,rfl⟩
   have fin:p+1<=b->N2 ([.ino (rdr L (p+1) fb),.dat (.str w),.dat (.int (dep:Int)),.dat (.bool (!fr)),.own (.list (v0 :: vs0))]:En):=by
    intro g;obtain ⟨u,us',T,Ts',j,m2,rfl,rfl,hu2,hA3,rfl⟩:=more g;have hr2:Sm L b P p (([kM]++(T++aS false Ts'))++[kC]):=hr2;rw [Oy,Oy] at hr2;have hb:p+([kM]++(T++aS false Ts')).length=_:=hb;rw [NS,NS,Ow] at hb;exact go (p+1) u us' T Ts' j m2 rfl hu2 hA3 rfl (hr2.skip g) (by lia)
   have room:p+1<=b->(v0 :: vs0).length < 6/\fb < 40:=by
    intro g;obtain ⟨u,us',T,Ts',j,m2,rfl,rfl,hu2,hA3,rfl⟩:=more g;have jp:=(jg hu2).1;rw [NV (a:=u)] at hu;exact ⟨by lia,by lia⟩
   refine fH (fun c1=>?_) (fun c1=>?_)
   ·walk_at "x";refine aj (is:=[0]) rfl rfl rfl (eO hM (fun g=>NY (by have:=room g;lia)) fun g=>⟨rfl,?_⟩);walk_at "x";exact fin g
   ·walk_at "x";refine aj (is:=[0]) rfl rfl rfl (eO hM (fun g=>?_) fun g=>⟨rfl,?_⟩)
    ·have:=Pd c1;have:=room g;lia
    ·walk_at "x";exact fin g
end
theorem IQ {b:Str} (h:Sh b):b≠kC:=fun z=>by
 have:=h.1 41 (by rw [z];decide +kernel);lia
theorem Gy {x y:AV} (ss:List Str) {Q:RV->En->Prop} (h1:aK e [x,y]=some [.str z,.list (ss.map .str)]) (h2:z ∉ ss) (q:Q (.dat (.bool true)) e):WPr wV [x,y] e Q:=by
 refine ⟨_,.dat (.bool true),h1,?_,q⟩;show (if yQ (.str z)=true/\fN (ss.map .str)=true then some (PR.dat (.bool (ngB true (kQ (ss.map .str) (.str z))))) else none)=_;rw [N4 ⟨by simp [yQ,noD,PyData.depth],lQ ss⟩,mH];have:(ss.any fun s=>decide (s=z))=false:=by
  rw [List.any_eq_false];intro s hs;rw [Bool.not_eq_true];exact N6 fun e=>h2 (by rw [<- e];exact hs)
 rw [this];rfl
abbrev ones (bs:List Str):List (List Str):=bs.map fun b=>[b]
section
variable {pl fm b:Nat} {L:List Qq} {P:Option Int} {Q:PR->List Qq->Prop}
theorem wA {bs:List Str} (h:Bnd bs) (ha:Sm L b P pl ([kO]++(aS true (ones bs)++[kC]))) (q:pl+1+(aS true (ones bs)).length+1<=b->Q (.dat (.tuple [.str "closed", .tuple (bs.map .str)])) [rdr L (pl+1+(aS true (ones bs)).length+1) fm]):WU cp [rdr L pl fm] Q P:=by
 obtain ⟨hs,hn,hl,hst⟩:=h;refine l9 rfl ?_;unfold fJ;walk_at "x";refine aj (is:=[0]) rfl rfl rfl (eg ha (.inl rfl) fun g1=>⟨rfl,?_⟩);have a1:=ha.skip g1;walk_at "xn";with_reducible refine qY fun N eN=>?_
 have rest:pl+1+(aS true (ones bs)).length<=b->∀ x:Sl,soft x->N ([.ino (rdr L (pl+1+(aS true (ones bs)).length) fm),.own (.list (bs.map .str)),x]:En):=by
  intro g2 x hx;rw [eN];walk_at "x";refine aj (is:=[0]) rfl rfl rfl (eg (a1.skip g2) (.inr (.inl rfl)) fun g3=>⟨rfl,?_⟩);walk_at "X";refine BL rfl (by lia) ?_;rw [hst];walk_at "x";exact q g3
 refine Mf (fun m e=>∃ (b1 b2:List Str) (p:Nat) (x:Sl),bs=b1++b2/\b2.length=m/\Sm L b P p (aS b1.isEmpty (ones b2)++[kC])/\p+(aS b1.isEmpty (ones b2)).length=pl+1+(aS true (ones bs)).length/\soft x/\e=([.ino (rdr L p fm),.own (.list (b1.map .str)),x]:En)) bs.length (by lia) ⟨[],bs,pl+1,.un,rfl,rfl,a1,rfl,sH,rfl⟩ ?_;rintro m e hm ⟨b1,b2,p,x,eb,rfl,hr2,hb,hx,rfl⟩;have hl2:=congrArg List.length eb;rw [NS] at hl2;have hsh:∃ t TK,aS b1.isEmpty (ones b2)++[kC]=t :: TK/\(t=kC↔b2=[]):=by
  cases b2 with
  | nil=>exact ⟨_,_,rfl,⟨fun _=>rfl,fun _=>rfl⟩⟩
  | cons c cs =>
   cases b1 with
   | nil=>exact ⟨c,_,rfl,⟨fun z=>absurd z (IQ (hs c (by rw [eb];simp))),fun z=>by cases z⟩⟩
   | cons _ _=>exact ⟨kM,_,rfl,⟨fun z=>absurd z (by decide +kernel),fun z=>by cases z⟩⟩
 obtain ⟨t,TK,et,ht⟩:=hsh;have hr3:=hr2;rw [et] at hr3;obtain ⟨s,p0,es,hc⟩:=hr3.cur;walk_at "x";refine bw rfl rfl es ?_;walk_at "X";by_cases hsk:s=kC
 ·have g:b2=[]/\p+1<=b:=by
   rcases hc with ⟨rfl,z⟩ | ⟨hx,_⟩
   ·exact ⟨ht.mp hsk,z⟩
   ·exact absurd hsk hx.1.2.1
  obtain ⟨g,hb2⟩:=g;subst g hsk;have hb:p=pl+1+(aS true (ones bs)).length:=hb;refine cC (show (!PyData.eqv (.str kC) (.str kC))=false by rw [dZ];rfl) ?_;rw [Oz] at eb;subst eb;rw [<- hb] at rest;exact rest (by lia) x hx
 ·refine d7 (congrArg not (iT (N6 hsk))) ?_;walk_at "xz";with_reducible refine qY fun N2 eN2=>?_
  have go:∀ (p':Nat),(∃ (c:Str) (q0:Int),L[p']?=some (.tuple [.str c,.int q0])/\((∃ cs,b2=c :: cs/\p'+1<=b/\Sm L b P (p'+1) (aS false (ones cs)++[kC])/\p'+1+(aS false (ones cs)).length=pl+1+(aS true (ones bs)).length)\/(Bad c/\P=some q0)))->N2 ([.ino (rdr L p' fm),.own (.list (b1.map .str)),x]:En):=by
   rintro p' ⟨c,q0,ec,hcc⟩;rw [eN2];walk_at "x";refine bw rfl rfl ec ?_;walk_at "X";refine aa (is:=[]) rfl rfl (g7 ⟨rfl,?_⟩);rcases hcc with ⟨cs,rfl,g,hr4,hb4⟩ | ⟨hcb,ep⟩
   ·have hc1:Sh c:=hs c (by rw [eb];simp);rw [(DF hc1).1];walk_at "x";refine Gy b1 rfl (fun z=>?_) ?_
    ·rw [eb] at hn;exact (List.nodup_append.mp hn).2.2 c z c N5 rfl
    walk_at "x";refine aj (is:=[0]) rfl rfl rfl (bI ec hr2.pay (fun z=>by cases z) fun _=>⟨rfl,?_⟩);walk_at "X";refine kj rfl (by rw [NT];show _ < 2 ^ 24;lia) rfl ?_;walk_at "x";refine ⟨cs.length,O7 _,b1++[c],cs,p'+1,.dat (.str c),by rw [eb];simp,rfl,?_,?_,i0,by rw [Oo];rfl⟩
    ·rw [show (b1++[c]).isEmpty=false by cases b1 <;> rfl];exact hr4
    ·rw [show (b1++[c]).isEmpty=false by cases b1 <;> rfl];exact hb4
   ·rw [hcb.2.1];walk_at "x";exact aj (is:=[0]) rfl rfl rfl (bI ec hr2.pay (fun _=>ep) fun z=>by cases z)
  cases b1 with
  | nil =>
   walk_at "x";refine ⟨rfl,?_⟩;walk_at "x";refine go p ⟨s,p0,es,?_⟩;rcases hc with ⟨rfl,g⟩ | ⟨hx,z,_⟩
   ·cases b2 with
    | nil=>exact absurd (ht.mpr rfl) hsk
    | cons c cs =>
     have hr2:Sm L b P p ([c]++(aS false (ones cs)++[kC])):=hr2;obtain rfl:c=s:=(O5.mp et).1;have hb:p+(c :: aS false (ones cs)).length=_:=hb;rw [NV] at hb;exact .inl ⟨cs,rfl,g,hr2.skip g,by lia⟩
   ·exact .inr ⟨hx,z⟩
  | cons v0 vs0 =>
   walk_at "x";refine ⟨rfl,?_⟩;walk_at "x";have hM:∃ TK2,Sm L b P p (kM :: TK2):=by
    cases b2 with
    | nil =>
     rcases hc with ⟨rfl,_⟩ | ⟨_,_,z⟩
     ·exact absurd (ht.mpr rfl) hsk
     ·exact ⟨[],hr3.any z⟩
    | cons c cs=>exact ⟨_,hr2⟩
   obtain ⟨TK2,hM⟩:=hM;refine aj (is:=[0]) rfl rfl rfl (eO hM (fun g=>NY (by rw [NT];lia)) fun g=>⟨rfl,?_⟩);walk_at "x";cases b2 with
   | nil =>
    rcases hc with ⟨rfl,_⟩ | ⟨_,_,z⟩
    ·exact absurd (ht.mpr rfl) hsk
    ·lia
   | cons c cs =>
    have hr2:Sm L b P p ([kM]++([c]++(aS false (ones cs)++[kC]))):=hr2;have hb:p+(kM :: c :: aS false (ones cs)).length=_:=hb;rw [NV,NV] at hb;have h4:=hr2.skip g;have h4:Sm L b P (p+1) (c :: (aS false (ones cs)++[kC])):=h4;obtain ⟨s2,q2,e2,hc2⟩:=h4.cur;refine go (p+1) ⟨s2,q2,e2,?_⟩;rcases hc2 with ⟨rfl,g2⟩ | ⟨hx2,z2,_⟩
    ·exact .inl ⟨cs,rfl,g2,h4.tl g2,by lia⟩
    ·exact .inr ⟨hx2,z2⟩
end
theorem GI (h:Fr (n+1) fr d TK k) (hk:fm+k<=40) (hd:dep+(n+1)<=9):∃ w T,TK=w :: T/\∀ {Q:PR->List Qq->Prop},Q (.dat (.bool true)) []->WF aP [.str w,.int (fm:Int),.int (dep:Int),.bool (!fr)] Q:=by
 rcases h with ⟨rfl,w,hw,rfl,rfl⟩ | ⟨rfl,w,i,hw,hi,rfl,rfl⟩ | ⟨rfl,x,T,hx,rfl,rfl⟩ | ⟨rfl,s,hs,rfl,rfl⟩ | ⟨rfl,rfl,bs,hb,rfl,rfl⟩ | ⟨u,T,j,hu,rfl,rfl,rfl⟩ | ⟨w,us,Ts,j,hw,hA,hl,rfl,rfl,rfl⟩ | ⟨rfl,w,lo,hi,up,s,u,T,j,hw,h0,h1,hh,hs,hu,rfl,rfl,rfl⟩
 ·exact ⟨_,_,rfl,fun q=>FO (.inl hw) hk (by lia) q⟩
 ·exact ⟨_,_,rfl,fun q=>FO (.inr (.inr (hw.elim .inl fun z=>.inr (.inl z)))) hk (by lia) q⟩
 ·exact ⟨_,_,rfl,fun q=>FO (.inr (.inr (.inr (.inr (.inl rfl))))) hk (by lia) q⟩
 ·exact ⟨_,_,rfl,fun q=>FO (.inr (.inr (.inr (.inr (.inr rfl))))) hk (by lia) q⟩
 ·exact ⟨_,_,rfl,fun q=>MW (.inl rfl) hk (by lia) q⟩
 ·exact ⟨_,_,rfl,fun q=>MN (.inl rfl) (by have:=jg hu;lia) (by have:=jg hu;lia) q⟩
 ·exact ⟨_,_,rfl,fun q=>FO (.inr (.inl hw)) (by lia) (by lia) q⟩
 ·exact ⟨_,_,rfl,fun q=>NI hw (by have:=jg hu;lia) (by have:=jg hu;lia) q⟩
theorem vU {x y:AV} {b:Bool} {Q:RV->En->Prop} (h1:aK e [x,y]=some [.str z,.tuple ds]) (h2:fN ds=true) (h3:kQ ds (.str z)=b) (q:Q (.dat (.bool b)) e):WPr inP [x,y] e Q:=by
 refine kPr (pr:=PR.dat (.bool b)) h1 ?_ q;show (if yQ (.str z)=true/\fN ds=true then some (PR.dat (.bool (ngB false (kQ ds (.str z))))) else none)=_;rw [N4 ⟨by simp [yQ,noD,PyData.depth],h2⟩,h3];rfl
def Fc (w:Str) (a b c:Bool):Prop:=kQ [.str "from", .str "upto"] (.str w)=a/\PyData.eqv (.str w) (.str "is")=false/\PyData.eqv (.str w) (.str "keeps")=false/\PyData.eqv (.str w) (.str "closed")=false/\PyData.eqv (.str w) (.str "not")=false/\kQ [.str "all", .str "some", .str "one", .str "none"] (.str w)=b/\kQ [.str "many", .str "each"] (.str w)=c
theorem KP (h:Lf w):Fc w false false false:=by rcases h with rfl | rfl | rfl | rfl <;> exact ⟨rfl,rfl,rfl,rfl,rfl,rfl,rfl⟩
theorem J4 (h:w = "from" \/ w = "upto"):Fc w true false false:=by rcases h with rfl | rfl <;> exact ⟨rfl,rfl,rfl,rfl,rfl,rfl,rfl⟩
theorem K6 (h:Lst w):Fc w false true false:=by rcases h with rfl | rfl | rfl | rfl <;> exact ⟨rfl,rfl,rfl,rfl,rfl,rfl,rfl⟩
theorem Jd (h:Wlk w):Fc w false false true:=by rcases h with rfl | rfl <;> exact ⟨rfl,rfl,rfl,rfl,rfl,rfl,rfl⟩
local macro_rules | `(tactic| walk_at "tf")=>`(tactic| ((walk_at "x");(refine cC (by assumption) ?_)))
local macro_rules | `(tactic| walk_at "ti")=>`(tactic| ((walk_at "x");(refine vU rfl rfl (by assumption) ?_)))
local macro_rules | `(tactic| walk_at "t5")=>`(tactic| ((walk_at "ti");(iterate 4 walk_at "tf");(walk_at "ti")))
theorem Bj:∀ n,yC n
 | 0=>fun h=>False.elim h
 | n+1=>by
  rename_i fr d TK k pl fm dep b L P Q;intro h ha hk hd q;have ih:yC n:=Bj n;have kp:=(jg h).1;obtain ⟨w0,T0,eT,hm⟩:=GI h hk hd;rw [eT] at ha;obtain ⟨s,p,es,⟨rfl,g⟩ | ⟨hx,ep,_⟩⟩:=ha.cur
  rotate_left
  ·exact qF es hx ep ha.pay
  have a1:=ha.tl g;refine l9 rfl ?_;unfold fh;walk_at "x";refine bw rfl rfl es ?_;walk_at "X";refine aa (is:=[]) rfl rfl (hm ⟨rfl,?_⟩);walk_at "x";refine aj (is:=[0]) rfl rfl rfl (bI es ha.pay (fun z=>by cases z) fun _=>⟨rfl,?_⟩);walk_at "X";refine pP rfl rfl ⟨by decide +kernel,by decide +kernel,OP rfl⟩ rfl ?_;rcases h with ⟨rfl,w,hw,rfl,rfl⟩ | ⟨rfl,w,i,hw,hi,rfl,rfl⟩ | ⟨rfl,x,T,hx,rfl,rfl⟩ | ⟨rfl,t,hs,rfl,rfl⟩ | ⟨rfl,rfl,bs,hb,rfl,rfl⟩ | ⟨u,T,j,hu,rfl,rfl,rfl⟩ | ⟨w,us,Ts,j,hw,hA,hl,rfl,rfl,rfl⟩ | ⟨rfl,w,lo,hi,up,t,u,T,j,hw,h0,h1,hh,hs,hu,rfl,rfl,rfl⟩
  ·obtain ⟨rfl,rfl⟩:=O5.mp eT;obtain ⟨f1,f2,f3,f4,f5,f6,f7⟩:=KP hw;walk_at "t5";walk_at "ti";walk_at "x";exact q g
  ·obtain ⟨rfl,rfl⟩:=O5.mp eT;obtain ⟨f1,f2,f3,f4,f5,f6,f7⟩:=J4 hw;walk_at "ti";walk_at "x";refine aj (is:=[0]) rfl rfl rfl (la a1 hi fun g=>⟨rfl,?_⟩);walk_at "x";exact q g
  ·obtain ⟨rfl,rfl⟩:=O5.mp eT;walk_at "y";refine aj (is:=[0]) rfl rfl rfl (mT a1 hx fun g=>⟨rfl,?_⟩);walk_at "y";exact q g
  ·obtain ⟨rfl,rfl⟩:=O5.mp eT;walk_at "y";refine aj (is:=[0]) rfl rfl rfl (fW a1 hs fun g=>⟨rfl,?_⟩);walk_at "y";exact q g
  ·obtain ⟨rfl,rfl⟩:=O5.mp eT;have el:pl+([("closed" : Str),kO]++(aS true (ones bs)++[kC])).length=pl+1+1+(aS true (ones bs)).length+1:=by
    simp only [NS,NV,Og];lia
   rw [el] at q;walk_at "y";refine aj (is:=[0]) rfl rfl rfl (wA hb a1 fun g=>⟨rfl,?_⟩);walk_at "y";exact q g
  ·obtain ⟨rfl,rfl⟩:=O5.mp eT;have el:pl+([("not" : Str),kO]++(T++[kC])).length=pl+1+1+T.length+1:=by
    simp only [NS,NV,Og];lia
   rw [el,show fm+(j+1)=fm+1+j by lia] at q;walk_at "y";refine aj (is:=[0]) rfl rfl rfl (Hy (fm:=fm+1) ih hu a1 (by lia) (by lia) fun g=>⟨rfl,?_⟩);walk_at "y";exact q g
  ·obtain ⟨rfl,rfl⟩:=O5.mp eT;have el:pl+([w,kO]++(aS true Ts++[kC])).length=pl+1+1+(aS true Ts).length+1:=by
    simp only [NS,NV,Og];lia
   rw [el,show fm+(j+1)=fm+1+j by lia] at q;obtain ⟨f1,f2,f3,f4,f5,f6,f7⟩:=K6 hw;walk_at "t5";walk_at "x";refine aj (is:=[0]) rfl rfl rfl (CU (fm:=fm+1) ih hA hl a1 (by lia) (by lia) fun g=>⟨rfl,?_⟩);walk_at "x";exact q g
  ·obtain ⟨rfl,rfl⟩:=O5.mp eT;have el:pl+([w,kO,az lo,kM,hiT hi,kM]++(stT up t++(kM :: (T++[kC])))).length=pl+1+1+1+1+1+1+(stT up t).length+1+T.length+1:=by
    simp only [NS,NV,Og];lia
   rw [el,show fm+(j+1)=fm+1+j by lia] at q;obtain ⟨f1,f2,f3,f4,f5,f6,f7⟩:=Jd hw;walk_at "t5";walk_at "ti";walk_at "x";refine aj (is:=[0]) rfl rfl rfl (D7 (fm:=fm+1) ih h0 h1 hh hs hu a1 (by lia) (by lia) fun g=>⟨rfl,?_⟩);walk_at "x";exact q g
noncomputable def tkS (ts:List (List Nat)):List Str:=(ts.filter fun t=>decide (t≠[32])).map fun t=>⟨t.toArray⟩
noncomputable def plc:Nat->List (List Nat)->List Nat
 | _,[]=>[]
 | a,t :: ts=>(if t=[32] then [] else [a])++plc (a+t.length) ts
noncomputable def mkT (s:Str) (p:Nat):Qq:=.tuple [.str s,.int (p:Int)]
theorem fS:∀ (ts:List (List Nat)) (a:Nat),toks a ts=List.zipWith mkT (tkS ts) (plc a ts)/\(plc a ts).length=(tkS ts).length
 | [],_=>⟨rfl,rfl⟩
 | t :: ts,a=>by
  obtain ⟨ih,il⟩:=fS ts (a+t.length);show ((if t=[32] then [] else [PyData.tuple [.str ⟨t.toArray⟩,.int (a:Int)]])++toks (a+t.length) ts)=List.zipWith mkT ((List.filter (fun t=>decide (t≠[32])) (t :: ts)).map fun t=>(⟨t.toArray⟩:Str)) ((if t=[32] then [] else [a])++plc (a+t.length) ts)/\((if t=[32] then [] else [a])++plc (a+t.length) ts).length=((List.filter (fun t=>decide (t≠[32])) (t :: ts)).map fun t=>(⟨t.toArray⟩:Str)).length;by_cases h:t=[32]
  ·rw [N4 h,N4 h,List.filter_cons_of_neg (by simp [h]),OL,OL];exact ⟨ih,il⟩
  ·rw [Od h,Od h,List.filter_cons_of_pos (by simp [h]),List.map_cons,NS,NV,ih];refine ⟨rfl,?_⟩;rw [il];show 1+_=_;rw [Nat.add_comm];rfl
abbrev tkL (Z:Str) (ts:List (List Nat)):List Qq:=toks 0 ts++[.tuple [.str "", .int (Z.length:Int)]]
theorem gU {p:Nat} (h1:(tkS ts++[Str.ofString ""])[j]?=some s) (h2:(plc 0 ts++[Z.length])[j]?=some p):(tkL Z ts)[j]?=some (.tuple [.str s,.int (p:Int)]):=by
 obtain ⟨e,l⟩:=fS ts 0;have ll:(List.zipWith mkT (tkS ts) (plc 0 ts)).length=(tkS ts).length:=by rw [List.length_zipWith,l,Nat.min_self]
 unfold tkL;rw [e];by_cases hj:j < (tkS ts).length
 ·rw [N1 hj] at h1;rw [N1 (by rw [l];exact hj)] at h2;rw [N1 (by rw [ll];exact hj),List.getElem?_zipWith,h1,h2];rfl
 ·rw [NX (by lia)] at h1;rw [NX (by lia)] at h2;rw [NX (by lia),ll];rw [l] at h2;cases q:j - (tkS ts).length with
  | zero =>
   rw [q] at h1 h2;cases h1;cases h2;rfl
  | succ m=>rw [q] at h1;cases h1
theorem jB {p:Nat} (h:p<=99000):dY (.int (p:Int))=true:=by
 have h1:((p:Int)).natAbs < 10 ^ 30:=Nat.lt_of_le_of_lt (show ((p:Int)).natAbs<=99000 by lia) (by decide);show decide (((p:Int)).natAbs.log2 < 1920/\(az (p:Int)).length<=1000)=true;refine NY ⟨?_,by have:=dW h1;lia⟩;have:=Nat.log2_lt (n:=((p:Int)).natAbs) (k:=1920);by_cases z:((p:Int)).natAbs=0
 ·rw [z];decide
 ·exact (this z).mpr (Ob h1 (by decide +kernel))
theorem KR {p:Nat} (hz:Z.length<=99000) (hp:Pcs ts) (hZ:Z.cps.toList=ts.flatten) (h1:(tkS ts++[Str.ofString ""])[b]?=some x) (h2:(plc 0 ts++[Z.length])[b]?=some p) (hx:Bad x) (hpl:p<=99000) (hT:∀ (j:Nat) (t:Str),TK[j]?=some t->j < b->(tkS ts)[j]?=some t):Sm (tkL Z ts) b (some (p:Int)) 0 TK:=by
 have l:=(fS ts 0).2;have t1:=gA ts 0;have t2:=l5 hp;have e:Z.length=ts.flatten.length:=by rw [<- aw,hZ]
 refine ⟨O0 _,by unfold tkL;rw [NS,Ow];lia,.inr ⟨x,_,gU h1 h2,hx,rfl⟩,fun q hq=>by cases hq;exact jB hpl,fun j t ej hj=>?_⟩;have hj:j < b:=by lia
 have g:=hT j t ej hj;have lj:=(NW.mp g).1;have gp:(plc 0 ts++[Z.length])[j]?=some ((plc 0 ts)[j]'(by rw [l];exact lj)):=by rw [N1 (by rw [l];exact lj),N7 (by rw [l];exact lj)]
 exact ⟨_,by rw [P9];exact gU (by rw [N1 lj];exact g) gp⟩
theorem Br (hz:Z.length<=99000) (hp:Pcs ts) (hZ:Z.cps.toList=ts.flatten) (hT:∀ (j:Nat) (t:Str),TK[j]?=some t->(tkS ts)[j]?=some t):Sm (tkL Z ts) (TK.length+1) none 0 TK:=by
 have l:=(fS ts 0).2;have t1:=gA ts 0;have t2:=l5 hp;have e:Z.length=ts.flatten.length:=by rw [<- aw,hZ]
 refine ⟨O0 _,by unfold tkL;rw [NS,Ow];lia,.inl ⟨rfl,by lia⟩,fun q hq=>(by cases hq),fun j t ej hj=>?_⟩;have g:=hT j t ej;have lj:=(NW.mp g).1;have gp:(plc 0 ts++[Z.length])[j]?=some ((plc 0 ts)[j]'(by rw [l];exact lj)):=by rw [N1 (by rw [l];exact lj),N7 (by rw [l];exact lj)]
 exact ⟨_,by rw [P9];exact gU (by rw [N1 lj];exact g) gp⟩
theorem pJ (hz:Z.length<=99000) (h:Pcs ts) (hZ:Z.cps.toList=ts.flatten) (q:Q (.dat .none) [rdr (tkL Z ts) 0 0]):WF gs [.dict [],.str Z] Q:=by
 refine dw rfl ?_;unfold nM;walk_at "pr";refine aa (is:=[]) rfl rfl (nt hz h hZ ⟨rfl,?_⟩);walk_at "pr";refine pP rfl rfl ⟨by decide +kernel,by decide +kernel,OP rfl⟩ rfl ?_;walk_at "pr";refine pP rfl rfl ⟨by decide +kernel,by decide +kernel,OP rfl⟩ rfl ?_;walk_at "pr";refine pP rfl rfl ⟨by decide +kernel,by decide +kernel,OP rfl⟩ rfl ?_;walk_at "pr";exact q
theorem Au {L:List Qq} {p:Int} (es:L[pl]?=some (.tuple [.str s,.int p])) (hP:∀ p,P=some p->dY (.int p)=true) (hc:s = "" \/ (s ≠ "" /\ P=some p)) (q:s = "" -> Q (.dat .none) [rdr L (pl+1) fm]):WU aE [rdr L pl fm,.str ""] Q P:=by
 refine l9 rfl ?_;unfold jD;walk_at "x";refine bw rfl rfl es ?_;walk_at "X";refine aj (is:=[0]) rfl rfl rfl (bI es hP (fun z=>?_) fun z=>?_)
 ·rcases hc with rfl | ⟨_,e⟩
  ·rw [dZ] at z;cases z
  ·exact e
 ·rcases hc with rfl | ⟨hx,_⟩
  ·refine ⟨rfl,?_⟩;walk_at "x";exact q rfl
  ·rw [iT (N6 hx)] at z;cases z
theorem KQ {ms:List PM} {Q:RV->En->Prop} (hm:f.ms=.ino :: ms) (h1:aK e avs=some ds) (h3:Cv ms ds=true) (h:WF f (.dict [] :: ds) fun pr outs=>∃ d',pr=.dat .none/\outs=[d']/\Q (.frs d') e):WPr (HP f) avs e Q:=by
 obtain ⟨pr,outs,hF,d',rfl,rfl,q⟩:=h;refine ⟨ds,.frs d',h1,?_,q⟩;show (match f.ms with | .ino :: ms=>if Cv ms ds=true then (match f.F (.dict [] :: ds) with | some (.dat .none,[d])=>some (PR.frs d) | _=>none) else none | _=>none)=_;rw [hm];show (if Cv ms ds=true then (match f.F (.dict [] :: ds) with | some (.dat .none,[d])=>some (PR.frs d) | _=>none) else none)=_;rw [N4 h3,hF]
theorem HC {P0:Option Int} (hp:P0=none\/P0=P) (h:WU f ds Q P0):WU f ds Q P:=by
 rcases hp with rfl | rfl
 ·rcases h with h | ⟨_,e,_⟩
  ·exact .inl h
  ·cases e
 ·exact h
theorem xV {P0:Option Int} (hz:Z.length<=99000) (h:Pcs ts) (hZ:Z.cps.toList=ts.flatten) (hf:Fr 8 true d TK k) (hk:k<=40) (hs:Sm (tkL Z ts) b P0 0 TK) (hp:P0=none\/P0=P) (hP:∀ p,P=some p->dY (.int p)=true) (he:TK.length<=b->∃ s p,(tkL Z ts)[TK.length]?=some (.tuple [.str s,.int p])/\((s = "" /\ Q (.dat d) [])\/(s ≠ "" /\ P=some p))):WU ak [.str Z] Q P:=by
 refine l9 rfl ?_;unfold iO;walk_at "y";refine KQ rfl rfl rfl (pJ hz h hZ ⟨_,rfl,rfl,?_⟩);walk_at "y";refine aj (is:=[1]) rfl rfl rfl (HC hp (Bj 8 (fr:=true) (fm:=0) (dep:=1) hf hs (by lia) (by decide) fun h1=>⟨rfl,?_⟩));walk_at "xn";walk_at "y";obtain ⟨s,p,es,hc⟩:=he (by lia);refine aj (is:=[1]) rfl rfl rfl (Au (by rw [P9];exact es) hP (hc.imp (·.1) id) fun z=>⟨rfl,?_⟩);walk_at "xn";walk_at "y";exact hc.elim (·.2) fun g=>absurd z g.1
theorem DM (h:(tkS ts).length=n):(tkL Z ts)[n]?=some (.tuple [.str "", .int (Z.length:Int)]):=by
 subst h;have l:=(fS ts 0).2;exact gU (by rw [NX (by lia),Pz];rfl) (by rw [NX (by lia),l,Pz];rfl)
section
variable {Z x:Str} {ts:List (List Nat)} {TK:List Str} {d:Qq} {k b p:Nat} {Q:PR->List Qq->Prop}
theorem qJ (hz:Z.length<=99000) (h:Pcs ts) (hZ:Z.cps.toList=ts.flatten) (hf:Fr 8 true d (tkS ts) k) (hk:k<=40) (q:Q (.dat d) []):WF ak [.str Z] Q:=by
 rcases xV (P:=none) (P0:=none) hz h hZ hf hk (Br hz h hZ fun _ _ e=>e) (.inl rfl) (fun _ e=>by cases e) (fun _=>⟨_,_,DM rfl,.inl ⟨rfl,q⟩⟩) with h | ⟨_,e,_⟩
 ·exact h
 ·cases e
theorem rG (hz:Z.length<=99000) (h:Pcs ts) (hZ:Z.cps.toList=ts.flatten) (hf:Fr 8 true d TK k) (hk:k<=40) (h1:(tkS ts++[Str.ofString ""])[b]?=some x) (h2:(plc 0 ts++[Z.length])[b]?=some p) (hx:Bad x) (hb:b < TK.length\/(b=TK.length/\x ≠ "")) (hpl:p<=99000) (hT:∀ (j:Nat) (t:Str),TK[j]?=some t->j < b->(tkS ts)[j]?=some t):WU ak [.str Z] (fun _ _=>False) (some (p:Int)):=by
 refine xV hz h hZ hf hk (KR hz h hZ h1 h2 hx hpl hT) (.inr rfl) (fun q e=>by cases e;exact jB hpl) fun g=>?_;rcases hb with hb | ⟨rfl,hn⟩
 ·lia
 ·exact ⟨x,_,gU h1 h2,.inr ⟨hn,rfl⟩⟩
theorem uZ (hz:Z.length<=99000) (h:Pcs ts) (hZ:Z.cps.toList=ts.flatten) (hf:Fr 8 true d TK k) (hk:k<=40) (e1:tkS ts=TK++[x]) (h2:(plc 0 ts)[TK.length]?=some p) (hn:x ≠ "") (hpl:p<=99000):WU ak [.str Z] (fun _ _=>False) (some (p:Int)):=by
 have g:(tkS ts)[TK.length]?=some x:=by rw [e1,NX (by lia),Pz];rfl
 have l:=(NW.mp h2).1;have l1:=(NW.mp g).1;exact xV (P0:=none) hz h hZ hf hk (Br hz h hZ fun j t e=>by rw [e1,N1 (NW.mp e).1];exact e) (.inl rfl) (fun q e=>by cases e;exact jB hpl) fun _=>⟨x,_,gU (by rw [N1 l1];exact g) (by rw [N1 l];exact h2),.inr ⟨hn,rfl⟩⟩
theorem rY (h:WF ak [.str Z] fun _ outs=>outs=[]) (q:Q (.dat .none) []):WF aZ [.str Z] Q:=by
 refine dw rfl ?_;unfold gS;walk_at "pr";obtain ⟨pr,outs,e,rfl⟩:=h;refine ⟨_,.dat .none,rfl,?_,?_⟩
 ·show (match ak.F [.str Z] with | some (_,[])=>some (PR.dat .none) | some _=>none | none=>(ak.X [.str Z]).map fun p=>PR.dat (.int p))=_;rw [e]
 walk_at "pr";exact q
theorem gW {p:Int} (h:WU ak [.str Z] (fun _ _=>False) (some p)) (q:Q (.dat (.int p)) []):WF aZ [.str Z] Q:=by
 refine dw rfl ?_;unfold gS;walk_at "pr";rcases h with ⟨_,_,_,e⟩ | ⟨p',ep,e1,e2⟩
 ·exact e.elim
 cases ep;refine ⟨_,.dat (.int p),rfl,?_,?_⟩
 ·show (match ak.F [.str Z] with | some (_,[])=>some (PR.dat .none) | some _=>none | none=>(ak.X [.str Z]).map fun p=>PR.dat (.int p))=_;rw [e1,e2];rfl
 walk_at "pr";exact q
end
def Tk (t:List Nat):Prop:=t.length<=61/\∃ c r,t=c :: r/\((chB c=true/\∀ x∈r,chB x=true)\/(c=39/\∀ x∈r,chB x=true)\/((c=45\/cT c=true)/\(∀ x∈r,cT x=true))\/(chB c=false/\c≠39/\c≠45/\cT c=false/\c≠32/\r=[]))
def j8 (l f:Nat):Bool:=((chB l||decide (l=39))&&chB f)||((cT l||decide (l=45))&&cT f)
theorem pI {p:Nat->Bool} (hc:p c=true) (hr:∀ x∈r,p x=true):p ((c :: r).getLast (by simp))=true:=by
 rcases N9.mp (List.getLast_mem (l:=c :: r) (by simp)) with h | h
 ·rw [h];exact hc
 ·exact hr _ h
theorem rg {t:List Nat} (h:Tk t) (hn:∀ f R,L=f :: R->j8 (t.getLast?.getD 0) f=false):wQ t L:=by
 obtain ⟨_,c,r,rfl,h⟩:=h;have el:(c :: r).getLast?.getD 0=(c :: r).getLast (by simp):=by rw [List.getLast?_eq_some_getLast (by simp)];rfl
 rw [el] at hn;refine ⟨c,r,rfl,?_⟩;rcases h with ⟨h1,h2⟩ | ⟨h1,h2⟩ | ⟨h1,h2⟩ | h
 ·refine .inl ⟨h1,h2,fun f R e=>?_⟩;have l:=pI (p:=chB) h1 h2;have g:=hn f R e;unfold j8 at g;rw [l] at g;cases z:chB f with
  | false=>rfl
  | true=>rw [z] at g;simp at g
 ·refine .inr (.inl ⟨h1,h2,fun f R e=>?_⟩);have l:=pI (p:=fun x=>chB x||decide (x=39)) (c:=c) (r:=r) (by rw [h1];rfl) (fun x hx=>by rw [h2 x hx];rfl);have g:=hn f R e;unfold j8 at g;have l:(chB ((c :: r).getLast (by simp))||decide ((c :: r).getLast (by simp)=39))=true:=l;rw [l] at g;cases z:chB f with
  | false=>rfl
  | true=>rw [z] at g;simp at g
 ·refine .inr (.inr (.inl ⟨h1,h2,fun f R e=>?_⟩));have l:=pI (p:=fun x=>cT x||decide (x=45)) (c:=c) (r:=r) (by rcases h1 with h | h <;> rw [h] <;> rfl) (fun x hx=>by rw [h2 x hx];rfl);have g:=hn f R e;unfold j8 at g;have l:(cT ((c :: r).getLast (by simp))||decide ((c :: r).getLast (by simp)=45))=true:=l;rw [l] at g;cases z:cT f with
  | false=>rfl
  | true=>rw [z] at g;simp at g
 ·exact .inr (.inr (.inr ⟨h.1,h.2.1,h.2.2.1,h.2.2.2.1,h.2.2.2.2.2⟩))
theorem BE:wQ [32] L:=⟨32,[],rfl,.inr (.inr (.inr ⟨by decide,by decide,by decide,by decide,rfl⟩))⟩
theorem jn (h:Sh s):Tk s.cps.toList:=by
 refine ⟨by rw [aw];have:=h.2.2;lia,?_⟩;cases e:s.cps.toList with
 | nil=>have:=aw s;rw [e,Og] at this;have:=h.2.1;lia
 | cons c r =>
  have hl:∀ x∈s.cps.toList,chB x=true:=fun x hx=>by
   have:=h.1 x hx;unfold chB;rw [NY this.1,NY this.2];rfl
  rw [e] at hl;exact ⟨c,r,rfl,.inl ⟨hl c N5,fun x hx=>hl x (NZ _ hx)⟩⟩
theorem jQ {i:Int} (hi:i.natAbs < 10 ^ 30):Tk (az i).cps.toList:=by
 refine ⟨by rw [aw];exact dW hi,?_⟩;obtain ⟨c,r,ec,c0,c1⟩:=gR i.natAbs;have hd:∀ x∈codes i.natAbs,cT x=true:=fun x hx=>by
  have:=ji _ x hx;unfold cT;rw [NY this.1,NY this.2];rfl
 rw [pH];rw [ec] at hd ⊢;split
 ·exact ⟨45,c :: r,rfl,.inr (.inr (.inl ⟨.inl rfl,hd⟩))⟩
 ·exact ⟨c,r,rfl,.inr (.inr (.inl ⟨.inr (hd c N5),fun x hx=>hd x (NZ _ hx)⟩))⟩
theorem yP {T:Str} (h:j9 d T):Tk T.cps.toList:=by
 have hl:=kU h;rcases h with ⟨x,rfl,h,rfl⟩ | ⟨i,rfl,h,rfl⟩ | ⟨x,rfl,h,rfl⟩
 ·exact jn h
 ·exact jQ h
 ·have e:(("'" : Str)++x).cps.toList=39 :: x.cps.toList:=by rw [br];rfl
  refine ⟨by rw [aw];exact hl,?_⟩;rw [e];refine ⟨39,_,rfl,.inr (.inl ⟨rfl,fun c hc=>?_⟩)⟩;have:=h.1 c hc;unfold chB;rw [NY this.1,NY this.2];rfl
theorem nu (h:s=kO\/s=kC\/s=kM\/s=("*" : Str)\/s=("^" : Str)):Tk s.cps.toList:=by
 rcases h with rfl | rfl | rfl | rfl | rfl <;> exact ⟨by decide,_,_,rfl,.inr (.inr (.inr ⟨by decide,by decide,by decide,by decide,by decide,rfl⟩))⟩
def TkA (TK:List Str):Prop:=∀ t∈TK,Tk t.cps.toList
theorem bW {A B:List Str} (a:TkA A) (b:TkA B):TkA (A++B):=fun t h=>(Pf.mp h).elim (a t) (b t)
theorem ay {A:List Str} (h:Tk t.cps.toList) (a:TkA A):TkA (t :: A):=fun x hx=>by
 rcases N9.mp hx with rfl | hx
 ·exact h
 ·exact a x hx
theorem aT:TkA []:=fun t h=>by cases h
theorem GY:Tk kO.cps.toList:=nu (.inl rfl)
theorem GD:Tk kC.cps.toList:=nu (.inr (.inl rfl))
theorem Fh:Tk kM.cps.toList:=nu (.inr (.inr (.inl rfl)))
theorem pQ:∀ {Ts:List (List Str)} {f:Bool},(∀ T∈Ts,TkA T)->TkA (aS f Ts)
 | [],_,_=>aT
 | T :: Ts,f,h=>by
  refine bW ?_ (bW (h T N5) (pQ fun S hS=>h S (NZ _ hS)));split
  ·exact aT
  ·exact ay Fh aT
theorem b5 (h:w = "any" \/ w = "thing" \/ w = "number" \/ w = "said" \/ w = "all" \/ w = "some" \/ w = "one" \/ w = "none" \/ w = "many" \/ w = "each" \/ w = "from" \/ w = "upto" \/ w = "is" \/ w = "keeps" \/ w = "not" \/ w = "closed"):Tk w.cps.toList:=by
 rcases h with rfl | rfl | rfl | rfl | rfl | rfl | rfl | rfl | rfl | rfl | rfl | rfl | rfl | rfl | rfl | rfl <;> exact ⟨by decide,_,_,rfl,.inl ⟨by decide,by decide⟩⟩
theorem BA {P:Qq->List Str->Nat->Prop} (hP:∀ u T j,P u T j->TkA T):∀ {us:List Qq} {Ts:List (List Str)} {k:Nat},lq P us Ts k->∀ T∈Ts,TkA T
 | [],[],_,_=>fun S h=>by cases h
 | u :: us,T :: Ts,k,⟨j,_,hu,hA,_⟩=>fun w hw=>by
  rcases N9.mp hw with rfl | hw
  ·exact hP _ _ _ hu
  ·exact BA hP hA w hw
theorem C0:∀ (n:Nat) (fr:Bool) (d:Qq) (TK:List Str) (k:Nat),Fr n fr d TK k->TkA TK
 | 0,_,_,_,_,h=>h.elim
 | n+1,fr,d,TK,k,h=>by
  have ih:=C0 n;rcases h with ⟨rfl,w,hw,rfl,rfl⟩ | ⟨rfl,w,i,hw,hi,rfl,rfl⟩ | ⟨rfl,x,T,hx,rfl,rfl⟩ | ⟨rfl,s,hs,rfl,rfl⟩ | ⟨rfl,rfl,bs,hB,rfl,rfl⟩ | ⟨u,T,j,hu,rfl,rfl,rfl⟩ | ⟨w,us,Ts,j,hw,hA,hl,rfl,rfl,rfl⟩ | ⟨rfl,w,lo,hi,up,s,u,T,j,hw,h0,h1,hh,hs,hu,rfl,rfl,rfl⟩
  ·exact ay (b5 (by rcases hw with h | h | h | h <;> simp [h])) aT
  ·exact ay (b5 (by rcases hw with h | h <;> simp [h])) (ay (jQ hi) aT)
  ·exact ay (b5 (by simp)) (ay (yP hx) aT)
  ·exact ay (b5 (by simp)) (ay (jn hs) aT)
  ·refine bW (ay (b5 (by simp)) (ay GY aT)) (bW (pQ fun T hT=>?_) (ay GD aT));obtain ⟨b,hb',rfl⟩:=OE.mp hT;exact ay (jn (hB.1 b hb')) aT
  ·exact bW (ay (b5 (by simp)) (ay GY aT)) (bW (ih _ _ _ _ hu) (ay GD aT))
  ·exact bW (ay (b5 (by rcases hw with h | h | h | h <;> simp [h])) (ay GY aT)) (bW (pQ (BA (fun u T j h=>ih _ _ _ _ h) hA)) (ay GD aT))
  ·refine bW (ay (b5 (by rcases hw with h | h <;> simp [h])) (ay GY (ay (jQ (cR h0 h1)) (ay Fh (ay ?_ (ay Fh aT)))))) (bW ?_ (ay Fh (bW (ih _ _ _ _ hu) (ay GD aT))))
   ·cases hi with
    | none=>exact nu (.inr (.inr (.inr (.inl rfl))))
    | some g=>exact jQ (cR (Int.le_trans h0 hh.1) hh.2)
   ·cases up with
    | false=>exact ay (jn hs) aT
    | true=>exact ay (nu (.inr (.inr (.inr (.inr rfl))))) (ay (jn hs) aT)
theorem qQ (bs:List Str):∀ (f:Bool),(aS f (bs.map fun b=>[b])).length<=2*bs.length:=by
 induction bs with
 | nil=>intro f;exact Oc _
 | cons b bs ih =>
  intro f;have:=ih false;show ((if f then [] else [kM])++([b]++aS false (bs.map fun b=>[b]))).length<=_;rw [NS,NS,Ow,NV];have:(if f then [] else [kM]).length<=1:=by split <;> simp
  lia
theorem wF {P:Qq->List Str->Nat->Prop} (hP:∀ u T j,P u T j->T.length+1<=16*j):∀ {us:List Qq} {Ts:List (List Str)} {k:Nat} (f:Bool),lq P us Ts k->(aS f Ts).length<=16*k
 | [],[],_,_,_=>O0 _
 | u :: us,T :: Ts,k,f,⟨j,m,hu,hA,e⟩=>by
  have h1:=hP _ _ _ hu;have h2:=wF hP false hA;show ((if f then [] else [kM])++(T++aS false Ts)).length<=_;rw [NS,NS];have:(if f then [] else [kM]).length<=1:=by split <;> simp
  lia
theorem jR:∀ (n:Nat) (fr:Bool) (d:Qq) (TK:List Str) (k:Nat),Fr n fr d TK k->TK.length+1<=16*k
 | 0,_,_,_,_,h=>h.elim
 | n+1,fr,d,TK,k,h=>by
  have ih:=jR n;rcases h with ⟨rfl,w,hw,rfl,rfl⟩ | ⟨rfl,w,i,hw,hi,rfl,rfl⟩ | ⟨rfl,x,T,hx,rfl,rfl⟩ | ⟨rfl,s,hs,rfl,rfl⟩ | ⟨rfl,rfl,bs,hB,rfl,rfl⟩ | ⟨u,T,j,hu,rfl,rfl,rfl⟩ | ⟨w,us,Ts,j,hw,hA,hl,rfl,rfl,rfl⟩ | ⟨rfl,w,lo,hi,up,s,u,T,j,hw,h0,h1,hh,hs,hu,rfl,rfl,rfl⟩
  ·simp
  ·simp
  ·simp
  ·simp
  ·have:=qQ bs true;have:=hB.2.2.1;simp only [NS,NV,Og];lia
  ·have:=ih _ _ _ _ hu;simp only [NS,NV,Og];lia
  ·have:=wF (fun u T j h=>ih _ _ _ _ h) true hA;simp only [NS,NV,Og];lia
  ·have:=ih _ _ _ _ hu;have:(stT up s).length<=2:=by cases up <;> simp [stT]
   simp only [NS,NV,Og];lia
theorem okL (h:∀ d∈ds,noD d=true/\d.depth<=20):jX (.list ds)=true:=xy (by show fN ds=true;exact lb.mpr fun d hd=>(h d hd).1) (Oi (tO fun d hd=>(h d hd).2) (by decide))
theorem Ec (ds:List Qq):PyData.eqv (.list ds) (.list [])=ds.isEmpty:=by cases ds <;> simp [PyData.eqv,PyData.eqvAll]
theorem JZ {x y:AV} {Q:RV->En->Prop} (h1:aK e [x,y]=some [.list ds,.list []]) (h:∀ d∈ds,noD d=true/\d.depth<=20) (q:Q (.dat (.bool (!ds.isEmpty))) e):WPr neP [x,y] e Q:=Im h1 (okL h) rfl (by rw [Ec];exact q)
theorem wY:∀ (Ts:List (List Str)) (f:Bool) (i:Nat),(aS f (Ts.take i)).length<=(aS f Ts).length
 | [],f,i=>by simp
 | T :: Ts,f,0=>O0 _
 | T :: Ts,f,i+1=>by
  have:=wY Ts false i;show ((if f then [] else [kM])++(T++aS false (Ts.take i))).length<=((if f then [] else [kM])++(T++aS false Ts)).length;simp only [NS];lia
theorem rp:∀ (Ts:List (List Str)) (f:Bool) (T:List Str),aS f (Ts++[T])=aS f Ts++((if f&&Ts.isEmpty then [] else [kM])++T)
 | [],f,T=>by cases f <;> simp [aS]
 | S :: Ts,f,T=>by
  show (if f then [] else [kM])++(S++aS false (Ts++[T]))=((if f then [] else [kM])++(S++aS false Ts))++_;rw [rp Ts false T];simp
theorem Cj (h:∀ T∈Ts,T≠[]):(aS true Ts).isEmpty=Ts.isEmpty:=by
 cases Ts with
 | nil=>rfl
 | cons T Ts =>
  have:=h T N5;show ([]++(T++aS false Ts)).isEmpty=false;cases T with
  | nil=>exact absurd rfl this
  | cons _ _=>rfl
theorem jw (hne:∀ T∈Ts,T≠[]) (hl:(aS true Ts).length<=100000) (q:Q (.frs (.list ((aS true Ts).map .str))) []):WF cM [.list (Ts.map fun T=>.list (T.map .str))] Q:=by
 refine dw rfl ?_;unfold m8;walk_at "P";refine Jt rfl (iz (fun i e=>∃ x:Sl,soft x/\e=([.dat (.list (Ts.map fun T=>.list (T.map .str))),.own (.list ((aS true (Ts.take i)).map .str)),x]:En)) ⟨.un,sH,rfl⟩ ?_ ?_)
 ·rintro i d e hd ⟨x,hx,rfl⟩;rw [Oj] at hd;obtain ⟨T,hT,rfl⟩:=Ou.mp hd;refine CA (pz rfl hx) ?_;have e1:aS true (Ts.take (i+1))=aS true (Ts.take i)++((if true&&(Ts.take i).isEmpty then [] else [kM])++T):=by rw [<- PU hT,rp]
  have l1:=wY Ts true (i+1);rw [e1,NS,NS] at l1;rw [e1,O4] at *;have hE:((aS true (Ts.take i)).map PyData.str).isEmpty=(Ts.take i).isEmpty:=by
   rw [<- Cj (Ts:=Ts.take i) fun S hS=>hne S (Pb hS)];cases aS true (Ts.take i) <;> rfl
  walk_at "P";refine JZ rfl (fun d hd=>?_) ?_
  ·obtain ⟨z,_,rfl⟩:=OE.mp hd;exact ⟨rfl,by simp [PyData.depth]⟩
  rw [hE];cases z:(Ts.take i).isEmpty with
  | true =>
   rw [z] at l1;walk_at "P";refine Gb rfl (by rw [NT,NT];show _<=2 ^ 24;lia) rfl ?_;exact ⟨_,i0,by rw [N4 rfl,OL,Oo];rfl⟩
  | false =>
   rw [z,Od (by decide),Ow] at l1;walk_at "P";refine kj rfl (by rw [NT];show _ < 2 ^ 24;lia) rfl ?_;walk_at "P";refine Gb rfl (by rw [NS,NT,NT,Ow];show _<=2 ^ 24;lia) rfl ?_;exact ⟨_,i0,by rw [Od (by decide),Oo,Oo,Oy];rfl⟩
 ·rintro e ⟨x,hx,rfl⟩;rw [NT,Pj];walk_at "P";exact q
theorem GN (ss:List Str):sC (sC ss)=sC ss:=List.Perm.eq_of_pairwise (fun _ _ _ _ p q=>qU p q) (lW _) (lW _) (dO _)
theorem oM {P:Qq->List Str->Nat->Prop} (hu:P u T j):∀ {us:List Qq} {Ts:List (List Str)} {k:Nat},lq P us Ts k->lq P (us++[u]) (Ts++[T]) (k+j)
 | [],[],k,h=>⟨j,0,hu,rfl,by have:k=0:=h;lia⟩
 | a :: us,c :: Ts,k,⟨i,m,h1,h2,e⟩=>⟨i,m+j,h1,oM hu h2,by lia⟩
theorem JV (h:Lf w):Fr (n+1) fr (.tuple [.str w]) [w] 1:=.inl ⟨rfl,w,h,rfl,rfl⟩
theorem Gi {v:Int} (h:w = "from" \/ w = "upto") (hv:v.natAbs < 10 ^ 30):Fr (n+1) fr (.tuple [.str w,.int v]) [w,az v] 1:=.inr (.inl ⟨rfl,w,v,h,hv,rfl,rfl⟩)
theorem IW {x:Qq} {T:Str} (h:j9 x T):Fr (n+1) fr (.tuple [.str "is", x]) [("is" : Str),T] 1:=.inr (.inr (.inl ⟨rfl,x,T,h,rfl,rfl⟩))
theorem Gd (h:Sh s):Fr (n+1) fr (.tuple [.str "keeps", .str s]) [("keeps" : Str),s] 1:=.inr (.inr (.inr (.inl ⟨rfl,s,h,rfl,rfl⟩)))
theorem Ir (h:Bnd bs):Fr (n+1) true (.tuple [.str "closed", .tuple (bs.map .str)]) ([("closed" : Str),kO]++(aS true (bs.map fun b=>[b])++[kC])) 1:=.inr (.inr (.inr (.inr (.inl ⟨rfl,rfl,bs,h,rfl,rfl⟩))))
theorem uU {R:Nat} (hP:aO cs (R+12) pn) (s0:0 < ns.length) (s1:ns.length<=6) (sn:ns.Nodup) (hs:∀ x∈ns,Nm x) (q:∀ d TK pn',aO cs R pn'->Fr (n+1) fr d TK 1->Q (.dat d) [pn']):WF rR [pn,.list (ns.map .str),.bool fr] Q:=by
 refine dw rfl ?_;unfold A8;walk_at "d";intro k pn2 hP2 k0 k1;walk_at "N";obtain ⟨d,hd,ed⟩:=atV (xs:=([.str "any", .str "thing", .str "number", .str "said", .str "from", .str "upto", .str "is", .str "keeps", .str "keeps", .str "closed"]:List Qq)) k0 k1;refine gf rfl ed ?_;clear ed;simp only [N9,Ox,O9] at hd;rcases hd with rfl | rfl | rfl | rfl | rfl | rfl | rfl | rfl | rfl | rfl
 iterate 4
  ·walk_at "P";exact q _ _ _ hP2.dn (JV (by unfold Lf;simp))
 iterate 2
  ·walk_at "P";refine aa (is:=[0]) rfl rfl (nB (aO.dn (R:=R+7) (k:=4) hP2) fun v pn3 hP3 hv=>⟨rfl,?_⟩);walk_at "N";exact q _ _ _ hP3 (Gi (by simp) hv)
 ·walk_at "P";refine aa (is:=[0]) rfl rfl (Cd hP2 s0 (by lia) hs fun v pn3 hP3 hv=>⟨rfl,?_⟩);obtain ⟨T,hT⟩:=Ea hv;walk_at "N";exact q _ _ _ hP3 (IW hT)
 iterate 2
  ·walk_at "P";refine i3 (hi:=rfl) (hP:=hP2) (m:=((ns.map PyData.str).length:Nat)) (by rw [NT];lia) (by rw [NT];lia) ?_;intro j pn3 hP3 j0 j1;walk_at "N";obtain ⟨d,hd,ed⟩:=atV (xs:=ns.map PyData.str) j0 j1;obtain ⟨x,hxm,rfl⟩:=OE.mp hd;refine gf rfl ed ?_;walk_at "P";exact q _ _ _ hP3.dn (Gd (xX (hs x hxm)))
 ·cases fr with
  | false =>
   walk_at "P";refine i3 (hi:=rfl) (hP:=hP2) (m:=((ns.map PyData.str).length:Nat)) (by rw [NT];lia) (by rw [NT];lia) ?_;intro j pn3 hP3 j0 j1;walk_at "N";obtain ⟨d,hd,ed⟩:=atV (xs:=ns.map PyData.str) j0 j1;obtain ⟨x,hxm,rfl⟩:=OE.mp hd;refine gf rfl ed ?_;walk_at "P";exact q _ _ _ hP3.dn (Gd (xX (hs x hxm)))
  | true =>
   walk_at "P";refine i3 (hi:=rfl) (hP:=hP2) (m:=((ns.map PyData.str).length:Nat)+1) (by lia) (by rw [NT];lia) ?_;intro j pn3 hP3 j0 j1;rw [NT] at j1;walk_at "N";have ec:L2.cutD (ns.map PyData.str) none (some j)=(ns.take j.toNat).map .str:=by rw [k7 j0,List.map_take]
   rw [ec];refine BL (ss:=ns.take j.toNat) rfl (by rw [OB];lia) ?_;walk_at "P";have pm:=dO (ns.take j.toNat);exact q _ _ _ hP3.dn (Ir ⟨fun b hb=>xX (hs b (Pb (pm.mem_iff.mp hb))),pm.nodup_iff.mpr (sn.sublist (List.take_sublist _ _)),by rw [pm.length_eq,OB];lia,GN _⟩)
theorem LV (x:Str):("" : Str)++x=x:=fY (by rw [br];rfl)
theorem AU {R:Nat} (hP:aO cs (R+7) pn) (s0:0 < ns.length) (s1:ns.length<=6) (hs:∀ x∈ns,Nm x) (q:∀ (w:Str) (lo:Int) (hi:Option Int) (up:Bool) (s:Str) pn',aO cs R pn'->Wlk w->0<=lo->lo<=60->zB lo hi->Sh s->Q (.dat (.tuple [.str w,.int lo,hiD hi,.str (stS up s)])) [pn']):WF i7 [pn,.list (ns.map .str)] Q:=by
 refine dw rfl ?_;unfold qC;walk_at "d";intro k1 pn1 hP1 k10 k11;walk_at "n";walk_at "d";intro k2 pn2 hP2 k20 k21;walk_at "N";obtain ⟨d,hd,ed⟩:=atV (xs:=([.int 0,.int 0,.int 1,.int 2,.int 60,.int k1]:List Qq)) k20 k21;have hc:∃ l:Int,d=.int l/\0<=l/\l<=60:=by
  simp only [N9,Ox,O9] at hd;rcases hd with rfl | rfl | rfl | rfl | rfl | rfl <;> exact ⟨_,rfl,by lia,by lia⟩
 obtain ⟨l,rfl,l0,l1⟩:=hc;refine gf rfl ed ?_;clear ed hd;walk_at "P";refine i3 (hi:=rfl) (hP:=hP2) (m:=61 - l) (by lia) (by lia) ?_;intro k3 pn3 hP3 k30 k31;walk_at "n";walk_at "d";intro k4 pn4 hP4 k40 k41;walk_at "N";obtain ⟨hi,hh,eh⟩:=atV (xs:=([.none,.int l,.int (l+k3)]:List Qq)) k40 k41;have hc:∃ h:Option Int,hi=hiD h/\zB l h:=by
  simp only [N9,Ox,O9] at hh;rcases hh with rfl | rfl | rfl
  ·exact ⟨none,rfl,trivial⟩
  ·exact ⟨some l,rfl,by lia,by lia⟩
  ·exact ⟨some (l+k3),rfl,by lia,by lia⟩
 obtain ⟨h,rfl,hh2⟩:=hc;refine gf rfl eh ?_;clear eh hh;walk_at "d";intro k5 pn5 hP5 k50 k51;walk_at "N";obtain ⟨z,hz,ez⟩:=atV (xs:=([.str "", .str "", .str "^"]:List Qq)) k50 k51;have hc:∃ y:Str,z=.str y/\(y = "" \/ y = "^")/\y.length<=1:=by
  simp only [N9,Ox,O9] at hz;rcases hz with rfl | rfl | rfl
  ·exact ⟨_,rfl,.inl rfl,by decide⟩
  ·exact ⟨_,rfl,.inl rfl,by decide⟩
  ·exact ⟨_,rfl,.inr rfl,by decide +kernel⟩
 obtain ⟨y,rfl,hy,hyl⟩:=hc;refine gf rfl ez ?_;clear ez hz;walk_at "P";refine i3 (hi:=rfl) (hP:=hP5) (m:=((ns.map PyData.str).length:Nat)) (by rw [NT];lia) (by rw [NT];lia) ?_;intro j pn6 hP6 j0 j1;walk_at "N";obtain ⟨d,hd,ed⟩:=atV (xs:=ns.map PyData.str) j0 j1;obtain ⟨x,hxm,rfl⟩:=OE.mp hd;have hxn:=hs x hxm;refine gf rfl ed ?_;walk_at "P";refine eJ rfl (by have:=hxn.2;show _<=2 ^ 24;lia) ?_;have hst:∃ up,y++x=stS up x:=by
  rcases hy with rfl | rfl
  ·exact ⟨false,LV x⟩
  ·exact ⟨true,rfl⟩
 obtain ⟨up,hst⟩:=hst;rw [hst];walk_at "d";intro t pn7 hP7 t0 t1;walk_at "N";obtain ⟨d,hd,ed⟩:=atV (xs:=([.str "many", .str "each"]:List Qq)) t0 t1;refine gf rfl ed ?_;simp only [N9,Ox,O9] at hd;have hc:∃ w:Str,d=.str w/\Wlk w:=by
  rcases hd with rfl | rfl
  ·exact ⟨_,rfl,.inl rfl⟩
  ·exact ⟨_,rfl,.inr rfl⟩
 obtain ⟨w,rfl,hw⟩:=hc;walk_at "P";exact q w l h up x _ hP7 hw l0 l1 hh2 (xX hxn)
theorem aO.le {R C:Nat} (h:aO cs R d) (hb:C<=R):aO cs C d:=by
 obtain ⟨p,l,e,a,b,c⟩:=h;exact ⟨p,l,e,a,by lia,c⟩
theorem Ab (n:Nat):(cQ n).ms=[.ino,.dat,.ino,.dat,.dat]:=by cases n <;> rfl
theorem Ka (h:Fr n fr u T j):Fr (n+1) fr (.tuple [.str "not", u]) ([("not" : Str),kO]++(T++[kC])) (j+1):=.inr (.inr (.inr (.inr (.inr (.inl ⟨u,T,j,h,rfl,rfl,rfl⟩)))))
theorem IV (hw:Lst w) (h:lq (Fr n fr) us Ts j) (hl:us.length<=6):Fr (n+1) fr (.tuple [.str w,.tuple us]) ([w,kO]++(aS true Ts++[kC])) (j+1):=.inr (.inr (.inr (.inr (.inr (.inr (.inl ⟨w,us,Ts,j,hw,h,hl,rfl,rfl,rfl⟩))))))
theorem Lx (hw:Wlk w) (h0:0<=lo) (h1:lo<=60) (hh:zB lo hi) (hs:Sh s) (h:Fr n false u T j):Fr (n+1) true (.tuple [.str w,.int lo,hiD hi,.str (stS up s),u]) ([w,kO,az lo,kM,hiT hi,kM]++(stT up s++(kM :: (T++[kC])))) (j+1):=.inr (.inr (.inr (.inr (.inr (.inr (.inr ⟨rfl,w,lo,hi,up,s,u,T,j,hw,h0,h1,hh,hs,h,rfl,rfl,rfl⟩))))))
def GP (n:Nat):Prop:=∀ {cs:List Int} {M dp:Nat} {pn:Qq} {R:Int} {ns:List Str} {fr:Bool} {Q:PR->List Qq->Prop},n<=9->1<=dp->dp<=n->aO cs (M+100*(1+R.toNat)) pn->0<=R->R<=39->0 < ns.length->ns.length<=6->ns.Nodup->(∀ x∈ns,Nm x) ->
 (∀ v TK k R' pn',Fr n fr v TK k->0<=R'->(k:Int)+R'<=1+R->aO cs (M+100*R'.toNat) pn'->Q (.dat v) [pn',.list [.int R']]) ->
 WF (cQ n) [pn,.list (ns.map .str),.list [.int R],.int dp,.bool fr] Q
theorem uO:∀ n,GP n
 | 0=>by
  rename_i cs M dp pn R ns fr Q;intro _ h h2;lia
 | n+1=>by
  rename_i cs M dp pn R ns fr Q;intro hn hd hd2 hP hR hR2 s0 s1 sn hs q;have hP:aO cs (M+100*R.toNat+99+1) pn:=hP.le (by lia);have ih:GP n:=uO n;obtain ⟨dq,rfl⟩:∃ dq,dp=dq+1:=⟨dp - 1,by lia⟩;have ed:(((dq+1:Nat):Int) - 1)=(dq:Int):=by lia
  refine dw rfl ?_;unfold yA;walk_at "d";intro way pn1 hP1 way0 way1;walk_at "n";walk_at "q";with_reducible refine cV fun N eN=>?_
  have rest:1<=dq->1<=R->N ([.ino pn1,.dat (.list (ns.map .str)),.ino (.list [.int R]),.dat (.int ((dq+1:Nat):Int)),.dat (.bool fr),.dat (.int way),.un,.un]:En):=by
   intro d2 r1;rw [eN];clear eN N;with_reducible refine cV fun N eN=>?_
   have rest:N ([.ino pn1,.dat (.list (ns.map .str)),.ino (.list [.int R]),.dat (.int ((dq+1:Nat):Int)),.dat (.bool fr),.dat (.int way),.un,.un]:En):=by
    rw [eN];clear eN N;with_reducible refine cV fun N eN=>?_
    have rest:N ([.ino pn1,.dat (.list (ns.map .str)),.ino (.list [.int R]),.dat (.int ((dq+1:Nat):Int)),.dat (.bool fr),.dat (.int way),.un,.un]:En):=by
     rw [eN];clear eN N;walk_at "d";intro t pn2 hP2 t0 t1;walk_at "N";have hm:(if R < t then R else t)<=6/\0<=(if R < t then R else t)/\(if R < t then R else t)<=R:=by split <;> lia
     show (_/\_)/\GJ _ _ _ none ([.ino pn2,.dat (.list (ns.map .str)),.ino (.list [.int (R - (if R < t then R else t))]),.dat (.int ((dq+1:Nat):Int)),.dat (.bool fr),.dat (.int way),.dat (.int (if R < t then R else t)),.un]:En) _;generalize (if R < t then R else t)=m at hm ⊢;obtain ⟨hm1,hm2,hm3⟩:=hm;refine ⟨⟨by lia,by lia⟩,?_⟩;refine fU (fun i ys ec=>∃ (Ts:List (List Str)) (j:Nat) (R':Int) (pn':Qq),ys.length=i/\lq (Fr n fr) ys Ts j/\0<=R'/\(j:Int)+R'<=R - m+i/\aO cs (M+98+100*((m - i).toNat+R'.toNat)) pn'/\ec=[.ino pn',.dat (.list (ns.map .str)),.ino (.list [.int R']),.dat (.bool fr),.dat (.int ((dq+1:Nat):Int))])
      ⟨[],0,R - m,pn2,rfl,rfl,by lia,by lia,hP2.le (by lia),rfl⟩ ?_ ?_
     ·rintro i dd ys ec hd' ⟨Ts,j,R',pn',hu,ha,hr,hk,hP',rfl⟩;obtain ⟨rfl,hi⟩:=gh hd';refine jN ?_;walk_at "P";refine cA (Ab n) (is:=[1,3]) (ds:=[pn',.list (ns.map .str),.list [.int R'],.int (dq:Int),.bool fr]) (by rw [<- ed];rfl) rfl (ih (R:=R') (M:=M+98+100*(m - (i+1)).toNat) (by lia) d2 (by lia) (hP'.le (by lia)) hr (by lia) s0 s1 sn hs fun v2 T2 k2 R2 pn3 hv2 r2 hk2 hP3=>⟨rfl,?_⟩);exact ⟨_,rfl,Ts++[T2],j+k2,R2,pn3,by rw [NS,hu];rfl,oM hv2 ha,r2,by lia,hP3.le (by lia),rfl⟩
     ·rintro ys ec ⟨Ts,j,R',pn',hu,ha,hr,hk,hP',rfl⟩;rw [jq] at hu hk;have hP':aO cs (M+100*R'.toNat+97+1) pn':=hP'.le (by lia);walk_at "n";walk_at "d";intro k pn4 hP4 k0 k1;walk_at "N";obtain ⟨d,hd,ed⟩:=atV (xs:=([.str "all", .str "some", .str "one", .str "none"]:List Qq)) k0 k1;refine gf rfl ed ?_;simp only [N9,Ox,O9] at hd;have hc:∃ w:Str,d=.str w/\Lst w:=by
       unfold Lst;rcases hd with rfl | rfl | rfl | rfl <;> exact ⟨_,rfl,by simp⟩
      obtain ⟨w,rfl,hw⟩:=hc;walk_at "P";exact q _ _ (j+1) R' pn4 (IV hw ha (by lia)) hr (by lia) hP4.dn
    walk_at "P";refine fH (fun e4=>?_) (fun e4=>?_)
    ·cases fr with
     | false =>
      walk_at "P";exact rest
     | true =>
      clear rest;walk_at "P";refine aa (is:=[0]) rfl rfl (AU (aO.dn (R:=M+100*R.toNat+7) (k:=92) hP1) s0 s1 hs fun w lo hi up s pn3 hP3 hw h0 h1 hh hs'=>⟨rfl,?_⟩);walk_at "N";refine cA (Ab n) (is:=[0,2]) (ds:=[pn3,.list (ns.map .str),.list [.int (R - 1)],.int (dq:Int),.bool false]) (by rw [<- ed];rfl) rfl (ih (M:=M) (R:=R - 1) (by lia) d2 (by lia) (hP3.le (by lia)) (by lia) (by lia) s0 s1 sn hs fun v2 T2 k2 R2 pn4 hv2 r2 hk2 hP4=>⟨rfl,?_⟩);walk_at "N";exact q _ _ (k2+1) R2 pn4 (Lx hw h0 h1 hh hs' hv2) r2 (by lia) hP4
    ·walk_at "P";exact rest
   walk_at "P";refine fH (fun e4=>?_) (fun e4=>?_)
   ·clear rest;walk_at "P";refine cA (Ab n) (is:=[0,2]) (ds:=[pn1,.list (ns.map .str),.list [.int (R - 1)],.int (dq:Int),.bool fr]) (by rw [<- ed];rfl) rfl (ih (M:=M) (R:=R - 1) (by lia) d2 (by lia) (hP1.le (by lia)) (by lia) (by lia) s0 s1 sn hs fun v2 T2 k2 R2 pn4 hv2 r2 hk2 hP4=>⟨rfl,?_⟩);walk_at "N";exact q _ _ (k2+1) R2 pn4 (Ka hv2) r2 (by lia) hP4
   ·walk_at "P";exact rest
  have leaf:∀ {v pn':Qq} {TK:List Str},aO cs (M+100*R.toNat) pn'->Fr (n+1) fr v TK 1->Q (.dat v) [pn',.list [.int R]]:=fun {v pn' TK} hP' ht =>
   q v TK 1 R pn' ht hR (by lia) hP'
  walk_at "P";refine fH (fun e1=>?_) (fun e1=>?_)
  ·clear rest;walk_at "P";refine aa (is:=[0]) rfl rfl (uU (n:=n) (aO.dn (R:=M+100*R.toNat+12) (k:=87) hP1) s0 s1 sn hs fun v TK pn2 hP2 ht=>⟨rfl,?_⟩);walk_at "N";exact leaf hP2 ht
  ·walk_at "P";refine fH (fun e2=>?_) (fun e2=>?_)
   ·clear rest;walk_at "P";refine aa (is:=[0]) rfl rfl (uU (n:=n) (aO.dn (R:=M+100*R.toNat+12) (k:=87) hP1) s0 s1 sn hs fun v TK pn2 hP2 ht=>⟨rfl,?_⟩);walk_at "N";exact leaf hP2 ht
   ·walk_at "P";refine fH (fun e3=>?_) (fun e3=>?_)
    ·clear rest;walk_at "P";refine aa (is:=[0]) rfl rfl (uU (n:=n) (aO.dn (R:=M+100*R.toNat+12) (k:=87) hP1) s0 s1 sn hs fun v TK pn2 hP2 ht=>⟨rfl,?_⟩);walk_at "N";exact leaf hP2 ht
    ·walk_at "P";have e2:=Pd e2;have e3:=Pd e3;exact rest (by lia) (by lia)
theorem Ao (n:Nat):(bz n).ms=[.dat]:=by cases n <;> rfl
def KC (n:Nat):Prop:=∀ {fr:Bool} {d:Qq} {TK:List Str} {k:Nat} {Q:PR->List Qq->Prop},Fr n fr d TK k->k<=40->Q (.frs (.list (TK.map .str))) []->WF (bz n) [d] Q
theorem Bt:∀ {us:List Qq} {Ts:List (List Str)} {k:Nat},lq (Fr n fr) us Ts k->∀ T∈Ts,T≠[]
 | [],[],_,_=>fun S h=>by cases h
 | u :: us,T :: Ts,k,⟨j,_,hu,hA,_⟩=>fun w hw=>by
  rcases N9.mp hw with rfl | hw
  ·obtain ⟨_,_,e,_⟩:=jx hu;rw [e];exact OS _ _
  ·exact Bt hA w hw
theorem qw {P:Qq->List Str->Nat->Prop}:∀ {us:List Qq} {Ts:List (List Str)} {k i:Nat} {v:Qq},lq P us Ts k->us[i]?=some v->∃ T j,P v T j/\Ts[i]?=some T/\j<=k
 | [],[],_,_,_,_,h=>by cases h
 | u :: us,T :: Ts,k,0,x,⟨j,m,hu,hA,e⟩,h=>by
  cases h;exact ⟨T,j,hu,rfl,by lia⟩
 | u :: us,T :: Ts,k,i+1,x,⟨j,m,hu,hA,e⟩,h=>by
  obtain ⟨S,b,h1,h2,h3⟩:=qw hA (i:=i) h;exact ⟨S,b,h1,h2,by lia⟩
theorem pZ {P:Qq->List Str->Nat->Prop}:∀ {us:List Qq} {Ts:List (List Str)} {k:Nat},lq P us Ts k->us.length=Ts.length
 | [],[],_,_=>rfl
 | u :: us,T :: Ts,k,⟨j,m,hu,hA,e⟩=>congrArg (·+1) (pZ hA)
theorem Cq (ih:KC n) {lk:Option Nat} {Q:RV->En->Prop} (hA:lq (Fr n fr) us Ts j) (hj:j<=40) (q:Q (.frs (.list (Ts.map fun T=>.list (T.map .str)))) e1):GJ (fP (dT gds XT.yes) (dE gds (XE.call (bz n) (XA.cons (vr 0) XA.nil)))) [] us lk e1 Q:=by
 refine fU (fun i ys ec=>ys=(Ts.take i).map (fun T=>.list (T.map .str))/\ec=[]) ⟨rfl,rfl⟩ ?_ ?_
 ·rintro i d ys ec hd ⟨rfl,rfl⟩;obtain ⟨T,a,h1,h2,h3⟩:=qw hA hd;refine jN ?_;walk_at "P";refine cA (Ao n) (is:=[]) rfl rfl (ih h1 (by lia) ⟨rfl,?_⟩);exact ⟨_,rfl,by rw [<- PU h2,Oo];rfl,rfl⟩
 ·rintro ys ec ⟨rfl,rfl⟩;rw [pZ hA,Pj];exact q
theorem atz:atI (c :: r) 0=some c:=cz (j:=0) rfl
theorem Az (h:Sh s):∃ c r,s.cps.toList=c :: r/\c≠94:=by
 cases e:s.cps.toList with
 | nil=>have:=aw s;rw [e,Og] at this;have:=h.2.1;lia
 | cons c r=>have:=h.1 c (by rw [e];exact N5);exact ⟨c,r,rfl,by lia⟩
theorem pw (s:Str):(("^" : Str)++s).cps.toList=94 :: s.cps.toList:=by rw [br];rfl
theorem Cm (s:Str):g9 (stS true s) (some 1) none=s:=fY (by rw [Di (by decide)];show (("^" : Str)++s).cps.toList.drop 1=_;rw [pw];rfl)
theorem Dq {A B:Str} {S:List Str} (hS:S≠[]) (hT:T≠[]) (hl:(aS true [[A],[B],S,T]).length<=100000) (q:Q (.frs (.list ((aS true [[A],[B],S,T]).map .str))) []):WF cM [.list [.list [.str A],.list [.str B],.list (S.map .str),.list (T.map .str)]] Q :=
 jw (Ts:=[[A],[B],S,T]) (fun R hR=>by
  simp only [N9,Ox,O9] at hR;rcases hR with rfl | rfl | rfl | rfl
  ·exact OS _ _
  ·exact OS _ _
  ·exact hS
  ·exact hT) hl q
local macro_rules | `(tactic| walk_at "tF")=>`(tactic| ((walk_at "pr");(refine cC (by assumption) ?_)))
local macro_rules | `(tactic| walk_at "tI")=>`(tactic| ((walk_at "pr");(refine vU rfl rfl (by assumption) ?_)))
def Fk (w:Str) (a b c:Bool):Prop:=PyData.eqv (.str w) (.str "is")=false/\kQ [.str "from", .str "upto", .str "keeps"] (.str w)=a/\PyData.eqv (.str w) (.str "closed")=false/\PyData.eqv (.str w) (.str "not")=false/\kQ [.str "many", .str "each"] (.str w)=b/\kQ [.str "all", .str "some", .str "one", .str "none"] (.str w)=c
theorem LB (h:Lf w):Fk w false false false:=by rcases h with rfl | rfl | rfl | rfl <;> exact ⟨rfl,rfl,rfl,rfl,rfl,rfl⟩
theorem Kg (h:w = "from" \/ w = "upto"):Fk w true false false:=by rcases h with rfl | rfl <;> exact ⟨rfl,rfl,rfl,rfl,rfl,rfl⟩
theorem Jq (h:Lst w):Fk w false false true:=by rcases h with rfl | rfl | rfl | rfl <;> exact ⟨rfl,rfl,rfl,rfl,rfl,rfl⟩
theorem Jh (h:Wlk w):Fk w false true false:=by rcases h with rfl | rfl <;> exact ⟨rfl,rfl,rfl,rfl,rfl,rfl⟩
theorem nH:∀ n,KC n
 | 0=>fun h=>False.elim h
 | n+1=>by
  rename_i fr d TK k Q;intro h hk q;have ih:KC n:=nH n;have ln:=jR _ _ _ _ _ h;refine dw rfl ?_;unfold m3;rcases h with ⟨rfl,w,hw,rfl,rfl⟩ | ⟨rfl,w,i,hw,hi,rfl,rfl⟩ | ⟨rfl,x,T,hx,rfl,rfl⟩ | ⟨rfl,s,hs,rfl,rfl⟩ | ⟨rfl,rfl,bs,hB,rfl,rfl⟩ | ⟨u,T,j,hu,rfl,rfl,rfl⟩ | ⟨w,us,Ts,j,hw,hA,hl,rfl,rfl,rfl⟩ | ⟨rfl,w,lo,hi,up,s,u,T,j,hw,h0,h1,hh,hs,hu,rfl,rfl,rfl⟩
  ·obtain ⟨f1,f2,f3,f4,f5,f6⟩:=LB hw;walk_at "tF";walk_at "tI";walk_at "tF";walk_at "tF";walk_at "tI";walk_at "tI";walk_at "pr";exact q
  ·obtain ⟨f1,f2,f3,f4,f5,f6⟩:=Kg hw;walk_at "tF";walk_at "tI";walk_at "pr";refine iF rfl (vE hi) ?_;walk_at "pr";exact q
  ·walk_at "P";refine aa (is:=[]) rfl rfl (m7 hx ⟨rfl,?_⟩);walk_at "P";exact q
  ·walk_at "P";exact q
  ·rw [Oo,Oo] at q;simp only [NS,NV,Og] at ln;walk_at "P";refine fU (fun i ys ec=>ys=(bs.take i).map (fun b=>.list [.str b])/\ec=[]) ⟨rfl,rfl⟩ ?_ ?_
   ·rintro i d ys ec hd ⟨rfl,rfl⟩;rw [Oj] at hd;obtain ⟨b,hb,rfl⟩:=Ou.mp hd;refine jN ?_;walk_at "P";exact ⟨by rw [<- PU hb,Oo];rfl,rfl⟩
   ·rintro ys ec ⟨rfl,rfl⟩;rw [NT,Pj];walk_at "P";refine aa (ds:=[.list ((bs.map fun b=>[b]).map fun T=>.list (T.map .str))]) (is:=[]) (by rw [List.map_map];rfl) rfl (jw (fun T hT=>?_) (by lia) ⟨rfl,?_⟩)
    ·obtain ⟨b,_,rfl⟩:=OE.mp hT;exact OS _ _
    walk_at "P";refine df rfl (by rw [NT];show _<=2 ^ 24;simp only [NV,Og];lia) ?_;walk_at "P";refine df rfl (by rw [NS,NT];show _<=2 ^ 24;simp only [NV,Og];lia) ?_;walk_at "P";rw [Oy];exact q
  ·rw [Oo,Oo] at q;simp only [NS,NV,Og] at ln;walk_at "P";refine cA (Ao n) (is:=[]) rfl rfl (ih hu (by lia) ⟨rfl,?_⟩);walk_at "P";refine df rfl (by rw [NT];show _<=2 ^ 24;simp only [NV,Og];lia) ?_;walk_at "P";refine df rfl (by rw [NS,NT];show _<=2 ^ 24;simp only [NV,Og];lia) ?_;walk_at "P";rw [Oy];exact q
  ·rw [Oo,Oo] at q;simp only [NS,NV,Og] at ln;have hne:∀ T∈Ts,T≠[]:=Bt hA;obtain ⟨f1,f2,f3,f4,f5,f6⟩:=Jq hw;walk_at "tF";walk_at "tI";walk_at "tF";walk_at "tF";walk_at "tI";walk_at "tI";walk_at "pr";refine Cq ih hA (by lia) ?_;walk_at "pr";refine aa (is:=[]) rfl rfl (jw hne (by lia) ⟨rfl,?_⟩);walk_at "pr";refine df rfl (by rw [NT];show _<=2 ^ 24;simp only [NV,Og];lia) ?_;walk_at "pr";refine df rfl (by rw [NS,NT];show _<=2 ^ 24;simp only [NV,Og];lia) ?_;walk_at "pr";rw [Oy];exact q
  ·have er:[az lo,kM,hiT hi,kM]++(stT up s++(kM :: T))=aS true [[az lo],[hiT hi],stT up s,T]:=by simp [aS]
   have q2:Q (.frs (.list ([.str w,.str kO]++((aS true [[az lo],[hiT hi],stT up s,T]).map .str++[.str kC])))) []:=by
    rw [<- er];simpa using q
   have ln2:=congrArg List.length er;simp only [NS,NV,Og] at ln ln2;have hT:T≠[]:=by obtain ⟨_,_,e,_⟩:=jx hu;rw [e];exact OS _ _
   have hS:stT up s≠[]:=by cases up <;> exact OS _ _
   obtain ⟨f1,f2,f3,f4,f5,f6⟩:=Jh hw;walk_at "tF";walk_at "tI";walk_at "tF";walk_at "tF";walk_at "tI";walk_at "prz";with_reducible refine cV fun N eN=>?_
   have rest:N ([.dat (.tuple [.str w,.int lo,hiD hi,.str (stS up s),u]),.dat (.str w),.dat (.str (hiT hi)),.un]:En):=by
    rw [eN];clear eN N;walk_at "pz";with_reducible refine oK ?_
    walk_at "pz";with_reducible refine cV fun N eN=>?_
    have rest:N ([.dat (.tuple [.str w,.int lo,hiD hi,.str (stS up s),u]),.dat (.str w),.dat (.str (hiT hi)),.dat (.list ((stT up s).map .str))]:En):=by
     rw [eN];walk_at "P";refine iF rfl (vE (cR h0 h1)) ?_;walk_at "P";refine cA (Ao n) (is:=[]) rfl rfl (ih hu (by lia) ⟨rfl,?_⟩);walk_at "P";refine aa (is:=[]) (ds:=[.list [.list [.str (az lo)],.list [.str (hiT hi)],.list ((stT up s).map .str),.list (T.map .str)]]) rfl rfl (Dq hS hT (by lia) ⟨rfl,?_⟩);walk_at "P";refine df rfl (by rw [NT];show _<=2 ^ 24;simp only [NV,Og];lia) ?_;walk_at "P";refine df rfl (by rw [NS,NT];show _<=2 ^ 24;simp only [NV,Og];lia) ?_;walk_at "P";rw [Oy];exact q2
    cases up with
    | false =>
     obtain ⟨c,r,ec,hc⟩:=Az hs;walk_at "P";refine fD rfl (show atI s.cps.toList 0=some c by rw [ec];exact atz) ?_;walk_at "P";refine cC (show PyData.eqv (.str ⟨#[c]⟩) (.str "^")=false from (eq1 c 94).trans (N6 hc)) ?_;walk_at "P";exact rest
    | true =>
     walk_at "P";refine fD rfl (show atI (("^" : Str)++s).cps.toList 0=some 94 by rw [pw];exact atz) ?_;walk_at "P";rw [Cm];exact rest
   cases hi with
   | none =>
    walk_at "P";exact rest
   | some g =>
    walk_at "P";refine iF rfl (vE (cR (Int.le_trans h0 hh.1) hh.2)) ?_;walk_at "P";exact rest
def PcL:List (List Nat)->List Nat->Prop
 | [],_=>True
 | t :: ts,L=>wQ t (ts.flatten++L)/\PcL ts L
theorem xP:∀ {ts:List (List Nat)},PcL ts []->Pcs ts
 | [],_=>trivial
 | t :: ts,h=>⟨by have:=h.1;rwa [Oz] at this,xP h.2⟩
theorem g0:∀ {A B:List (List Nat)} {L:List Nat},PcL A (B.flatten++L)->PcL B L->PcL (A++B) L
 | [],_,_,_,h=>h
 | t :: A,B,L,h,g=>⟨by show wQ t ((A++B).flatten++L);rw [OZ,Oy];exact h.1,g0 h.2 g⟩
theorem we:∀ (n:Nat) (L:List Nat),PcL (List.replicate n [32]) L
 | 0,_=>trivial
 | n+1,L=>⟨BE,we n L⟩
theorem cj (A B:List (List Nat)):tkS (A++B)=tkS A++tkS B:=by unfold tkS;rw [List.filter_append,Oo]
theorem qR:∀ n,tkS (List.replicate n [32])=[]
 | 0=>rfl
 | n+1=>qR n
theorem Gz {t:List Nat} (h:Tk t):t≠[32]:=fun e=>by
 obtain ⟨_,c,r,rfl,h⟩:=h;injection e with e1 e2;subst e1;rcases h with h | h | h | h
 ·exact absurd h.1 (by decide)
 ·exact absurd h.1 (by decide)
 ·rcases h.1 with z | z <;> exact absurd z (by decide)
 ·exact h.2.2.2.2.1 rfl
theorem mC (h:Tk s.cps.toList):tkS [s.cps.toList]=[s]:=by
 unfold tkS;rw [List.filter_cons_of_pos (by simp [Gz h])];rfl
theorem iy:∀ n,(List.replicate n [32]).flatten=List.replicate n 32
 | 0=>rfl
 | n+1=>by rw [List.replicate_succ,PD,iy n];rfl
theorem ph (n:Nat):(nE " " n).cps.toList=List.replicate n 32:=iy n
theorem qv (n:Nat):(nE " " n).length=n:=by rw [<- aw,ph,Pg]
def Aft (p:Option Str) (L:List Nat):Prop:=∀ t,p=some t->∀ f R,L=f :: R->j8 (t.cps.toList.getLast?.getD 0) f=false
def Cut (Z:Str) (ts:List (List Nat)) (TK:List Str):Prop:=Z.cps.toList=ts.flatten/\tkS ts=TK/\∀ L,Aft TK.getLast? L->PcL ts L
theorem Hi {p:Option Str} (h:n=0->Aft p L):Aft p (List.replicate n 32++L):=by
 cases n with
 | zero=>exact h rfl
 | succ n =>
  intro t _ f R e;injection e with e _;subst e;unfold j8;rw [show chB 32=false by decide,show cT 32=false by decide];simp
theorem Nf (n:Nat):Cut (nE " " n) (List.replicate n [32]) []:=⟨by rw [ph,iy],qR n,fun L _=>we n L⟩
theorem Cut.add (h:Cut Z ts TK) (ht:Tk t.cps.toList) (hg:n=0->∀ L,Aft TK.getLast? (t.cps.toList++L)):Cut (Z++nE " " n++t) (ts++(List.replicate n [32]++[t.cps.toList])) (TK++[t]):=by
 refine ⟨?_,?_,fun L hL=>?_⟩
 ·rw [br,br,ph,h.1];simp [iy]
 ·rw [cj,cj,qR,h.2.1,mC ht];rfl
 ·rw [List.getLast?_concat] at hL;refine g0 ?_ (g0 (we _ _) ⟨?_,trivial⟩)
  ·rw [OZ,iy,Oy];refine h.2.2 _ (Hi fun e=>?_);have:=hg e L;simpa using this
  ·rw [List.flatten_nil,OL];exact rg ht (hL t rfl)
theorem pT:∀ (A B:List (List Nat)) (a:Nat),plc a (A++B)=plc a A++plc (a+A.flatten.length) B
 | [],B,a=>rfl
 | t :: A,B,a=>by
  show (if t=[32] then [] else [a])++plc (a+t.length) (A++B)=((if t=[32] then [] else [a])++plc (a+t.length) A)++plc (a+(t++A.flatten).length) B;rw [pT A B,Oy,NS,Nat.add_assoc]
theorem wa:∀ (n a:Nat),plc a (List.replicate n [32])=[]
 | 0,_=>rfl
 | n+1,a=>wa n (a+1)
theorem DJ {t:List Nat} (h:t≠[32]):plc a [t]=[a]:=by
 show (if t=[32] then [] else [a])++[]=[a];rw [Od h];rfl
theorem qH:∀ {ts:List (List Nat)} {a m:Nat} {s:Str},(tkS ts)[m]?=some s->∃ A B p,ts=A++(s.cps.toList :: B)/\(plc a ts)[m]?=some p/\p=a+A.flatten.length/\tkS A=(tkS ts).take m/\tkS (A++[s.cps.toList])=(tkS ts).take (m+1)
 | [],a,m,s,h=>by cases h
 | t :: ts,a,m,s,h=>by
  have e1:plc a (t :: ts)=(if t=[32] then [] else [a])++plc (a+t.length) ts:=rfl;have e2:tkS (t :: ts)=tkS [t]++tkS ts:=cj [t] ts;rw [e2] at h;rw [e1,e2];by_cases ht:t=[32]
  ·subst ht;have e3:tkS [[32]]=[]:=qR 1;rw [e3,OL] at h;obtain ⟨A,B,p,eA,g1,g2,g3,g4⟩:=qH (a:=a+1) h;refine ⟨[32] :: A,B,p,by rw [eA];rfl,g1,?_,?_,?_⟩
   ·rw [g2,PD,NS,<-Nat.add_assoc];rfl
   ·rw [e3,OL,<-g3];exact (cj [[32]] A).trans (by rw [e3];rfl)
   ·rw [e3,OL,<-g4];exact (cj [[32]] (A++[s.cps.toList])).trans (by rw [e3];rfl)
  ·have e3:tkS [t]=[(⟨t.toArray⟩:Str)]:=by
    unfold tkS;rw [List.filter_cons_of_pos (by simp [ht])];rfl
   rw [Od ht,e3];rw [e3] at h;cases m with
   | zero =>
    cases h;exact ⟨[],ts,a,rfl,rfl,rfl,rfl,e3⟩
   | succ m =>
    obtain ⟨A,B,p,eA,g1,g2,g3,g4⟩:=qH (a:=a+t.length) (show (tkS ts)[m]?=some s from h);refine ⟨t :: A,B,p,by rw [eA];rfl,g1,?_,?_,?_⟩
    ·rw [g2,PD,NS,Nat.add_assoc]
    ·show _=_ :: (tkS ts).take m;rw [<- g3];exact (cj [t] A).trans (by rw [e3];rfl)
    ·show _=_ :: (tkS ts).take (m+1);rw [<- g4];exact (cj [t] (A++[s.cps.toList])).trans (by rw [e3];rfl)
theorem xh {p:Nat->Bool} {L':List Nat} (h:Nx p (L++L')):Nx p L:=fun f R e=>h f (R++L') (by rw [e];rfl)
theorem AS {t L':List Nat} (h:wQ t (L++L')):wQ t L:=by
 obtain ⟨c,r,e,h⟩:=h;exact ⟨c,r,e,h.imp (fun z=>⟨z.1,z.2.1,xh z.2.2⟩) (.imp (fun z=>⟨z.1,z.2.1,xh z.2.2⟩) (.imp (fun z=>⟨z.1,z.2.1,xh z.2.2⟩) id))⟩
theorem vT:∀ {A B:List (List Nat)},Pcs (A++B)->Pcs A
 | [],_,_=>trivial
 | t :: A,B,h=>⟨AS (L':=B.flatten) (by have:=(show wQ t (A++B).flatten from h.1);rwa [OZ] at this),vT h.2⟩
theorem Cy:Bad (Str.ofString ""):=by
 refine ⟨⟨by decide,by decide,by decide,by decide,by decide⟩,by rfl,by rfl,by decide,by rfl⟩
theorem zG {c:Str} {A B:List (List Nat)} {m:Nat} (hp:Pcs (A++B)) (hf:Fr 8 true d TK k) (hk:k<=40) (eT:tkS A=TK.take m) (hm:m < TK.length) (hc:c.cps.toList=A.flatten) (hz:c.length<=99000):WU ak [.str c] (fun _ _=>False) (some (c.length:Int)):=by
 have l:(tkS A).length=m:=by rw [eT,OB];lia
 have l2:(plc 0 A).length=m:=by rw [(fS A 0).2,l]
 refine rG (b:=m) (x := "") (ts:=A) hz (vT hp) hc hf hk ?_ ?_ Cy (.inl hm) hz fun j t e hj=>?_
 ·rw [NX (by lia),l,Pz];rfl
 ·rw [NX (by lia),l2,Pz];rfl
 ·rw [eT,P6 hj];exact e
abbrev q39:Str := "'"
abbrev q45:Str := "-"
theorem Nv (c:Nat):decide (c∈(abc++q39).cps.toList)=(chB c||decide (c=39)):=by
 rw [br,<-jy c,show q39.cps.toList=[39] from rfl];by_cases h:c∈abc.cps.toList <;> simp [h]
theorem NH (c:Nat):decide (c∈(dgs++q45).cps.toList)=(cT c||decide (c=45)):=by
 rw [br,<-jr c,show q45.cps.toList=[45] from rfl];by_cases h:c∈dgs.cps.toList <;> simp [h]
theorem yK {l:List Nat} (h:l≠[]):atI l (-1)=some (l.getLast?.getD 0):=by
 have hl:=List.length_pos_iff.mpr h;unfold atI ixN;rw [Od (by decide),N4 (by lia),show ((-1:Int)+l.length).toNat=l.length - 1 by lia];show l[l.length - 1]?=_;rw [<- List.getLast?_eq_getElem?,List.getLast?_eq_some_getLast h];rfl
theorem CG {a b:Str} {f:Nat} (ha:a.cps.toList≠[]) (hb:b.cps.toList=f :: r) (q:Q (.dat (.bool (j8 (a.cps.toList.getLast?.getD 0) f))) []):WF mG [.str a,.str b] Q:=by
 have h1:=yK ha;have h2:atI b.cps.toList 0=some f:=by rw [hb];exact atz
 generalize a.cps.toList.getLast?.getD 0=l at h1 q;unfold j8 at q;refine dw rfl ?_;unfold vW;with_reducible refine oK ?_
 walk_at "pmz";with_reducible refine oK ?_
 walk_at "pm";refine fD rfl h1 ?_;walk_at "pm";refine nI Nv rfl ?_;have tail:∀ {e:En} {P:RV->En->Prop},e=([.dat (.str a),.dat (.str b),.dat (.str abc),.dat (.str dgs)]:En)->P (.dat (.bool ((cT l||decide (l=45))&&cT f))) e->WE gds (.mL (p2 inP (p2 ixP (vr 0) (p1 EU (ci 1))) (p2 bK (vr 3) (L2.cs "-" eM._proof_1))) (p2 inP (p2 ixP (vr 1) (ci 0)) (vr 3))) e P:=by
  intro e P ee hP;subst ee;walk_at "pm";refine fD rfl h1 ?_;walk_at "pm";refine nI NH rfl ?_;cases z:(cT l||decide (l=45)) with
  | false =>
   rw [z] at hP;walk_at "pm";exact hP
  | true =>
   rw [z] at hP;walk_at "pm";refine fD rfl h2 ?_;walk_at "pm";refine nI jr rfl ?_;exact hP
 cases z:(chB l||decide (l=39)) with
 | false =>
  rw [z] at q;refine ⟨_,rfl,?_⟩;refine cC rfl ?_;refine ⟨_,rfl,?_⟩;refine cC rfl ?_;refine tail rfl ?_;walk_at "pm";exact q
 | true =>
  rw [z] at q;walk_at "pm";refine fD rfl h2 ?_;walk_at "pm";refine nI jy rfl ?_;cases y:chB f with
  | true =>
   rw [y] at q;walk_at "pm";exact q
  | false =>
   rw [y] at q;refine ⟨_,rfl,?_⟩;refine cC rfl ?_;refine tail rfl ?_;walk_at "pm";exact q
theorem Gp {Q:RV->En->Prop} (h:WPr mV avs e Q):WPr mV avs e Q:=h
theorem E7 {a:AV} {b:Bool} {Q:RV->En->Prop} (h1:aK e [a]=some [.bool b]) (q:∀ w:Int,0<=w->w<=1->(b=true->w=1)->Q (.dat (.int w)) e):WPr mV [a] e Q:=by
 cases b
 ·exact ⟨_,.dat (.int 0),h1,rfl,q 0 (by decide) (by decide) fun z=>by cases z⟩
 ·exact ⟨_,.dat (.int 1),h1,rfl,q 1 (by decide) (by decide) fun _=>rfl⟩
theorem wC (h:TK[i]?=some t):(TK.take (i+1)).getLast?=some t:=by rw [<- PU h,List.getLast?_concat]
theorem GB {t:List Nat} (h:Tk t):∃ f r,t=f :: r:=by
 obtain ⟨_,c,r,e,_⟩:=h;exact ⟨c,r,e⟩
theorem qp {R:Nat} (hP:aO cs (R+TK.length+2) pn) (hT:TkA TK) (hl:TK.length<=1000) (q:∀ Z ts pn',aO cs R pn'->Cut Z ts TK->Z.length<=66*TK.length+3->Q (.dat (.tuple [.str Z,.list ((plc 0 ts).map fun p:Nat=>.int (p:Int))])) [pn']):WF gk [pn,.list (TK.map .str)] Q:=by
 refine dw rfl ?_;unfold xY;walk_at "d";intro v pn1 hP1 v0 v1;walk_at "N";obtain ⟨d,hd,ed⟩:=atV (xs:=([.int 1,.int 2,.int 4]:List Qq)) v0 v1;have hc:∃ m:Int,d=.int m/\1<=m/\m<=4:=by
  simp only [N9,Ox,O9] at hd;rcases hd with rfl | rfl | rfl <;> exact ⟨_,rfl,by lia,by lia⟩
 obtain ⟨m,rfl,m0,m1⟩:=hc;refine gf rfl ed ?_;clear ed hd;walk_at "d";intro u pn2 hP2 u0 u1;walk_at "N";refine Bn rfl u0 (by lia) (by decide) ?_;walk_at "P";refine ⟨⟨by lia,by rw [NT];lia⟩,?_⟩;refine iz (fun i e=>∃ (Z:Str) (ts:List (List Nat)) (ps:List Qq) (pn':Qq) (x y:Sl),Cut Z ts (TK.take i)/\Z.length<=66*i+3/\(ps.length=i/\ps=(plc 0 ts).map fun p:Nat=>.int (p:Int))/\aO cs (R+(TK.length - i)) pn'/\soft x/\soft y/\e=([.ino pn',.dat (.list (TK.map .str)),.dat (.int m),.dat (.str Z),.own (.list ps),x,y]:En)) ⟨_,_,[],pn2,.un,.un,Nf u.toNat,by rw [qv];lia,⟨rfl,by rw [wa];rfl⟩,hP2,sH,sH,rfl⟩ ?_ ?_
 ·rintro i d e hd ⟨Z,ts,ps,pn',x,y,hC,hz,⟨hps,eps⟩,hP',hx,hy,rfl⟩;obtain ⟨rfl,hi⟩:=gh hd;have hi:i < TK.length:=by rw [NT] at hi;lia
  obtain ⟨j0,ej⟩:∃ j,TK.length - i=j+1:=⟨TK.length - i - 1,by lia⟩;rw [ej] at hP';have ht:TK[i]?=some TK[i]:=N7 hi;generalize TK[i]=t at ht;have hk:=hT t (Ov ht);have atm:atI (TK.map PyData.str) (i:Int)=some (.str t):=cz (by rw [Oj,ht];rfl);have tl:t.length<=61:=by rw [<- aw];exact hk.1
  refine CA (pz rfl hx) ?_;walk_at "d";intro n pn3 hP3 n0 n1;walk_at "n";walk_at "q";with_reducible refine cV fun N eN=>?_
  have rest:∀ j:Nat,j<=4->(0 < i->j=0->∀ L,Aft (TK.take i).getLast? (t.cps.toList++L))->N ([.ino pn3,.dat (.list (TK.map .str)),.dat (.int m),.dat (.str Z),.own (.list ps),.dat (.int (i:Int)),.dat (.int (j:Int))]:En):=by
   intro j hj hg;rw [eN];with_reducible refine oK ?_
   repeat ((fail_if_success (with_reducible refine Gp ?_));walk_at "p")
   refine E7 rfl fun w w0 w1 hw=>?_;walk_at "p";refine Bb rfl (by lia) (by lia) ?_;obtain ⟨r,hr,r4,rj⟩:∃ r:Nat,(j:Int)*w=r/\r<=4/\(0 < i->r=j):=by
    rcases (by lia:w=0\/w=1) with rfl | rfl
    ·exact ⟨0,by simp,by lia,fun z=>by have:=hw (NY (by lia));lia⟩
    ·exact ⟨j,by simp,hj,fun _=>rfl⟩
   rw [hr];have hg2:r=0->∀ L,Aft (TK.take i).getLast? (t.cps.toList++L):=fun z=>by
    rcases Nat.eq_zero_or_pos i with z2 | z2
    ·subst z2;intro L t' e;cases e
    ·exact hg z2 (by rw [<- rj z2];exact z)
   walk_at "P";refine Bn rfl (by lia) (by lia) (by decide) ?_;walk_at "P";refine eJ rfl (by rw [rL];show _+_*1<=2 ^ 24;lia) ?_;walk_at "P";refine kj rfl (by show _ < 2 ^ 24;lia) rfl ?_;walk_at "P";refine gf rfl atm ?_;walk_at "P";have ml:(nE " " (r:Int).toNat).length=r:=qv r;refine eJ rfl (by rw [aJ];show _<=2 ^ 24;lia) ?_;walk_at "P";have C2:=Cut.add hC hk hg2;rw [PU ht] at C2;have ez:ts.flatten.length=Z.length:=by rw [<- hC.1,aw]
   have ep:ps++[PyData.int ((Z++nE " " (r:Int).toNat).length:Int)]=(plc 0 (ts++(List.replicate r [32]++[t.cps.toList]))).map fun p:Nat=>.int (p:Int):=by
    rw [pT,pT,wa,DJ (Gz hk),iy,OL,P9,Pg,Oo,<-eps,ez,aJ,ml];rfl
   exact ⟨_,_,_,pn3,_,_,C2,by rw [aJ,aJ,qv];lia,⟨by rw [NS,hps];rfl,ep⟩,by rw [show TK.length - (i+1)=j0 by lia];exact hP3,i0,i0,rfl⟩
  have blank:n≠0->N ([.ino pn3,.dat (.list (TK.map .str)),.dat (.int m),.dat (.str Z),.own (.list ps),.dat (.int (i:Int)),.dat (.int n)]:En):=fun z=>by
   obtain ⟨j,rfl⟩:∃ j:Nat,n=j:=⟨n.toNat,by lia⟩;exact rest j (by lia) fun _ z2=>absurd z2 (by lia)
  cases i with
  | zero =>
   obtain ⟨j,rfl⟩:∃ j:Nat,n=j:=⟨n.toNat,by lia⟩;walk_at "P";exact rest j (by lia) fun z=>absurd z (by lia)
  | succ i =>
   obtain ⟨t0,ht0⟩:∃ t0,TK[i]?=some t0:=⟨TK[i],N7 (by lia)⟩;have hk0:=hT t0 (Ov ht0);have at0:atI (TK.map PyData.str) (((i+1:Nat):Int) - 1)=some (.str t0):=by
    rw [show (((i+1:Nat):Int) - 1)=(i:Int) by lia];exact cz (by rw [Oj,ht0];rfl)
   obtain ⟨f,r,ef⟩:=GB hk;obtain ⟨f0,r0,ef0⟩:=GB hk0;walk_at "P";refine d7 (NY (by lia)) ?_;walk_at "P";refine fH (fun e1=>?_) (fun e1=>?_)
   ·have e1:n=0:=ly e1;subst e1;walk_at "P";refine gf rfl at0 ?_;walk_at "P";refine gf rfl atm ?_;walk_at "P";refine aa (is:=[]) rfl rfl (CG (by rw [ef0];exact OS _ _) ef ⟨rfl,?_⟩);cases g:j8 (t0.cps.toList.getLast?.getD 0) f with
    | true =>
     walk_at "P";exact rest 1 (by lia) fun _ z=>absurd z (by lia)
    | false =>
     walk_at "P";refine rest 0 (by lia) fun _ _ L=>?_;rw [wC ht0];intro t' e f' R e';injection e with e;subst e;rw [ef] at e';injection e' with e' _;rw [<- e'];exact g
   ·walk_at "P";exact blank fun z=>by subst z;cases e1
 ·rintro e ⟨Z,ts,ps,pn',x,y,hC,hz,⟨hps,eps⟩,hP',hx,hy,rfl⟩;rw [jq,NT] at hC hz hP';have e1:((TK.length:Nat):Int).toNat=TK.length:=Int.toNat_natCast _;rw [e1] at hC hz hP';rw [Pz] at hP';rw [Pj] at hC;walk_at "P";exact eps▸q Z ts pn' hP' hC hz
theorem wb:(", " : Str).length=2:=by decide
theorem br1:("(" : Str).length=1:=by decide
theorem br2:(")" : Str).length=1:=by decide
theorem emp (x:Str):Str.empty++x=x:=fY (by rw [br];rfl)
def Pl (f:Nat):Prop:=chB f=false/\cT f=false
theorem vY {p:Option Str} {f:Nat} {R:List Nat} (h:Pl f):Aft p (f :: R):=fun t _ g S e=>by
 injection e with e _;subst e;unfold j8;rw [h.1,h.2];simp
theorem M7:Pl 40:=⟨by decide,by decide⟩
theorem MY:Pl 41:=⟨by decide,by decide⟩
theorem MU:Pl 44:=⟨by decide,by decide⟩
theorem rK (h:c=40\/c=41\/c=44\/c=94):wQ [c] L:=by
 rcases h with rfl | rfl | rfl | rfl <;> exact ⟨_,[],rfl,.inr (.inr (.inr ⟨by decide,by decide,by decide,by decide,rfl⟩))⟩
def My (l:List Nat) (ts:List (List Nat)) (TK:List Str):Prop:=l=ts.flatten/\tkS ts=TK/\∀ L,Aft TK.getLast? L->PcL ts L
def Sn (Z:Str) (TK:List Str):Prop:=(∃ ts,Cut Z ts TK)/\Z.length<=62*TK.length
theorem iK (h:Tk t.cps.toList):Sn t [t]:=⟨⟨[t.cps.toList],by simp,mC h,fun L hL=>⟨rg h (hL t rfl),trivial⟩⟩,by have:=h.1;rw [aw] at this;show _<=62*1;lia⟩
theorem Cn {A:Str} {TA:List Str} (h:Sn A TA) (ht:Tk t.cps.toList):Sn (A ++ " " ++ t) (TA++[t]):=by
 obtain ⟨⟨ts,hC⟩,hl⟩:=h;refine ⟨⟨_,Cut.add (n:=1) hC ht fun z=>by cases z⟩,?_⟩;have:=ht.1;rw [aw] at this;rw [aJ,aJ,NS,Ow,show (" " : Str).length=1 by decide];lia
theorem Je (h:Sh s):Sn (stS up s) (stT up s):=by
 cases up with
 | false=>exact iK (jn h)
 | true =>
  refine ⟨⟨[[94],s.cps.toList],?_,?_,fun L hL=>⟨rK (by simp),rg (jn h) (hL s rfl),trivial⟩⟩,?_⟩
  ·show (("^" : Str)++s).cps.toList=_;rw [pw];simp
  ·show tkS ([[94]]++[s.cps.toList])=[("^" : Str)]++[s];rw [cj,mC (jn h)];rfl
  ·show (("^" : Str)++s).length<=62*2;rw [aJ,show ("^" : Str).length=1 by decide];have:=h.2.2;lia
theorem qO {J:Str} {TJ:List Str} (hw:Tk w.cps.toList) (h:Sn J TJ):Sn (w++("(" : Str)++J++(")" : Str)) ([w,kO]++(TJ++[kC])):=by
 obtain ⟨⟨ts,hC⟩,hl⟩:=h;refine ⟨⟨[w.cps.toList,[40]]++(ts++[[41]]),?_,?_,fun L hL=>?_⟩,?_⟩
 ·rw [br,br,br,hC.1,show ("(" : Str).cps.toList=[40] from rfl,show (")" : Str).cps.toList=[41] from rfl];simp
 ·rw [show ([w.cps.toList,[40]]:List (List Nat))=[w.cps.toList]++[[40]] from rfl,cj,cj,cj,mC hw,hC.2.1];rfl
 ·refine ⟨rg hw fun f R e=>vY (p:=some w) M7 w rfl f R e,rK (by simp),?_⟩;exact g0 (A:=ts) (B:=[[41]]) (show PcL ts (41 :: L) from hC.2.2 _ (vY MY)) ⟨rK (by simp),trivial⟩
 ·have:=hw.1;rw [aw] at this;rw [aJ,aJ,aJ,br1,br2,NS,NS];show _<=62*(2+(TJ.length+1));lia
noncomputable def sQ (sp:List Nat) (f:Bool):List Str->List Nat
 | []=>[]
 | S :: Ss=>(if f then [] else sp)++(S.cps.toList++sQ sp false Ss)
theorem qS (s:Str):∀ (ps:List Str) (acc:Array Nat),(ps.foldl (fun acc p=>acc++s.cps++p.cps) acc).toList=acc.toList++sQ s.cps.toList false ps
 | [],acc=>by simp [sQ]
 | p :: ps,acc=>by
  rw [Qa,qS s ps];simp [sQ]
theorem zO (s:Str) (Ss:List Str):(Txt.join s Ss).cps.toList=sQ s.cps.toList true Ss:=by
 cases Ss with
 | nil=>rfl
 | cons x r =>
  show (r.foldl (fun acc p=>acc++s.cps++p.cps) x.cps).toList=_;rw [qS];rfl
def SnL:List Str->List (List Str)->Prop
 | [],[]=>True
 | Z :: Zs,T :: Ts=>Sn Z T/\T≠[]/\SnL Zs Ts
 | _,_=>False
theorem rQ (h:Sn Z T) (hT:T≠[]):∀ {Zs:List Str} {Ts:List (List Str)},SnL Zs Ts->SnL (Zs++[Z]) (Ts++[T])
 | [],[],_=>⟨h,hT,trivial⟩
 | _ :: _,_ :: _,⟨a,b,c⟩=>⟨a,b,rQ h hT c⟩
theorem Bg {α:Type} {A B:List α} (h:B≠[]):(A++B).getLast?=B.getLast?:=by
 rw [List.getLast?_append,List.getLast?_eq_some_getLast h];rfl
theorem Fu:aS false (T :: Ts)≠[]:=by simp [aS]
theorem yJ:∀ (Zs:List Str) (Ts:List (List Str)) (f:Bool),SnL Zs Ts->∃ ts,My (sQ [44,32] f Zs) ts (aS f Ts)
 | [],[],f,_=>⟨[],rfl,rfl,fun _ _=>trivial⟩
 | Z :: Zs,T :: Ts,f,⟨⟨⟨tz,hz⟩,_⟩,hT,h⟩=>by
  obtain ⟨ts,hr⟩:=yJ Zs Ts false h;have key:∃ ts',My (Z.cps.toList++sQ [44,32] false Zs) ts' (T++aS false Ts):=by
   refine ⟨tz++ts,?_,by rw [cj,hz.2.1,hr.2.1],fun L hL=>?_⟩
   ·rw [hz.1,hr.1,OZ]
   ·match Zs,Ts,h,hr,hL with
    | [],[],_,hr,hL =>
     have hL:Aft (T++[]).getLast? L:=hL;rw [Oz] at hL;have e0:[]=ts.flatten:=hr.1;refine g0 ?_ (hr.2.2 L fun t e=>by cases e);rw [<- e0];exact hz.2.2 L hL
    | A :: Zs,S :: Ts,_,hr,hL =>
     rw [Bg Fu] at hL;refine g0 (hz.2.2 _ ?_) (hr.2.2 L hL);rw [<- hr.1];exact vY MU
  obtain ⟨ts',k1,k2,k3⟩:=key;have ne:T++aS false Ts≠[]:=fun z=>hT (List.append_eq_nil_iff.mp z).1;cases f with
  | true=>exact ⟨ts',k1,k2,k3⟩
  | false =>
   refine ⟨[44] :: [32] :: ts',?_,?_,fun L hL=>⟨rK (by simp),BE,k3 L ?_⟩⟩
   ·show [44,32]++(Z.cps.toList++sQ [44,32] false Zs)=_;rw [k1];rfl
   ·show tkS ([[44],[32]]++ts')=[kM]++(T++aS false Ts);rw [cj,k2];rfl
   ·have hL:Aft ([kM]++(T++aS false Ts)).getLast? L:=hL
    rwa [Bg ne] at hL
theorem gZ:∀ (Zs:List Str) (Ts:List (List Str)) (f:Bool),SnL Zs Ts->(Zs.map (·.length)).sum+2*Zs.length<=62*(aS f Ts).length+(if f then 2 else 0)
 | [],[],f,_=>by simp
 | Z :: Zs,T :: Ts,f,⟨⟨_,hl⟩,hT,h⟩=>by
  have ih:=gZ Zs Ts false h;rw [Od (by decide)] at ih;show ((Z.length :: Zs.map (·.length)).sum+2*(Zs.length+1))<=62*((if f then [] else [kM])++(T++aS false Ts)).length+(if f then 2 else 0);rw [List.sum_cons,NS,NS];cases f
  ·rw [Od (by decide),Od (by decide),Ow];lia
  ·rw [N4 rfl,N4 rfl,Og];lia
theorem vV:∀ (Zs:List Str) (f:Bool),(sQ [44,32] f Zs).length+(if f then 2 else 0)<=(Zs.map (·.length)).sum+2*Zs.length+(if f then 2 else 0)
 | [],f=>by simp [sQ]
 | Z :: Zs,f=>by
  have ih:=vV Zs false;rw [Od (by decide)] at ih;show ((if f then [] else [44,32])++(Z.cps.toList++sQ [44,32] false Zs)).length+_<=(Z.length :: Zs.map (·.length)).sum+2*(Zs.length+1)+_;rw [List.sum_cons,NS,NS,aw];cases f
  ·show 2+(Z.length+_)+_<=_;simp only [Od (show ¬(false=true) by decide)];lia
  ·show 0+(Z.length+_)+_<=_;simp only [N4];lia
theorem lN {Zs:List Str} (h:SnL Zs Ts):Sn (Txt.join ", " Zs) (aS true Ts):=by
 obtain ⟨ts,hC⟩:=yJ Zs Ts true h;have e:(Txt.join ", " Zs).cps.toList=sQ [44,32] true Zs:=zO ", " Zs;refine ⟨⟨ts,by rw [e];exact hC.1,hC.2.1,hC.2.2⟩,?_⟩;rw [<- aw,e];cases Zs with
 | nil=>exact O0 _
 | cons Z Zs =>
  cases Ts with
  | nil=>exact h.elim
  | cons T Ts =>
   have h1:=gZ Zs Ts false h.2.2;have h2:=vV Zs false;rw [Od (by decide)] at h1 h2;have h3:=h.1.2;show ([]++(Z.cps.toList++sQ [44,32] false Zs)).length<=62*([]++(T++aS false Ts)).length;rw [OL,OL,NS,NS,aw];lia
theorem A2 (n:Nat):(ax n).ms=[.dat]:=by cases n <;> rfl
theorem w_j {r:RV} {ss:List Str} {Q:RV->En->Prop} (h1:r.view e=some (.str ", ")) (h2:aK e avs=some [.list (ss.map .str)]) (h3:(ss.map (·.length)).sum+2*ss.length<=16777216) (q:Q (.dat (.str (Txt.join ", " ss))) e):AM joinM r avs e Q :=
 BP h1 h2 (by simp only [eD,OQ];rw [wb];lia) q
theorem M0 {r:RV} {ss:List Str} {Q:RV->En->Prop} (h1:r.view e=some (.str ", ")) (h2:aK e avs=some [.tuple (ss.map .str)]) (h3:(ss.map (·.length)).sum+2*ss.length<=16777216) (q:Q (.dat (.str (Txt.join ", " ss))) e):AM joinM r avs e Q:=by
 have h3:eD ", " ss=true:=by simp only [eD,OQ];rw [wb];lia
 refine ⟨_,_,.dat (.str (Txt.join ", " ss)),h1,h2,?_,q⟩;show (match strsOf (ss.map .str) with | some ss=>if eD ", " ss=true then some (PR.dat (.str (Txt.join ", " ss))) else none | none=>none)=_;rw [gc];simp only;rw [N4 h3]
theorem wN {x y:AV} {Q:RV->En->Prop} (h1:aK e [x,y]=some [.str (w ++ " "),.str z]) (hw:w.length<=100) (hz:z.length<=100) (q:Q (.dat (.str (w ++ " " ++ z))) e):WPr bK [x,y] e Q :=
 eJ h1 (by rw [aJ,show (" " : Str).length=1 by decide];show _<=2 ^ 24;lia) q
theorem AX {J:Str} {R:RV->En->Prop} {h1:(Str.ofString "(").length<=sizeLine} {h2:(Str.ofString ")").length<=sizeLine} (e1:e[1]?=some (.dat (.str w))) (e2:e[2]?=some (.dat (.str J))) (hw:w.length<=100) (hJ:J.length<=99000) (r:R (.dat (.str (w++("(" : Str)++J++(")" : Str)))) e):WE gds (.fst (.cons (p1 fvP (vr 1)) (.cons (L2.cs "(" h1) (.cons (p1 fvP (vr 2)) (.cons (L2.cs ")" h2) .nil))))) e R:=by
 refine M8 (AO (A4 (wj (w_var e1 (Dg ⟨_,_,rfl,rfl,_,rfl,?_,?_⟩)))))
 ·rw [emp];show _<=2 ^ 24;lia
 rw [emp];refine AO (CT ⟨_,rfl,?_,?_⟩)
 ·show (w++("(" : Str)).length<=2 ^ 24;rw [aJ,br1];lia
 refine AO (A4 (wj (w_var e2 (Dg ⟨_,_,rfl,rfl,_,rfl,?_,?_⟩))))
 ·show (w++("(" : Str)++J).length<=2 ^ 24;rw [aJ,aJ,br1];lia
 refine AO (CT ⟨_,rfl,?_,?_⟩)
 ·show (w++("(" : Str)++J++(")" : Str)).length<=2 ^ 24;rw [aJ,aJ,aJ,br1,br2];lia
 refine Ln ?_ r;show (w++("(" : Str)++J++(")" : Str)).length<=2 ^ 24;rw [aJ,aJ,aJ,br1,br2];lia
def se (n:Nat):Prop:=∀ {fr:Bool} {d:Qq} {TK:List Str} {k:Nat} {Q:PR->List Qq->Prop},Fr n fr d TK k->k<=40->(∀ Z,Sn Z TK->Q (.dat (.str Z)) [])->WF (ax n) [d] Q
theorem oX (ih:se n) {lk:Option Nat} {Q:RV->En->Prop} (hA:lq (Fr n fr) us Ts j) (hj:j<=40) (q:∀ Zs,SnL Zs Ts->Q (.frs (.list (Zs.map .str))) e1):GJ (fP (dT gds XT.yes) (dE gds (XE.call (ax n) (XA.cons (vr 0) XA.nil)))) [] us lk e1 Q:=by
 refine fU (fun i ys ec=>∃ Zs:List Str,ys=Zs.map .str/\SnL Zs (Ts.take i)/\ec=[]) ⟨[],rfl,trivial,rfl⟩ ?_ ?_
 ·rintro i d ys ec hd ⟨Zs,rfl,hZ,rfl⟩;obtain ⟨T,a,h1,h2,h3⟩:=qw hA hd;refine jN ?_;walk_at "P";refine cA (A2 n) (is:=[]) rfl rfl (ih h1 (by lia) fun Z hZ'=>⟨rfl,?_⟩);obtain ⟨_,_,e,_⟩:=jx h1;exact ⟨_,rfl,Zs++[Z],by rw [Oo];rfl,by rw [<- PU h2];exact rQ hZ' (by rw [e];exact OS _ _) hZ,rfl⟩
 ·rintro ys ec ⟨Zs,rfl,hZ,rfl⟩;rw [pZ hA,Pj] at hZ;exact q Zs hZ
theorem Bz:∀ (bs:List Str),(∀ b∈bs,Sh b)->SnL bs (bs.map fun b=>[b])
 | [],_=>trivial
 | b :: bs,h=>⟨iK (jn (h b N5)),OS _ _,Bz bs fun x hx=>h x (NZ _ hx)⟩
theorem LJ {F:Fn} (hB:Bnd bs) (q:∀ J,Sn J (aS true (bs.map fun b=>[b]))->Q (.dat (.str J)) []):WF (bj F) [.tuple [.str "closed", .tuple (bs.map .str)]] Q:=by
 have hS:=Bz bs hB.1;have h1:=gZ _ _ true hS;have h2:=qQ bs true;have h3:=hB.2.2.1;rw [N4 rfl] at h1;refine dw rfl ?_;unfold bL;walk_at "P";refine M0 rfl rfl (by lia) ?_;walk_at "P";exact q _ (lN hS)
theorem J0 (ih:se n) (hw:Lst w) (hA:lq (Fr n fr) us Ts j) (hj:j<=40) (hl:us.length<=6) (hr:(aS true Ts).length<=700) (q:∀ J,Sn J (aS true Ts)->Q (.dat (.str J)) []):WF (bj (ax n)) [.tuple [.str w,.tuple us]] Q:=by
 refine dw rfl ?_;unfold bL;rcases hw with rfl | rfl | rfl | rfl
 all_goals
  walk_at "P";refine aa (is:=[]) rfl rfl ⟨_,_,rfl,rfl,?_⟩;refine ⟨us,rfl,?_⟩;refine oX ih hA hj fun Zs hZ=>?_;have h1:=gZ _ _ true hZ;rw [N4 rfl] at h1;walk_at "P";refine df rfl (by rw [NT];show 0+_<=2 ^ 24;lia) ?_;walk_at "P";refine w_j (ss:=Zs) rfl rfl (by lia) ?_;walk_at "P";exact q _ (lN hZ)
theorem LM (ih:se n) (hu:Fr n fr u T j) (hj:j<=40) (hr:T.length<=700) (q:∀ J,Sn J T->Q (.dat (.str J)) []):WF (bj (ax n)) [.tuple [.str "not", u]] Q:=by
 have eT:aS true [T]=T:=by simp [aS]
 refine dw rfl ?_;unfold bL;walk_at "P";refine aa (is:=[]) rfl rfl ⟨_,_,rfl,rfl,?_⟩;refine ⟨[u],rfl,?_⟩;refine oX (us:=[u]) (Ts:=[T]) (j:=j) ih ⟨j,0,hu,rfl,rfl⟩ hj fun Zs hZ=>?_;have h1:=gZ _ _ true hZ;rw [N4 rfl,eT] at h1;walk_at "P";refine df rfl (by rw [NT];show 0+_<=2 ^ 24;lia) ?_;walk_at "P";refine w_j (ss:=Zs) rfl rfl (by lia) ?_;walk_at "P";exact q _ (by have:=lN hZ;rwa [eT] at this)
theorem Cp (h0:0<=lo) (hh:zB lo hi) (q:Q (.dat (.str (hiT hi))) []):WF cX [hiD hi] Q:=by
 refine dw rfl ?_;unfold iH;cases hi with
 | none =>
  walk_at "P";exact q
 | some g =>
  walk_at "P";refine iF rfl (vE (cR (Int.le_trans h0 hh.1) hh.2)) ?_;walk_at "P";exact q
theorem Jr (ih:se n) (hw:Wlk w) (h0:0<=lo) (h1:lo<=60) (hh:zB lo hi) (hs:Sh s) (hu:Fr n false u T j) (hj:j<=40) (hr:(aS true [[az lo],[hiT hi],stT up s,T]).length<=700) (q:∀ J,Sn J (aS true [[az lo],[hiT hi],stT up s,T])->Q (.dat (.str J)) []):WF (bj (ax n)) [.tuple [.str w,.int lo,hiD hi,.str (stS up s),u]] Q:=by
 have kt:Tk (hiT hi).cps.toList:=by
  cases hi with
  | none=>exact nu (.inr (.inr (.inr (.inl rfl))))
  | some g=>exact jQ (cR (Int.le_trans h0 hh.1) hh.2)
 have hS:stT up s≠[]:=by cases up <;> exact OS _ _
 refine dw rfl ?_;unfold bL;rcases hw with rfl | rfl
 all_goals
  walk_at "P";refine iF rfl (vE (cR h0 h1)) ?_;walk_at "P";refine aa (is:=[]) rfl rfl (Cp h0 hh ⟨rfl,?_⟩);walk_at "P";refine aa (is:=[]) rfl rfl ⟨_,_,rfl,rfl,?_⟩;refine ⟨[u],rfl,?_⟩;refine oX (us:=[u]) (Ts:=[T]) (j:=j) ih ⟨j,0,hu,rfl,rfl⟩ hj fun Zs hZ=>?_;have hZ2:SnL ([az lo,hiT hi,stS up s]++Zs) [[az lo],[hiT hi],stT up s,T]:=⟨iK (jQ (cR h0 h1)),OS _ _,iK kt,OS _ _,Je hs,hS,hZ⟩;have h9:=gZ _ _ true hZ2;rw [N4 rfl] at h9;have h8:2*([az lo,hiT hi,stS up s]++Zs).length<=62*700+2:=by lia
  rw [NS] at h8;walk_at "P";refine df rfl (by rw [NT];show 3+_<=2 ^ 24;lia) ?_;walk_at "P";refine w_j (ss:=[az lo,hiT hi,stS up s]++Zs) rfl rfl (by lia) ?_;walk_at "P";exact q _ (lN hZ2)
theorem iY:∀ n,se n
 | 0=>fun h=>False.elim h
 | n+1=>by
  rename_i fr d TK k Q;intro h hk q;have ih:se n:=iY n;have ln:=jR _ _ _ _ _ h;refine dw rfl ?_;unfold iX;rcases h with ⟨rfl,w,hw,rfl,rfl⟩ | ⟨rfl,w,i,hw,hi,rfl,rfl⟩ | ⟨rfl,x,T,hx,rfl,rfl⟩ | ⟨rfl,s,hs,rfl,rfl⟩ | ⟨rfl,rfl,bs,hB,rfl,rfl⟩ | ⟨u,T,j,hu,rfl,rfl,rfl⟩ | ⟨w,us,Ts,j,hw,hA,hl,rfl,rfl,rfl⟩ | ⟨rfl,w,lo,hi,up,s,u,T,j,hw,h0,h1,hh,hs,hu,rfl,rfl,rfl⟩
  ·walk_at "P";refine aa (is:=[]) rfl rfl (bN ⟨rfl,?_⟩);rw [show kgD bx w=.int 1 by rcases hw with rfl | rfl | rfl | rfl <;> rfl];walk_at "P";exact q _ (iK (b5 (by rcases hw with rfl | rfl | rfl | rfl <;> simp)))
  ·walk_at "P";refine aa (is:=[]) rfl rfl (bN ⟨rfl,?_⟩);obtain ⟨k1,k2,k3⟩:kgD bx w=.int 2/\PyData.eqv (.str w) (.str "keeps")=false/\kQ [.str "from", .str "upto", .str "is"] (.str w)=true:=by rcases hw with rfl | rfl <;> exact ⟨rfl,rfl,rfl⟩
   rw [k1];walk_at "P";refine cC k2 ?_;walk_at "pr";have lw:w.length<=100:=by rcases hw with rfl | rfl <;> decide
   refine vU rfl rfl k3 ?_;walk_at "P";refine eJ rfl (by have e:(Str.ofString " ").length=1:=(by decide);rw [e];show _<=2 ^ 24;lia) ?_;walk_at "P";refine aa (is:=[]) rfl rfl (iR (.inr (.inl ⟨i,rfl,hi,rfl⟩)) ⟨rfl,?_⟩);walk_at "P";refine wN rfl lw (by have:=dW hi;lia) ?_;walk_at "P";exact q _ (Cn (iK (b5 (by rcases hw with rfl | rfl <;> simp))) (jQ hi))
  ·walk_at "P";refine aa (is:=[]) rfl rfl (bN ⟨rfl,?_⟩);walk_at "P";refine aa (is:=[]) rfl rfl (iR hx ⟨rfl,?_⟩);walk_at "P";refine wN rfl (by decide) (by have:=kU hx;lia) ?_;walk_at "P";exact q _ (Cn (iK (b5 (by simp))) (yP hx))
  ·walk_at "P";refine aa (is:=[]) rfl rfl (bN ⟨rfl,?_⟩);walk_at "P";refine wN rfl (by decide) (by have:=hs.2.2;lia) ?_;walk_at "P";exact q _ (Cn (iK (b5 (by simp))) (jn hs))
  ·simp only [NS,NV,Og] at ln;walk_at "P";refine aa (is:=[]) rfl rfl (bN ⟨rfl,?_⟩);walk_at "P";refine aa (is:=[]) rfl rfl (LJ hB fun J hJ=>⟨rfl,?_⟩);have hl:=hJ.2;walk_at "P";refine AX rfl rfl (by decide) (by lia) ?_;walk_at "P";exact q _ (qO (b5 (by simp)) hJ)
  ·simp only [NS,NV,Og] at ln;walk_at "P";refine aa (is:=[]) rfl rfl (bN ⟨rfl,?_⟩);walk_at "P";refine aa (is:=[]) rfl rfl (LM ih hu (by lia) (by lia) fun J hJ=>⟨rfl,?_⟩);have hl:=hJ.2;walk_at "P";refine AX rfl rfl (by decide) (by lia) ?_;walk_at "P";exact q _ (qO (b5 (by simp)) hJ)
  ·simp only [NS,NV,Og] at ln;obtain ⟨k1,k2,k3,k4⟩:kgD bx w=.int 2/\PyData.eqv (.str w) (.str "keeps")=false/\kQ [.str "from", .str "upto", .str "is"] (.str w)=false/\w.length<=100:=by rcases hw with rfl | rfl | rfl | rfl <;> exact ⟨rfl,rfl,rfl,by decide⟩
   walk_at "P";refine aa (is:=[]) rfl rfl (bN ⟨rfl,?_⟩);rw [k1];walk_at "P";refine cC k2 ?_;walk_at "pr";refine vU rfl rfl k3 ?_;walk_at "P";refine aa (is:=[]) rfl rfl (J0 ih hw hA (by lia) hl (by lia) fun J hJ=>⟨rfl,?_⟩);have hl2:=hJ.2;walk_at "P";refine AX rfl rfl k4 (by lia) ?_;walk_at "P";exact q _ (qO (b5 (by rcases hw with rfl | rfl | rfl | rfl <;> simp)) hJ)
  ·have er:[az lo,kM,hiT hi,kM]++(stT up s++(kM :: T))=aS true [[az lo],[hiT hi],stT up s,T]:=by simp [aS]
   have eq2:[w,kO,az lo,kM,hiT hi,kM]++(stT up s++(kM :: (T++[kC])))=[w,kO]++(aS true [[az lo],[hiT hi],stT up s,T]++[kC]):=by
    rw [<- er];simp
   rw [eq2] at q ln;simp only [NS,NV,Og] at ln;obtain ⟨k1,k2,k3,k4⟩:kgD bx w=.int 5/\PyData.eqv (.str w) (.str "keeps")=false/\kQ [.str "from", .str "upto", .str "is"] (.str w)=false/\w.length<=100:=by rcases hw with rfl | rfl <;> exact ⟨rfl,rfl,rfl,by decide⟩
   walk_at "P";refine aa (is:=[]) rfl rfl (bN ⟨rfl,?_⟩);rw [k1];walk_at "P";refine cC k2 ?_;walk_at "pr";refine vU rfl rfl k3 ?_;walk_at "P";refine aa (is:=[]) rfl rfl (Jr ih hw h0 h1 hh hs hu (by lia) (by lia) fun J hJ=>⟨rfl,?_⟩);have hl2:=hJ.2;walk_at "P";refine AX rfl rfl k4 (by lia) ?_;walk_at "P";exact q _ (qO (b5 (by rcases hw with rfl | rfl <;> simp)) hJ)
def Flt (k:Nat) (d:Qq):Prop:=noD d=true/\d.depth<=k
theorem Flt.mono (h:Flt j d) (z:j<=k):Flt k d:=⟨h.1,by have:=h.2;lia⟩
theorem lG (h:∀ d∈ds,Flt k d):Flt (k+1) (.tuple ds) :=
 ⟨by simp only [noD];exact lb.mpr fun d hd=>(h d hd).1,pM fun d hd=>(h d hd).2⟩
theorem gP (x:Str) (k:Nat):Flt k (.str x):=⟨by simp [noD],by simp [PyData.depth]⟩
theorem lH (x:Int) (k:Nat):Flt k (.int x):=⟨by simp [noD],by simp [PyData.depth]⟩
theorem vS (ss:List Str) (k:Nat):Flt (k+1) (.tuple (ss.map .str)):=lG fun d hd=>by
 obtain ⟨x,_,rfl⟩:=OE.mp hd;exact gP _ _
theorem iw {x:Qq} (h:Flt k x):Flt (k+1) (.tuple [.str w,x]):=lG fun d hd=>by
 simp only [N9,Ox,O9] at hd;rcases hd with rfl | rfl
 ·exact gP _ _
 ·exact h
theorem wD {P:Qq->List Str->Nat->Prop} {m:Nat} (hP:∀ u S j,P u S j->Flt m u):∀ {us:List Qq} {Ss:List (List Str)} {k:Nat},lq P us Ss k->∀ u∈us,Flt m u
 | [],[],k,h=>fun u hu=>by cases hu
 | u :: us,S :: Ss,k,⟨i,m,h1,h2,e⟩=>fun v hv=>by
  rcases N9.mp hv with rfl | hv
  ·exact hP _ _ _ h1
  ·exact wD hP h2 v hv
theorem BO:∀ (n:Nat) {fr:Bool} {d:Qq} {TK:List Str} {k:Nat},Fr n fr d TK k->Flt (2*n) d
 | 0,_,_,_,_,h=>h.elim
 | n+1,fr,d,TK,k,h=>by
  have ih:=@BO n;rw [show 2*(n+1)=2*n+1+1 by lia];rcases h with ⟨rfl,w,hw,rfl,rfl⟩ | ⟨rfl,w,i,hw,hi,rfl,rfl⟩ | ⟨rfl,x,T,hx,rfl,rfl⟩ | ⟨rfl,s,hs,rfl,rfl⟩ | ⟨rfl,rfl,bs,hB,rfl,rfl⟩ | ⟨u,T,j,hu,rfl,rfl,rfl⟩ | ⟨w,us,Ts,j,hw,hA,hl,rfl,rfl,rfl⟩ | ⟨rfl,w,lo,hi,up,s,u,T,j,hw,h0,h1,hh,hs,hu,rfl,rfl,rfl⟩
  ·exact vS [w] _
  ·exact iw (lH _ _)
  ·refine iw ?_;rcases hx with ⟨x,rfl,_⟩ | ⟨i,rfl,_⟩ | ⟨x,rfl,_⟩
   ·exact gP _ _
   ·exact lH _ _
   ·exact vS [x] _
  ·exact iw (gP _ _)
  ·exact iw (vS _ _)
  ·exact (iw (ih hu)).mono (by lia)
  ·exact iw (lG (wD (fun u S j h=>ih h) hA))
  ·refine (lG (k:=2*n) fun d hd=>?_).mono (by lia);simp only [N9,Ox,O9] at hd;rcases hd with rfl | rfl | rfl | rfl | rfl
   ·exact gP _ _
   ·exact lH _ _
   ·cases hi with
    | none=>exact ⟨by simp [hiD,noD],by simp [hiD,PyData.depth]⟩
    | some g=>exact lH _ _
   ·exact gP _ _
   ·exact ih hu
theorem KH (h:Fr 8 true d TK k):jX d=true/\PyData.eqv d d=true:=by
 have f:=BO 8 h;exact ⟨xy f.1 (Oi f.2 (by decide)),eqv_refl d f.1⟩
theorem LL {gd:List Qq} {as:XA} {env:En} {Q:RV->En->Prop} (h:WA gd as env fun avs e=>lT f avs e Q):WE gd (.bY f as) env Q:=by
 obtain ⟨avs,e',h1,rv,e2,h2,q⟩:=h;exact ⟨_,_,by simp only [dE,h1];exact h2,q⟩
theorem jO (h:Cut Z ts TK):Pcs ts:=xP (h.2.2 [] fun t _ f R e=>by cases e)
theorem AR (hz:Z.length<=99000) (hp:Pcs ts) (hZ:Z.cps.toList=ts.flatten) (hf:Fr 8 true d (tkS ts) k) (hk:k<=40) (q:Q (.dat (.bool true)) []):WF cE [d,.str Z] Q:=by
 obtain ⟨eo,er⟩:=KH hf;have ln:=jR _ _ _ _ _ hf;obtain ⟨_,_,e1,Y,rfl,rfl,⟨us,hU⟩,hl⟩:=iY 8 (Q:=fun pr outs=>∃ Y,pr=.dat (.str Y)/\outs=[]/\Sn Y (tkS ts)) hf hk fun Y hY=>⟨Y,rfl,rfl,hY⟩;have sh:∀ {Q:PR->List Qq->Prop},Q (.dat (.str Y)) []->WF (ax 8) [d] Q:=fun q=>⟨_,_,e1,q⟩;have rd:∀ {Q:PR->List Qq->Prop},Q (.dat d) []->WF ak [.str Z] Q:=fun q=>qJ hz hp hZ hf hk q;have rd2:∀ {Q:PR->List Qq->Prop},Q (.dat d) []->WF ak [.str Y] Q:=fun q=>qJ (by lia) (jO hU) hU.1 (by rw [hU.2.1];exact hf) hk q;refine dw rfl ?_;unfold gJ;walk_at "ps";refine aa (is:=[]) rfl rfl (rY (rd rfl) ⟨rfl,?_⟩);walk_at "ps";refine LL ?_;walk_at "ps";refine aa (is:=[]) rfl rfl (rd ⟨rfl,?_⟩);walk_at "ps";refine Im rfl eo eo ?_;rw [er];walk_at "ps";refine LL ?_;walk_at "ps";refine cA (A2 8) (is:=[]) (ds:=[d]) rfl rfl (sh ⟨rfl,?_⟩);walk_at "ps";refine aa (is:=[]) rfl rfl (rd2 ⟨rfl,?_⟩);walk_at "ps";refine w_eq rfl eo eo ?_;rw [er];walk_at "ps";refine LL ?_;walk_at "ps";refine aa (is:=[]) rfl rfl (rd ⟨rfl,?_⟩);walk_at "ps";refine cA (A2 8) (is:=[]) (ds:=[d]) rfl rfl (sh ⟨rfl,?_⟩);walk_at "ps";refine cA (A2 8) (is:=[]) (ds:=[d]) rfl rfl (sh ⟨rfl,?_⟩);walk_at "ps";refine w_eq rfl rfl rfl ?_;rw [dZ];walk_at "ps";exact q
theorem Dy {R:Nat} (hP:aO cs (R+24) pn) (hz:Z.length<=99000) (hC:Cut Z ts TK) (hf:Fr 8 true d TK k) (hk:k<=40) (q:∀ pn',aO cs R pn'->Q (.dat (.bool true)) [pn']):WF lD [pn,.list (TK.map .str),.str Z,.list ((plc 0 ts).map fun p:Nat=>.int (p:Int))] Q:=by
 have ln:=jR _ _ _ _ _ hf;have hp:=jO hC;have e2:=hC.2.1;have hzl:ts.flatten.length=Z.length:=by rw [<- hC.1,aw]
 obtain ⟨_,_,hd0,_⟩:=jx hf;have lp:0 < TK.length:=by rw [hd0];exact Nat.succ_pos _
 refine dw rfl ?_;unfold vM;walk_at "P";refine ⟨⟨by decide,by decide⟩,?_⟩;refine iz (fun i e=>∃ pn',aO cs (R+2*(12 - i)) pn'/\wc [some (.ino pn'),some (.dat (.list (TK.map .str))),some (.dat (.str Z)),some (.dat (.list ((plc 0 ts).map fun p:Nat=>.int (p:Int)))),none,none,none] e) ⟨pn,hP,by walk_at "L"⟩ ?_ ?_
 ·rintro i dd e hd ⟨pn',hP',_⟩;walk_at "l";obtain ⟨rfl,hi⟩:=gh hd;have hi:i < 12:=hi;obtain ⟨j0,ej0⟩:∃ j,12 - i=j+1:=⟨11 - i,by lia⟩;rw [ej0] at hP';have hP':aO cs (R+2*j0+1+1) pn':=hP';walk_at "f";walk_at "P";refine i3 (hi:=rfl) (hP:=hP') (m:=((TK.map PyData.str).length:Nat)) (by rw [NT];lia) (by rw [NT];lia) ?_;intro m pn1 hP1 m0 m1;rw [NT] at m1;obtain ⟨m,rfl⟩:∃ n:Nat,m=n:=⟨m.toNat,by lia⟩;have at1:∀ j:Nat,j < TK.length->∃ s A D p,TK[j]?=some s/\ts=A++(s.cps.toList :: D)/\atI ((plc 0 ts).map fun p:Nat=>PyData.int (p:Int)) (j:Int)=some (.int (p:Nat))/\p=A.flatten.length/\tkS A=TK.take j/\tkS (A++[s.cps.toList])=TK.take (j+1)/\p+s.length<=Z.length:=fun j hj=>by
   have g:(tkS ts)[j]?=some TK[j]:=by rw [e2];exact N7 hj
   obtain ⟨A,D,p,eA,g1,g2,g3,g4⟩:=qH (a:=0) g;rw [P9] at g2;refine ⟨TK[j],A,D,p,N7 hj,eA,cz (by rw [Oj,g1];rfl),g2,by rw [g3,e2],by rw [g4,e2],?_⟩;rw [<- hzl,g2,<-aw]
   conv=>rhs;rw [eA]
   rw [OZ,PD,NS,NS];lia
  walk_at "n";obtain ⟨sg,A,D,p,es,eA,ea,ep,g3,g4,lz⟩:=at1 m (by lia);walk_at "P";refine gf rfl ea ?_;walk_at "prz";with_reducible refine cV fun N eN=>?_
  have rest:∀ (c:Str) (A D:List (List Nat)) (j:Nat) (pn3:Qq),aO cs (R+2*j0) pn3->ts=A++D->tkS A=TK.take j->j < TK.length->c.cps.toList=A.flatten->N ([.ino pn3,.dat (.list (TK.map .str)),.dat (.str Z),.dat (.list ((plc 0 ts).map fun p:Nat=>.int (p:Int))),.dat (.int (i:Int)),.dat (.int (m:Int)),.dat (.str c)]:En):=by
   intro c A D j pn3 hP3 eA eT hj hc;have cl:c.length<=Z.length:=by rw [<- hzl,<-aw,hc,eA,OZ,NS];lia
   rw [eN];walk_at "ps";refine aa (is:=[]) rfl rfl (gW (zG (by rw [<- eA];exact hp) hf hk eT hj hc (by lia)) ⟨rfl,?_⟩);walk_at "ps";refine Im rfl (by rfl) (by rfl) ?_;rw [eqv_refl _ (by simp [noD])];walk_at "ps";exact ⟨pn3,by rw [show 12 - (i+1)=j0 by lia];exact hP3,by walk_at "L"⟩
  have c0:(g9 Z none (some (p:Int))).cps.toList=A.flatten:=by
   rw [tF (by lia),hC.1,eA,ep,OZ,Int.toNat_natCast,List.take_left]
  cases m with
  | zero =>
   walk_at "ps";exact rest _ A _ 0 _ hP1.dn eA g3 (by lia) c0
  | succ m =>
   obtain ⟨s,A',D',p',es',eA',ea',ep',g3',g4',lz'⟩:=at1 m (by lia);have em:(((m+1:Nat):Int) - 1)=(m:Int):=by lia
   have ea2:atI ((plc 0 ts).map fun p:Nat=>PyData.int (p:Int)) (((m+1:Nat):Int) - 1)=some (.int (p':Nat)):=by rw [em];exact ea'
   have ea3:atI (TK.map PyData.str) (((m+1:Nat):Int) - 1)=some (.str s):=by rw [em];exact cz (by rw [Oj,es'];rfl)
   have c1:(g9 Z none (some ((p':Int)+(s.length:Int)))).cps.toList=(A'++[s.cps.toList]).flatten:=by
    rw [tF (by lia),hC.1,eA',ep',show ((A'.flatten.length:Nat):Int)+(s.length:Int)=((A'.flatten.length+s.cps.toList.length:Nat):Int) by rw [aw];lia,Int.toNat_natCast,show A'++s.cps.toList :: D'=(A'++[s.cps.toList])++D' by simp,OZ,List.take_append_of_le_length (by simp),O6 (by simp)]
   walk_at "ps";refine d7 (NY (by lia)) ?_;walk_at "d";intro u pn2 hP2 u0 u1;walk_at "N";refine fH (fun e1=>?_) (fun e1=>?_)
   ·walk_at "P";refine gf rfl ea2 ?_;walk_at "P";refine gf rfl ea3 ?_;walk_at "P";exact rest _ (A'++[s.cps.toList]) D' (m+1) _ hP2 (by rw [eA'];simp) g4' (by lia) c1
   ·walk_at "P";exact rest _ A _ (m+1) _ hP2 eA g3 (by lia) c0
 ·rintro e ⟨pn',hP',_⟩;walk_at "l";walk_at "P";exact q _ hP'
theorem qx {α:Type} {xs:List α} {k:Int} (h:0<=k):L2.cutD xs (some k) none=xs.drop k.toNat:=by
 unfold L2.cutD;simp only [HT.sIx];rw [Od (by lia)];by_cases z:k.toNat<=xs.length
 ·rw [O6 (by rw [OR];lia)];congr 1;lia
 ·rw [show xs.drop k.toNat=[] from List.drop_eq_nil_of_le (by lia)];exact List.take_eq_nil_of_eq_nil (List.drop_eq_nil_of_le (by lia))
noncomputable def sgL:List Str:=["A", "_", "-", "\n", "#", ".", "/", "=", "~", "[", "&"]
theorem Ga (h:s∈sgL):Bad s/\Tk s.cps.toList/\s ≠ "" /\ s.length=1:=by
 simp only [sgL,N9,Ox,O9] at h;rcases h with rfl | rfl | rfl | rfl | rfl | rfl | rfl | rfl | rfl | rfl | rfl
 all_goals
  refine ⟨⟨⟨by decide,by decide,by decide,by decide,by decide⟩,by rfl,by rfl,by decide +kernel,by rfl⟩,⟨by decide,_,_,rfl,?_⟩,by decide,by decide⟩;first
  | exact .inr (.inr (.inr ⟨by decide,by decide,by decide,by decide,by decide,rfl⟩))
  | exact .inr (.inr (.inl ⟨.inl rfl,by decide⟩))
theorem A1 (h:TkA TK) (n:Nat):TkA (TK.take n):=fun t z=>h t (Pb z)
theorem qE (h:TkA TK) (n:Nat):TkA (TK.drop n):=fun t z=>h t (List.mem_of_mem_drop z)
theorem Lb {r:RV} {a b:Qq} {N:En->Prop} (hr:r.av=.dat (.tuple [a,b])) {s t:Sl} (h1:e[i]?=some s) (s1:soft s) (h2:(e.set i (.dat a))[j]?=some t) (s2:soft t) (q:N ((e.set i (.dat a)).set j (.dat b))):Es [i,j] r e N:=by
 refine ⟨_,_,hr,?_,q⟩;show (if free e i=true then (if free (e.set i (.dat a)) j=true then some _ else none) else none)=_;rw [N4 (pz h1 s1),N4 (pz h2 s2)]
theorem qB (hC:Cut Z ts TK) (h:TK[j]?=some t):∃ p:Nat,(plc 0 ts)[j]?=some p/\p<=Z.length/\atI ((plc 0 ts).map fun p:Nat=>PyData.int (p:Int)) (j:Int)=some (.int (p:Int)):=by
 obtain ⟨A,D,p,eA,g1,g2,_⟩:=qH (a:=0) (show (tkS ts)[j]?=some t by rw [hC.2.1];exact h);refine ⟨p,g1,?_,cz (by rw [Oj,g1];rfl)⟩;have:ts.flatten.length=Z.length:=by rw [<- hC.1,aw]
 rw [eA,OZ,NS] at this;lia
theorem sO {R:Nat} (hP:aO cs (R+4800) pn) (hf:Fr 8 true d TK k) (hk:k<=40) (q:∀ pn',aO cs R pn'->Q (.dat (.bool true)) [pn']):WF fu [pn,.list (TK.map .str)] Q:=by
 have ln:=jR _ _ _ _ _ hf;have hA:=C0 _ _ _ _ _ hf;refine dw rfl ?_;unfold kE;walk_at "P";refine ⟨⟨by decide,by decide⟩,?_⟩;refine iz (fun i e=>∃ pn',aO cs (R+800*(6 - i)) pn'/\wc [some (.ino pn'),some (.dat (.list (TK.map .str))),none,none,none,none,none,none] e) ⟨pn,hP,by walk_at "L"⟩ ?_ ?_
 ·rintro i dd e hd ⟨pn',hP',_⟩;walk_at "l";obtain ⟨rfl,hi⟩:=gh hd;have hi:i < 6:=hi;obtain ⟨j0,ej0⟩:∃ j,6 - i=j+1:=⟨5 - i,by lia⟩;rw [ej0] at hP';have hP':aO cs (R+800*j0+799+1) pn':=hP';walk_at "f";walk_at "P";refine i3 (hi:=rfl) (hP:=hP') (m:=((TK.map PyData.str).length:Nat)+1) (by lia) (by rw [NT];lia) ?_;intro m pn1 hP1 m0 m1;rw [NT] at m1;obtain ⟨m,rfl⟩:∃ n:Nat,m=n:=⟨m.toNat,by lia⟩;walk_at "n";walk_at "d";intro c pn2 hP2 c0 c1;walk_at "N";obtain ⟨dd,hdd,ed⟩:=atV (xs:=sgL.map PyData.str) c0 c1;obtain ⟨sg,hs,rfl⟩:=OE.mp hdd;obtain ⟨sb,st,sn,sl⟩:=Ga hs;refine gf rfl ed ?_;clear ed hdd;walk_at "d";intro b pn3 hP3 b0 b1;walk_at "N";obtain ⟨dd,hdd,ed⟩:=atV (xs:=([.list (L2.cutD (TK.map PyData.str) (some (m:Int)) none),.list (L2.cutD (TK.map PyData.str) (some ((m:Int)+1)) none),.list [.str "any"],.list []]:List Qq)) b0 b1;have hB:∃ Bh:List Str,dd=.list (Bh.map .str)/\TkA Bh/\m+Bh.length<=TK.length+1:=by
   simp only [N9,Ox,O9] at hdd;rcases hdd with rfl | rfl | rfl | rfl
   ·exact ⟨TK.drop m,by rw [qx (by lia),List.map_drop];rfl,qE hA _,by rw [OR];lia⟩
   ·exact ⟨TK.drop (m+1),by rw [qx (by lia),List.map_drop];rfl,qE hA _,by rw [OR];lia⟩
   ·exact ⟨["any"],rfl,ay (b5 (.inl rfl)) aT,by show m+1<=_;lia⟩
   ·exact ⟨[],rfl,aT,by show m+0<=_;lia⟩
  obtain ⟨Bh,rfl,hBh,lB⟩:=hB;refine gf rfl ed ?_;clear ed hdd;walk_at "P";have e1:L2.cutD (TK.map PyData.str) none (some (m:Int))=(TK.take m).map .str:=by rw [k7 (by lia),List.map_take];rfl
  rw [e1];have l1:(TK.take m).length=m:=by rw [OB];lia
  refine df rfl (by rw [NT,l1];show m+1<=2 ^ 24;lia) ?_;walk_at "P";refine df rfl (by rw [NS,NT,NT,l1];show m+1+_<=2 ^ 24;lia) ?_;walk_at "P";have lt:(TK.take m++[sg]++Bh).length=m+1+Bh.length:=by rw [NS,NS,l1];rfl
  refine aa (is:=[0]) (ds:=[pn3,.list ((TK.take m++[sg]++Bh).map .str)]) (by rw [Oo,Oo];rfl) rfl (qp (R:=R+800*j0) (hP3.le (by simp only [NS,OB,NV,Og];lia)) (bW (bW (A1 hA m) (ay st aT)) hBh) (by lia) fun Z ts pn4 hP4 hC hz=>⟨rfl,?_⟩);have gm:(TK.take m++[sg]++Bh)[m]?=some sg:=by
   rw [Oy,NX (by lia),l1,Pz];rfl
  obtain ⟨p,g1,g2,g3⟩:=qB hC gm;have hr:WU ak [.str Z] (fun _ _=>False) (some (p:Int)):=by
   refine rG (b:=m) (x:=sg) (by lia) (jO hC) hC.1 hf hk ?_ ?_ sb ((Nat.lt_or_ge m TK.length).elim .inl fun z=>.inr ⟨by lia,sn⟩) (by lia) fun j t e hj=>?_
   ·rw [hC.2.1,N1 (by lia)];exact gm
   ·rw [N1 (NW.mp g1).1];exact g1
   ·rw [hC.2.1,Oy,N1 (by lia),P6 hj];exact e
  walk_at "N";refine Lb rfl rfl (by assumption) rfl (by assumption) ?_;walk_at "ps";refine aa (is:=[]) rfl rfl (gW hr ⟨rfl,?_⟩);walk_at "ps";refine gf rfl g3 ?_;walk_at "ps";refine Im rfl (by rfl) (by rfl) ?_;rw [eqv_refl _ (by simp [noD])];walk_at "ps";exact ⟨pn4,by rw [show 6 - (i+1)=j0 by lia];exact hP4,by walk_at "L"⟩
 ·rintro e ⟨pn',hP',_⟩;walk_at "l";walk_at "P";exact q _ hP'
theorem Kd {α:Type} {xs:List α} {n:Nat} {x:α} (h:xs[n]?=some x) (hl:xs.length=n+1):atI xs (-1)=some x:=by
 unfold atI ixN;rw [Od (by decide),N4 (by lia),show ((-1:Int)+xs.length).toNat=n by lia];exact h
theorem Lq (h:Tk t.cps.toList):t ≠ "" := fun e=>by
 obtain ⟨_,c,r,e2,_⟩:=h;rw [e] at e2;cases e2
theorem Eb (hx:Sh x) (h:t∈([("any" : Str), ")", ",", "(", "*", "^", "0", "'", x, "not"]:List Str)):Tk t.cps.toList:=by
 simp only [N9,Ox,O9] at h;rcases h with rfl | rfl | rfl | rfl | rfl | rfl | rfl | rfl | rfl | rfl
 ·exact b5 (.inl rfl)
 ·exact GD
 ·exact Fh
 ·exact GY
 ·exact nu (.inr (.inr (.inr (.inl rfl))))
 ·exact nu (.inr (.inr (.inr (.inr rfl))))
 ·exact ⟨by decide,_,_,rfl,.inr (.inr (.inl ⟨.inr (by decide),by decide⟩))⟩
 ·exact ⟨by decide,_,_,rfl,.inr (.inl ⟨rfl,by decide⟩)⟩
 ·exact jn hx
 ·exact b5 (by simp)
theorem Ap {ns:List Int} (hl:ns.length<=63):WF xW [.list (ns.map .int)] fun pr outs=>pr=.dat (.bool true)/\outs=[]:=by
 have hP:aO ns 20012 (Ei ns 0 0):=⟨0,0,rfl,by decide,by decide,by decide⟩;refine dw rfl ?_;unfold BH;walk_at "P";refine aa (ds:=[.list (ns.map .int)]) (is:=[]) rfl rfl (FK ⟨rfl,?_⟩);walk_at "N";refine aa (is:=[1]) rfl rfl (Aw (R:=20000) hP fun xs pn1 hP1 xl xn hx=>⟨rfl,?_⟩);walk_at "N";refine IL rfl ?_;walk_at "d";intro c pn2 hP2 c0 c1;walk_at "N";obtain ⟨e,he,ee⟩:=atV (xs:=([.int 3,.int 12,.int 39]:List Qq)) c0 c1;have hc:∃ R:Int,e=.int R/\0<=R/\R<=39:=by
  simp only [N9,Ox,O9] at he;rcases he with rfl | rfl | rfl <;> exact ⟨_,rfl,by lia,by lia⟩
 obtain ⟨R,rfl,R0,R1⟩:=hc;refine gf rfl ee ?_;clear ee he;walk_at "P";refine ⟨rfl,?_⟩;walk_at "n";walk_at "d";intro c2 pn3 hP3 c20 c21;walk_at "N";obtain ⟨e,he,ee⟩:=atV (xs:=([.int 3,.int 8]:List Qq)) c20 c21;have hc:∃ D:Nat,e=.int (D:Int)/\1<=D/\D<=8:=by
  simp only [N9,Ox,O9] at he;rcases he with rfl | rfl
  ·exact ⟨3,rfl,by decide,by decide⟩
  ·exact ⟨8,rfl,by decide,by decide⟩
 obtain ⟨D,rfl,D0,D1⟩:=hc;refine gf rfl ee ?_;clear ee he;walk_at "P";refine cA (Ab 8) (is:=[1,8]) (ds:=[pn3,.list (xs.map .str),.list [.int R],.int (D:Int),.bool true]) rfl rfl (uO 8 (R:=R) (by decide) D0 D1 (M:=12000) (hP3.le (by lia)) R0 R1 (by lia) (by lia) xn hx fun v TK k R' pn4 hv hr' hk hP4=>⟨rfl,?_⟩);refine ⟨_,rfl,?_⟩;have k40:k<=40:=by lia
 have tl:=jR _ _ _ _ _ hv;have hA:=C0 _ _ _ _ _ hv;walk_at "N";refine cA (Ao 8) (is:=[]) (ds:=[v]) rfl rfl (nH 8 hv k40 ⟨rfl,?_⟩);walk_at "P";refine aa (is:=[1]) (ds:=[pn4,.list (TK.map .str)]) rfl rfl (qp (R:=11000) (hP4.le (by lia)) hA (by lia) fun Z ts pn5 hP5 hC hZ=>⟨rfl,?_⟩);walk_at "N";walk_at "P";refine aa (is:=[]) rfl rfl (AR (by lia) (jO hC) hC.1 (by rw [hC.2.1];exact hv) k40 ⟨rfl,?_⟩);walk_at "P";refine aa (is:=[1]) rfl rfl (Dy (R:=10000) (hP5.le (by lia)) (by lia) hC hv k40 fun pn6 hP6=>⟨rfl,?_⟩);walk_at "P";refine aa (is:=[1]) rfl rfl (sO (R:=5000) (hP6.le (by lia)) hv k40 fun pn7 hP7=>⟨rfl,?_⟩);walk_at "P";obtain ⟨x0,xr,ex⟩:∃ x0 xr,xs=x0 :: xr:=by
  cases xs with
  | nil=>cases xl
  | cons a b=>exact ⟨a,b,rfl⟩
 refine gf (d:=.str x0) rfl (by rw [ex];exact cz (j:=0) rfl) ?_;walk_at "d";intro z pn8 hP8 z0 z1;walk_at "N";obtain ⟨dd,hdd,ed⟩:=atV (xs:=([("any" : Str), ")", ",", "(", "*", "^", "0", "'", x0, "not"]:List Str).map PyData.str) z0 z1;obtain ⟨mr,hm,rfl⟩:=OE.mp hdd;have mk:=Eb (xX (hx x0 (by rw [ex];exact N5))) hm;refine gf rfl ed ?_;clear ed hdd;walk_at "P";refine df rfl (by rw [NT];show _+1<=2 ^ 24;lia) ?_;walk_at "P";have l2:(TK++[mr]).length=TK.length+1:=NS;refine aa (is:=[1]) (ds:=[pn8,.list ((TK++[mr]).map .str)]) (by rw [Oo];rfl) rfl (qp (R:=0) (hP8.le (by simp only [NS,NV,Og];lia)) (bW hA (ay mk aT)) (by lia) fun Z2 ts2 pn9 hP9 hC2 hZ2=>⟨rfl,?_⟩);obtain ⟨p,g1,g2,g3⟩:=qB (j:=TK.length) hC2 (show (TK++[mr])[TK.length]?=some mr by rw [NX (Oc _),Pz];rfl);have hr:=uZ (p:=p) (by lia) (jO hC2) hC2.1 hv k40 hC2.2.1 g1 (Lq mk) (by lia);walk_at "N";walk_at "ps";refine aa (is:=[]) rfl rfl (gW hr ⟨rfl,?_⟩);walk_at "ps";refine gf rfl (Kd (n:=TK.length) (by rw [Oj,g1];rfl) (by rw [NT,(fS ts2 0).2,hC2.2.1,l2])) ?_;walk_at "ps";refine w_eq rfl (by rfl) (by rfl) ?_;rw [eqv_refl _ (by simp [noD])];walk_at "ps";exact ⟨rfl,rfl⟩
end K22
end
namespace PySem.W.Fast
def tw4989021900657849038:=()
def tw15741274387791620752:=()
def tw17977931165580155808:=()
def tw11831074102641307022:=()
def tw10772498899871219793:=()
def tw6055074225772103866:=()
def tw14555256191349539612:=()
def tw11881363440562947142:=()
def tw15975669280664818170:=()
def tw13343167471246850282:=()
def tw4284640752570418393:=()
def tw18375142455020930514:=()
def tw8967757658815914535:=()
def tw1543753140278352190:=()
def tw106773852465389413:=()
def tw13062911376479003343:=()
def tw1041123570720796599:=()
def tw9872209157877778538:=()
def tw13475384502232196266:=()
def tw1975491656497394602:=()
def tw850851338957191131:=()
def tw6188499380833304760:=()
def tw12822696016610464431:=()
def tw10253103895115972724:=()
def tw17930999942928411857:=()
def tw14472953390660837736:=()
def tw16256493331898062476:=()
def tw331809630263971404:=()
def tw1574012403115770290:=()
def tw9340447265550352376:=()
def tw14022840218229233138:=()
def tw12112149402937876219:=()
def tw10378786440246108146:=()
def tw1381521175403243959:=()
def tw5731608691926052848:=()
def tw14344367606959988613:=()
def tw5475162240295209881:=()
def tw3290200922531129121:=()
def tw17247943651509308852:=()
def tw13269295879700521576:=()
def tw7835041997657416843:=()
def tw18235200599534072677:=()
def tw8166655963073526508:=()
def tw9398776798966644106:=()
def tw468756639906961086:=()
def tw15663950376085278387:=()
def tw13425611281411745356:=()
def tw11504421812929981427:=()
def tw6152558035115269572:=()
def tw17004546825439421010:=()
def tw11841123021013301998:=()
def tw3691010501063534889:=()
def tw4762568381181374610:=()
def tw18011556368208559918:=()
def tw4494623927424995417:=()
def tw13581952059353225726:=()
def tw18188243262730018508:=()
def tw5631599195266391450:=()
def tw14073404222826566723:=()
def tw12019828644787294860:=()
def tw18033685838111837100:=()
def tw14595102468216268840:=()
def tw3794282476091591135:=()
def tw12986424008757822235:=()
def tw1996790897705096353:=()
def tw14126841575580065266:=()
def tw1119600468931456213:=()
def tw10163447514361195841:=()
def tw6157510107938426945:=()
def tw16460738479076687819:=()
def tw14284951815766467527:=()
def tw13404606821950461882:=()
def tw17485910386525885036:=()
def tw11959923960018708365:=()
def tw8969997585608762926:=()
def tw5378595396906432190:=()
def tw15632485191166393644:=()
def tw7274842757746582775:=()
def tw18160362207383139207:=()
def tw7227046520401745145:=()
def tw13748591473527490956:=()
def tw17001712518471238167:=()
def tw9727167575154937086:=()
def tw16846748199453413982:=()
def tw6993265737548236156:=()
def tw7850184466656635158:=()
def tw11345590458147007443:=()
def tw4847944171851529754:=()
def tw457541495483667129:=()
def tw14182554809518834573:=()
def tw17928772336041906016:=()
def tw18414644770471287204:=()
def tw7215401444210439330:=()
def tw17770038502641439982:=()
def tw9820479310024356611:=()
def tw2856129015816469916:=()
def tw3308045125097803000:=()
def tw17783224032982639611:=()
def tw7595115896161642218:=()
def tw451198817378808511:=()
def tw17441579225472631101:=()
def tw4921936706777791102:=()
def tw9902452159495339652:=()
def tw3833720321209850772:=()
def tw4555474901437139233:=()
def tw7767053529936712219:=()
def tw5926492514615185839:=()
def tw16903148287656040234:=()
def tw5903221355521151902:=()
def tw4334964583591247254:=()
def tw15788626230671244814:=()
def tw12862465684238509239:=()
def tw1165095340219009976:=()
def tw8633202905118205583:=()
def tw4950344956089366696:=()
def tw9435851102107687744:=()
def tw13807911311899372718:=()
def tw2115728358660643645:=()
def tw8862659809951319747:=()
def tw455654248926586909:=()
def tw15492838882800561316:=()
def tw2192876347201731311:=()
def tw13669571559260235717:=()
def tw15317337727571512410:=()
def tw6015947542276551865:=()
def tw95850058937910252:=()
def tw2885967319370862039:=()
def tw14710038758218747955:=()
def tw11081951712029270946:=()
def tw274861752078708892:=()
def tw7156413303295241467:=()
def tw11585665399787160649:=()
def tw9604606412943775339:=()
def tw17665461848834913477:=()
def tw3030799240010832131:=()
def tw3683006657926328391:=()
def tw14366163729024400518:=()
def tw11900026161867325698:=()
def tw3354069854470113874:=()
def tw15167077955660655674:=()
def tw10003573210819996260:=()
def tw7002247874663169087:=()
def tw1029675530779071820:=()
def tw2461962877620715063:=()
def tw11036179019385792447:=()
def tw13755160025098216199:=()
def tw10228681131769125749:=()
def tw3219417532216083008:=()
def tw14363267644440340621:=()
def tw8687718953851469785:=()
def tw401788174598211524:=()
def tw18296414115775695107:=()
def tw553691309354656341:=()
def tw6316618981382964223:=()
def tw8126636200944643569:=()
def tw4806260137232088919:=()
def tw17110364752518852647:=()
def tw2166888777728676677:=()
def tw9596850801763607381:=()
def tw15346026802005695082:=()
def tw13761479219176270054:=()
def tw12534061117497691248:=()
def tw17655271422177626022:=()
def tw1094438791567222589:=()
def tw14431324756759972164:=()
def tw9429181150986829670:=()
def tw9759572693852097742:=()
def tw12373131035008660653:=()
def tw8798743746459957785:=()
def tw17606182129165871523:=()
def tw12559425478518833985:=()
def tw15316604794404284368:=()
def tw1109681610889099825:=()
def tw17777121217794183413:=()
def tw11904209175173177631:=()
def tw17367570589725509532:=()
def tw6207714345513890647:=()
def tw17396333479091754938:=()
def tw16156031521642291718:=()
def tw7372940088828883210:=()
def tw5753070635234606332:=()
def tw1636396725302491387:=()
def tw405359828918963063:=()
def tw13664715690537421976:=()
def tw1752522370759798714:=()
def tw14528304062458599921:=()
def tw2061565406792755785:=()
def tw15599370373256170599:=()
def tw13216686005004386657:=()
def tw10667401540517033291:=()
def tw3944576309892829397:=()
def tw8453165618162624266:=()
def tw2522782514255799291:=()
def tw5534279718427896129:=()
def tw17932347303330497848:=()
def tw13900062326069064984:=()
def tw11099519800388629901:=()
def tw2217856517909019758:=()
def tw4196210609095901582:=()
end PySem.W.Fast
end
open PySem PySem.W PyProof.Rows
set_option maxRecDepth 100000 in
set_option maxHeartbeats 0 in
theorem PySem.Challenge.cw_webshapes_k22_whole_every_cut_of_a_text_holds : PySem.Challenge.rw_webshapes_k22_whole_every_cut_of_a_text.Holds := by
  w_on; (refine holds_law L2.ws fun said => ?_); k_head; (case hw => w_witness2)
  k_fill
  refine L2.Ah (l := PySem.Challenge.rw_webshapes_k22_whole_every_cut_of_a_text) (n := 63) (k := 31) (x := "_law_script") (CX := L2.CX0) (sp := K22.BR) rfl (by decide) rfl ⟨rfl, by decide, by decide, rfl⟩ (fun w h Y => PySem.W.kIn_of Y) ?F ?S ?C
  case F =>
    intro w mg fa h KX G hmg;have TT : ∃ t : K22.Adr, (∀ (s : Qx) (u : Qj), BindsTo s (t.f 48).2 ⟨[u], []⟩ [("_law_script", u)]) ∧ K22.Txt w (L2.KOf KX) mg t := by
      dsimp only [L2.KOf];refine' K22.EH KX G ?D ?am0 ?lm0 ?cm0 ?km0 ?im0 ?am1 ?lm1 ?cm1 ?km1 ?im1 ?am2 ?lm2 ?cm2 ?km2 ?im2 ?am3 ?lm3 ?cm3 ?km3 ?im3 ?C_g ?ua ?ub ?uc ?ud ?ue ?uf ?ug ?uh ?ui ?uj ?uk ?ul ?um ?un ?uo ?up ?uq ?ur ?ut ?uu ?uv ?ux ?uz ?u1 ?u3 ?u5 ?u7 ?u9 ?zb ?zd ?zf ?zh ?zp ?zr ?zx ?zz ?yi ?yj ?yk ?yl ?ym ?yn ?yo ?yp ?yq ?yr ?ys ?yt ?yu ?yv ?yw ?yx ?yy ?yz ?y0 ?y1 ?xal ?xam ?xah ?xat ?xan ?xaj ?y9 ?qa ?qb ?xbl ?xbm ?xbh ?xbt ?xbn ?xbj ?qj ?qk ?ql ?gxa ?gxb ?sa ?po ?tk ?hd ?sp ?rd ?na ?fc ?kpx ?lI ?cI ?kI ?mr ?mv ?Y
      (case D => (iterate 49 refine L2.LO KX G (by k_is) (by k_is) (by k_is) (by k_is) (by first | exact fun _ _ _ _ _ _ => L2.us1 fun _ => rfl | exact fun _ _ _ _ _ _ => L2.us2 fun _ _ => rfl | exact fun _ _ _ _ _ _ => L2.us3 fun _ _ _ => rfl | exact fun _ _ _ _ _ _ => L2.us4 fun _ _ _ _ => rfl | exact fun _ _ _ _ _ _ => L2.us5 fun _ _ _ _ _ => rfl) ?_); exact True.intro)
      case gxa|gxb|am0|lm0|cm0|km0|im0|am1|lm1|cm1|km1|im1|am2|lm2|cm2|km2|im2|am3|lm3|cm3|km3|im3|C_g|ua|ub|uc|ud|ue|uf|ug|uh|ui|uj|uk|ul|um|un|uo|up|uq|ur|ut|uu|uv|ux|uz|u1|u3|u5|u7|u9|zb|zd|zf|zh|zp|zr|zx|zz|yi => k_is
      (case yj => (iterate 16 refine ⟨⟨_, _, rfl, rfl⟩, ?_⟩); exact trivial)
      (case yk => (decide))
      (case yl => (exact rfl))
      case ym|yn|yo|yp|yq|yr|ys|yt|yu|yv|yw|yx|yy|yz|y0|y1|xal => k_is
      case xam|xah => rfl
      case xat|xan => kernel_rfl
      case xaj|y9|qa|qb|xbl => k_is
      case xbm|xbh => rfl
      case xbt|xbn => kernel_rfl
      case xbj|qj|qk|ql|sa => k_is
      case po => kernel_rfl
      case tk|hd|sp|rd|na|fc|kpx|lI|cI|kI|mr|mv => k_is
      (case Y => (intro xC; (iterate 14 refine L2.KS KX G xC (by k_is) (by k_is) (by k_is) ?_); exact True.intro))
    obtain ⟨t, hb, T⟩ := TT;have e : some (Value.ref fa) = some (Value.ref (t.f 48).1) := hmg.symm.trans (T.d 48 rfl).m;have e' : fa = (t.f 48).1 := by injection e with e; injection e
    subst e';exact ⟨(t.f 48).2, hb, fun base _ _ => K22.Ge T⟩
  case S => exact fun K H a ns hl _ hS => L2.Gq rfl hl hS (by obtain ⟨pr, outs, h, rfl, rfl⟩ := K22.Ap hl; exact h)
  case C => exact fun _ _ _ _ z => z

