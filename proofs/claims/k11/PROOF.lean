import PyProof.Rows.All
import Wide.All
import OpenK.AllK
import PySem.Challenge.RW_webshapes_k11_webs_as_texts
abbrev Qq:=PySem.PyData
abbrev Qj:=PySem.Value
abbrev Qz:=PySem.Addr
abbrev Qx:=PySem.Shared
set_option compiler.extract_closed false
set_option bootstrap.genMatcherCode false
set_option Elab.async false
set_option linter.all false
set_option maxRecDepth 100000
set_option maxHeartbeats 4000000
noncomputable section
abbrev wMX {a:Type} (p:PySem.Program) (w:PySem.World):=@PySem.wpAny a (PySem.model p w)
abbrev Qv (x:PySem.Str):Prop:=(x==("__debug__" : PySem.Str))=false
abbrev Qk (x:PySem.Str):Prop:=(x==("__classdict__" : PySem.Str))=false
abbrev Qw:=List (Qz×PySem.Obj)
abbrev Qy:=Qj->Qx->Prop
abbrev Qg:=PySem.Str->Option Qj
abbrev Zq:=Qz->Prop
section
open PySem PySem.Spec PyProof.Rows PySem.W
def Lm:=@wpAny_bind
def Ln:=@List.length_append
def Lo:=@List.length_map
def Lp:=@List.getElem?_eq_getElem
def Lq:=@List.mem_cons_self
def Lr:=@List.getElem?_append_right
def Ls:=@List.getElem?_eq_some_iff
def Lu:=@wpAny_pure
def Lv:=@List.getElem?_set_ne
def Lw:=@if_neg
def Lx:=@List.mem_append_right
def Ly:=@List.mem_cons_of_mem
def Lz:=@if_pos
def LA:=@Nat.le_refl
def LB:=@Heap.get?_push_of_some
def LC:=@List.append_assoc
def LF:=@List.mem_singleton
def LG:=@Nat.le_trans
def LH:=@decide_eq_true
def LJ:=@List.mem_cons
def LK:=@List.size_toArray
def LL:=@List.getElem?_append_left
def LM:=@Heap.lt_size
def LN:=@List.length_cons
def LO:=@List.getElem?_map
def LP:=@List.mem_of_getElem?
def LQ:=@Nat.lt_of_lt_of_le
def LR:=@List.getElem?_set_self
def LS:=@wpS_pure
def LU:=@Bool.false_ne_true
def LV:=@decide_eq_false
def LW:=@wpS_bind
def LX:=@List.pairwise_append
def LY:=@List.mem_append_left
def LZ:=@Option.map_eq_some_iff
def L0:=@Heap.get?_push_size
def L4:=@Heap.get?_update_other
def L5:=@List.eq_nil_of_length_eq_zero
def L6:=@wpAny_mono
def L7:=@List.append_nil
def L8:=@of_decide_eq_true
def L9:=@Nat.ne_of_lt
def Ma:=@beq_iff_eq
def Mb:=@List.getD_eq_getElem?_getD
def Mc:=@List.mem_append
def Md:=@List.length_set
def Me:=@wpAny_execs_cons
def Mf:=@List.nodup_append
def Mh:=@List.mem_map
def Mi:=@List.length_take
def Mj:=@Bool.and_eq_true
def Mk:=@Nat.zero_le
def Ml:=@wpAny_loadPart_at
def Mm:=@Heap.get?_update_self
def Mn:=@Nat.lt_irrefl
def Mo:=@beq_self_eq_true
def Mp:=@Option.some.inj
def Mq:=@PySem.F.plainAttrs_str
def Mr:=@PySem.W.mg_none_of
def Ms:=@Array.getElem?_eq_getElem
def Mu:=@List.take_of_length_le
def Mv:=@List.nil_append
def Mw:=@List.map_append
def Mx:=@List.take_length
def My:=@List.cons_append
def Mz:=@of_decide_eq_false
def MA:=@List.nodup_cons
def MB:=@Bool.true_and
def MC:=@wpS_forRange
def MD:=@List.mem_nil_iff
def ME:=@List.length_drop
def MF:=@sizeLine_eq
def MG:=@wpAny_holding
def MH:=@Nat.lt_succ_self
def MI:=@wpAny_truthy_bool
def MJ:=@wpAny_newObj_type
def MK:=@List.filterMap_cons
def ML:=@Array.length_toList
def MM:=@List.pairwise_iff_getElem
def MN:=@List.drop_eq_getElem_cons
def MO:=@List.length_singleton
def MP:=@List.cons_lt_cons_iff
def MQ:=@wpAny_Call_Name_kw
def MR:=@List.mem_reverse
def MS:=@List.length_range
def MT:=@wpAny_rule
def MU:=@wpAny_execs_nil
def MV:=@List.length_nil
def MW:=@wpS_mono
def MX:=@List.length_reverse
def MY:=@List.all_eq_true
def MZ:=@List.pairwise_reverse
def M0:=@wpAny_dictEpoch
def M1:=@Nat.sub_self
def M3:=@wpAny_isSubtype_exc
def M4:=@wpAny_callSpecial?_slot
def M5:=@or_false
def M6:=@Nat.add_sub_cancel_left
def M7:=@List.lookup_cons
def M8:=@List.Perm.refl
def M9:=@List.pairwise_cons
def Na:=@List.map_map
def Nb:=@PySem.W.kia_tup
def Nc:=@PySem.W.kia_one
def Nf:=@PySem.W.mg_of
def Ng:=@PySem.F.type_str_join
def Nh:=@PySem.F.slot_str_join
def Ni:=@List.mem_iff_getElem?
def Nj:=@List.Perm.append_left
def Nk:=@decide_eq_true_eq
def Nl:=@bind_congr
def Nm:=@PySem.W.looks_findIn
def Nn:=@List.mem_of_mem_take
def Np:=@Array.getElem?_eq_some_iff
def Nq:=@wpAny_call_entry
def Nr:=@Nat.ne_of_gt
def Nt:=@Classical.byContradiction
def Nu:=@PySem.mem_of_lookup
def Nv:=@if_false
def Nw:=@wpAny_passesOwn
def Nx:=@wpS_modify
def Ny:=@List.contains_cons
def Nz:=@Bool.false_eq_true
def NA:=@wpAny_dictEntries
def NB:=@wpAny_Return_some
def NC:=@Nat.le_of_lt
def ND:=@List.reverse_perm
def NF:=@List.getElem?_toArray
def NG:=@wpAny_forIn_list
def NH:=@wpAny_standAt
def NI:=@Paired.length
def NJ:=@wpAny_typeNameOfWhole_keyiter
def NK:=@wpAny_field
def NL:=@codeAny_call_builtin
def NM:=@Option.map_some
def NN:=@F.slot_dict_keyiterator_next
def NO:=@PySem.W.hideAll_get
def NP:=@if_true
def NQ:=@codeAny_mono
def NR:=@Array.getD_eq_getD_getElem?
def NS:=@wpAny_setField
def NT:=@PySem.W.callWith_K
def NU:=@Obj.data_mapFields
def NV:=@List.drop_left
def NW:=@Calls.Name_function_global
def NX:=@Array.perm_iff_toList_perm
def NY:=@Array.all_eq_true'
def NZ:=@wpAny_typeNameOf_keyiter
def N1:=@PySem.StrLaws.join_split
def N2:=@List.getElem?_take_of_lt
def N3:=@take_snoc
def N4:=@List.pairwise_singleton
def N5:=@List.any_eq_true
def N6:=@Array.toList_inj
def N7:=@wpS_get
def N8:=@wpAny_call
def N9:=@typeIs_str
def Oa:=@Nat.zero_add
def Ob:=@List.set_set
def Oc:=@List.drop_of_length_le
def Od:=@Bool.or_true
def Oe:=@Array.getElem?_eq_none
def Of:=@Nat.le_of_ble_eq_true
def Og:=@List.length_replicate
def Oh:=@Array.getElem?_toList
end
section
namespace L2
abbrev Fg:=PySem.W.Frag
set_option maxRecDepth 100000 in
set_option maxHeartbeats 0 in
theorem ws:PySem.W.OpenLaw.wellSaid PySem.Challenge.rw_webshapes_k11_webs_as_texts=true:=by decide +kernel
end L2
namespace L2
open PySem PySem.Spec PyProof.Rows
abbrev Key:=Sum Int Str
noncomputable def oj:Key->Qj->Bool
 | .inl k,v=>Value.isInt k v
 | .inr x,v=>Value.isStrOf x v
noncomputable def Ko (w:World):Key->Int
 | .inl k=>hashInt k
 | .inr x=>hashStr w x
theorem aD:∀ {k:Key} {v:Qj},oj k v=true->(∃ i t,k=Sum.inl i/\v=Value.int i t)\/(∃ x t,k=Sum.inr x/\v=Value.str x t)
 | .inl i,v,h=>by obtain ⟨t,e⟩:=Value.isInt_shape (k:=i) (v:=v) h;exact .inl ⟨i,t,rfl,e⟩
 | .inr x,v,h=>by obtain ⟨t,e⟩:=Value.isStrOf_shape (x:=x) (v:=v) h;exact .inr ⟨x,t,rfl,e⟩
theorem rZ (i:Int) (t:Tok):oj (.inl i) (.int i t)=true:=by simp [oj,Value.isInt]
theorem uF (x:Str) (t:Tok):oj (.inr x) (.str x t)=true:=by simp [oj,Value.isStrOf]
theorem Di (a b:Int):decide ((Sum.inl a:Key)=Sum.inl b)=(a==b):=by
 by_cases e:a=b
 .subst e;simp
 .have h:¬(Sum.inl a:Key)=Sum.inl b:=fun q=>e (Sum.inl.inj q);rw [LV h];exact (beq_eq_false_iff_ne.mpr e).symm
theorem EL (a b:Str):decide ((Sum.inr a:Key)=Sum.inr b)=decide (a=b):=by
 by_cases e:a=b
 .subst e;simp
 .have h:¬(Sum.inr a:Key)=Sum.inr b:=fun q=>e (Sum.inr.inj q);rw [LV h,LV e]
theorem EU (a:Int) (b:Str):decide ((Sum.inl a:Key)=Sum.inr b)=false:=LV (fun q=>nomatch q)
theorem ET (a:Str) (b:Int):decide ((Sum.inr a:Key)=Sum.inl b)=false:=LV (fun q=>nomatch q)
def bf (prog:Program) (w:World):PySem.KeyKind prog w Key where
 is:=oj
 hash:=Ko w
 inj:=fun v a b ha hb=>by
  rcases aD ha with ⟨i,t,rfl,rfl⟩ | ⟨x,t,rfl,rfl⟩
  .rcases aD hb with ⟨j,u,rfl,e⟩ | ⟨y,u,rfl,e⟩
   .injection e with e1 _;rw [e1]
   .exact nomatch e
  .rcases aD hb with ⟨j,u,rfl,e⟩ | ⟨y,u,rfl,e⟩
   .exact nomatch e
   .injection e with e1 _;rw [e1]
 byValue:=fun k v h=>by rcases aD h with ⟨i,t,rfl,rfl⟩ | ⟨x,t,rfl,rfl⟩ <;> rfl
 pyHash:=fun hv h=>by
  rcases aD hv with ⟨i,t,rfl,rfl⟩ | ⟨x,t,rfl,rfl⟩
  .exact wpAny_pyHash_int h
  .exact wpAny_pyHash_str h
 eqBool:=fun hu hv h=>by
  rcases aD hu with ⟨i,t,rfl,rfl⟩ | ⟨x,t,rfl,rfl⟩
  .rcases aD hv with ⟨j,u,rfl,rfl⟩ | ⟨y,u,rfl,rfl⟩
   .rw [Di] at h;exact wpAny_eqBool_int h
   .rw [EU] at h;exact SeqAt.EqAt.int_str i t y u _ _ _ _ h
  .rcases aD hv with ⟨j,u,rfl,rfl⟩ | ⟨y,u,rfl,rfl⟩
   .rw [ET] at h;exact SeqAt.EqAt.str_int x t j u _ _ _ _ h
   .rw [EL] at h;exact wpAny_eqBool_str h
 «strs»:=fun k x t v h=>by
  rcases aD h with ⟨i,u,rfl,e⟩ | ⟨y,u,rfl,e⟩
  .exact nomatch e
  .injection e with e1 _;subst e1;cases v <;> rfl
theorem mY (prog:Program) (w:World) (i:Int) (t:Tok):(bf prog w).is (.inl i) (.int i t)=true:=rZ i t
theorem nP (prog:Program) (w:World) (x:Str) (t:Tok):(bf prog w).is (.inr x) (.str x t)=true:=uF x t
inductive V where
 | non | bl (b:Bool) | int (i:Int) | str (x:Str) | Uc (b:Array UInt8) | XM (b:UInt64) | ref (a:Qz) | ty (n:String)
 deriving DecidableEq
def RelV:V->Qj->Prop
 | .non,u=>u=Value.none
 | .bl b,u=>u=Value.bool b
 | .int i,u=>∃ t,u=Value.int i t
 | .str x,u=>∃ t,u=Value.str x t
 | .Uc b,u=>∃ t,u=Value.bytes b t
 | .XM b,u=>∃ t,u=Value.float b t
 | .ref a,u=>u=Value.ref a
 | .ty n,u=>u=Value.type n
abbrev Vals:List V->List Qj->Prop:=Paired RelV
theorem Vals.length {xs:List V} {us:List Qj} (r:Vals xs us):xs.length=us.length:=NI r
theorem Vals.get:∀ {xs:List V} {us:List Qj} {i:Nat} {x:V},Vals xs us->xs[i]?=some x->∃ u,us[i]?=some u/\RelV x u
 | _,_,_,_,.nil,e=>by simp at e
 | _,_,0,_,.cons r _,e=>by simp at e;subst e;exact ⟨_,rfl,r⟩
 | _,_,i+1,x,.cons _ t,e=>by obtain ⟨u,h1,h2⟩:=Vals.get (i:=i) (x:=x) t (by simpa using e);exact ⟨u,by simpa using h1,h2⟩
theorem Vals.append:∀ {xs ys:List V} {us ws:List Qj},Vals xs us->Vals ys ws->Vals (xs++ys) (us++ws)
 | _,_,_,_,.nil,s=>s
 | _,_,_,_,.cons r t,s=>.cons r (Vals.append t s)
theorem Vals.take:∀ {xs:List V} {us:List Qj} (n:Nat),Vals xs us->Vals (xs.take n) (us.take n)
 | _,_,0,_=>.nil
 | _,_,_+1,.nil=>.nil
 | _,_,n+1,.cons r t=>.cons r (Vals.take n t)
theorem Vals.drop:∀ {xs:List V} {us:List Qj} (n:Nat),Vals xs us->Vals (xs.drop n) (us.drop n)
 | _,_,0,r=>r
 | _,_,_+1,.nil=>.nil
 | _,_,n+1,.cons _ t=>Vals.drop n t
def E9:Option V->Option Qj->Prop
 | some v,some u=>RelV v u
 | none,none=>True
 | _,_=>False
def KV {κ:Type}:List (κ×V)->List (κ×Qj)->Prop:=Paired fun (p:κ×V) (q:κ×Qj)=>p.1=q.1/\RelV p.2 q.2
noncomputable def kV:Key->V
 | .inl i=>.int i
 | .inr x=>.str x
mutual
noncomputable def bM (w:World):Qq->Int
 | .int i=>hashInt i
 | .str x=>hashStr w x
 | .tuple ds=>reduceHash (Builtin.Tuple.tupleHashOf (cg w ds))
 | _=>0
noncomputable def cg (w:World):List Qq->List Int
 | []=>[]
 | d :: ds=>bM w d :: cg w ds
end
def AJ (w:World) (x:Qq×V×V) (e:DictEntry):Prop:=e.hash=bM w x.1/\RelV x.2.1 e.key/\RelV x.2.2 e.val
inductive HO where
 /-- a list -/
 | lst (xs:List V)
 /-- a tuple (never changes) -/
 | tup (xs:List V)
 /-- a dict whose keys are ints and texts;one whose keys are tuples of ints and texts (the empty one is both) -/
 | dK (kvs:List (Key×V)) | dT (kvs:List (List Key×V))
 /-- a dict by any Vk data: its epoch;the keys as data and as values,what aab hold -/
 | dD (ep:Nat) (xs:List (Qq×V×V))
 /-- a set of ints: its members,its size -/
 | set (S:Int->Bool) (n:Nat)
 /-- an instance of the class at C,its dict at dx,its attributes -/
 | ins (C dx:Qz) (fs:List (Str×V))
 /-- the dict of the instance at x -/
 | own (x:Qz)
 /-- the dict of an exception -/
 | xd (fs:List (Str×V))
 /-- a bound method,f of x -/
 | met (f x:Qz)
 /-- a range object lo,lo+1,.. below hi -/
 | Wy (lo hi:Int)
 /-- a aQ that is known to the object (the script;a dict while a loop walks it): read,never written while it is so -/
 | RU (o:Obj) (u:HO)
 /-- a code object's table -/
 | TC (ps:Array Qj)
 /-- any other aQ,by what is true of its one object (a def of ZG own: aac a S n:=HO.ext fun h=>..) -/
 | ext (W:Heap->Prop)
abbrev Hp:=Qz->Option HO
noncomputable def upd (H:Hp) (a:Qz) (o:HO):Hp:=fun b=>if b=a then some o else H b
theorem ak:upd H a o a=some o:=by unfold upd;rw [Lz rfl]
theorem aj (h:b≠a):upd H a o b=H b:=by unfold upd;rw [Lw h]
theorem uX:upd (upd H a o) a u=upd H a u:=by funext b;unfold upd;split <;> rfl
theorem aG {H:Hp} {a b:Qz} {o:HO} (h:H a=some o) (h':H b=none):a≠b:=by intro e;subst e;rw [h] at h';cases h'
section
variable (P:Program) (w:World)
def aI (H:Hp) (h:Heap) (a:Qz):HO->Prop
 | .lst xs=>xs.length<=sizeLine/\∃ (its:List Qj) (n:Nat),Vals xs its/\h.get? a=some { cls:=.type "list", data:=.seq its.toArray n }
 | .tup xs=>xs.length<=sizeLine/\∃ its:List Qj,Vals xs its/\IsTup h a its.toArray
 | .dK kvs=>kvs.length<=sizeLine/\(a==sysModules)=false/\∃ vs,KV kvs vs/\h.DictOf (bf P w) a vs
 | .dT kvs=>kvs.length<=sizeLine/\(a==sysModules)=false/\∃ xs:List (List Key×Qz×Qj),
   Paired (fun (p:List Key×V) (q:List Key×Qz×Qj)=>p.1=q.1/\H q.2.1=some (.tup (p.1.map kV))/\RelV p.2 q.2.2) kvs xs /\
   ∃ o es ep,h.get? a=some o/\o.ExactDict/\o.data=.dict es ep/\es.toList=xs.map (entryOfKey (tupleKind (bf P w)))/\(xs.map (·.1)).Nodup
 | .dD ep xs=>xs.length<=sizeLine/\(a==sysModules)=false/\(xs.map (·.1)).Nodup/\∃ o es,h.get? a=some o/\o.ExactDict/\o.data=.dict es ep/\Paired (AJ w) xs es.toList
 | .set S n=>h.SetOf (intKind P w) a S n
 | .ins C dx fs=>H dx=some (.own a)/\fs.length<=1000/\dx≠a/\h.get? a=some (PySem.W.instObj C dx) /\
   ∃ mA,h.Ns1 dx mA/\(∀ f,E9 (fs.lookup f) (mA f))/\PySem.Within mA (fs.map (·.1))
 | .own _=>∃ o,h.get? a=some o
 | .xd fs=>∃ mA,h.Ns1 a mA/\∀ f,E9 (fs.lookup f) (mA f)
 | .Wy lo hi=>∃ t u v,h.get? a=some { cls:=.type "range", data:=.fields #[.int lo t,.int hi u,.int 1 v] }
 | .RU o u=>h.get? a=some o/\aI H h a u
 | .TC ps=>h.get? a=some { cls:=.none,data:=.fields ps }
 | .met f x=>h.get? a=some (PySem.W.methodObj (.ref f) (.ref x))
 | .ext W=>W h/\(∃ o,h.get? a=some o)/\∀ h1 h2:Heap,W h1->(∀ o,h1.get? a=some o->h2.get? a=some o)->W h2
def O6 (H:Hp) (h:Heap):Prop:=∀ a o,H a=some o->aI P w H h a o
end
section
variable {P:Program} {w:World} {H H':Hp} {h h':Heap} {a:Qz} {o:HO}
theorem aI.lt (x:aI P w H h a o):a < h.objs.size:=by
 cases o with
 | lst xs=>obtain ⟨_,_,_,_,e⟩:=x;exact LM e
 | tup xs=>obtain ⟨_,_,_,p⟩:=x;exact p.lt
 | dK kvs=>obtain ⟨_,_,_,_,o,_,_,e,_⟩:=x;exact LM e
 | dT kvs=>obtain ⟨_,_,_,_,o,_,_,e,_⟩:=x;exact LM e
 | dD ep xs=>obtain ⟨_,_,_,o,_,e,_⟩:=x;exact LM e
 | set S n=>obtain ⟨o,_,_,_,e,_⟩:=x;exact LM e
 | ins C dx fs=>obtain ⟨_,_,_,e,_⟩:=x;exact LM e
 | own y=>obtain ⟨_,e⟩:=x;exact LM e
 | xd fs=>obtain ⟨_,⟨_,_,_,e,_⟩,_⟩:=x;exact LM e
 | Wy lo hi=>obtain ⟨_,_,_,e⟩:=x;exact LM e
 | RU ob u=>obtain ⟨e,_⟩:=x;exact LM e
 | TC ps=>exact LM (show h.get? a=some _ from x)
 | met f y=>exact LM (show h.get? a=some _ from x)
 | ext W=>obtain ⟨_,⟨_,e⟩,_⟩:=x;exact LM e
theorem Paired.JB {W B:Type} {F G:W->B->Prop}:∀ {l₁:List W} {l₂:List B},Paired F l₁ l₂->(∀ a b,F a b->G a b)->Paired G l₁ l₂
 | _,_,.nil,_=>.nil
 | _,_,.cons r t,f=>.cons (f _ _ r) (Paired.JB t f)
theorem aI.jf (x:aI P w H h a o) (k:∀ b u,(b=a\/H b=some (.own a))->h.get? b=some u->h'.get? b=some u)
  (ho:∀ b,H b=some (.own a)->H' b=some (.own a)) (ht:∀ b xs,H b=some (.tup xs)->H' b=some (.tup xs)):aI P w H' h' a o:=by
 induction o with
 | lst xs=>obtain ⟨z,its,n,r,e⟩:=x;exact ⟨z,its,n,r,k _ _ (.inl rfl) e⟩
 | tup xs=>obtain ⟨z,its,r,ob,e,c⟩:=x;exact ⟨z,its,r,ob,k _ _ (.inl rfl) e,c⟩
 | dK kvs=>obtain ⟨z,y,vs,r,ob,es,ep,e,c⟩:=x;exact ⟨z,y,vs,r,ob,es,ep,k _ _ (.inl rfl) e,c⟩
 | dT kvs =>
  obtain ⟨z,y,xs,r,ob,es,ep,e,c⟩:=x;exact ⟨z,y,xs,Paired.JB r fun p q z=>⟨z.1,ht _ _ z.2.1,z.2.2⟩,ob,es,ep,k _ _ (.inl rfl) e,c⟩
 | dD ep xs=>obtain ⟨z,y,nd,ob,es,e,c⟩:=x;exact ⟨z,y,nd,ob,es,k _ _ (.inl rfl) e,c⟩
 | set S n=>obtain ⟨ob,es,ep,t,e,c⟩:=x;exact ⟨ob,es,ep,t,k _ _ (.inl rfl) e,c⟩
 | ins C dx fs =>
  obtain ⟨d,z,ne,e,mA,⟨od,es,ep,e2,c⟩,r⟩:=x;exact ⟨ho _ d,z,ne,k _ _ (.inl rfl) e,mA,⟨od,es,ep,k _ _ (.inr d) e2,c⟩,r⟩
 | own y=>obtain ⟨ob,e⟩:=x;exact ⟨ob,k _ _ (.inl rfl) e⟩
 | xd fs=>obtain ⟨mA,⟨od,es,ep,e,c⟩,r⟩:=x;exact ⟨mA,⟨od,es,ep,k _ _ (.inl rfl) e,c⟩,r⟩
 | Wy lo hi=>obtain ⟨t,u,v,e⟩:=x;exact ⟨t,u,v,k _ _ (.inl rfl) e⟩
 | RU ob u ih=>obtain ⟨e,q⟩:=x;exact ⟨k _ _ (.inl rfl) e,ih q⟩
 | TC ps =>
  have e:h.get? a=some { cls:=.none,data:=.fields ps }:=x;show h'.get? a=some { cls:=.none,data:=.fields ps };exact k a _ (.inl rfl) e
 | met f y =>
  have e:h.get? a=some (PySem.W.methodObj (.ref f) (.ref y)):=x;show h'.get? a=some (PySem.W.methodObj (.ref f) (.ref y));exact k a _ (.inl rfl) e
 | ext W=>obtain ⟨p,⟨o,e⟩,st⟩:=x;exact ⟨st _ _ p fun o q=>k _ _ (.inl rfl) q,⟨o,k _ _ (.inl rfl) e⟩,st⟩
theorem O6.lt (x:O6 P w H h) (e:H a=some o):a < h.objs.size:=(x a o e).lt
theorem O6.fresh (x:O6 P w H h) (e:h.objs.size<=a):H a=none:=by
 cases q:H a with
 | none=>rfl
 | some u=>exact absurd (LQ (x.lt q) e) (Mn _)
theorem O6.kept (x:O6 P w H h) (k:∀ b u,h.get? b=some u->h'.get? b=some u):O6 P w H h':=fun a o e =>
 (x a o e).jf (fun b u _ q=>k b u q) (fun _ q=>q) fun _ _ q=>q
theorem O6.laid (x:O6 P w H h) (k:∀ b u,h.get? b=some u->h'.get? b=some u) (hp:h.objs.size<=a) (new:aI P w (upd H a o) h' a o):O6 P w (upd H a o) h':=fun b u e=>by
 have hn:=x.fresh hp;by_cases hb:b=a
 .subst hb;rw [ak] at e;cases e;exact new
 .rw [aj hb] at e;exact (x b u e).jf (fun c v _ q=>k c v q) (fun c q=>by rw [aj (aG q hn)];exact q) fun c xs q=>by rw [aj (aG q hn)];exact q
end
def Rd (H:Hp) (a:Qz) (u:HO):Prop:=H a=some u\/∃ o,H a=some (.RU o u)
theorem Rd.ok (r:Rd H a u) (x:O6 P w H h):aI P w H h a u:=by
 rcases r with r | ⟨o,r⟩
 .exact x a u r
 .obtain ⟨_,q⟩:=x a _ r;exact q
def Vl:Option HO->Prop
 | some (.lst _)=>True
 | some (.dK _)=>True
 | some (.dT _)=>True
 | some (.dD _ _)=>True
 | some (.set _ _)=>True
 | some (.ins _ _ _)=>True
 | some (.ext _)=>True
 | _=>False
section
variable {P:Program} {w:World} {H:Hp} {h h':Heap} {x e:Qz} {o':HO}
theorem O6.write (ok:O6 P w H h) (mu:Vl (H x)) (he:e=x\/H e=some (.own x)) (k:∀ b u,b≠e->h.get? b=some u->h'.get? b=some u) (UP:∃ u,h'.get? e=some u)
  (new:aI P w (upd H x o') h' x o'):O6 P w (upd H x o') h':=fun b u q=>by
 have Vm:∀ c y,H c=some (.own y)->c≠x:=fun c y r z=>by subst z;rw [r] at mu;exact mu
 have XN:∀ c xs,H c=some (.tup xs)->c≠x:=fun c xs r z=>by subst z;rw [r] at mu;exact mu
 by_cases hb:b=x
 .subst hb;rw [ak] at q;cases q;exact new
 .rw [aj hb] at q;by_cases Ud:b=e
  .have q':H b=some (.own x):=by
    rcases he with z | z
    .exact absurd (Ud.trans z) hb
    .rw [Ud];exact z
   rw [q] at q';cases q';obtain ⟨v,hv⟩:=UP;exact ⟨v,by rw [Ud];exact hv⟩
  .refine (ok b u q).jf (fun c v hc r=>k c v ?_ r) (fun c r=>by rw [aj (Vm c b r)];exact r) fun c xs r=>by rw [aj (XN c xs r)];exact r
   rcases hc with rfl | hc
   .exact Ud
   .rintro rfl;rcases he with z | z
    .exact Vm c b hc z
    .rw [hc] at z;cases z;exact hb rfl
end
structure Un (fs ex:List Qz) (H H':Hp) (h h':Heap):Prop where
 keep:∀ b o,h.get? b=some o->H b=none->b ∉ fs->b ∉ ex->h'.get? b=some o
 slot:∀ b o,h.get? b=some o->H b=none->b∈fs->b ∉ ex->∃ sl,h'.get? b=some { o with slots:=sl }
 free:∀ b o,h.get? b=some o->H b=none->b ∉ ex->H' b=none
 there:∀ b o,h.get? b=some o->b ∉ ex->∃ o',h'.get? b=some o'
 ou:∀ b xs,H b=some (.tup xs)->H' b=some (.tup xs)
 nB:∀ b o u,H b=some (.RU o u)->H' b=some (.RU o u)
 qv:∀ b ps,H b=some (.TC ps)->∃ more,H' b=some (.TC (ps++more))
section
variable {fs fs' ex Vn:List Qz} {H H1 H2:Hp} {h h1 h2 h':Heap} {a x e:Qz} {o:HO}
theorem Un.any (u:Un fs ex H H1 h h1) {b:Qz} {ob:Obj} (q:h.get? b=some ob) (n:H b=none) (hx:b ∉ ex):∃ sl,h1.get? b=some { ob with slots:=sl }:=by
 by_cases hb:b∈fs
 .exact u.slot b ob q n hb hx
 .exact ⟨ob.slots,u.keep b ob q n hb hx⟩
theorem Un.kept (k:∀ b u,h.get? b=some u->h'.get? b=some u):Un fs ex H H h h' :=
 ⟨fun b ob q _ _ _=>k b ob q,fun b ob q _ _ _=>⟨ob.slots,k b ob q⟩,fun _ _ _ n _=>n,fun b ob q _=>⟨ob,k b ob q⟩,fun _ _ q=>q,fun _ _ _ q=>q,fun _ ps q=>⟨#[],by rw [q];simp⟩⟩
theorem Un.refl:Un fs ex H H h h:=Un.kept fun _ _ q=>q
theorem Un.laid (k:∀ b u,h.get? b=some u->h'.get? b=some u) (hp:h.objs.size<=a) (hn:H a=none):Un fs ex H (upd H a o) h h' where
 keep:=fun b u q _ _ _=>k b u q
 slot:=fun b u q _ _ _=>⟨u.slots,k b u q⟩
 free:=fun b u q n _=>by rw [aj (L9 (LQ (LM q) hp))];exact n
 there:=fun b u q _=>⟨u,k b u q⟩
 ou:=fun b xs q=>by rw [aj (aG q hn)];exact q
 nB:=fun b u xs q=>by rw [aj (aG q hn)];exact q
 qv:=fun b ps q=>⟨#[],by rw [aj (aG q hn),q];simp⟩
theorem Un.write (mu:Vl (H x)) (he:e=x\/H e=some (.own x)) (k:∀ b u,b≠e->h.get? b=some u->h'.get? b=some u) (UP:∃ u,h'.get? e=some u):Un fs ex H (upd H x o) h h':=by
 have hx:∀ b,H b=none->b≠x:=fun b n z=>by subst z;rw [n] at mu;exact mu
 have hb:∀ b,H b=none->b≠e:=fun b n z=>by
  subst z;rcases he with r | r
  .exact hx b n r
  .rw [n] at r;cases r
 have hm:∀ b u,H b=some u->¬Vl (some u)->b≠x:=fun b u q nm z=>by subst z;rw [q] at mu;exact nm mu
 refine ⟨fun b u q n _ _=>k b u (hb b n) q,fun b u q n _ _=>⟨u.slots,k b u (hb b n) q⟩,fun b u q n _=>by rw [aj (hx b n)];exact n,fun b u q _=>?_,
  fun b xs q=>by rw [aj (hm b _ q fun z=>z)];exact q,fun b u xs q=>by rw [aj (hm b _ q fun z=>z)];exact q,fun b ps q=>⟨#[],by rw [aj (hm b _ q fun z=>z),q];simp⟩⟩
 by_cases Ud:b=e
 .subst Ud;exact UP
 .exact ⟨u,k b u Ud q⟩
end
noncomputable def Wz (h:Heap) (H:Hp):List Qz:=(List.range h.objs.size).filter fun a=>(H a).isSome
def xV (h:Heap) (H:Hp):Heap:=PySem.W.hideAll h (Wz h H)
theorem rR (h:Heap) (H:Hp):(xV h H).objs.size=h.objs.size:=PySem.W.hideAll_size _ _
theorem wR (e:h.get? b=some o) (n:H b=none):(xV h H).get? b=some o :=
 NO _ e fun hm=>by have q:(H b).isSome=true:=(List.mem_filter.mp hm).2;rw [n] at q;simp at q
theorem AR (e:(xV h H).get? b=some o):h.get? b=some o/\H b=none:=by
 have e':h.get? b=some o:=PySem.W.of_hideAll (Wz h H) e;refine ⟨e',?_⟩;cases q:H b with
 | none=>rfl
 | some x =>
  have hm:b∈Wz h H:=List.mem_filter.mpr ⟨List.mem_range.mpr (LM e'),by simp [q]⟩;have z:(xV h H).get? b=none:=PySem.W.hideAll_none (Wz h H) hm;rw [z] at e;cases e
structure Mod (K:Fg) (mg:Qg) (base:Heap):Prop where
 RW:K.In base
 glob:base.Ns mainGlobals mg
 blt:∃ mb,base.Ns builtinsNs mb/\∀ x:Str,x ≠ "__name__" -> mb x=bootBuiltins x
 nolimit:base.NoLimit
structure Cx where
 prog:Program
 w:World
 K:Fg
 mg:Qg
 base:Heap
 A:Around
 N:List Str
 ZZ:Qx
 ZO:Hp
 env:Env
 outer:List Env
 stack:List Env
 ex:List Qz
 fn:Str->Bool
 calm:Bool
 pn:Qw
 xe:Qy
abbrev wMY {a:Type} (X:Cx):=@wMX a X.prog X.w X.A
noncomputable def Oj (l:List Env):List Qz:=l.filterMap (·.frame)
abbrev Cx.fs (X:Cx):List Qz:=Oj X.outer
def Qi (sc:Scope) (x:Str):Prop:=sc.names.lookup x=some .local\/sc.names.lookup x=some .cell\/sc.names.lookup x=some .free
def Loc (sc:Scope) (x:Str):Prop:=sc.names.lookup x=some .local\/sc.names.lookup x=some .cell
def Look (env:Env) (h:Heap) (m:Str->Option Qj) (x:Str) (u:Qj):Prop :=
 (env.kindOf x=some .local/\m x=some u)\/((env.kindOf x=some .cell\/env.kindOf x=some .free)/\∃ c,env.cells.lookup x=some c/\h.IsCell c (some u))
structure Cx.Ok (X:Cx):Prop where
 mod:Mod X.K X.mg X.base
 kind:X.env.scope.kind=.function
 glob:X.env.globals=mainGlobals
 blt:X.env.builtins=builtinsNs
 above:X.ZZ.heap.objs.size<=X.env.locals
 inj:∀ x y c,X.env.cells.lookup x=some c->X.env.cells.lookup y=some c->x=y
 has:∀ x,(X.env.kindOf x=some .cell\/X.env.kindOf x=some .free)->∃ c,X.env.cells.lookup x=some c
 Sz:∀ x c,X.fn x=true->X.env.cells.lookup x=some c->X.ZZ.heap.objs.size<=c
 hd:X.calm=true->X.A.handled=none
 frames:X.A.frames=some X.stack
 S5:X.stack=X.outer\/(X.stack=X.env :: X.outer/\X.env.frame=some X.env.locals)
 QM:∀ b∈X.ex,b≠X.env.locals/\∀ x c,X.env.cells.lookup x=some c->c≠b
 bs:∀ b o,X.base.get? b=some o->X.ZZ.heap.get? b=some o/\X.ZO b=none
 QO:X.base.objs.size<=X.ZZ.heap.objs.size
 vU:∀ b o,X.base.get? b=some o->b ∉ X.ex
 w6:∀ b∈X.ex,b ∉ X.fs
 jT:X.ZZ.heap.FunFrames X.base X.outer
 Ql:∀ b∈X.fs,X.ZO b=none
structure Inv (X:Cx) (ti:Qw) (Y:List (Option V)) (H:Hp) (s:Qx):Prop where
 ok:X.Ok
 os:s.os=X.ZZ.os
 bare:AllBare s.gens
 base:Un X.fs X.ex X.ZO H X.ZZ.heap s.heap
 loc:∃ m,s.heap.Ns X.env.locals m/\∀ (i:Nat) (x:Str) (v:V),X.N[i]?=some x->Y[i]?=some (some v)->Qi X.env.scope x->∃ u,RelV v u/\Look X.env s.heap m x u
 cell:∀ x c,X.env.cells.lookup x=some c->∃ v,s.heap.IsCell c v
 free:H X.env.locals=none
 cH:∀ x c,X.env.cells.lookup x=some c->H c=none
 pin:∀ p∈X.pn++ti,s.heap.get? p.1=some p.2/\H p.1=none/\p.1≠X.env.locals/\p.1 ∉ X.fs/\∀ v,p.2.data≠.cell v
 IT:O6 X.prog X.w H s.heap
 len:Y.length=X.N.length
section
variable {X:Cx} {ti:Qw} {Y:List (Option V)} {H H':Hp} {s:Qx} {h':Heap}
theorem Cx.Ok.KH (ok:X.Ok) (e:X.base.get? b=some o):b ∉ X.fs:=fun hb=>by have:=(ok.jT.mem hb).1;rw [e] at this;cases this
theorem Inv.bs (I:Inv X ti Y H s):∀ b o,X.base.get? b=some o->s.heap.get? b=some o/\H b=none:=fun b o e =>
 ⟨I.base.keep b o (I.ok.bs b o e).1 (I.ok.bs b o e).2 (I.ok.KH e) (I.ok.vU b o e),I.base.free b o (I.ok.bs b o e).1 (I.ok.bs b o e).2 (I.ok.vU b o e)⟩
theorem Inv.bk (I:Inv X ti Y H s):∀ b o,X.base.get? b=some o->s.heap.get? b=some o:=fun b o e=>(I.bs b o e).1
theorem Inv.mod (I:Inv X ti Y H s):Mod X.K X.mg X.base:=I.ok.mod
theorem Inv.OL (I:Inv X ti Y H s):X.K.In s.heap:=I.ok.mod.RW.keeps I.bk
theorem Inv.lt (I:Inv X ti Y H s):X.env.locals < s.heap.objs.size:=let ⟨_,hn,_⟩:=I.loc;hn.lt
theorem Inv.sz (I:Inv X ti Y H s):X.ZZ.heap.objs.size<=s.heap.objs.size:=LG I.ok.above (NC I.lt)
theorem Inv.DV (I:Inv X ti Y H s) (h:s.heap.objs.size<=a):a ∉ X.fs:=fun hb=>by obtain ⟨_,o,ho,_⟩:=I.ok.jT.mem hb;exact absurd (LQ (LM ho) (LG I.sz h)) (Mn _)
theorem Inv.RX (I:Inv X ti Y H s):∀ x c,X.env.cells.lookup x=some c->c≠X.env.locals:=fun x c e z=>by obtain ⟨v,o,ho,hd⟩:=I.cell x c e;obtain ⟨m,⟨o',es,ep,QQ,Ue,_⟩,_⟩:=I.loc;rw [z,QQ] at ho;cases ho;rw [Ue] at hd;cases hd
theorem Inv.jT (I:Inv X ti Y H s):s.heap.FunFrames X.base X.outer:=by
 have all:(l:List Env)->(∀ b∈Oj l,b∈X.fs)->X.ZZ.heap.FunFrames X.base l->s.heap.FunFrames X.base l:=by
  intro l;induction l with
  | nil=>intro _ _;trivial
  | cons env r ih =>
   intro hs hl;obtain ⟨hk,⟨L,o,hf,hn,ho,hd⟩,hr⟩:=hl;have hL:L∈X.fs:=hs L (by unfold Oj;rw [MK,hf];exact Lq);obtain ⟨sl,e⟩:=I.base.slot L o ho (I.ok.Ql L hL) hL fun z=>I.ok.w6 L z hL;exact ⟨hk,⟨L,_,hf,hn,e,hd⟩,ih (fun b hb=>hs b (by unfold Oj;rw [MK,hf];exact Ly _ hb)) hr⟩
 exact all X.outer (fun _ hb=>hb) I.ok.jT
theorem Inv.stack (I:Inv X ti Y H s):s.heap.FunFrames X.base X.stack:=by
 rcases I.ok.S5 with e | ⟨e,hf⟩
 .rw [e];exact I.jT
 .rw [e];obtain ⟨m,hn,_⟩:=I.loc;refine .cons (by rw [I.ok.kind];decide) hf hn ?_ I.jT;exact Heap.get?_none_of_le (LG I.ok.QO I.ok.above)
theorem Inv.jt (I:Inv X ti Y H s):∀ b∈Oj X.stack,b∈X.env.locals :: X.fs:=fun b hb=>by
 rcases I.ok.S5 with e | ⟨e,hf⟩
 .rw [e] at hb;exact Ly _ hb
 .rw [e] at hb;unfold Oj at hb;rw [MK,hf] at hb;exact hb
theorem Inv.iP (I:Inv X ti Y H s):∀ b∈Oj X.stack,H b=none:=fun b hb=>by
 rcases LJ.mp (I.jt b hb) with e | hb
 .rw [e];exact I.free
 .obtain ⟨_,o,ho,_⟩:=I.ok.jT.mem hb;exact I.base.free b o ho (I.ok.Ql b hb) fun z=>I.ok.w6 b z hb
theorem Inv.step {g':Array GenState} {t':Nat} {d':Drawn} {ch:List Qz} (I:Inv X ti Y H s)
  (SD:∀ b∈ch,(b∈X.ex\/X.ZZ.heap.objs.size<=b)/\b≠X.env.locals/\(∀ x c,X.env.cells.lookup x=some c->c≠b)/\∀ p∈X.pn++ti,p.1≠b)
  (keep:∀ b o,b≠X.env.locals->b ∉ X.fs->b ∉ ch->s.heap.get? b=some o->H b=none->h'.get? b=some o)
  (slot:∀ b o,b≠X.env.locals->b∈X.fs->b ∉ ch->s.heap.get? b=some o->H b=none->∃ sl,h'.get? b=some { o with slots:=sl }) (free:∀ b o,b ∉ ch->s.heap.get? b=some o->H b=none->H' b=none)
  (there:∀ b o,b ∉ ch->s.heap.get? b=some o->∃ o',h'.get? b=some o')
  (ou:∀ b xs,H b=some (.tup xs)->H' b=some (.tup xs)) (nB:∀ b o u,H b=some (.RU o u)->H' b=some (.RU o u)) (qv:∀ b ps,H b=some (.TC ps)->∃ more,H' b=some (.TC (ps++more)))
  (ns:∀ m,s.heap.Ns X.env.locals m->h'.Ns X.env.locals m) (IT:O6 X.prog X.w H' h') (hg:AllBare g') :
  Inv X ti Y H' { s with heap:=h',gens:=g',drawn:=d',toks:=t' }:=by
 have UQ:∀ b o,X.ZZ.heap.get? b=some o->b≠X.env.locals:=fun b o e=>L9 (LQ (LM e) I.ok.above);have SF:∀ b o,X.ZZ.heap.get? b=some o->b ∉ X.ex->b ∉ ch:=fun b o e hx hb=>by
  rcases (SD b hb).1 with z | z
  .exact hx z
  .exact absurd (LQ (LM e) z) (Mn _)
 have cellK:∀ x c,X.env.cells.lookup x=some c->∀ v,s.heap.IsCell c v->h'.IsCell c v:=fun x c e v ⟨o,ho,hd⟩=>by
  have Vo:c ∉ ch:=fun z=>(SD c z).2.2.1 x c e rfl;by_cases hc:c∈X.fs
  .obtain ⟨sl,q⟩:=slot c o (I.RX x c e) hc Vo ho (I.cH x c e);exact ⟨_,q,hd⟩
  .exact ⟨o,keep c o (I.RX x c e) hc Vo ho (I.cH x c e),hd⟩
 refine ⟨I.ok,I.os,hg,⟨fun b o e n hb hx=>?_,fun b o e n hb hx=>?_,fun b o e n hx=>?_,fun b o e hx=>?_,fun b xs e=>ou b xs (I.base.ou b xs e),fun b o xs e=>nB b o xs (I.base.nB b o xs e),fun b ps e=>?_⟩,?_,fun x c e=>?_,?_,fun x c e=>?_,fun p hp=>?_,IT,I.len⟩
 .exact keep b o (UQ b o e) hb (SF b o e hx) (I.base.keep b o e n hb hx) (I.base.free b o e n hx)
 .obtain ⟨sl,e1⟩:=I.base.slot b o e n hb hx;obtain ⟨sl',e2⟩:=slot b _ (UQ b o e) hb (SF b o e hx) e1 (I.base.free b o e n hx);exact ⟨sl',e2⟩
 .obtain ⟨o',e1⟩:=I.base.there b o e hx;exact free b o' (SF b o e hx) e1 (I.base.free b o e n hx)
 .obtain ⟨o',e1⟩:=I.base.there b o e hx;exact there b o' (SF b o e hx) e1
 .obtain ⟨m1,e1⟩:=I.base.qv b ps e;obtain ⟨m2,e2⟩:=qv b _ e1;exact ⟨m1++m2,by rw [e2,Array.append_assoc]⟩
 .obtain ⟨m,hn,hl⟩:=I.loc;refine ⟨m,ns m hn,fun i x v e1 e2 e3=>?_⟩;obtain ⟨u,r,l⟩:=hl i x v e1 e2 e3;refine ⟨u,r,?_⟩;rcases l with l | ⟨k,c,e,z⟩
  .exact .inl l
  .exact .inr ⟨k,c,e,cellK x c e _ z⟩
 .obtain ⟨v,z⟩:=I.cell x c e;exact ⟨v,cellK x c e v z⟩
 .obtain ⟨m,⟨o,_,_,ho,_⟩,_⟩:=I.loc;exact free _ o (fun z=>(SD _ z).2.1 rfl) ho I.free
 .obtain ⟨v,o,ho,hd⟩:=I.cell x c e;exact free c o (fun z=>(SD c z).2.2.1 x c e rfl) ho (I.cH x c e)
 .obtain ⟨e,n,ne,nf,d⟩:=I.pin p hp;have Vo:p.1 ∉ ch:=fun z=>(SD p.1 z).2.2.2 p hp rfl;exact ⟨keep p.1 p.2 ne nf Vo e n,free p.1 p.2 Vo e n,ne,nf,d⟩
theorem Inv.un {t':Nat} (I:Inv X ti Y H s) (u:Un X.fs [] H H' s.heap h') (IT:O6 X.prog X.w H' h'):Inv X ti Y H' { s with heap:=h',toks:=t' }:=by
 obtain ⟨m,⟨o,es,ep,ho,r⟩,_⟩:=id I.loc;obtain ⟨sl,hL⟩:=u.any ho I.free (by simp)
 exact I.step (g':=s.gens) (d':=s.drawn) (ch:=[]) (fun _ z=>nomatch z) (fun b o _ hb _ e n=>u.keep b o e n hb (by simp)) (fun b o _ hb _ e n=>u.slot b o e n hb (by simp)) (fun b o _ e n=>u.free b o e n (by simp)) (fun b o _ e=>u.there b o e (by simp)) u.ou u.nB u.qv (fun m' hm=>by
  obtain ⟨o',Vp,Qm,QQ,r'⟩:=hm;rw [ho] at QQ;cases QQ
  exact ⟨_,Vp,Qm,hL,r'⟩) IT I.bare
theorem Inv.call {g':Array GenState} {t':Nat} {d':Drawn} {ch:List Qz} (I:Inv X ti Y H s) (u:Un (Oj X.stack) ch H H' s.heap h') (IT:O6 X.prog X.w H' h') (hg:AllBare g')
  (SD:∀ b∈ch,(b∈X.ex\/X.ZZ.heap.objs.size<=b)/\b≠X.env.locals/\(∀ x c,X.env.cells.lookup x=some c->c≠b)/\∀ p∈X.pn++ti,p.1≠b) :
  Inv X ti Y H' { s with heap:=h',gens:=g',drawn:=d',toks:=t' }:=by
 obtain ⟨m,⟨o,es,ep,ho,r⟩,_⟩:=id I.loc;obtain ⟨sl,hL⟩:=u.any ho I.free fun z=>(SD _ z).2.1 rfl
 exact I.step (ch:=ch) SD (fun b o hL hb hc e n=>u.keep b o e n (fun z=>(LJ.mp (I.jt b z)).elim hL hb) hc) (fun b o _ _ hc e n=>u.any e n hc) (fun b o hc e n=>u.free b o e n hc) (fun b o hc e=>u.there b o e hc) u.ou u.nB u.qv (fun m' hm=>by
  obtain ⟨o',Vp,Qm,QQ,r'⟩:=hm;rw [ho] at QQ;cases QQ
  exact ⟨_,Vp,Qm,hL,r'⟩) IT hg
theorem Inv.turned {t':Nat} {it:Qz} (I:Inv X ti Y H s) (k:∀ b o,b≠it->s.heap.get? b=some o->h'.get? b=some o) (hn:H it=none) (hL:it≠X.env.locals)
  (h1:it∈X.ex\/X.ZZ.heap.objs.size<=it) (h2:∀ x c,X.env.cells.lookup x=some c->c≠it) (h3:∀ p∈X.pn++ti,p.1≠it):Inv X ti Y H { s with heap:=h',toks:=t' }:=by
 have ZH:∀ b u,H b=some u->b≠it:=fun b u e z=>by rw [z,hn] at e;cases e
 refine I.step (g':=s.gens) (d':=s.drawn) (ch:=[it]) (fun b hb=>?_) (fun b o _ _ hc e _=>k b o (fun z=>hc (by simp [z])) e) (fun b o _ _ hc e _=>⟨o.slots,k b o (fun z=>hc (by simp [z])) e⟩) (fun _ _ _ _ n=>n)
  (fun b o hc e=>⟨o,k b o (fun z=>hc (by simp [z])) e⟩) (fun _ _ e=>e) (fun _ _ _ e=>e) (fun b ps e=>⟨#[],by rw [e];simp⟩) (fun m hm=>?_) (fun b u e=>?_) I.bare
 .have e:b=it:=by simpa using hb
  subst e;exact ⟨h1,hL,h2,h3⟩
 .obtain ⟨o,es,ep,ho,r⟩:=hm;exact ⟨o,es,ep,k _ o (Ne.symm hL) ho,r⟩
 .refine (I.IT b u e).jf (fun c v hc q=>k c v ?_ q) (fun _ q=>q) fun _ _ q=>q;rcases hc with z | z
  .rw [z];exact ZH b u e
  .exact ZH c _ z
theorem Inv.tok (I:Inv X ti Y H s) (t:Nat):Inv X ti Y H { s with toks:=t }:=I.un (h':=s.heap) (t':=t) Un.refl I.IT
theorem Inv.kept (I:Inv X ti Y H s) (k:∀ b u,s.heap.get? b=some u->h'.get? b=some u):Inv X ti Y H { s with heap:=h',toks:=t' }:=I.un (Un.kept k) (I.IT.kept k)
theorem Inv.laid (I:Inv X ti Y H s) (k:∀ b u,s.heap.get? b=some u->h'.get? b=some u) (hp:s.heap.objs.size<=a) (new:aI X.prog X.w (upd H a o) h' a o) :
  Inv X ti Y (upd H a o) { s with heap:=h',toks:=t' }:=I.un (Un.laid k hp (I.IT.fresh hp)) (I.IT.laid k hp new)
theorem Inv.write (I:Inv X ti Y H s) (mu:Vl (H x)) (he:e=x\/H e=some (.own x)) (k:∀ b u,b≠e->s.heap.get? b=some u->h'.get? b=some u) (UP:∃ u,h'.get? e=some u)
  (new:aI X.prog X.w (upd H x o) h' x o):Inv X ti Y (upd H x o) { s with heap:=h',toks:=t' }:=I.un (Un.write mu he k UP) (I.IT.write mu he k UP new)
theorem Inv.cB (I:Inv X ti Y H s) (h:∀ p∈pins',s.heap.get? p.1=some p.2/\H p.1=none/\p.1≠X.env.locals/\p.1 ∉ X.fs/\∀ v,p.2.data≠.cell v):Inv X pins' Y H s :=
 ⟨I.ok,I.os,I.bare,I.base,I.loc,I.cell,I.free,I.cH,fun p hp=>(Mc.mp hp).elim (fun z=>I.pin p (LY _ z)) (h p),I.IT,I.len⟩
theorem pE {N:List Str} (hN:N.Nodup) {i j:Nat} {x:Str} (a:N[i]?=some x) (b:N[j]?=some x):i=j:=by obtain ⟨h1,e1⟩:=Ls.mp a;obtain ⟨h2,e2⟩:=Ls.mp b;exact (List.getElem_inj hN).mp (e1.trans e2.symm)
theorem sR {M:Model} {A:Around} {E:Qy} {i:Nat} {x:Str} {v:V} {u:Qj} {Q:Unit->Qx->Prop} (I:Inv X ti Y H s) (hN:X.N.Nodup) (hi:X.N[i]?=some x) (hx:Loc X.env.scope x) (r:RelV v u)
  (h:∀ s',Inv X ti (Y.set i (some v)) H s'->(∃ a,Heap.SameBut a s.heap s'.heap/\(a=X.env.locals\/X.env.cells.lookup x=some a))->Q () s') (hf:X.fn x=true\/X.env.scope.names.lookup x=some .local:=by first | exact .inl rfl | exact .inr rfl | assumption):wpAny M A (storeName X.env x u) Q E s:=by
 obtain ⟨m,hn,hl⟩:=id I.loc;have RY:(X.env.scope.kind==.class||(X.env.scope.kind==.module&&X.env.locals != X.env.globals))=false:=by rw [I.ok.kind];rfl
 have ZI:i < Y.length:=by rw [I.len];exact (Ls.mp hi).1
 have RX:=I.RX;have tracked:∀ {a:Qz} {h':Heap},(∃ o,s.heap.get? a=some o/\H a=none)->Heap.SameBut a s.heap h'->O6 X.prog X.w H h':=fun {a h'} ha hs b ob e=>by
  obtain ⟨_,_,Q4⟩:=ha;refine (I.IT b ob e).jf (fun c w' hc q=>(hs.2 c ?_).trans q) (fun _ q=>q) fun _ _ q=>q;rintro rfl;rcases hc with rfl | hc
  .rw [Q4] at e;cases e
  .rw [Q4] at hc;cases hc
 rcases hx with hk | hk
 .refine wpAny_storeName_local hk hn (fun h' Vq hs=>?_) RY;obtain ⟨oL,_,_,Ug,_⟩:=id hn;refine h _ ⟨I.ok,I.os,I.bare,⟨fun b o e n hb hx=>?_,fun b o e n hb hx=>?_,I.base.free,fun b o e hx=>?_,I.base.ou,I.base.nB,I.base.qv⟩,⟨_,Vq,fun j y v' e1 e2 e3=>?_⟩,fun y c e=>?_,I.free,I.cH,fun p hp=>?_,tracked ⟨oL,Ug,I.free⟩ hs,by simpa using I.len⟩ ⟨_,hs,.inl rfl⟩
  .exact (hs.2 b (L9 (LQ (LM e) I.ok.above))).trans (I.base.keep b o e n hb hx)
  .obtain ⟨sl,e1⟩:=I.base.slot b o e n hb hx;exact ⟨sl,(hs.2 b (L9 (LQ (LM e) I.ok.above))).trans e1⟩
  .obtain ⟨o',e1⟩:=I.base.there b o e hx;exact ⟨o',(hs.2 b (L9 (LQ (LM e) I.ok.above))).trans e1⟩
  .by_cases hj:j=i
   .subst hj;rw [hi] at e1;cases e1;rw [LR ZI] at e2;cases e2;exact ⟨u,r,.inl ⟨hk,by simp⟩⟩
   .rw [Lv (Ne.symm hj)] at e2;obtain ⟨u',r',q⟩:=hl j y v' e1 e2 e3;refine ⟨u',r',?_⟩;rcases q with ⟨k,e⟩ | ⟨k,c,e,z⟩
    .refine .inl ⟨k,?_⟩;have:y≠x:=fun e=>hj (pE hN e1 (e▸hi));simp [this,e]
    .exact .inr ⟨k,c,e,z.sameBut hs (RX y c e)⟩
  .obtain ⟨w',z⟩:=I.cell y c e;exact ⟨w',z.sameBut hs (RX y c e)⟩
  .obtain ⟨e,n,ne,nf,d⟩:=I.pin p hp;exact ⟨(hs.2 p.1 ne).trans e,n,ne,nf,d⟩
 .have SG:X.fn x=true:=by
   rcases hf with z | z
   .exact z
   .rw [z] at hk;cases hk
  obtain ⟨c,hc⟩:=I.ok.has x (.inl hk);obtain ⟨w',z⟩:=I.cell x c hc;refine wpAny_storeName_cell I.ok.kind hk hc z (fun h' OT hs=>?_);obtain ⟨oc,UR,XO⟩:=id z;refine h { s with heap:=h' } ⟨I.ok,I.os,I.bare,⟨fun b o e n hb hx=>?_,fun b o e n hb hx=>?_,I.base.free,fun b o e hx=>?_,I.base.ou,I.base.nB,I.base.qv⟩,⟨m,hn.sameBut hs (Ne.symm (RX x c hc)),fun j y v' e1 e2 e3=>?_⟩,fun y c' e=>?_,I.free,I.cH,fun p hp=>?_,tracked ⟨oc,UR,I.cH x c hc⟩ hs,by simpa using I.len⟩ ⟨c,hs,.inr hc⟩
  .exact (hs.2 b (L9 (LQ (LM e) (I.ok.Sz x c SG hc)))).trans (I.base.keep b o e n hb hx)
  .obtain ⟨sl,e1⟩:=I.base.slot b o e n hb hx;exact ⟨sl,(hs.2 b (L9 (LQ (LM e) (I.ok.Sz x c SG hc)))).trans e1⟩
  .obtain ⟨o',e1⟩:=I.base.there b o e hx;exact ⟨o',(hs.2 b (L9 (LQ (LM e) (I.ok.Sz x c SG hc)))).trans e1⟩
  .by_cases hj:j=i
   .subst hj;rw [hi] at e1;cases e1;rw [LR ZI] at e2;cases e2;exact ⟨u,r,.inr ⟨.inl hk,c,hc,OT⟩⟩
   .rw [Lv (Ne.symm hj)] at e2;obtain ⟨u',r',q⟩:=hl j y v' e1 e2 e3;refine ⟨u',r',?_⟩;rcases q with q | ⟨k,c',e,z'⟩
    .exact .inl q
    .refine .inr ⟨k,c',e,z'.sameBut hs ?_⟩;rintro rfl;exact hj (pE hN e1 (I.ok.inj _ _ _ e hc▸hi))
  .by_cases ZK:c'=c
   .subst ZK;exact ⟨_,OT⟩
   .obtain ⟨w2,z2⟩:=I.cell y c' e;exact ⟨w2,z2.sameBut hs ZK⟩
  .obtain ⟨e,n,ne,nf,d⟩:=I.pin p hp;refine ⟨(hs.2 p.1 ?_).trans e,n,ne,nf,d⟩;intro q;rw [q,UR] at e;have q':oc=p.2:=Mp e;exact d w' (by rw [<- q'];exact XO)
theorem fi {M:Model} {A:Around} {E:Qy} {i:Nat} {x:Str} {v:V} {u:Qj} {Q:Unit->Qx->Prop} (I:Inv X ti Y H s) (hN:X.N.Nodup) (hi:X.N[i]?=some x) (hx:Loc X.env.scope x) (r:RelV v u)
  (h:∀ s',Inv X ti (Y.set i (some v)) H s'->Q () s') (hf:X.fn x=true\/X.env.scope.names.lookup x=some .local:=by first | exact .inl rfl | exact .inr rfl | assumption):wpAny M A (storeName X.env x u) Q E s :=
 sR I hN hi hx r (fun s' I' _=>h s' I') hf
theorem Inv.Gz (I:Inv X ti Y H s) (ho:s'.os=s.os) (u:Un (Oj X.stack) ch H H' s.heap s'.heap) (IT:O6 X.prog X.w H' s'.heap) (hg:AllBare s'.gens)
  (SD:∀ b∈ch,(b∈X.ex\/X.ZZ.heap.objs.size<=b)/\b≠X.env.locals/\(∀ x c,X.env.cells.lookup x=some c->c≠b)/\∀ p∈X.pn++ti,p.1≠b):Inv X ti Y H' s':=by obtain ⟨h',g',d',t',o'⟩:=s';have e:o'=s.os:=ho;subst e;exact I.call (g':=g') (t':=t') (d':=d') u IT hg SD
end
abbrev XK:=Qj->Option Qz->Hp->Prop
abbrev St:=List (Option V)
abbrev VK:=V->Hp->Prop
abbrev TE:=St->Hp->VK->Prop
abbrev TT:=St->Hp->(Bool->Hp->Prop)->Prop
abbrev TA:=St->Hp->(List V->Hp->Prop)->Prop
structure Ends where
 nx:St->Hp->Prop
 rt:VK
 bk:St->Hp->Prop:=fun _ _=>False
 ct:St->Hp->Prop:=fun _ _=>False
abbrev TS:=Ends->St->Hp->Prop
def EP (X:Cx) (ti:Qw) (Y:St) (Q:VK) (u:Qj) (s':Qx):Prop:=∃ v H',Inv X ti Y H' s'/\RelV v u/\Q v H'
def TP (X:Cx) (ti:Qw) (Y:St) (Q:Bool->Hp->Prop) (b:Bool) (s':Qx):Prop:=∃ H',Inv X ti Y H' s'/\Q b H'
def AP (X:Cx) (ti:Qw) (Y:St) (Q:List V->Hp->Prop) (us:List Qj) (s':Qx):Prop:=∃ vs H',Inv X ti Y H' s'/\Vals vs us/\Q vs H'
def SP (X:Cx) (ti:Qw) (D:Ends) (f:Flow) (s':Qx):Prop :=
 match f with
 | .next=>∃ Z' H',Inv X ti Z' H' s'/\D.nx Z' H'
 | .brk=>∃ Z' H',Inv X ti Z' H' s'/\D.bk Z' H'
 | .cont=>∃ Z' H',Inv X ti Z' H' s'/\D.ct Z' H'
 | .ret u=>∃ v Z' H',Inv X ti Z' H' s'/\RelV v u/\D.rt v H'
def PE (X:Cx) (e:Expr) (t:TE):Prop :=
 ∀ (ti:Qw) (s:Qx) (Y:St) (H:Hp) (Q:VK),Inv X ti Y H s->t Y H Q->wMY X (eval e X.env) (EP X ti Y Q) X.xe s
def PT (X:Cx) (e:Expr) (t:TT):Prop :=
 ∀ (ti:Qw) (s:Qx) (Y:St) (H:Hp) (Q:Bool->Hp->Prop),Inv X ti Y H s->t Y H Q->wMY X (isTrue e X.env (eval e X.env)) (TP X ti Y Q) X.xe s
def PW (X:Cx) (e:Expr) (t:TT):Prop :=
 ∀ (whole:Sem Qj) (ti:Qw) (s:Qx) (Y:St) (H:Hp) (Q:Bool->Hp->Prop),Inv X ti Y H s->t Y H Q->wMY X (isTrue e X.env whole) (TP X ti Y Q) X.xe s
theorem PW.pt (h:PW X e t):PT X e t:=h _
def PA (X:Cx) (es:List Expr) (t:TA):Prop :=
 ∀ (pos:Pos) (ti:Qw) (s:Qx) (Y:St) (H:Hp) (Q:List V->Hp->Prop),Inv X ti Y H s->t Y H Q->wMY X (spliced (backTo pos (starEach es X.env))) (AP X ti Y Q) X.xe s
def PS (X:Cx) (st:Stmt) (t:TS):Prop :=
 ∀ (ti:Qw) (s:Qx) (Y:St) (H:Hp) (D:Ends),Inv X ti Y H s->t D Y H->wMY X (exec st X.env) (SP X ti D) X.xe s
def QG (X:Cx) (st:List Stmt) (t:TS):Prop :=
 ∀ (ti:Qw) (s:Qx) (Y:St) (H:Hp) (D:Ends),Inv X ti Y H s->t D Y H->wMY X (execs st X.env) (SP X ti D) X.xe s
theorem Oq {W:Type} {t:Sem W} {Q Q':W->Qx->Prop} {M:Model} {A:Around} {E:Qy} {s:Qx} (h:wpAny M A t Q E s) (hQ:∀ a s,Q a s->Q' a s):wpAny M A t Q' E s:=L6 h hQ fun _ _ x=>x
section
variable {X:Cx}
def fJ (i:Nat):TE:=fun Y H Q=>∃ v,Y[i]?=some (some v)/\Q v H
def tC (v:V):TE:=fun _ H Q=>Q v H
theorem dZ (hN:X.N[i]?=some x) (hv:Qi X.env.scope x) (hd:Qv x:=by decide) (Pt:Qk x:=by decide):PE X (.Name x pos) (fJ i):=by
 intro ti s Y H Q I h;obtain ⟨v,e,h⟩:=h;obtain ⟨m,hn,hl⟩:=I.loc;obtain ⟨u,r,l⟩:=hl i x v hN e hv;have fin:EP X ti Y Q u s:=⟨v,H,I,r,h⟩;rcases l with ⟨hk,hm⟩ | ⟨hk,c,hc,TF⟩
 .exact wpAny_Name (wpAny_loadName_local I.ok.kind hk hn hm fin) hd
 .rcases hk with hk | hk
  .exact wpAny_Name (wpAny_loadName_cell I.ok.kind hk hc TF fin) hd
  .exact wpAny_Name (wpAny_loadName_free I.ok.kind hk hc TF fin Pt) hd
theorem CZ {i j pos}:PE X (.Constant (.int i) j pos) (tC (.int i)):=fun _ _ _ H _ I h=>wpAny_Constant_int ⟨.int i,H,I.tok _,⟨_,rfl⟩,h⟩
theorem Il {b j pos}:PE X (.Constant (.bool b) j pos) (tC (.bl b)):=fun _ _ _ H _ I h=>Constant_bool ⟨.bl b,H,I,rfl,h⟩
theorem EG {j pos}:PE X (.Constant .none j pos) (tC .non):=fun _ _ _ H _ I h=>Constant_none ⟨.non,H,I,rfl,h⟩
theorem FD {x j pos}:PE X (.Constant (.str x) j pos) (tC (.str x)):=fun _ _ _ H _ I h=>Calls.Constant_str ⟨.str x,H,I.tok _,⟨_,rfl⟩,h⟩
def Gl (X:Cx) (x:Str):Prop:=X.env.kindOf x=some .globalImplicit
theorem cO (I:Inv X ti Y H s) (hg:Gl X x) (hm:X.mg x=some u) (h:Q u s)
  (hd:Qv x:=by decide):wMY X (eval (.Name x pos) X.env) Q E s :=
 NW I.ok.kind hg (Calls.loadGlobal_global (by rw [I.ok.glob];exact I.mod.glob.keeps I.bk) hm h) hd
theorem jV (I:Inv X ti Y H s) (hg:Gl X x) (hm:X.mg x=none) (hv:bootBuiltins x=some u) (h:Q u s)
  (hn:x ≠ "__name__" := by decide) (hd:Qv x:=by decide):wMY X (eval (.Name x pos) X.env) Q E s:=by obtain ⟨mb,h1,h2⟩:=I.mod.blt;exact NW I.ok.kind hg (Calls.loadGlobal_builtin (by rw [I.ok.glob];exact I.mod.glob.keeps I.bk) hm (by rw [I.ok.blt];exact h1.keeps I.bk) ((h2 x hn).trans hv) h) hd
theorem rh (hg:Gl X x) (hm:X.mg x=some u) (r:RelV v u) (hd:Qv x:=by decide):PE X (.Name x pos) (tC v) :=
 fun _ _ _ H _ I h=>cO I hg hm ⟨v,H,I,r,h⟩ hd
theorem Bc (hg:Gl X x) (hm:X.mg x=none) (hv:bootBuiltins x=some u) (r:RelV v u) (hn:x ≠ "__name__" := by decide) (hd:Qv x:=by decide):PE X (.Name x pos) (tC v) :=
 fun _ _ _ H _ I h=>jV I hg hm hv ⟨v,H,I,r,h⟩ hn hd
variable {a b:Expr} {ta tb:TE} {pos:Pos}
def tB (t:TE):TT:=fun Y H Q=>t Y H fun x H1=>∃ c,x=.bl c/\Q c H1
theorem CS {e:Expr} {t:TE} (h:PE X e t) (he:∀ whole,isTrue e X.env whole=(do let v<-whole;standAt e.pos;holding [v] (truthy v)):=by intro _;rfl):PT X e (tB t):=by intro ti s Y H Q I hw;refine isTrue_plain (Oq (h ti s Y H _ I hw) fun v s1 ⟨x,H1,I1,r1,q1⟩=>?_) (he _);obtain ⟨d,rfl,q⟩:=q1;cases r1;exact MI ⟨H1,I1,q⟩
variable {tA S8:TT} {rest:List Expr}
def JH (t u:TT):TT:=fun Y H Q=>t Y H fun c H1=>if c=true then u Y H1 Q else Q false H1
def XQ (t u:TT):TT:=fun Y H Q=>t Y H fun c H1=>if c=true then Q true H1 else u Y H1 Q
def Jc (t:TT):TT:=fun Y H Q=>t Y H fun c H1=>Q (!c) H1
theorem S9 (ha:PT X a tA):PW X (.BoolOp .And [a] pos) tA:=by
 intro wh ti s Y H Q I h;refine isTrue_and (Oq (ha ti s Y H Q I h) fun c s1 e=>?_);cases c with
 | true=>exact isTrue_and_nil e
 | false=>exact e
theorem Uh (ha:PT X a tA):PW X (.BoolOp .Or [a] pos) tA:=by
 intro wh ti s Y H Q I h;refine isTrue_or (Oq (ha ti s Y H Q I h) fun c s1 e=>?_);cases c with
 | false=>exact isTrue_or_nil e
 | true=>exact e
theorem Ui (ha:PT X a tA) (hb:PW X (.BoolOp .And (b :: rest) pos) S8):PW X (.BoolOp .And (a :: b :: rest) pos) (JH tA S8):=by
 intro wh ti s Y H Q I h;refine isTrue_and (Oq (ha ti s Y H _ I h) fun c s1 ⟨H1,I1,q1⟩=>?_);cases c with
 | true=>exact hb wh ti s1 Y H1 Q I1 q1
 | false=>exact ⟨H1,I1,q1⟩
theorem Vr (ha:PT X a tA) (hb:PW X (.BoolOp .Or (b :: rest) pos) S8):PW X (.BoolOp .Or (a :: b :: rest) pos) (XQ tA S8):=by
 intro wh ti s Y H Q I h;refine isTrue_or (Oq (ha ti s Y H _ I h) fun c s1 ⟨H1,I1,q1⟩=>?_);cases c with
 | true=>exact ⟨H1,I1,q1⟩
 | false=>exact hb wh ti s1 Y H1 Q I1 q1
theorem Dw (ha:PT X a tA):PT X (.UnaryOp .Not a pos) (Jc tA):=by intro ti s Y H Q I h;exact isTrue_not (ha ti s Y H (fun c H1=>Q (!c) H1) I h)
def zO (ta tb:TE):TE:=fun Y H Q=>ta Y H fun x H1=>∃ c,x=.bl c/\if c=true then tb Y H1 Q else Q (.bl false) H1
def HW (ta tb:TE):TE:=fun Y H Q=>ta Y H fun x H1=>∃ c,x=.bl c/\if c=true then Q (.bl true) H1 else tb Y H1 Q
def z4 (ta:TE):TE:=fun Y H Q=>ta Y H fun x H1=>∃ c,x=.bl c/\Q (.bl (!c)) H1
theorem Dr {op} (h:PE X a t):PE X (.BoolOp op [a] pos) t:=fun ti s Y H Q I hw=>BoolOp_one (h ti s Y H Q I hw)
theorem Cv (ha:PE X a ta) (hb:PE X (.BoolOp .And (b :: rest) pos) tb):PE X (.BoolOp .And (a :: b :: rest) pos) (zO ta tb):=by
 intro ti s Y H Q I h;refine BoolOp_and (Oq (ha ti s Y H _ I h) fun v s1 ⟨x,H1,I1,r1,q1⟩=>?_);obtain ⟨c,rfl,q1⟩:=q1;cases r1;refine MI ?_;cases c with
 | true=>exact hb ti s1 Y H1 Q I1 q1
 | false=>exact ⟨.bl false,H1,I1,rfl,q1⟩
theorem GW (ha:PE X a ta) (hb:PE X (.BoolOp .Or (b :: rest) pos) tb):PE X (.BoolOp .Or (a :: b :: rest) pos) (HW ta tb):=by
 intro ti s Y H Q I h;refine BoolOp_or (Oq (ha ti s Y H _ I h) fun v s1 ⟨x,H1,I1,r1,q1⟩=>?_);obtain ⟨c,rfl,q1⟩:=q1;cases r1;refine MI ?_;cases c with
 | false=>exact hb ti s1 Y H1 Q I1 q1
 | true=>exact ⟨.bl true,H1,I1,rfl,q1⟩
theorem FN (ha:PE X a ta):PE X (.UnaryOp .Not a pos) (z4 ta):=by intro ti s Y H Q I h;refine UnaryOp_ (Oq (ha ti s Y H _ I h) fun v s1 ⟨x,H1,I1,r1,q1⟩=>?_);obtain ⟨c,rfl,q1⟩:=q1;cases r1;exact not_of (MI ⟨.bl (!c),H1,I1,rfl,q1⟩)
def XR (t:TT) (ta tb:TE):TE:=fun Y H Q=>t Y H fun c H1=>if c=true then ta Y H1 Q else tb Y H1 Q
theorem wN {c:Expr} (hc:PT X c tA) (ha:PE X a ta) (hb:PE X b tb):PE X (.IfExp c a b pos) (XR tA ta tb):=by
 intro ti s Y H Q I h;refine wpAny_IfExp (Oq (hc ti s Y H _ I h) fun d s1 ⟨H1,I1,q1⟩=>?_);cases d with
 | true=>exact ha ti s1 Y H1 Q I1 q1
 | false=>exact hb ti s1 Y H1 Q I1 q1
end
def OO (K:Fg) (H:Hp) (a:Qz) (xs:List V):Prop :=
 Rd H a (.lst xs) \/
  ∃ (o:Obj) (its:Array Qj) (n:Nat),K.lookup a=some o/\o.cls=.type "list" /\ o.dict=none/\o.data=.seq its n/\its.size<=sizeLine/\Vals xs its.toList
def OU (K:Fg) (H:Hp) (a:Qz) (xs:List V):Prop :=
 Rd H a (.tup xs) \/
  ∃ (o:Obj) (its:Array Qj) (n:Nat),K.lookup a=some o/\o.cls=.type "tuple" /\ o.data=.seq its n/\its.size<=sizeLine/\Vals xs its.toList
noncomputable def K5:Qj->Option V
 | .none=>some .non
 | .bool b=>some (.bl b)
 | .int i _=>some (.int i)
 | .str x _=>some (.str x)
 | .bytes b _=>some (.Uc b)
 | .float b _=>some (.XM b)
 | .ref a=>some (.ref a)
 | .type n=>some (.ty n)
 | _=>none
theorem RelV.abs (r:RelV x u):K5 u=some x:=by
 cases x with
 | non=>cases r;rfl
 | bl _=>cases r;rfl
 | int _=>obtain ⟨t,rfl⟩:=r;rfl
 | str _=>obtain ⟨t,rfl⟩:=r;rfl
 | Uc _=>obtain ⟨t,rfl⟩:=r;rfl
 | XM _=>obtain ⟨t,rfl⟩:=r;rfl
 | ref _=>cases r;rfl
 | ty _=>cases r;rfl
theorem RelV.inj {x y:V} {u:Qj} (r:RelV x u) (q:RelV y u):x=y:=Mp (r.abs.symm.trans q.abs)
theorem Vals.inj:∀ {xs ys:List V} {us:List Qj},Vals xs us->Vals ys us->xs=ys
 | _,_,_,.nil,.nil=>rfl
 | _,_,_,.cons r t,.cons r' t'=>by rw [r.inj r',Vals.inj t t']
section
variable {X:Cx} {ti:Qw} {Y:St} {H:Hp} {s:Qx} {a:Qz} {xs ys:List V}
theorem OU.of {K:Fg} (h:H a=some (.tup xs)):OU K H a xs:=.inl (.inl h)
theorem Inv.list (I:Inv X ti Y H s) (h:OO X.K H a xs):∃ its:List Qj,Vals xs its/\PlainL s.heap a its.toArray/\xs.length<=sizeLine:=by
 rcases h with h | ⟨o,its,n,hk,hc,hd,hs,hz,r⟩
 .obtain ⟨z,its,n,r,e⟩:=h.ok I.IT;exact ⟨its,r,⟨_,n,e,rfl,rfl,rfl⟩,z⟩
 .refine ⟨its.toList,r,⟨o,n,I.OL a o hk,hc,hd,by simpa using hs⟩,?_⟩;have e:=r.length;simp only [ML] at e;lia
theorem Inv.tuple (I:Inv X ti Y H s) (h:OU X.K H a xs):∃ its:List Qj,Vals xs its/\IsTup s.heap a its.toArray/\xs.length<=sizeLine:=by
 rcases h with h | ⟨o,its,n,hk,hc,hs,hz,r⟩
 .obtain ⟨z,its,r,p⟩:=h.ok I.IT;exact ⟨its,r,p,z⟩
 .refine ⟨its.toList,r,⟨o,I.OL a o hk,hc,n,by simpa using hs⟩,?_⟩;have e:=r.length;simp only [ML] at e;lia
theorem Inv.xE (I:Inv X ti Y H s) (h:OO X.K H a xs) (h':OO X.K H a ys):xs=ys:=by
 obtain ⟨its,r,⟨o,n,e,_,_,d⟩,_⟩:=I.list h;obtain ⟨its',r',⟨o',n',e',_,_,d'⟩,_⟩:=I.list h';rw [e] at e';cases e';rw [d] at d';injection d' with d1 _;have:its=its':=by simpa using congrArg Array.toList d1
 subst this;exact r.inj r'
theorem Inv.rN (I:Inv X ti Y H s) (h:OU X.K H a xs) (h':OU X.K H a ys):xs=ys:=by
 obtain ⟨its,r,⟨o,e,_,n,d⟩,_⟩:=I.tuple h;obtain ⟨its',r',⟨o',e',_,n',d'⟩,_⟩:=I.tuple h';rw [e] at e';cases e';rw [d] at d';injection d' with d1 _;have:its=its':=by simpa using congrArg Array.toList d1
 subst this;exact r.inj r'
end
abbrev Cx.tH (X:Cx) (E:Qy):Cx:={ X with xe:=E }
abbrev Cx.TH (X:Cx):Cx:=X.tH fun _ _=>False
theorem Cx.Ok.tH {X:Cx} (ok:X.Ok) (E:Qy):(X.tH E).Ok :=
 ⟨ok.mod,ok.kind,ok.glob,ok.blt,ok.above,ok.inj,ok.has,ok.Sz,ok.hd,ok.frames,ok.S5,ok.QM,ok.bs,ok.QO,ok.vU,ok.w6,ok.jT,ok.Ql⟩
theorem Cx.Ok.fD {X:Cx} {E:Qy} (ok:(X.tH E).Ok):X.Ok :=
 ⟨ok.mod,ok.kind,ok.glob,ok.blt,ok.above,ok.inj,ok.has,ok.Sz,ok.hd,ok.frames,ok.S5,ok.QM,ok.bs,ok.QO,ok.vU,ok.w6,ok.jT,ok.Ql⟩
section
variable {X:Cx} {ti:Qw} {Y:St} {H:Hp} {s:Qx} {E:Qy}
theorem Inv.tH (I:Inv X ti Y H s) (E:Qy):Inv (X.tH E) ti Y H s:=⟨I.ok.tH E,I.os,I.bare,I.base,I.loc,I.cell,I.free,I.cH,I.pin,I.IT,I.len⟩
theorem Inv.fD (I:Inv (X.tH E) ti Y H s):Inv X ti Y H s:=⟨I.ok.fD,I.os,I.bare,I.base,I.loc,I.cell,I.free,I.cH,I.pin,I.IT,I.len⟩
theorem SP.fD (h:SP (X.tH E) ti D f s'):SP X ti D f s':=by
 cases f with
 | next=>obtain ⟨Z',H',I,q⟩:=h;exact ⟨Z',H',I.fD,q⟩
 | brk=>obtain ⟨Z',H',I,q⟩:=h;exact ⟨Z',H',I.fD,q⟩
 | cont=>obtain ⟨Z',H',I,q⟩:=h;exact ⟨Z',H',I.fD,q⟩
 | ret u=>obtain ⟨v,Z',H',I,r,q⟩:=h;exact ⟨v,Z',H',I.fD,r,q⟩
theorem QG.TH {st:List Stmt} {t:TS} (h:QG X.TH st t):QG X st t:=fun ti s Y H D I hw =>
 L6 (h ti s Y H D (I.tH _) hw) (fun _ _ q=>q.fD) fun _ _ z=>False.elim z
end
section
variable {X:Cx} {st:Stmt} {rest:List Stmt} {t u:TS} {e:Expr} {te:TE} {pos:Pos}
def vC:TS:=fun D Y H=>D.nx Y H
def zd (t u:TS):TS:=fun D Y H=>t { D with nx:=u D } Y H
theorem A7:QG X [] vC:=fun _ _ Y H _ I h=>MU ⟨Y,H,I,h⟩
theorem xb (h1:PS X st t) (h2:QG X rest u):QG X (st :: rest) (zd t u):=by
 intro ti s Y H D I h;refine Me (Oq (h1 ti s Y H { D with nx:=u D } I h) fun f s1 q=>?_);cases f with
 | next =>
  obtain ⟨Z',H',I',q⟩:=q;exact h2 ti s1 Z' H' D I' q
 | ret v=>exact q
 | brk=>exact q
 | cont=>exact q
theorem z9 (h1:PS X st t):QG X [st] t:=by
 intro ti s Y H D I h;refine Me (Oq (h1 ti s Y H D I h) fun f s1 q=>?_);cases f with
 | next=>exact MU q
 | ret v=>exact q
 | brk=>exact q
 | cont=>exact q
theorem Inv.quiet {ti:Qw} {Y:St} {H:Hp} {s:Qx} (I:Inv X ti Y H s):interactive X.env=false:=by simp [interactive,I.ok.kind]
def wW (te:TE):TS:=fun D Y H=>te Y H fun _ H1=>D.nx Y H1
theorem zN (he:PE X e te) (hs:swapsWith e none pos.line X.env=pure false:=by rfl):PS X (.Expr e pos) (wW te):=by intro ti s Y H D I h;exact wpAny_Expr_any (Oq (he ti s Y H _ I h) fun v s1 ⟨x,H1,I1,r1,q1⟩=>⟨Y,H1,I1,q1⟩) I.quiet hs
def sG (te:TE):TS:=fun D Y H=>te Y H D.rt
theorem Fd (he:PE X e te):PS X (.Return (some e) pos) (sG te):=by intro ti s Y H D I h;exact NB (Oq (he ti s Y H _ I h) fun v s1 ⟨x,H1,I1,r1,q1⟩=>⟨x,Y,H1,I1,r1,q1⟩)
def Ai (c:TT) (t u:TS):TS:=fun D Y H=>c Y H fun b H1=>if b=true then t D Y H1 else u D Y H1
theorem IP {c:Expr} {a b:List Stmt} {tc:TT} (hc:PT X c tc) (ha:QG X a t) (hb:QG X b u):PS X (.If c a b pos) (Ai tc t u):=by
 intro ti s Y H D I h;refine wpAny_If (Oq (hc ti s Y H _ I h) fun d s1 ⟨H1,I1,q1⟩=>?_);cases d with
 | true=>exact ha ti s1 Y H1 D I1 q1
 | false=>exact hb ti s1 Y H1 D I1 q1
def yp:TS:=fun _ _ _=>False
end
abbrev TG:=V->St->Hp->(St->Hp->Prop)->Prop
abbrev Ta:=List V->St->Hp->(St->Hp->Prop)->Prop
def PG (X:Cx) (target:Expr) (t:TG):Prop :=
 ∀ (ti:Qw) (s:Qx) (Y:St) (H:Hp) (v:V) (u:Qj) (Q:St->Hp->Prop),Inv X ti Y H s->RelV v u->t v Y H Q ->
  wMY X (assign target X.env u) (fun _ s'=>∃ Z' H',Inv X ti Z' H' s'/\Q Z' H') X.xe s
def Vs (X:Cx) (ts:List Expr) (t:Ta):Prop :=
 ∀ (ti:Qw) (s:Qx) (Y:St) (H:Hp) (vs:List V) (us:List Qj) (Q:St->Hp->Prop),Inv X ti Y H s->Vals vs us->t vs Y H Q ->
  wMY X (assignInOrder ((assignEach ts X.env).map (·.2)) us) (fun _ s'=>∃ Z' H',Inv X ti Z' H' s'/\Q Z' H') X.xe s
section
variable {X:Cx} {pos:Pos}
def cY (i:Nat):TG:=fun v Y H Q=>Q (Y.set i (some v)) H
theorem kT (hN:X.N.Nodup) (hi:X.N[i]?=some x) (hx:Loc X.env.scope x) (hf:X.fn x=true\/X.env.scope.names.lookup x=some .local:=by first | exact .inl rfl | exact .inr rfl | assumption):PG X (.Name x pos) (cY i):=by intro ti s Y H v u Q I r h;exact wpAny_assign_Name (fi I hN hi hx r (fun s' I'=>⟨_,H,I',h⟩) hf)
def GA:Ta:=fun vs Y H Q=>vs=[]/\Q Y H
def AS (t:TG) (u:Ta):Ta:=fun vs Y H Q=>∃ v r,vs=v :: r/\t v Y H fun Z' H'=>u r Z' H' Q
theorem Au:Vs X [] GA:=by intro ti s Y H vs us Q I r h;obtain ⟨e,h⟩:=h;subst e;cases r;exact assignInOrder_nil ⟨Y,H,I,h⟩
theorem wg {e:Expr} {es:List Expr} {t:TG} {u:Ta} (h1:PG X e t) (h2:Vs X es u)
  (hs:(assignEach (e :: es) X.env).map (·.2)=assign e X.env :: (assignEach es X.env).map (·.2):=by rfl):Vs X (e :: es) (AS t u):=by
 intro ti s Y H vs us Q I r h;obtain ⟨v,vr,e1,h⟩:=h;subst e1;cases r with
 | cons r rr =>
  rw [hs];refine assignInOrder_cons (Oq (h1 ti s Y H _ _ _ I r h) fun _ s1 ⟨Z1,H1,I1,q1⟩=>?_);exact h2 ti s1 Z1 H1 _ _ Q I1 rr q1
def Jn (K:Fg) (n:Nat) (t:Ta):TG:=fun v Y H Q=>∃ a xs,v=.ref a/\OU K H a xs/\xs.length=n/\t xs Y H Q
theorem FT (hc:X.calm=true) (h:Vs X es t)
  (hn:(assignEach es X.env).length=n:=by rfl) (OW:(assignEach es X.env).findIdx? (·.1)=none:=by rfl):PG X (.Tuple es k pos) (Jn X.K n t):=by intro ti s Y H v u Q I r hw;obtain ⟨a,xs,e1,hq,hl,hw⟩:=hw;subst e1;cases r;obtain ⟨its,rv,ht,hz⟩:=I.tuple hq;refine assign_Tuple_tuple (I.ok.hd hc) ht (by simp [hn,<-hl,rv.length]) OW fun h' hx=>?_;have I1:Inv X ti Y H { s with heap:=h' }:=I.kept (t':=s.toks) fun b o e=>hx b o (L9 (LM e)) e;exact h ti _ Y H xs _ Q I1 (by simpa using rv) hw
def pI (te:TE) (g:TG):TS:=fun D Y H=>te Y H fun x H1=>g x Y H1 D.nx
theorem Ec {tg e:Expr} {te:TE} {g:TG} (he:PE X e te) (hg:PG X tg g) (hs:swapsWithSole [tg] e pos.line X.env=pure false:=by rfl) (hw:swappedStores [tg] e X.env=pure none:=by rfl)
  (h1:(assignEach [tg] X.env).map (·.2)=[assign tg X.env]:=by rfl):PS X (.Assign [tg] e pos) (pI te g):=by intro ti s Y H D I h;refine wpAny_Assign_stores (Oq (he ti s Y H _ I h) fun v s1 ⟨x,H1,I1,r1,q1⟩=>?_) hs hw;rw [h1];exact Oq (hg ti s1 Y H1 x v _ I1 r1 q1) fun _ s2 q=>q
theorem C3 {i:Nat} {x:Str} {e:Expr} {te:TE} {pos':Pos} (hN:X.N.Nodup) (hi:X.N[i]?=some x) (hx:Loc X.env.scope x) (he:PE X e te) (hs:swapsWith e (some (.Name x pos')) pos.line X.env=pure false:=by rfl) (hf:X.fn x=true\/X.env.scope.names.lookup x=some .local:=by first | exact .inl rfl | exact .inr rfl | assumption) :
  PS X (.Assign [.Name x pos'] e pos) (pI te (cY i)):=by intro ti s Y H D I h;refine wpAny_Assign_Name (Oq (he ti s Y H _ I h) fun v s1 ⟨y,H1,I1,r1,q1⟩=>?_) hs;exact fi I1 hN hi hx r1 (fun s2 I2=>⟨_,H1,I2,q1⟩) hf
end
section
variable {X:Cx} {pos:Pos}
def rF (c:TT) (tb:TS):TS:=fun D Y H=>∃ W:Nat->St->Hp->Prop,(∃ m,W m Y H)/\∀ m Y H,W m Y H ->
 c Y H fun b H1=>if b=true then ∃ N:St->Hp->Prop,(∀ Z' H',N Z' H'->∃ m',m' < m/\W m' Z' H')/\tb { D with nx:=N,ct:=N,bk:=D.nx } Y H1 else D.nx Y H1
theorem x8 {c:Expr} {body:List Stmt} {tc:TT} {tb:TS} (hp:PassesOwn (model X.prog X.w) X.A X.env X.xe) (hc:PT X c tc) (hb:QG X body tb):PS X (.While c body [] pos) (rF tc tb):=by
 intro ti s Y H D I h;obtain ⟨W,⟨m0,w0⟩,turn⟩:=h;refine wpAny_While (codeAny_whileLoop (fun n s'=>∃ Z' H',Inv X ti Z' H' s'/\W n Z' H') ?_ m0 ⟨Y,H,I,w0⟩);rintro n s1 ⟨Z1,H1,I1,w1⟩;refine Nw hp (Oq (hc ti s1 Z1 H1 _ I1 (turn n Z1 H1 w1)) fun b s2 ⟨H2,I2,q2⟩=>?_);cases b with
 | true =>
  obtain ⟨N,hN,q2⟩:=q2;rw [Lz rfl];refine Nw hp (Oq (hb ti s2 Z1 H2 _ I2 q2) fun f s3 q3=>?_);cases f with
  | next =>
   obtain ⟨Z3,H3,I3,n3⟩:=q3;obtain ⟨m',hm,w3⟩:=hN Z3 H3 n3;exact ⟨m',hm,Z3,H3,I3,w3⟩
  | cont =>
   obtain ⟨Z3,H3,I3,n3⟩:=q3;obtain ⟨m',hm,w3⟩:=hN Z3 H3 n3;exact ⟨m',hm,Z3,H3,I3,w3⟩
  | brk=>exact q3
  | ret v=>exact q3
 | false =>
  rw [Lw LU];exact MU ⟨Z1,H2,I2,q2⟩
end
structure It where
 go:Nat->Hp->Prop
 RM:Nat->Hp->V->Hp->Prop
 stop:Nat->Hp->Prop
def wA (X:Cx) (ti:Qw) (H:Hp) (b:Qz):Prop :=
 H b=none/\b≠X.env.locals/\b ∉ X.fs/\(b∈X.ex\/X.ZZ.heap.objs.size<=b)/\(∀ x c,X.env.cells.lookup x=some c->c≠b)/\∀ p∈X.pn++ti,p.1≠b
theorem Inv.Cu (I:Inv X ti Y H s) (hb:s.heap.objs.size<=b) (hn:H' b=none):wA X ti H' b:=by
 refine ⟨hn,Nr (LQ I.lt hb),I.DV hb,.inr (LG I.sz hb),fun x c e z=>?_,fun p hp z=>?_⟩
 .obtain ⟨v,q⟩:=I.cell x c e;exact absurd (LQ q.lt (by rw [z];exact hb)) (Mn _)
 .exact absurd (LQ (LM (I.pin p hp).1) (by rw [z];exact hb)) (Mn _)
structure Turn (P:Program) (w:World) (K:Fg) (tg:Expr) (J:It) (fp:List Qz) (it:Qz) (tn:Nat->Heap->Prop):Prop where
 mem:it∈fp
 obj:∀ i h,tn i h->∀ b∈fp,∃ o,h.get? b=some o/\∀ v,o.data≠.cell v
 keep:∀ i h h',tn i h->(∀ b∈fp,∀ o,h.get? b=some o->h'.get? b=some o)->tn i h'
 item:(X:Cx)->X.prog=P->X.w=w->X.K=K->X.calm=true->∀ (i:Nat) (ti:Qw) (s:Qx) (Y:St) (H:Hp) (E:Qy),Inv X ti Y H s->(∀ b∈fp,wA X ti H b)->tn i s.heap->J.go i H ->
  wMX P w X.A (pyNext (.ref it)) (fun r s1=>∃ u,r=some u /\
   wMX P w X.A (letOwnedTupleGo tg (.ref it) u) (fun _ s2=>∃ x H',Inv X ti Y H' s2/\RelV x u/\J.RM i H x H'/\tn (i+1) s2.heap/\∀ b∈fp,H' b=none) E s1) E s
 done:(X:Cx)->X.prog=P->X.w=w->X.K=K->X.calm=true->∀ (i:Nat) (ti:Qw) (s:Qx) (Y:St) (H:Hp) (E:Qy),Inv X ti Y H s->(∀ b∈fp,wA X ti H b)->tn i s.heap->J.stop i H ->
  wMX P w X.A (pyNext (.ref it)) (fun r s1=>r=none/\Inv X ti Y H s1) E s
 self:∀ (A:Around) (i:Nat) (s:Qx) (Q:Qy) (E:Qy),tn i s.heap->Q (.ref it) s->wMX P w A (pyIter (.ref it)) Q E s
abbrev TI:=St->Hp->(It->Hp->Prop)->Prop
def XU (X:Cx) (ti:Qw) (Y:St) (tg:Expr) (R:It->Hp->Prop) (WC:Qj) (s2:Qx):Prop :=
 ∃ (it:Qz) (fp:List Qz) (tn:Nat->Heap->Prop) (J:It) (H':Hp),WC=.ref it/\Inv X ti Y H' s2/\Turn X.prog X.w X.K tg J fp it tn/\tn 0 s2.heap/\(∀ b∈fp,wA X ti H' b)/\R J H'
def PI (X:Cx) (tg iter:Expr) (wi:TI):Prop :=
 ∀ (ti:Qw) (s:Qx) (Y:St) (H:Hp) (R:It->Hp->Prop),Inv X ti Y H s->wi Y H R ->
  wMY X (eval iter X.env) (fun v s1=>wMY X (pyIter v) (XU X ti Y tg R) X.xe s1) X.xe s
theorem zZ (ho:s.heap.get? it=some o) (hc:o.cls=.type n) (hd:o.data=.fields vs)
    (hn:["enumerate", "zip", "dict_itemiterator", "dict_reverseitemiterator", "odict_iterator", "itertools.zip_longest", "itertools.pairwise"].contains n=false) (hQ:Q () s):wpAny M A (letOwnedTupleGo tg (.ref it) u) Q E s:=by
  unfold letOwnedTupleGo;cases tg <;> first
    | exact Lu hQ
    | (cases u <;> first
        | exact Lu hQ
        | (refine Lm (wpAny_load ho ?_)
           rw [hc,hd];show wpAny M A (if (["enumerate", "zip", "dict_itemiterator", "dict_reverseitemiterator", "odict_iterator", "itertools.zip_longest", "itertools.pairwise"].contains n&&vs[0]?==some (rawInt _))=true then _ else _) Q E s;rw [Lw (by intro h;rw [hn,Bool.false_and] at h;cases h)]
           exact Lu hQ))
def WD (K:Fg) (a:Qz):It :=
 ⟨fun i H=>∃ xs x,OO K H a xs/\xs[i]?=some x,fun i H x H'=>H'=H/\∀ xs,OO K H a xs->xs[i]?=some x,fun i H=>∃ xs,OO K H a xs/\xs.length<=i⟩
def XW (K:Fg) (a:Qz):It :=
 ⟨fun i H=>∃ xs x,OU K H a xs/\xs[i]?=some x,fun i H x H'=>H'=H/\∀ xs,OU K H a xs->xs[i]?=some x,fun i H=>∃ xs,OU K H a xs/\xs.length<=i⟩
def WG (lo:Int) (n:Nat):It:=⟨fun i _=>i < n,fun i H x H'=>H'=H/\x=.int (lo+i),fun i _=>n<=i⟩
theorem uB {P:Program} {w:World} {K:Fg} {tg:Expr} (a it:Qz):Turn P w K tg (WD K a) [it] it (fun i h=>h.IsListIter it a i) where
 mem:=by simp
 obj:=fun i h st b hb=>by
  have e:b=it:=by simpa using hb
  subst e;obtain ⟨o,e,c,d⟩:=st;exact ⟨o,e,fun v z=>by rw [d] at z;cases z⟩
 keep:=fun i h h' st k=>st.at fun o e=>k it (by simp) o e
 item:=by intro X hP hw hK hc i ti s Y H E I hf st hg;subst hP hw hK;obtain ⟨xs,x,hq,hx⟩:=hg;obtain ⟨its,rv,p,hz⟩:=I.list hq;obtain ⟨u,hu,ru⟩:=rv.get hx;obtain ⟨f0,f1,f2,f3,f4,f5⟩:=hf it (by simp);refine wpAny_pyNext_list_item st p.isList (x:=u) (by simpa using hu) fun h' O0 sb=>?_;have I1:Inv X ti Y H { s with heap:=h' }:=I.turned (t':=s.toks) (fun b o hb e=>(sb.2 b hb).trans e) f0 f1 f3 f4 f5;obtain ⟨o,e,c,d⟩:=id O0;exact ⟨u,rfl,zZ (s:={ s with heap:=h' }) e c d (by decide) ⟨x,H,I1,ru,⟨rfl,fun ys hy=>by rw [I.xE hy hq];exact hx⟩,O0,fun b hb=>(hf b hb).1⟩⟩
 done:=by intro X hP hw hK hc i ti s Y H E I hf st hg;subst hP hw hK;obtain ⟨xs,hq,hx⟩:=hg;obtain ⟨its,rv,p,hz⟩:=I.list hq;obtain ⟨f0,f1,f2,f3,f4,f5⟩:=hf it (by simp);have hl:=rv.length;exact wpAny_pyNext_list_end (I.ok.hd hc) st p.isList (by simp;lia) fun h' eb=>⟨rfl,I.turned (t':=s.toks) (fun b o hb e=>eb b o hb e) f0 f1 f3 f4 f5⟩
 self:=fun _ _ _ _ _ st h=>wpAny_pyIter_listiter st h
theorem qC {P:Program} {w:World} {K:Fg} {tg:Expr} (a it:Qz):Turn P w K tg (XW K a) [it] it (fun i h=>h.IsTupleIter it a i) where
 mem:=by simp
 obj:=fun i h st b hb=>by
  have e:b=it:=by simpa using hb
  subst e;obtain ⟨o,e,c,d⟩:=st;exact ⟨o,e,fun v z=>by rw [d] at z;cases z⟩
 keep:=fun i h h' st k=>st.at fun o e=>k it (by simp) o e
 item:=by intro X hP hw hK hc i ti s Y H E I hf st hg;subst hP hw hK;obtain ⟨xs,x,hq,hx⟩:=hg;obtain ⟨its,rv,p,hz⟩:=I.tuple hq;obtain ⟨u,hu,ru⟩:=rv.get hx;obtain ⟨f0,f1,f2,f3,f4,f5⟩:=hf it (by simp);refine wpAny_pyNext_tuple_item st (show s.heap.IsTuple a its.toArray from p) (x:=u) (by simpa using hu) fun h' O0 sb=>?_;have I1:Inv X ti Y H { s with heap:=h' }:=I.turned (t':=s.toks) (fun b o hb e=>(sb.2 b hb).trans e) f0 f1 f3 f4 f5;obtain ⟨o,e,c,d⟩:=id O0;exact ⟨u,rfl,zZ (s:={ s with heap:=h' }) e c d (by decide) ⟨x,H,I1,ru,⟨rfl,fun ys hy=>by rw [I.rN hy hq];exact hx⟩,O0,fun b hb=>(hf b hb).1⟩⟩
 done:=by intro X hP hw hK hc i ti s Y H E I hf st hg;subst hP hw hK;obtain ⟨xs,hq,hx⟩:=hg;obtain ⟨its,rv,p,hz⟩:=I.tuple hq;obtain ⟨f0,f1,f2,f3,f4,f5⟩:=hf it (by simp);have hl:=rv.length;exact wpAny_pyNext_tuple_end (I.ok.hd hc) st (show s.heap.IsTuple a its.toArray from p) (by simp;lia) fun h' eb=>⟨rfl,I.turned (t':=s.toks) (fun b o hb e=>eb b o hb e) f0 f1 f3 f4 f5⟩
 self:=fun _ _ _ _ _ st h=>wpAny_pyIter_tupleiter st h
theorem ql {P:Program} {w:World} {K:Fg} {tg:Expr} (it:Qz) (lo:Int) (n:Nat):Turn P w K tg (WG lo n) [it] it (fun i h=>IsRangeIter h it (lo+(i:Nat)*1) ((n:Int) - (i:Nat)) 1) where
 mem:=by simp
 obj:=fun i h st b hb=>by
  have e:b=it:=by simpa using hb
  subst e
  exact ⟨_,st,fun v z=>by
   have z':Data.fields _=Data.cell v:=z
   cases z'⟩
 keep:=fun i h h' st k=>k it (by simp) _ st
 item:=by intro X hP hw hK hc i ti s Y H E I hf st hg;subst hP hw hK;obtain ⟨f0,f1,f2,f3,f4,f5⟩:=hf it (by simp);have W:=Walks.range (prog:=X.prog) (w:=X.w) (I.ok.hd hc) it lo 1 n;refine W.item i s _ _ hg st fun v h' tk hv O0 kk=>?_;obtain ⟨t,rfl⟩:=hv;have I1:Inv X ti Y H { s with heap:=h',toks:=tk }:=I.turned (fun b o hb e=>kk b o (by simpa using hb) e) f0 f1 f3 f4 f5;refine ⟨_,rfl,zZ (s:={ s with heap:=h',toks:=tk }) (n := "range_iterator") O0 rfl rfl (by decide) ⟨.int (lo+i),H,I1,⟨t,?_⟩,⟨rfl,rfl⟩,O0,fun b hb=>(hf b hb).1⟩⟩;rw [Int.mul_one]
 done:=by intro X hP hw hK hc i ti s Y H E I hf st hg;subst hP hw hK;obtain ⟨f0,f1,f2,f3,f4,f5⟩:=hf it (by simp);exact wpAny_pyNext_range_end (I.ok.hd hc) st (by have:n<=i:=hg;lia) fun h' eb=>⟨rfl,I.turned (t':=s.toks) (fun b o hb e=>eb b o hb e) f0 f1 f3 f4 f5⟩
 self:=fun _ _ _ _ _ st h=>wpAny_pyIter_rangeiter st h
section
variable {X:Cx} {tg:Expr}
def wG (K:Fg) (tl:TE):TI:=fun Y H R=>tl Y H fun x H1=>∃ a,x=.ref a/\(∃ xs,OO K H1 a xs)/\R (WD K a) H1
def Gf (K:Fg) (tl:TE):TI:=fun Y H R=>tl Y H fun x H1=>∃ a,x=.ref a/\(∃ xs,OU K H1 a xs)/\R (XW K a) H1
theorem tD {l:Expr} {tl:TE} (hl:PE X l tl):PI X tg l (wG X.K tl):=by
 intro ti s Y H R I h;refine Oq (hl ti s Y H _ I h) fun v s1 ⟨x,H1,I1,r1,q1⟩=>?_;obtain ⟨a,e,⟨xs,hq⟩,q⟩:=q1;subst e;cases r1;obtain ⟨its,rv,p,hz⟩:=I1.list hq;refine wpAny_pyIter_list p.isList ?_;refine ⟨s1.heap.objs.size,[s1.heap.objs.size],_,_,H1,rfl,I1.kept (t':=s1.toks) fun b o e=>LB _ e,uB a _,⟨_,L0 _ rfl,rfl,rfl⟩,fun b hb=>?_,q⟩;have e:b=s1.heap.objs.size:=by simpa using hb
 subst e;exact I1.Cu (LA _) (I1.IT.fresh (LA _))
theorem zp {l:Expr} {tl:TE} (hl:PE X l tl):PI X tg l (Gf X.K tl):=by
 intro ti s Y H R I h;refine Oq (hl ti s Y H _ I h) fun v s1 ⟨x,H1,I1,r1,q1⟩=>?_;obtain ⟨a,e,⟨xs,hq⟩,q⟩:=q1;subst e;cases r1;obtain ⟨its,rv,p,hz⟩:=I1.tuple hq;refine wpAny_pyIter_tuple (show s1.heap.IsTuple a its.toArray from p) ?_;refine ⟨s1.heap.objs.size,[s1.heap.objs.size],_,_,H1,rfl,I1.kept (t':=s1.toks) fun b o e=>LB _ e,qC a _,⟨_,L0 _ rfl,rfl,rfl⟩,fun b hb=>?_,q⟩;have e:b=s1.heap.objs.size:=by simpa using hb
 subst e;exact I1.Cu (LA _) (I1.IT.fresh (LA _))
theorem wQ {ti:Qw} {Y:St} {H:Hp} {s:Qx} {R:It->Hp->Prop} {E:Qy} {lo hi:Int} {t u v:Tok} {tk:Nat} (I:Inv X ti Y H s) (h1:-(2 ^ 62)<=lo) (h2:lo < 2 ^ 62) (h3:-(2 ^ 62)<=hi) (h4:hi < 2 ^ 62)
  (q:R (WG lo (hi - lo).toNat) H):wMY X (pyIter (.ref s.heap.objs.size)) (XU X ti Y tg R) E { s with heap:=s.heap.push { cls:=.type "range", data:=.fields #[.int lo t,.int hi u,.int 1 v] },toks:=tk }:=by
 refine wpAny_pyIter_range (IsRange.new ..) (small_one h1 h2 h3 h4) ?_;have I1:Inv X ti Y H { s with heap:=s.heap.push { cls:=.type "range", data:=.fields #[.int lo t,.int hi u,.int 1 v] },toks:=tk }:=I.kept fun b o e=>LB _ e
 refine ⟨(s.heap.push { cls:=.type "range", data:=.fields #[.int lo t,.int hi u,.int 1 v] }).objs.size,[(s.heap.push { cls:=.type "range", data:=.fields #[.int lo t,.int hi u,.int 1 v] }).objs.size],_,_,H,rfl,
  I1.kept (t':=tk) fun b o e=>LB _ e,ql _ lo (hi - lo).toNat,?_,fun b hb=>?_,q⟩
 .have e1:lo+((0:Nat):Int)*1=lo:=by simp
  have e2:(((hi - lo).toNat:Nat):Int) - ((0:Nat):Int)=Builtin.Range.rangeSize lo hi 1:=by rw [rangeSize_one];split <;> lia
  show IsRangeIter _ _ (lo+((0:Nat):Int)*1) ((((hi - lo).toNat:Nat):Int) - ((0:Nat):Int)) 1;rw [e1,e2];exact L0 _ rfl
 .have e:b=(s.heap.push { cls:=.type "range", data:=.fields #[.int lo t,.int hi u,.int 1 v] }).objs.size:=by simpa using hb
  subst e;exact I1.Cu (LA _) (I1.IT.fresh (LA _))
def Ba (ta:TA):TI:=fun Y H R=>ta Y H fun vs H1=>∃ j:Int,vs=[.int j]/\-(2 ^ 62)<=j/\j < 2 ^ 62/\R (WG 0 j.toNat) H1
theorem rW {a:Expr} {ta:TA} {p pos:Pos} (hg:Gl X "range") (hm:X.mg "range" = none) (ha:PA X [a] ta) (hs:starEach [a] X.env=[(false,eval a X.env)]:=by rfl):PI X tg (.Call (.Name "range" p) [a] [] pos) (Ba ta):=by
 intro ti s Y H R I h;refine Call_ (jV I hg hm boot_range (PyProof.Rows.callWith_type1 (Oq (ha pos ti s Y H _ I h) fun us s1 ⟨vs,H1,I1,r1,q1⟩=>?_) hs rfl));obtain ⟨j,e,q1,q2,q⟩:=q1;subst e;cases r1 with
 | cons r rr =>
  cases rr;obtain ⟨t,rfl⟩:=r;exact call_range_1 (wQ I1 (by lia) (by lia) q1 q2 (by simpa using q))
def BK (wi:TI) (g:TG) (tb:TS):TS:=fun D Y H=>wi Y H fun J H1=>∃ W:Nat->Nat->St->Hp->Prop,(∃ m,W 0 m Y H1)/\∀ i m Y H,W i m Y H ->
 (J.stop i H/\D.nx Y H)\/(J.go i H/\∃ N:St->Hp->Prop,(∀ Z' H',N Z' H'->∃ m',m' < m/\W (i+1) m' Z' H')/\∀ x H',J.RM i H x H'->g x Y H' fun Z2 H2=>tb { D with nx:=N,ct:=N,bk:=D.nx } Z2 H2)
noncomputable def mO (fp:List Qz) (h:Heap):Qw:=fp.filterMap fun b=>(h.get? b).map fun o=>(b,o)
theorem dF (hb:b∈fp) (e:h.get? b=some o):(b,o)∈mO fp h:=List.mem_filterMap.mpr ⟨b,hb,by rw [e];rfl⟩
theorem sN (hp:p∈mO fp h):p.1∈fp/\h.get? p.1=some p.2:=by
 obtain ⟨b,hb,e⟩:=List.mem_filterMap.mp hp;cases q:h.get? b with
 | none=>rw [q] at e;cases e
 | some o =>
  rw [q] at e;have e':(b,o)=p:=Mp e;subst e';exact ⟨hb,q⟩
theorem Inv.pinned (I:Inv X ti Y H s) (hf:∀ b∈fp,wA X ti H b) (ho:∀ b∈fp,∃ o,s.heap.get? b=some o/\∀ v,o.data≠.cell v):Inv X (ti++mO fp s.heap) Y H s :=
 I.cB fun p hp=>(Mc.mp hp).elim (fun z=>I.pin p (Lx _ z)) fun z=>by obtain ⟨hb,e⟩:=sN z;obtain ⟨f0,f1,f2,_⟩:=hf p.1 hb;obtain ⟨o,e',d⟩:=ho p.1 hb;rw [e] at e';cases e';exact ⟨e,f0,f1,f2,d⟩
theorem Inv.gY (I:Inv X (ti++pl) Y H s):Inv X ti Y H s:=I.cB fun p hp=>I.pin p (Lx _ (LY _ hp))
theorem CD {iter:Expr} {body:List Stmt} {wi:TI} {g:TG} {tb:TS} {pos:Pos} (hp:PassesOwn (model X.prog X.w) X.A X.env X.xe) (hc:X.calm=true) (hi:PI X tg iter wi) (hg:PG X tg g) (hb:QG X body tb)
  (hs:∀ x,foldedSetIterable iter X.env x=pure x:=by intro _;rfl):PS X (.For tg iter body [] pos) (BK wi g tb):=by
 intro ti s Y H D I h;refine wpAny_For (Oq (hi ti s Y H _ I h) fun v s1 h1=>Oq h1 fun WC s2 h2=>?_) hs;obtain ⟨it,fp,tn,J,H2,e,I2,T,Vt,f2,W,⟨m0,w0⟩,turn⟩:=h2;subst e;have stat:∀ {H':Hp},(∀ b∈fp,H' b=none)->∀ b∈fp,wA X ti H' b:=fun hn b hb=>⟨hn b hb,(f2 b hb).2⟩;refine codeAny_forLoop_any (fun n s'=>∃ i Z' H',Inv X ti Z' H' s'/\tn i s'.heap/\(∀ b∈fp,H' b=none)/\W i n Z' H') ?_ m0 ⟨0,Y,H2,I2,Vt,fun b hb=>(f2 b hb).1,w0⟩;rintro n s3 ⟨i,Z3,H3,I3,TJ,ZL,w3⟩;rcases turn i n Z3 H3 w3 with ⟨stop,qn⟩ | ⟨go,N,hN,step⟩
 .refine Nw hp (Oq (T.done X rfl rfl rfl hc i ti s3 Z3 H3 X.xe I3 (stat ZL) TJ stop) fun r s4 ⟨hr,I4⟩=>?_);subst hr;exact MU ⟨Z3,H3,I4,qn⟩
 .refine Nw hp (Oq (T.item X rfl rfl rfl hc i ti s3 Z3 H3 X.xe I3 (stat ZL) TJ go) fun r s4 ⟨u,hr,h4⟩=>?_);subst hr;refine Nw hp (Oq h4 fun _ s5 ⟨x,H5,I5,r5,y5,XX,fr5⟩=>?_);have I5':=I5.pinned (stat fr5) (T.obj _ _ XX);refine Nw hp (Oq (hg _ s5 Z3 H5 x u _ I5' r5 (step x H5 y5)) fun _ s6 ⟨Z6,H6,I6,q6⟩=>?_);refine Nw hp (Oq (hb _ s6 Z6 H6 _ I6 q6) fun f s7 q7=>?_);have again:∀ {Z7:St} {H7:Hp},Inv X (ti++mO fp s5.heap) Z7 H7 s7->N Z7 H7->∃ m,m < n/\∃ i Z' H',Inv X ti Z' H' s7/\tn i s7.heap/\(∀ b∈fp,H' b=none)/\W i m Z' H':=fun {Z7 H7} I7 n7=>by obtain ⟨m',hm,w7⟩:=hN Z7 H7 n7;refine ⟨m',hm,i+1,Z7,H7,I7.gY,T.keep _ _ _ XX fun b hb o e=>(I7.pin (b,o) (Lx _ (Lx _ (dF hb e)))).1,fun b hb=>?_,w7⟩;obtain ⟨o,e,d⟩:=T.obj _ _ XX b hb;exact (I7.pin (b,o) (Lx _ (Lx _ (dF hb e)))).2.1
  cases f with
  | next=>obtain ⟨Z7,H7,I7,n7⟩:=q7;exact again I7 n7
  | cont=>obtain ⟨Z7,H7,I7,n7⟩:=q7;exact again I7 n7
  | brk=>obtain ⟨Z7,H7,I7,q7⟩:=q7;exact ⟨Z7,H7,I7.gY,q7⟩
  | ret v=>obtain ⟨x7,Z7,H7,I7,r7,q7⟩:=q7;exact ⟨x7,Z7,H7,I7.gY,r7,q7⟩
end
abbrev R2:=V->V->Hp->VK->Prop
def Oy (X:Cx) (f:Qj->Qj->Sem Qj) (r:R2):Prop :=
 ∀ (ti:Qw) (s:Qx) (Y:St) (H:Hp) (x y:V) (v u:Qj) (Q:VK),Inv X ti Y H s->RelV x v->RelV y u->r x y H Q ->
  wMY X (f v u) (EP X ti Y Q) X.xe s
def WH (X:Cx) (f:Qj->Sem Qj) (r:V->Hp->VK->Prop):Prop :=
 ∀ (ti:Qw) (s:Qx) (Y:St) (H:Hp) (x:V) (v:Qj) (Q:VK),Inv X ti Y H s->RelV x v->r x H Q ->
  wMY X (f v) (EP X ti Y Q) X.xe s
def aH (X:Cx) (f:Qj) (r:List V->Hp->VK->Prop):Prop :=
 ∀ (ti:Qw) (s:Qx) (Y:St) (H:Hp) (xs:List V) (us:List Qj) (Q:VK),Inv X ti Y H s->Vals xs us->r xs H Q ->
  wMY X (call f us) (EP X ti Y Q) X.xe s
def K7 (X:Cx) (r:V->Hp->(Bool->Hp->Prop)->Prop):Prop :=
 ∀ (ti:Qw) (s:Qx) (Y:St) (H:Hp) (x:V) (v:Qj) (Q:Bool->Hp->Prop),Inv X ti Y H s->RelV x v->r x H Q ->
  wMY X (truthy v) (TP X ti Y Q) X.xe s
def RZ (r:R2) (ta tb:TE):TE:=fun Y H Q=>ta Y H fun x H1=>tb Y H1 fun y H2=>r x y H2 Q
def ZN (r:V->Hp->VK->Prop) (ta:TE):TE:=fun Y H Q=>ta Y H fun x H1=>r x H1 Q
def rI (C:Int->Int->Prop) (g:Int->Int->V):R2:=fun x y H Q=>∃ i j,x=.int i/\y=.int j/\C i j/\Q (g i j) H
def Q5 (g:Int->Int->V):R2:=fun x y H Q=>∃ i j,x=.int i/\y=.int j/\Q (g i j) H
def rU (g:Int->V):V->Hp->VK->Prop:=fun x H Q=>∃ i,x=.int i/\Q (g i) H
section
variable {X:Cx} {a b c:Expr} {ta tb tc:TE} {pos:Pos}
theorem Gi (ha:PE X a ta) (hb:PE X b tb) {ti:Qw} {s:Qx} {Y:St} {H:Hp} {R:V->V->Hp->Prop} (I:Inv X ti Y H s)
  (h:ta Y H fun x H1=>tb Y H1 fun y H2=>R x y H2) {Q:Qy} {f:Qj->Qj->Sem Qj}
  (hf:∀ v u s2 x y H2,Inv X ti Y H2 s2->RelV x v->RelV y u->R x y H2->wMY X (f v u) Q X.xe s2) :
  wMY X (eval a X.env) (fun v ZW=>wMY X (eval b X.env) (fun u ZU=>wMY X (f v u) Q X.xe ZU) X.xe ZW) X.xe s:=by refine Oq (ha ti s Y H _ I h) fun v s1 ⟨x,H1,I1,r1,q1⟩=>?_;refine Oq (hb ti s1 Y H1 _ I1 q1) fun u s2 ⟨y,H2,I2,r2,q2⟩=>?_;exact hf v u s2 x y H2 I2 r1 r2 q2
theorem Ie {op:Operator} {r:R2} (ho:Oy X (binaryOp op) r) (ha:PE X a ta) (hb:PE X b tb):PE X (.BinOp a op b pos) (RZ r ta tb):=by intro ti s Y H Q I h;exact wpAny_BinOp (Gi ha hb I h fun v u s2 x y H2 I2 rx ry q=>ho ti s2 Y H2 x y v u Q I2 rx ry q)
theorem Ih (ho:WH X (unaryOp op) r) (ha:PE X a ta):PE X (.UnaryOp op a pos) (ZN r ta):=by intro ti s Y H Q I h;exact UnaryOp_ (Oq (ha ti s Y H _ I h) fun v s1 ⟨x,H1,I1,r1,q1⟩=>ho ti s1 Y H1 x v Q I1 r1 q1)
theorem WJ {f:Qj->Qj->Sem Qj} {C:Int->Int->Prop} {g:Int->Int->Int}
  (rule:∀ (i j:Int) (t u:Tok) (s:Qx) (Q:Qy) (E:Qy),C i j->Q (.int (g i j) s.toks) { s with toks:=s.toks+1 }->wMY X (f (.int i t) (.int j u)) Q E s) :
  Oy X f (rI C fun i j=>.int (g i j)):=by intro ti s Y H x y v u Q I rx ry h;obtain ⟨i,j,rfl,rfl,hc,q⟩:=h;obtain ⟨t,rfl⟩:=rx;obtain ⟨t',rfl⟩:=ry;exact rule i j t t' s _ _ hc ⟨.int (g i j),H,I.tok _,⟨_,rfl⟩,q⟩
theorem JJ {f:Qj->Qj->Sem Qj} {g:Int->Int->Int}
  (rule:∀ (i j:Int) (t u:Tok) (s:Qx) (Q:Qy) (E:Qy),Q (.int (g i j) s.toks) { s with toks:=s.toks+1 }->wMY X (f (.int i t) (.int j u)) Q E s) :
  Oy X f (Q5 fun i j=>.int (g i j)):=by intro ti s Y H x y v u Q I rx ry h;obtain ⟨i,j,rfl,rfl,q⟩:=h;obtain ⟨t,rfl⟩:=rx;obtain ⟨t',rfl⟩:=ry;exact rule i j t t' s _ _ ⟨.int (g i j),H,I.tok _,⟨_,rfl⟩,q⟩
theorem FW {f:Qj->Qj->Sem Qj} {g:Int->Int->Bool}
  (rule:∀ (i j:Int) (t u:Tok) (s:Qx) (Q:Qy) (E:Qy),Q (.bool (g i j)) s->wMY X (f (.int i t) (.int j u)) Q E s) :
  Oy X f (Q5 fun i j=>.bl (g i j)):=by intro ti s Y H x y v u Q I rx ry h;obtain ⟨i,j,rfl,rfl,q⟩:=h;obtain ⟨t,rfl⟩:=rx;obtain ⟨t',rfl⟩:=ry;exact rule i j t t' s _ _ ⟨.bl (g i j),H,I,rfl,q⟩
def JV (i j:Int):Prop:=0<=j/\j<=1000000/\i.natAbs < 2 ^ 64
def CH (i j:Int):Prop:=(-(2 ^ 64) < i/\i < 2 ^ 64)\/(-(2 ^ 64) < j/\j < 2 ^ 64)
theorem CH.ok (h:CH i j):IntMulOk i j:=by
 rcases h with ⟨h1,h2⟩ | ⟨h1,h2⟩
 .exact .of_left (intBits_le_64 h1 h2)
 .exact .of_right (intBits_le_64 h1 h2)
theorem Ew:Oy X (binaryOp .Add) (Q5 fun i j=>.int (i+j)):=JJ fun _ _ _ _ _ _ _ q=>add_int q
theorem CW:Oy X (binaryOp .Sub) (Q5 fun i j=>.int (i - j)):=JJ fun _ _ _ _ _ _ _ q=>sub_int q
theorem Dp:Oy X (binaryOp .Mult) (rI CH fun i j=>.int (i*j)):=WJ fun _ _ _ _ _ _ _ hc q=>mul_int q hc.ok
theorem Dd:Oy X (binaryOp .Mod) (rI (fun _ j=>0 < j) fun i j=>.int (i % j)):=WJ fun i j _ _ _ _ _ hc q=>by have h1:(0:Int) < j:=hc;exact mod_int' (by lia) (by rw [Int.fmod_eq_emod_of_nonneg i (by lia)];exact q)
theorem ES:Oy X (binaryOp .Pow) (rI JV fun i j=>.int (i ^ j.toNat)):=WJ fun _ _ _ _ _ _ _ hc q=>pow_int_small hc.1 hc.2.1 hc.2.2 q
theorem unI {f:Qj->Sem Qj} {g:Int->Int}
  (rule:∀ (i:Int) (t:Tok) (s:Qx) (Q:Qy) (E:Qy),Q (.int (g i) s.toks) { s with toks:=s.toks+1 }->wMY X (f (.int i t)) Q E s) :
  WH X f (rU fun i=>.int (g i)):=by intro ti s Y H x v Q I rx h;obtain ⟨i,rfl,q⟩:=h;obtain ⟨t,rfl⟩:=rx;exact rule i t s _ _ ⟨.int (g i),H,I.tok _,⟨_,rfl⟩,q⟩
theorem yI:WH X (unaryOp .USub) (rU fun i=>.int (-i)):=unI fun _ _ _ _ _ q=>neg_int q
end
section
variable {X:Cx} {a b c:Expr} {ta tb tc:TE} {pos:Pos}
theorem zw (I:Inv X ti Y H s) (q:Q (.bl k) H) (e:k=k'):EP X ti Y Q (.bool k') s:=by subst e;exact ⟨.bl k,H,I,rfl,q⟩
theorem Jt:Oy X (compareOp .Lt) (Q5 fun i j=>.bl (decide (i < j))):=FW fun _ _ _ _ _ _ _ q=>lt_int q
theorem GC:Oy X (compareOp .LtE) (Q5 fun i j=>.bl (decide (i<=j))):=FW fun _ _ _ _ _ _ _ q=>le_int q
theorem Gq:Oy X (compareOp .Gt) (Q5 fun i j=>.bl (decide (j < i))):=FW fun _ _ _ _ _ _ _ q=>gt_int q
theorem Hs:Oy X (compareOp .GtE) (Q5 fun i j=>.bl (decide (j<=i))):=FW fun _ _ _ _ _ _ _ q=>ge_int q
theorem vM:Oy X (compareOp .Lt) (fun x y H Q=>∃ i j,x=.str i/\y=.str j/\Q (.bl (decide (i.cps.toList < j.cps.toList))) H):=by intro ti s Y H x y v u Q I rx ry h;obtain ⟨i,j,rfl,rfl,q⟩:=h;obtain ⟨t,rfl⟩:=rx;obtain ⟨t',rfl⟩:=ry;exact lt_str (zw I q rfl)
theorem AU:Oy X (compareOp .IsNot) (fun x y H Q=>y=.non/\Q (.bl (!decide (x=.non))) H):=by
 intro ti s Y H x y v u Q I rx ry h;obtain ⟨rfl,q⟩:=h;cases ry;refine isnot_none_gen (zw I q ?_);cases x <;> first
  | (cases rx;rfl)
  | (obtain ⟨t,rfl⟩:=rx;rfl)
theorem d4 (b:Expr) (h:op≠.In:=by decide) (h2:op≠.NotIn:=by decide):behindInMarks op b=false:=by
 have e1:(op==CmpOp.In)=false:=by cases op <;> first | rfl | exact absurd rfl h
 have e2:(op==CmpOp.NotIn)=false:=by cases op <;> first | rfl | exact absurd rfl h2
 cases b <;> simp [behindInMarks,e1,e2]
theorem zF {op:CmpOp} {r:R2} (ho:Oy X (compareOp op) r) (ha:PE X a ta) (hb:PE X b tb) (hm:behindInMarks op b=false):PE X (.Compare a [op] [b] pos) (RZ r ta tb):=by intro ti s Y H Q I h;exact wpAny_Compare1 (Gi ha hb I h fun v u s2 x y H2 I2 rx ry q=>ho ti s2 Y H2 x y v u Q I2 rx ry q) hm
def tV (t:TE):TT:=fun Y H Q=>t Y H fun x H'=>∃ k,x=.bl k/\Q k H'
theorem A5 (ho:Oy X (compareOp op) r) (ha:PE X a ta) (hb:PE X b tb) (hm:behindInMarks op b=false):PT X (.Compare a [op] [b] pos) (tV (RZ r ta tb)):=by
 intro ti s Y H Q I h
 refine wpAny_isTrue_Compare1 (Oq (ha ti s Y H _ I h) fun v s1 ⟨x,H1,I1,r1,q1⟩=>Oq (hb ti s1 Y H1 _ I1 q1) fun u s2 ⟨y,H2,I2,r2,q2⟩ =>
  Oq (ho ti s2 Y H2 x y v u _ I2 r1 r2 q2) fun c s3 ⟨z,H3,I3,r3,k,e,q3⟩=>?_) hm
 subst e;cases r3;exact MI ⟨H3,I3,q3⟩
def mB (r r':R2) (ta tb tc:TE):TE:=fun Y H Q=>ta Y H fun x H1=>tb Y H1 fun y H2=>r x y H2 fun z H3=>∃ k,z=.bl k /\
 (if k=true then tc Y H3 fun w' H4=>r' y w' H4 Q else Q (.bl false) H3)
theorem wk (ho:Oy X (compareOp op) r) (QQ:Oy X (compareOp op') r') (ha:PE X a ta) (hb:PE X b tb) (hc:PE X c tc)
  (hm:lastMarks [op,op'] [b,c]=false:=by with_unfolding_all rfl):PE X (.Compare a [op,op'] [b,c] pos) (mB r r' ta tb tc):=by
 intro ti s Y H Q I h
 refine Compare_chain (Oq (ha ti s Y H _ I h) fun v s1 ⟨x,H1,I1,r1,q1⟩=>chain_link (Oq (hb ti s1 Y H1 _ I1 q1) fun u s2 ⟨y,H2,I2,r2,q2⟩ =>
  Oq (ho ti s2 Y H2 x y v u _ I2 r1 r2 q2) fun d s3 ⟨z,H3,I3,r3,k,e,q3⟩=>?_)) hm
 subst e;cases r3;refine MI ?_;cases k with
 | false=>exact ite_ff ⟨.bl false,H3,I3,rfl,q3⟩
 | true=>exact ite_tt (chain_last (Oq (hc ti s3 Y H3 _ I3 q3) fun w' s4 ⟨z',H4,I4,r4,q4⟩=>QQ ti s4 Y H4 y z' u w' Q I4 r2 r4 q4))
theorem yg (ho:Oy X (compareOp op) r) (QQ:Oy X (compareOp op') r') (ha:PE X a ta) (hb:PE X b tb) (hc:PE X c tc)
  (hm:lastMarks [op,op'] [b,c]=false:=by with_unfolding_all rfl):PT X (.Compare a [op,op'] [b,c] pos) (tV (mB r r' ta tb tc)):=by
 intro ti s Y H Q I h
 refine isTrue_chain (Oq (ha ti s Y H _ I h) fun v s1 ⟨x,H1,I1,r1,q1⟩=>test_link (Oq (hb ti s1 Y H1 _ I1 q1) fun u s2 ⟨y,H2,I2,r2,q2⟩ =>
  Oq (ho ti s2 Y H2 x y v u _ I2 r1 r2 q2) fun d s3 ⟨z,H3,I3,r3,k,e,q3⟩=>?_)) hm
 subst e;cases r3;refine MI ?_;cases k with
 | false =>
  obtain ⟨k',e',q'⟩:=q3;cases e';exact ite_ff ⟨H3,I3,q'⟩
 | true =>
  refine ite_tt (test_last (Oq (hc ti s3 Y H3 _ I3 q3) fun w' s4 ⟨z',H4,I4,r4,q4⟩=>Oq (QQ ti s4 Y H4 y z' u w' _ I4 r2 r4 q4) fun d' s5 ⟨z2,H5,I5,r5,k2,e2,q5⟩=>?_));subst e2;cases r5;exact MI ⟨H5,I5,q5⟩
def F7 (K:Fg) (x:V) (H:Hp) (k:Bool):Prop :=
 match x with
 | .non=>k=false
 | .bl b=>k=b
 | .int i=>k=(i != 0)
 | .str y=>y.length<=sizeLine/\k=((y.length:Int) != 0)
 | .Uc y=>y.size<=sizeLine/\k=((y.size:Int) != 0)
 | .ref p=>(∃ xs,OO K H p xs/\k=!xs.isEmpty)\/(∃ xs,OU K H p xs/\k=!xs.isEmpty)\/∃ kvs,H p=some (.dK kvs)/\k=!kvs.isEmpty
 | _=>False
theorem qb {κ:Type} {kvs:List (κ×V)} {vs:List (κ×Qj)} (r:KV kvs vs):(!vs.isEmpty)=!kvs.isEmpty:=by cases r <;> rfl
theorem jR {xs:List V} {its:List Qj} (r:Vals xs its):(!its.toArray.isEmpty)=!xs.isEmpty:=by cases r <;> simp
theorem l7:(sizeLine:Nat) < 2 ^ 63:=by rw [MF];decide
theorem Cq:K7 X (fun x H Q=>∃ k,F7 X.K x H k/\Q k H):=by
 intro ti s Y H x v Q I rx h;obtain ⟨k,e,q⟩:=h;have hl:=l7;have hs:sizeLine=16777216:=MF;cases x with
 | non =>
  cases rx;have e':k=false:=e;subst e';exact truthy_none ⟨H,I,q⟩
 | bl b =>
  cases rx;have e':k=b:=e;subst e';exact MI ⟨H,I,q⟩
 | int i =>
  obtain ⟨t,rfl⟩:=rx;have e':k=(i != 0):=e;subst e';exact PySem.P.truthy_int ⟨H,I,q⟩
 | str y =>
  obtain ⟨t,rfl⟩:=rx;obtain ⟨hy,e'⟩:y.length<=sizeLine/\k=((y.length:Int) != 0):=e;subst e';exact PySem.P.truthy_str (by lia) ⟨H,I.tok _,q⟩
 | Uc y =>
  obtain ⟨t,rfl⟩:=rx;obtain ⟨hy,e'⟩:y.size<=sizeLine/\k=((y.size:Int) != 0):=e;subst e';exact PySem.W.truthy_bytes (by lia) ⟨H,I.tok _,q⟩
 | ref p =>
  cases rx;have e':(∃ xs,OO X.K H p xs/\k=!xs.isEmpty)\/(∃ xs,OU X.K H p xs/\k=!xs.isEmpty)\/∃ kvs,H p=some (.dK kvs)/\k=!kvs.isEmpty:=e;rcases e' with ⟨xs,hx,e'⟩ | ⟨xs,hx,e'⟩ | ⟨kvs,hx,e'⟩
  .subst e';obtain ⟨its,r,pl,hz⟩:=I.list hx;have hlen:=r.length;exact wpAny_truthy_list pl.isList (by simp only [LK];lia) ⟨H,I.tok _,by rw [jR r];exact q⟩
  .subst e';obtain ⟨its,r,pl,hz⟩:=I.tuple hx;have hlen:=r.length;exact truthy_tuple pl (by simp only [LK];lia) ⟨H,I.tok _,by rw [jR r];exact q⟩
  .subst e';obtain ⟨hz,hS,vs,r,m⟩:kvs.length<=sizeLine/\(p==sysModules)=false/\∃ vs,KV kvs vs/\s.heap.DictOf (bf X.prog X.w) p vs:=I.IT p _ hx;have hlen:kvs.length=vs.length:=NI r;exact wpAny_truthy_dict hS m (by lia) ⟨H,I.tok _,by rw [qb r];exact q⟩
 | _=>exact (show False from e).elim
theorem yi (ha:PE X a ta) (he:∀ whole,isTrue a X.env whole=(do let v<-whole;standAt a.pos;holding [v] (truthy v))) :
  PT X a (fun Y H Q=>ta Y H fun x H'=>∃ k,F7 X.K x H' k/\Q k H'):=by intro ti s Y H Q I h;exact isTrue_plain (Oq (ha ti s Y H _ I h) fun v s1 ⟨x,H1,I1,r1,q1⟩=>Cq ti s1 Y H1 x v Q I1 r1 q1) (he _)
theorem qg:Oy X (binaryOp .Add) (fun x y H Q=>∃ i j,x=.str i/\y=.str j/\i.length+j.length<=sizeLine/\Q (.str (i++j)) H):=by intro ti s Y H x y v u Q I rx ry h;obtain ⟨i,j,rfl,rfl,hz,q⟩:=h;obtain ⟨t,rfl⟩:=rx;obtain ⟨t',rfl⟩:=ry;exact add_str (fun t' tk=>⟨.str (i++j),H,I.tok _,⟨_,rfl⟩,q⟩) hz
theorem vals1 (r:Vals [x] us):∃ u,us=[u]/\RelV x u:=by
 cases r with
 | cons r1 r2=>cases r2;exact ⟨_,rfl,r1⟩
theorem vals2 (r:Vals [x,y] us):∃ u w',us=[u,w']/\RelV x u/\RelV y w':=by
 cases r with
 | cons r1 r2 =>
  cases r2 with
  | cons r3 r4=>cases r4;exact ⟨_,_,rfl,r1,r3⟩
theorem xM:aH X (.builtin "abs") (fun xs H Q=>∃ i,xs=[.int i]/\Q (.int (if i < 0 then -i else i)) H):=by intro ti s Y H xs us Q I r h;obtain ⟨i,rfl,q⟩:=h;obtain ⟨u,rfl,t,rfl⟩:=vals1 r;exact call_abs_int fun u tk=>⟨.int (if i < 0 then -i else i),H,I.tok _,⟨_,rfl⟩,q⟩
theorem sx:aH X (.type "int") (fun xs H Q=>(∃ i,xs=[.int i]/\Q (.int i) H)\/∃ k,xs=[.bl k]/\Q (.int (if k then 1 else 0)) H):=by
 intro ti s Y H xs us Q I r h;rcases h with ⟨i,rfl,q⟩ | ⟨k,rfl,q⟩
 .obtain ⟨u,rfl,t,rfl⟩:=vals1 r;exact call_int_int ⟨.int i,H,I,⟨_,rfl⟩,q⟩
 .obtain ⟨u,rfl,r1⟩:=vals1 r;cases r1;exact call_int_bool ⟨.int (if k then 1 else 0),H,I.tok _,⟨_,rfl⟩,q⟩
def Jx (K:Fg) (x:V) (H:Hp) (n:Nat):Prop :=
 match x with
 | .str y=>y.length<=sizeLine/\n=y.length
 | .Uc y=>y.size<=sizeLine/\n=y.size
 | .ref p=>(∃ xs,OO K H p xs/\n=xs.length)\/∃ xs,OU K H p xs/\n=xs.length
 | _=>False
theorem wL:aH X (.builtin "len") (fun xs H Q=>∃ x n,xs=[x]/\Jx X.K x H n/\Q (.int n) H):=by
 intro ti s Y H xs us Q I r h;obtain ⟨x,n,rfl,e,q⟩:=h;obtain ⟨u,rfl,rx⟩:=vals1 r;have hl:=l7;have hs:sizeLine=16777216:=MF;cases x with
 | str y =>
  obtain ⟨t,rfl⟩:=rx;obtain ⟨hy,e'⟩:y.length<=sizeLine/\n=y.length:=e;subst e';exact len_str (by lia) ⟨.int _,H,I.tok _,⟨_,rfl⟩,q⟩
 | Uc y =>
  obtain ⟨t,rfl⟩:=rx;obtain ⟨hy,e'⟩:y.size<=sizeLine/\n=y.size:=e;subst e';exact PySem.W.len_bytes (by lia) ⟨.int _,H,I.tok _,⟨_,rfl⟩,q⟩
 | ref p =>
  cases rx;have e':(∃ xs,OO X.K H p xs/\n=xs.length)\/∃ xs,OU X.K H p xs/\n=xs.length:=e;rcases e' with ⟨xs,hx,e'⟩ | ⟨xs,hx,e'⟩
  .subst e';obtain ⟨its,r',pl,hz⟩:=I.list hx;have hlen:=r'.length;exact Calls.call_len_list pl.isList (by simp only [LK];lia) ⟨.int xs.length,H,I.tok _,⟨_,by simp only [LK];rw [hlen]⟩,q⟩
  .subst e';obtain ⟨its,r',pl,hz⟩:=I.tuple hx;have hlen:=r'.length;exact len_tuple pl (by simp only [LK];lia) ⟨.int xs.length,H,I.tok _,⟨_,by simp only [LK];rw [hlen]⟩,q⟩
 | _=>exact (show False from e).elim
end
section
variable {X:Cx} {ti:Qw} {Y:St} {H:Hp} {s:Qx} {a C dx:Qz} {fs:List (Str×V)} {f:Str} {v:V} {A:Around} {E:Qy}
theorem Ag (hb:attributeBase e f env (eval e env)=eval e env)
  (h:wMX prog w A (eval e env) (fun o ZW=>wMX prog w A (getAttr o f true) Q E ZW) E s):wMX prog w A (eval (.Attribute e f pos) env) Q E s :=
 Attribute_any_ h (by rw [arm_eval_Attribute,hb])
end
structure bN (k:Nat) (A:Around):Prop where
 hd:A.handled=none
 dp:A.depth+3*k+5 < recursionLimit
 un:A.units+16*k+200 < cLine
 gd:A.guards=some []
theorem bN.mono (r:bN k A) (h:j<=k):bN j A:=⟨r.hd,by have:=r.dp;lia,by have:=r.un;lia,r.gd⟩
theorem bN.deeper (r:bN (k+1) A) (env:Env):bN k (A.deeper env) :=
 ⟨r.hd,by have:=r.dp;show A.depth+1+3*k+5 < _;lia,by have:=r.un;show A.units+3+16*k+200 < _;lia,r.gd⟩
theorem bN.in1 (r:bN (k+1) A):bN k A.in1 :=
 ⟨r.hd,by have:=r.dp;show A.depth+3*k+5 < _;lia,by have:=r.un;show A.units+1+16*k+200 < _;lia,r.gd⟩
theorem jn {A:Around} {C:Qz} {us:List Qj} {kw:List (Str×Qj)}:(A.under (.builtin "type.__call__" ⟨.ref C :: us,kw⟩)).depth=A.depth+1:=by first | rfl | simp [Around.under,Code.weight,Code.isCreation,Code.isGuard,Code.isCaller,Code.frames,Code.isFrame,guardIds]
theorem qx {A:Around} {C:Qz} {us:List Qj} {kw:List (Str×Qj)}:(A.under (.builtin "type.__call__" ⟨.ref C :: us,kw⟩)).units=A.units+1:=by first | rfl | simp [Around.under,Code.cUnits,Code.frames,Code.isFrame]
theorem ny {A:Around} {C:Qz} {us:List Qj} {kw:List (Str×Qj)} (h:A.guards=some []):(A.under (.builtin "type.__call__" ⟨.ref C :: us,kw⟩)).guards=some []:=by first | simp [Around.under,Code.guards,Code.isGuard,guardIds,pushGuards,h]
theorem bN.make {k:Nat} {A:Around} (r:bN (k+1) A) (C:Qz) (us:List Qj) (kw:List (Str×Qj)):bN k (A.under (.builtin "type.__call__" ⟨.ref C :: us,kw⟩)) :=
 ⟨r.hd,by have:=r.dp;rw [jn];lia,by have:=r.un;rw [qx];lia,ny r.gd⟩
theorem bN.depth (r:bN k A):A.depth < recursionLimit:=by have:=r.dp;lia
theorem bN.units (r:bN k A):A.units+64 < cLine:=by have:=r.un;lia
theorem bN.tF (r:bN k A):A.units < cLine:=by have:=r.un;lia
def dX:TA:=fun _ H Q=>Q [] H
def aL (ta:TE) (tr:TA):TA:=fun Y H Q=>ta Y H fun x H1=>tr Y H1 fun xs H2=>Q (x :: xs) H2
section
variable {X:Cx} {e:Expr} {es:List Expr} {te:TE} {t:TA} {pos:Pos}
theorem jy:PA X [] dX:=fun _ _ _ _ H Q I h=>Calls.spliced_nil ⟨[],H,I,.nil,h⟩
theorem eM (ha:PE X e te) (hr:PA X es t) (hs:starEach (e :: es) X.env=(false,eval e X.env) :: starEach es X.env:=by rfl):PA X (e :: es) (aL te t):=by intro pos ti s Y H Q I h;rw [hs];show wpAny _ _ (spliced ((false,eval e X.env) :: backTo pos (starEach es X.env))) _ _ s;refine Calls.spliced_cons (Oq (ha ti s Y H _ I h) fun u s1 ⟨x,H1,I1,r1,q1⟩=>?_);exact Oq (hr pos ti s1 Y H1 _ I1 q1) fun us s2 ⟨xs,H2,I2,r2,q2⟩=>⟨x :: xs,H2,I2,.cons r1 r2,q2⟩
def FX (t:TA):TE:=fun Y H Q=>t Y H fun xs H1=>xs.length<=sizeLine/\∀ p,H1 p=none->Q (.ref p) (upd H1 p (.tup xs))
def HN (t:TA):TE:=fun Y H Q=>t Y H fun xs H1=>xs.length<=sizeLine/\∀ p,H1 p=none->Q (.ref p) (upd H1 p (.lst xs))
theorem Cj {x1} (h:PA X es t):PE X (.Tuple es x1 pos) (FX t):=by intro ti s Y H Q I hq;refine wpAny_Tuple_spliced (Oq (h pos ti s Y H _ I hq) fun us s1 ⟨xs,H1,I1,r,z,q⟩=>⟨by rw [<- r.length];exact z,?_⟩);have hf:H1 s1.heap.objs.size=none:=I1.IT.fresh (LA _);refine ⟨.ref s1.heap.objs.size,upd H1 s1.heap.objs.size (.tup xs),I1.laid (t':=s1.toks) (fun b u e=>LB _ e) (LA _) ?_,rfl,q _ hf⟩;exact ⟨z,us,r,⟨_,L0 _ rfl,rfl,_,rfl⟩⟩
theorem FG (h:PA X es t):PE X (.List es pos) (HN t):=by intro ti s Y H Q I hq;refine wpAny_List_spliced (Oq (h pos ti s Y H _ I hq) fun us s1 ⟨xs,H1,I1,r,z,q⟩=>⟨by rw [<- r.length];exact z,?_⟩);have hf:H1 s1.heap.objs.size=none:=I1.IT.fresh (LA _);refine ⟨.ref s1.heap.objs.size,upd H1 s1.heap.objs.size (.lst xs),I1.laid (t':=s1.toks) (fun b u e=>LB _ e) (LA _) ?_,rfl,q _ hf⟩;exact ⟨z,us,0,r,L0 _ rfl⟩
end
abbrev Sp:=List V->Hp->VK->XK->Prop
abbrev Q6:=List Env->Hp->Qx->XK->Qy
structure wb (P:Program) (w:World) (K:Fg) (mg:Qg) (base:Heap) (A:Around) (outer:List Env) (s:Qx) (H:Hp):Prop where
 frames:A.frames=some outer
 mod:Mod K mg base
 bs:∀ b o,base.get? b=some o->s.heap.get? b=some o/\H b=none
 QO:base.objs.size<=s.heap.objs.size
 jT:s.heap.FunFrames base outer
 Ql:∀ b∈Oj outer,H b=none
 IT:O6 P w H s.heap
 bare:AllBare s.gens
def CE (outer:List Env) (P:Program) (w:World) (H:Hp) (s:Qx) (Q:VK) (u:Qj) (s':Qx):Prop :=
 ∃ v H',s'.os=s.os/\AllBare s'.gens/\Un (Oj outer) [] H H' s.heap s'.heap/\O6 P w H' s'.heap/\RelV v u/\Q v H'
def CR (CX:Q6) (outer:List Env) (P:Program) (w:World) (H:Hp) (s:Qx) (Q:VK) (E:XK) (r:Result) (s':Qx):Prop :=
 match r with
 | .ok (.ret u)=>CE outer P w H s Q u s'
 | .ok _=>False
 | .error e=>CX outer H s E e s'
structure fI (P:Program) (w:World) (K:Fg) (mg:Qg) (base:Heap) (CX:Q6) (k:Nat) (f:Qz) (fd:FuncData) (ps:List Str) (sp:Sp):Prop where
 len:∀ vs H Q E,sp vs H Q E->vs.length=ps.length
 run:∀ (A:Around) (outer:List Env) (s:Qx) (H:Hp) (args:Args) (us:List Qj) (vs:List V) (Q:VK) (E:XK),bN k A->wb P w K mg base A outer s H->BindsTo s fd args (ps.zip us)->Vals vs us->sp vs H Q E ->
  codeAny (model P w) A (.call (.ref f) args) (CR CX outer P w H s Q E) s
theorem wb.make {P:Program} {w:World} {K:Fg} {mg:Qg} {base:Heap} {A:Around} {outer:List Env} {s:Qx} {H:Hp} (e:wb P w K mg base A outer s H) (C:Qz) (us:List Qj) (kw:List (Str×Qj)) :
  wb P w K mg base (A.under (.builtin "type.__call__" ⟨.ref C :: us,kw⟩)) outer s H:=⟨by first | exact e.frames | (simpa [Around.under,Code.envs,Code.isFrame,pushEnvs] using e.frames),e.mod,e.bs,e.QO,e.jT,e.Ql,e.IT,e.bare⟩
section
variable {X:Cx} {ti:Qw} {Y:St} {H:Hp} {s s':Qx}
theorem Inv.FJ (I:Inv X ti Y H s):wb X.prog X.w X.K X.mg X.base X.A X.stack s H :=
 ⟨I.ok.frames,I.ok.mod,I.bs,LG I.ok.QO I.sz,I.stack,I.iP,I.IT,I.bare⟩
theorem Inv.after (I:Inv X ti Y H s) (h:CE X.stack X.prog X.w H s Q u s'):EP X ti Y Q u s':=by obtain ⟨v,H',os,bare,un,IT,r,q⟩:=h;obtain ⟨hh,g,d,t,os'⟩:=s';obtain rfl:os'=s.os:=os;exact ⟨v,H',I.call (h':=hh) (g':=g) (d':=d) (t':=t) (ch:=[]) un IT bare (fun b z=>absurd z (by simp)),r,q⟩
end
def oq (sp:Sp) (R5:List V) (E:XK) (t:TA):TE:=fun Y H Q=>t Y H fun vs H1=>sp (vs++R5) H1 Q E
def Binds (K:Fg) (fd:FuncData) (ps:List Str) (ds:List Qj):Prop :=
 ∀ (s:Qx) (us:List Qj),K.In s.heap->(us++ds).length=ps.length->BindsTo s fd ⟨us,[]⟩ (ps.zip (us++ds))
theorem Binds.all {K:Fg} {fd:FuncData} {ps:List Str} (h:(us:List Qj)->us.length=ps.length->bindArgs fd ⟨us,[]⟩=pure (ps.zip us)):Binds K fd ps []:=fun s us _ hl=>by rw [L7] at hl ⊢;exact .of_eq (h us hl)
def Passes (CX:Q6) (X:Cx) (E:XK):Prop:=∀ (ti:Qw) (Y:St) (H:Hp) (s:Qx) (e:Qj) (s':Qx),Inv X ti Y H s->CX X.stack H s E e s'->X.xe e s'
section
variable {X:Cx} {CX:Q6} {k:Nat} {f C:Qz} {fd:FuncData} {ps:List Str} {sp:Sp} {R5:List V} {ds:List Qj} {E:XK} {x m:Str} {p pos apos:Pos} {e o:Expr} {es:List Expr} {ta:TE} {t:TA}
theorem ze (F:fI X.prog X.w X.K X.mg X.base CX k f fd ps sp) (hr:bN k X.A) (hb:Binds X.K fd ps ds) (hd:Vals R5 ds) (hx:Passes CX X E)
  (I:Inv X ti Y H s) (r:Vals vs us) (h:sp (vs++R5) H Q E):wMY X (call (.ref f) us) (EP X ti Y Q) X.xe s:=by
 have r2:Vals (vs++R5) (us++ds):=r.append hd;have hl:(us++ds).length=ps.length:=by rw [<- r2.length];exact F.len _ _ _ _ h
 refine N8 (NQ (F.run X.A X.stack s H ⟨us,[]⟩ (us++ds) (vs++R5) Q E hr I.FJ (hb s us I.OL hl) r2 h) fun r s' hq=>?_);cases r with
 | error e=>exact hx ti Y H s e s' I hq
 | ok fl =>
  cases fl with
  | ret u=>exact I.after hq
  | next=>exact False.elim hq
  | brk=>exact False.elim hq
  | cont=>exact False.elim hq
theorem As (F:fI X.prog X.w X.K X.mg X.base CX k f fd ps sp) (hr:bN k X.A) (hg:Gl X x) (hm:X.mg x=some (.ref f)) (hk:PySem.W.keepIn X.K (.ref f)=true) (hb:Binds X.K fd ps ds) (hd:Vals R5 ds) (hx:Passes CX X E)
  (ha:PA X (e :: es) t) (QR:Qv x:=by decide) (he:starEach (e :: es) X.env=(false,eval e X.env) :: starEach es X.env:=by rfl) (QU:(backTo pos (starEach es X.env)).any (·.1)=false:=by rfl) :
  PE X (.Call (.Name x p) (e :: es) [] pos) (oq sp R5 E t):=by intro ti s Y H Q I h;refine MQ (cO I hg hm ?_ QR);refine NT (h₀:=X.base) I.ok.mod.RW hk (Oq (ha pos ti s Y H _ I h) fun us s1 ⟨vs,H1,I1,r,q⟩=>⟨I1.OL,?_⟩) he QU;exact ze F hr hb hd hx I1 r q
end
def PK (X:Cx) (kws:List Keyword) (t:TA):Prop :=
 ∀ (pos:Pos) (ti:Qw) (s:Qx) (Y:St) (H:Hp) (Q:List V->Hp->Prop),Inv X ti Y H s->t Y H Q->wMY X (evalAll ((backToKw pos (keywordEach kws X.env)).map (·.2))) (AP X ti Y Q) X.xe s
section
variable {X:Cx} {CX:Q6} {k:Nat} {f C:Qz} {fd:FuncData} {ps ks:List Str} {sp:Sp} {E:XK} {x m:Str} {p pos apos Rr:Pos} {e o:Expr} {es:List Expr} {kws:List Keyword} {te ta:TE} {t tk:TA} {nm:Option Str}
theorem Fs:PK X [] dX:=fun _ _ _ _ H Q I h=>wpAny_evalAll_nil ⟨[],H,I,.nil,h⟩
theorem AE (ha:PE X e te) (hr:PK X kws t):PK X (⟨nm,e,Rr⟩ :: kws) (aL te t):=by intro pos ti s Y H Q I h;show wpAny _ _ (evalAll ((do let v<-eval e X.env;standAt pos;pure v) :: (backToKw pos (keywordEach kws X.env)).map (·.2))) _ _ s;refine wpAny_evalAll_cons (Lm (Oq (ha ti s Y H _ I h) fun u s1 ⟨x,H1,I1,r1,q1⟩=>Lm (NH (Lu ?_))));exact Oq (hr pos ti s1 Y H1 _ I1 q1) fun us s2 ⟨xs,H2,I2,r2,q2⟩=>⟨x :: xs,H2,I2,.cons r1 r2,q2⟩
variable {g:List Qj->List Qj->List Qj} {gV:List V->List V->List V}
end
structure a6 (N P:List Str) (sc:Scope):Prop where
 kind:sc.kind=.function
 co:sc.isCoroutine=false
 gen:sc.isGenerator=false
 nd:N.Nodup
 pre:N.take P.length=P
 par:∀ x∈P,sc.names.lookup x=some .local\/sc.names.lookup x=some .cell
 Cf:∀ y∈sc.names,y.2≠.free
theorem lJ {kindOf:Str->Option NameKind} {x:Str}:∀ {binds:List (Str×Qj)} {m:Str->Option Qj},(∀ v,(x,v) ∉ binds)->bindL kindOf binds m x=m x
 | [],_,_=>rfl
 | (n,v) :: r,m,h=>by
  unfold bindL;rw [lJ fun w hw=>h w (Ly _ hw)];split
  .have:x≠n:=by rintro rfl;exact h v Lq
   simp [this]
  .rfl
theorem l9 {kindOf:Str->Option NameKind} {x:Str}:∀ {binds:List (Str×Qj)} {m:Str->Option Qj},(∀ v,(x,v) ∉ binds)->bindC kindOf binds m x=m x
 | [],_,_=>rfl
 | (n,v) :: r,m,h=>by
  unfold bindC;rw [l9 fun w hw=>h w (Ly _ hw)];split
  .rfl
  .have:x≠n:=by rintro rfl;exact h v Lq
   simp [this]
theorem ma {kindOf:Str->Option NameKind} {x:Str} {v:Qj}:∀ {P:List Str} {vs:List Qj} {i:Nat} {m:Str->Option Qj},P.Nodup->P[i]?=some x->vs[i]?=some v->kindOf x=some .local ->
  bindL kindOf (P.zip vs) m x=some v
 | [],_,_,_,_,h,_,_=>by simp at h
 | _ :: _,[],_,_,_,_,h,_=>by simp at h
 | p :: P,w :: vs,0,m,nd,h1,h2,hk=>by simp at h1 h2;subst h1;subst h2;show bindL kindOf ((p,w) :: P.zip vs) m p=_;unfold bindL;rw [lJ fun v hv=>(MA.mp nd).1 (List.of_mem_zip hv).1,Lz hk];simp
 | p :: P,w :: vs,i+1,m,nd,h1,h2,hk=>by show bindL kindOf ((p,w) :: P.zip vs) m x=_;unfold bindL;exact ma (i:=i) (MA.mp nd).2 (by simpa using h1) (by simpa using h2) hk
theorem lq {kindOf:Str->Option NameKind} {x:Str} {v:Qj}:∀ {P:List Str} {vs:List Qj} {i:Nat} {m:Str->Option Qj},P.Nodup->P[i]?=some x->vs[i]?=some v->kindOf x≠some .local ->
  bindC kindOf (P.zip vs) m x=some v
 | [],_,_,_,_,h,_,_=>by simp at h
 | _ :: _,[],_,_,_,_,h,_=>by simp at h
 | p :: P,w :: vs,0,m,nd,h1,h2,hk=>by simp at h1 h2;subst h1;subst h2;show bindC kindOf ((p,w) :: P.zip vs) m p=_;unfold bindC;rw [l9 fun v hv=>(MA.mp nd).1 (List.of_mem_zip hv).1,Lw hk];simp
 | p :: P,w :: vs,i+1,m,nd,h1,h2,hk=>by show bindC kindOf ((p,w) :: P.zip vs) m x=_;unfold bindC;exact lq (i:=i) (MA.mp nd).2 (by simpa using h1) (by simpa using h2) hk
noncomputable def start (N:List Str) (vs:List V):St:=vs.map some++List.replicate (N.length - vs.length) none
noncomputable def i6 (CX:Q6) (P:Program) (w:World) (K:Fg) (mg:Qg) (base:Heap) (N:List Str) (qual:Str) (scope:Scope) (f:Qz) (cd:Qj) (A:Around) (outer:List Env) (s:Qx) (H:Hp) (E:XK):Cx where
 prog:=P
 w:=w
 K:=K
 mg:=mg
 base:=base
 A:=A.deeper (envOfC qual scope s.heap.objs.size f cd)
 N:=N
 ZZ:=s
 ZO:=H
 env:=envOfC qual scope s.heap.objs.size f cd
 outer:=outer
 stack:=envOfC qual scope s.heap.objs.size f cd :: outer
 ex:=[]
 calm:=true
 fn:=fun _=>true
 pn:=[]
 xe:=fun e s'=>wMX P w (A.deeper (envOfC qual scope s.heap.objs.size f cd)) (leaving (envOfC qual scope s.heap.objs.size f cd) e) (fun _ US=>CX outer H s E e US) (fun e' US=>CX outer H s E e' US) s'
theorem pQ {sc:Scope} {n:Nat} {x:Str} (h:sc.names.lookup x=some .cell):∃ c,(cellsFrom n sc.names []).lookup x=some c:=by have q:=PySem.W.cellsFrom_some sc.names n [] (.inl h);exact Option.isSome_iff_exists.mp q
theorem lh {CX:Q6} {P:Program} {w:World} {K:Fg} {mg:Qg} {base:Heap} {N ps:List Str} {qual:Str} {scope:Scope} {f:Qz} {cd:Qj} {A:Around} {outer:List Env} {s s1:Qx} {H:Hp} {E:XK} {us:List Qj} {vs:List V}
  (S:a6 N ps scope) (hd:A.handled=none) (e0:wb P w K mg base A outer s H) (hl:vs.length=ps.length) (r:Vals vs us)
  (x:InCallC s s.heap.objs.size (bindL (envOfC qual scope s.heap.objs.size f cd).kindOf (ps.zip us) fun _=>none) (cellsFrom (s.heap.objs.size+1) scope.names []) (bindC (envOfC qual scope s.heap.objs.size f cd).kindOf (ps.zip us) fun _=>none) s1) :
  Inv (i6 CX P w K mg base N qual scope f cd A outer s H E) [] (start N vs) H s1:=by
 have QU:ps.length<=N.length:=by have:=congrArg List.length S.pre;rw [Mi] at this;lia
 obtain ⟨h1,tk,rfl,hk⟩:=x.done;have Vu:(b:Qz)->b ∉ (i6 CX P w K mg base N qual scope f cd A outer s H E).ex:=fun b z=>absurd (show b∈([]:List Qz) from z) (by simp)
 refine ⟨⟨e0.mod,S.kind,rfl,rfl,LA _,fun y z c h1 h2=>?_,fun y hy=>?_,fun y c _ h=>?_,fun _=>hd,Around.frames_deeper e0.frames,.inr ⟨rfl,rfl⟩,fun b z=>absurd z (Vu b),e0.bs,e0.QO,fun b _ _=>Vu b,fun b z=>absurd z (Vu b),e0.jT,e0.Ql⟩,
  rfl,e0.bare,Un.kept hk,⟨_,x.toInCall.ns,fun i y v h1 h2 h3=>?_⟩,fun y c h=>⟨_,x.cell y c h⟩,e0.IT.fresh (LA _),fun y c h=>?_,fun p hp=>absurd (show p∈([]:Qw) from hp) (by simp),e0.IT.kept hk,?_⟩
 .exact name_of_addr x.apart (Nu h1) (Nu h2)
 .have hy:scope.names.lookup y=some .cell\/scope.names.lookup y=some .free:=hy;rcases hy with hy | hy
  .exact pQ hy
  .exact absurd rfl (S.Cf _ (Nu hy))
 .exact NC (x.above y c (Nu h))
 .have hi:i < vs.length:=by
   unfold start at h2;by_cases hi:i < vs.length
   .exact hi
   .rw [Lr (by simpa using hi)] at h2;rw [List.getElem?_replicate] at h2;split at h2 <;> cases h2
  have ha:vs[i]?=some v:=by
   unfold start at h2;rw [LL (by simpa using hi),LO] at h2;cases e:vs[i]? with
   | none=>rw [e] at h2;cases h2
   | some a=>rw [e] at h2;cases h2;rfl
  obtain ⟨u,hu,rv⟩:=r.get ha;have hp:ps[i]?=some y:=by rw [<- S.pre,N2 (by lia)];exact h1
  have ZP:ps.Nodup:=by rw [<- S.pre];exact S.nd.sublist (List.take_sublist _ _)
  refine ⟨u,rv,?_⟩;rcases S.par y (LP hp) with k | k
  .exact .inl ⟨k,ma ZP hp hu k⟩
  .obtain ⟨c,e⟩:=pQ (n:=s.heap.objs.size+1) k;refine .inr ⟨.inl k,c,e,?_⟩;have q:=x.cell y c e;rw [lq ZP hp hu (by show scope.names.lookup y≠_;rw [k];decide)] at q;exact q
 .exact e0.IT.fresh (NC (x.above y c (Nu h)))
 .unfold start;show _=N.length;rw [Ln,Lo,Og];lia
theorem z8 {CX:Q6} {P:Program} {w:World} {K:Fg} {mg:Qg} {base:Heap} {k:Nat} {f:Qz} {name qual:Str} {params:Arguments} {body:List Stmt} {scope:Scope} {dV kV doc pm OA ct oc:Qj} {an od:Option Qz}
  {R6:Array (Option Qj)} {N ps:List Str} {sp:Sp} (lk:K.lookup f=some ⟨oc,od,.func (PySem.W.fnOf name qual params body scope dV kV doc pm an OA ct),R6⟩) (Pt:PySem.W.codeIn K OA qual=true) (S:a6 N ps scope)
  (len:∀ vs H Q E,sp vs H Q E->vs.length=ps.length)
  (OY:∀ (A:Around) (outer:List Env) (s:Qx) (H:Hp) (vs:List V) (Q:VK) (E:XK),bN k (A.deeper (envOfC qual scope s.heap.objs.size f OA))->sp vs H Q E ->
   ∃ t,QG (i6 CX P w K mg base N qual scope f OA A outer s H E) body t/\t { nx:=fun _ H'=>Q .non H',rt:=Q } (start N vs) H) :
  fI P w K mg base CX (k+1) f (PySem.W.fnOf name qual params body scope dV kV doc pm an OA ct) ps sp:=by
 refine ⟨len,fun A outer s H args us vs Q E hr e0 hb r Pu=>?_⟩;have hl:=len _ _ _ _ Pu;have KX:K.In s.heap:=e0.mod.RW.keeps fun b o e=>(e0.bs b o e).1;have lim:s.heap.NoLimit:=e0.mod.nolimit.keeps fun b o e=>(e0.bs b o e).1;have R7:∀ y∈ps.zip us,scope.names.lookup y.1=some .local\/(scope.names.lookup y.1=some .cell/\((cellsFrom (s.heap.objs.size+1) scope.names []).lookup y.1).isSome=true):=fun ⟨n,v⟩ hy=>by
  rcases S.par n (List.of_mem_zip hy).1 with q | q
  .exact .inl q
  .exact .inr ⟨q,PySem.W.cellsFrom_some _ _ _ (.inl q)⟩
 refine codeAny_call_function hr.depth (KX _ _ lk) rfl S.co S.gen rfl (PySem.W.codeRec_of KX Pt) (hb _ _ _ _ ?_);refine wpAny_newFunctionEnv_cells S.kind R7 fun env he s1 x=>?_;subst he;refine ⟨lim.keeps x.toInCall.keep,codeAny_func ?_⟩;obtain ⟨t,ht,hq⟩:=OY A outer s H vs Q E (hr.deeper _) Pu;have I:Inv (i6 CX P w K mg base N qual scope f OA A outer s H E) [] (start N vs) H s1:=lh S hr.hd e0 hl r x;refine L6 (ht [] s1 (start N vs) H _ I hq) (fun fl s' hs=>?_) fun e s' hs=>hs;have fin:∀ {Z':St} {H':Hp} {v:V} {u:Qj},Inv (i6 CX P w K mg base N qual scope f OA A outer s H E) [] Z' H' s'->RelV v u->Q v H'->CE outer P w H s Q u s' :=
  fun {Z' H' v u} J rv q=>⟨v,H',J.os,J.bare,J.base,J.IT,rv,q⟩
 cases fl with
 | ret u =>
  obtain ⟨v,Z',H',J,rv,q⟩:=hs;exact fin J rv q
 | next =>
  obtain ⟨Z',H',J,q⟩:=hs;exact fin (v:=V.non) (u:=Value.none) J rfl q
 | brk =>
  obtain ⟨_,_,_,q⟩:=hs;exact False.elim q
 | cont =>
  obtain ⟨_,_,_,q⟩:=hs;exact False.elim q
section
variable {X:Cx} {x:Str} {p pos:Pos} {e:Expr} {es:List Expr} {t:TA} {id T:String} {r:List V->Hp->VK->Prop}
def PN (r:List V->Hp->VK->Prop) (t:TA):TE:=fun Y H Q=>t Y H fun vs H1=>r vs H1 Q
theorem xj (hc:aH X (.builtin id) r) (hg:Gl X x) (hm:X.mg x=none) (hv:bootBuiltins x=some (.builtin id)) (ha:PA X (e :: es) t) (hn:x ≠ "__name__" := by decide) (QR:Qv x:=by decide)
  (he:starEach (e :: es) X.env=(false,eval e X.env) :: starEach es X.env:=by rfl) (QU:(backTo pos (starEach es X.env)).any (·.1)=false:=by rfl):PE X (.Call (.Name x p) (e :: es) [] pos) (PN r t):=by intro ti s Y H Q I h;refine MQ (jV I hg hm hv ?_ hn QR);exact PyProof.Rows.callWith_builtin1 (Oq (ha pos ti s Y H _ I h) fun us s1 ⟨vs,H1,I1,r1,q1⟩=>hc ti s1 Y H1 vs us Q I1 r1 q1) he QU
theorem vL (hc:aH X (.type T) r) (hg:Gl X x) (hm:X.mg x=none) (hv:bootBuiltins x=some (.type T)) (ha:PA X (e :: es) t) (hn:x ≠ "__name__" := by decide) (QR:Qv x:=by decide)
  (he:starEach (e :: es) X.env=(false,eval e X.env) :: starEach es X.env:=by rfl) (QU:(backTo pos (starEach es X.env)).any (·.1)=false:=by rfl):PE X (.Call (.Name x p) (e :: es) [] pos) (PN r t):=by intro ti s Y H Q I h;refine MQ (jV I hg hm hv ?_ hn QR);exact PyProof.Rows.callWith_type1 (Oq (ha pos ti s Y H _ I h) fun us s1 ⟨vs,H1,I1,r1,q1⟩=>hc ti s1 Y H1 vs us Q I1 r1 q1) he QU
end
end L2
namespace HT
open PySem PyProof.Rows
section
variable {prog:Program} {w:World} {A:Around} {E:Qy} {s:Qx}
theorem Ao (ht:IsTup s.heap t vs.toArray) (hb:IsTup s.heap b ws.toArray) (hv:vs≠[])
  (h1:ws=[]->Q (.ref t) s) (h2:ws≠[]->Q (.ref s.heap.objs.size) { s with heap:=s.heap.push { cls:=.type "tuple", data:=.seq (vs++ws).toArray } })
  (Pn:vs.length+ws.length<=sizeLine):wMX prog w A (binaryOp .Add (.ref t) (.ref b)) Q E s:=by
 obtain ⟨⟨cls,dd,data,sl⟩,ho,hc,n,hd⟩:=id ht;obtain ⟨⟨Vv,TK,data2,TL⟩,SH,RO,n2,hd2⟩:=id hb;simp only at hc hd RO hd2;subst hc hd RO hd2;have e:vs.toArray++ws.toArray=(vs++ws).toArray:=by simp
 by_cases hw:ws=[]
 .exact concat_meets ⟨_,ho,rfl⟩ ⟨_,SH,rfl⟩ noFill_tuple_add seq_tuple_add PySem.F.slot_tuple_add PySem.F.entry_tuple_add (PySem.F.args_tuple_add_2 _ _)
   (tuple_addW1 t b vs.toArray ws.toArray n n2 dd TK sl TL (by simpa using hv) (by simp [hw])) ⟨ho,SH,h1 hw⟩
 .refine concat_meets ⟨_,ho,rfl⟩ ⟨_,SH,rfl⟩ noFill_tuple_add seq_tuple_add PySem.F.slot_tuple_add PySem.F.entry_tuple_add (PySem.F.args_tuple_add_2 _ _)
   (tuple_addW2 t b vs.toArray ws.toArray n n2 dd TK sl TL (by simpa using hv) (by simpa using hw) (by rw [LK,LK];exact Pn)) ⟨ho,SH,?_⟩
  rw [e];exact h2 hw
noncomputable def Ov (n d:Nat):Option Int->Nat
 | none=>d
 | some v=>if v < 0 then (v+(n:Int)).toNat else min v.toNat n
theorem pT (n d:Nat) (hd:d<=n) (o:Option Int):Ov n d o<=n:=by
 cases o with
 | none=>exact hd
 | some v =>
  show (if v < 0 then (v+(n:Int)).toNat else min v.toNat n)<=n;by_cases hv:v < 0
  .rw [Lz hv];lia
  .rw [Lw hv];exact Nat.min_le_right _ _
theorem vO (v:Int) (n d:Nat):(if v < 0 then max (v+(n:Int)) 0 else min v (n:Int))=((Ov n d (some v):Nat):Int):=by
 show (if v < 0 then max (v+(n:Int)) 0 else min v (n:Int))=(((if v < 0 then (v+(n:Int)).toNat else min v.toNat n):Nat):Int);by_cases hv:v < 0
 .simp only [Lz hv];lia
 .simp only [Lw hv];lia
theorem qO (lo hi:Option Int) (n:Nat):Builtin.Slice.sliceAdjust lo hi 1 (n:Int)=(((Ov n 0 lo:Nat):Int),((Ov n n hi:Nat):Int)):=by
 have h1:¬((1:Int) < 0):=by lia
 unfold Builtin.Slice.sliceAdjust;simp only [h1,Nv];refine Prod.ext ?_ ?_
 .cases lo with
  | none=>rfl
  | some v=>exact vO v n 0
 .cases hi with
  | none=>rfl
  | some v=>exact vO v n n
theorem qD (i j:Nat):Builtin.Slice.slicePlaces (i:Int) (j:Int) 1=j - i:=by
 unfold Builtin.Slice.slicePlaces;have h1:(1:Int) > 0:=by lia
 simp only [h1,NP,Int.ediv_one];split <;> lia
theorem jv (p:IsPart v o) (h:Q o s):wMX prog w A (Builtin.Slice.slicePartIndex v) Q E s:=by
 cases p with
 | none=>exact slicePart_none h
 | int i t=>exact slicePart_int h
theorem gL {sl:Qz} {vl vu:Qj} {lo hi:Option Int} {n:Nat} {Q:Int×Int×Nat->Qx->Prop} (hs:s.heap.IsSliceOf sl vl vu .none) (pl:IsPart vl lo) (pu:IsPart vu hi)
  (h:Q (((Ov n 0 lo:Nat):Int),1,Ov n n hi - Ov n 0 lo) s):wMX prog w A (Builtin.Slice.sliceApplied (.ref sl) (pure (n:Int))) Q E s:=by obtain ⟨os,Vx,ZQ,WK⟩:=id hs;unfold Builtin.Slice.sliceApplied Builtin.Slice.sliceFields;refine Lm (Lm (NK Vx WK (x:=vl) rfl (Lm (NK Vx WK (x:=vu) rfl (Lm (NK Vx WK (x:=.none) rfl (Lu ?_)))))));refine Lm (slicePart_none ?_);show wpAny _ _ (if ((1:Int)==0)=true then _ else _) _ _ s;rw [Lw (by decide)];refine Lm (jv pl (Lm (jv pu (Lm (Lu ?_)))));show wpAny _ _ (match Builtin.Slice.sliceAdjust lo hi 1 (n:Int) with | (lo,hi)=>pure (lo,(1:Int),Builtin.Slice.slicePlaces lo hi 1)) _ _ s;rw [qO lo hi n];show wpAny _ _ (pure (((Ov n 0 lo:Nat):Int),(1:Int),Builtin.Slice.slicePlaces ((Ov n 0 lo:Nat):Int) ((Ov n n hi:Nat):Int) 1)) _ _ s;rw [qD];exact Lu h
theorem wB (xs:Array Qj) (i k:Nat):((List.range k).filterMap fun (m:Nat)=>xs[((i:Int)+(m:Int)*1).toNat]?).toArray=((xs.toList.drop i).take k).toArray:=by
 have e:(fun (m:Nat)=>xs[((i:Int)+(m:Int)*1).toNat]?)=fun m=>xs[i+m]?:=by
  funext m;have:((i:Int)+(m:Int)*1).toNat=i+m:=by lia
  rw [this]
 rw [e];have:=pick_run xs i k;rw [List.filterMap_map] at this;have e2:((fun x=>xs[x]?)∘fun x=>i+x)=fun m=>xs[i+m]?:=rfl;rw [e2] at this;rw [this]
theorem fM {t sl:Qz} {items:Array Qj} {vl vu:Qj} {lo hi:Option Int} {Q:Qy} (ht:IsTup s.heap t items) (hs:s.heap.IsSliceOf sl vl vu .none) (pl:IsPart vl lo) (pu:IsPart vu hi)
  (hw:¬(Ov items.size 0 lo=0/\Ov items.size items.size hi=items.size))
  (h:Q (.ref s.heap.objs.size) { s with heap:=s.heap.push { cls:=.type "tuple", data:=.seq ((items.toList.drop (Ov items.size 0 lo)).take (Ov items.size items.size hi - Ov items.size 0 lo)).toArray } })
  (Pn:items.size<=sizeLine):wMX prog w A (getItem (.ref t) (.ref sl)) Q E s:=by
 have Q7:sizeOk (.seq ((items.toList.drop (Ov items.size 0 lo)).take (Ov items.size items.size hi - Ov items.size 0 lo)).toArray):=by show ((items.toList.drop (Ov items.size 0 lo)).take (Ov items.size items.size hi - Ov items.size 0 lo)).toArray.size<=sizeLine;rw [LK,Mi,ME,ML];lia
 have hj:Ov items.size items.size hi<=items.size:=pT _ _ (LA _) hi;obtain ⟨os,Vx,ZQ,WK⟩:=id hs;have hTs:s.TypeIs (.ref sl) "slice" := ⟨os,Vx,ZQ⟩;unfold getItem;try with_reducible refine MG ?_
 first | refine Lm (Lu ?_) | skip
 refine Lm (wpAny_sequenceKey ht.typeIs (by decide) ?_)
 refine Lm (M4 (name:=Str.ofString "__getitem__") ht.typeIs PyProof.Rows.slot_tuple_getitem
  (Nq PyProof.Rows.slot_tuple_getitem ht.typeIs entry_tuple_getitem ?_ (args_tuple_getitem _ _)))
 show wpAny _ _ (Builtin.Tuple.tupleItemsOf (.ref t)>>=_) _ _ s;refine Lm (tupleItemsOf_ ht ?_);refine Lm (wpAny_typeOf hTs ?_);rw [Lz (by decide)];refine Lm (gL hs pl pu ?_);have PV:¬((((Ov items.size 0 lo:Nat):Int)==0&&(1:Int)==1&&(Ov items.size items.size hi - Ov items.size 0 lo)==items.size)=true):=by intro q;rw [Mj,Mj] at q;have q1:((Ov items.size 0 lo:Nat):Int)=0:=eq_of_beq q.1.1;have q2:Ov items.size items.size hi - Ov items.size 0 lo=items.size:=eq_of_beq q.2;exact hw ⟨by lia,by lia⟩
 show wpAny _ _ (if (((Ov items.size 0 lo:Nat):Int)==0&&(1:Int)==1&&(Ov items.size items.size hi - Ov items.size 0 lo)==items.size)=true then _ else _) _ _ s;rw [Lw PV,wB];first
  | exact Lm (m:=Builtin.Tuple.tupleExact _) (MJ (Lu ⟨_,rfl,Lu h⟩) Q7)
  | exact Lm (m:=Builtin.Tuple.tupleExact _) (MJ (Lm (Lu (Lu ⟨_,rfl,Lu h⟩))) Q7)
  | exact Lm (Lm (m:=Builtin.Tuple.tupleExact _) (MJ (Lu (Lu ⟨_,rfl,Lu h⟩)) Q7))
  | exact Lm (Lm (m:=Builtin.Tuple.tupleExact _) (MJ (Lu ⟨_,rfl,Lu h⟩) Q7))
end
end HT
namespace L2
open PySem PySem.Spec PyProof.Rows
abbrev TO:=St->Hp->(Option Int->Hp->Prop)->Prop
def PO (X:Cx) (e:Option Expr) (t:TO):Prop :=
 ∀ (ti:Qw) (s:Qx) (Y:St) (H:Hp) (Q:Option Int->Hp->Prop),Inv X ti Y H s->t Y H Q ->
  wMY X (evalPart e X.env) (fun u s'=>∃ o H',Inv X ti Y H' s'/\IsPart u o/\Q o H') X.xe s
def rp:TO:=fun _ H Q=>Q none H
def FL (t:TE):TO:=fun Y H Q=>t Y H fun x H1=>∃ i,x=.int i/\Q (some i) H1
section
variable {X:Cx} {e:Expr} {te:TE} {lo hi:Option Expr} {tl th:TO} {pos p2:Pos}
theorem Bq:PO X none rp:=by intro ti s Y H Q I h;rw [evalPart_none];exact Lu ⟨none,H,I,.none,h⟩
theorem Ah (h:PE X e te):PO X (some e) (FL te):=by intro ti s Y H Q I hw;rw [evalPart_some];refine Oq (h ti s Y H _ I hw) fun u s1 ⟨x,H1,I1,r1,q1⟩=>?_;obtain ⟨i,rfl,q⟩:=q1;obtain ⟨t,rfl⟩:=r1;exact ⟨some i,H1,I1,.int i t,q⟩
def Rt (X:Cx) (r:V->Option Int->Option Int->Hp->VK->Prop):Prop :=
 ∀ (ti:Qw) (s:Qx) (Y:St) (H:Hp) (x:V) (v vl vu:Qj) (lo hi:Option Int) (sl:Qz) (Q:VK),Inv X ti Y H s->RelV x v->s.heap.IsSliceOf sl vl vu .none->IsPart vl lo->IsPart vu hi->r x lo hi H Q ->
  ∃ T id,typeLookup (.type T) "__getitem__" = pure (some (.builtin id))/\s.TypeIs v T/\wMY X (getItem v (.ref sl)) (EP X ti Y Q) X.xe s
theorem Rt.or {r r':V->Option Int->Option Int->Hp->VK->Prop} (h:Rt X r) (h':Rt X r'):Rt X (fun x lo hi H Q=>r x lo hi H Q\/r' x lo hi H Q):=by
 intro ti s Y H x v vl vu lo hi sl Q I rx hs pl pu q;rcases q with q | q
 .exact h ti s Y H x v vl vu lo hi sl Q I rx hs pl pu q
 .exact h' ti s Y H x v vl vu lo hi sl Q I rx hs pl pu q
def ZR (r:V->Option Int->Option Int->Hp->VK->Prop) (te:TE) (tl th:TO):TE:=fun Y H Q=>te Y H fun x H1=>tl Y H1 fun l H2=>th Y H2 fun u H3=>r x l u H3 Q
theorem xR (hr:Rt X r) (he:PE X e te) (hl:PO X lo tl) (hu:PO X hi th):PE X (.Subscript e (.Slice lo hi none p2) pos) (ZR r te tl th):=by intro ti s Y H Q I h;refine Subscript_ (Oq (he ti s Y H _ I h) fun v s1 ⟨x,H1,I1,r1,q1⟩=>?_);refine wpAny_Slice (Oq (hl ti s1 Y H1 _ I1 q1) fun vl s2 ⟨l,H2,I2,pl,q2⟩=>Oq (hu ti s2 Y H2 _ I2 q2) fun vu s3 ⟨u,H3,I3,pu,q3⟩=>?_);rw [evalPart_none];refine Lu ?_;have I4:Inv X ti Y H3 { s3 with heap:=s3.heap.push { cls:=.type "slice", data:=.fields #[vl,vu,.none] } }:=I3.kept (t':=s3.toks) fun b ob q=>LB _ q;obtain ⟨T,id,hT,ht,hg⟩:=hr ti { s3 with heap:=s3.heap.push { cls:=.type "slice", data:=.fields #[vl,vu,.none] } } Y H3 x v vl vu l u s3.heap.objs.size Q I4 r1 (Heap.IsSliceOf.new ..) pl pu q3;show wMY X (subscriptTail e (.Slice lo hi none p2) v (.ref s3.heap.objs.size)) (EP X ti Y Q) X.xe { s3 with heap:=s3.heap.push { cls:=.type "slice", data:=.fields #[vl,vu,.none] } };exact tail_any (ops:=[.ref s3.heap.objs.size,v]) ht hT hg (by with_unfolding_all rfl)
def vV (xs:List V) (lo hi:Option Int):List V:=(xs.drop (HT.Ov xs.length 0 lo)).take (HT.Ov xs.length xs.length hi - HT.Ov xs.length 0 lo)
theorem iw (xs:List V) (lo hi:Option Int):(vV xs lo hi).length<=xs.length:=by unfold vV;rw [Mi,ME];lia
def JQ (K:Fg):V->Option Int->Option Int->Hp->VK->Prop:=fun x lo hi H Q=>∃ a xs,x=.ref a/\OU K H a xs /\
 ¬(HT.Ov xs.length 0 lo=0/\HT.Ov xs.length xs.length hi=xs.length)/\∀ p,H p=none->Q (.ref p) (upd H p (.tup (vV xs lo hi)))
theorem dC:Rt X (JQ X.K):=by
 intro ti s Y H x v vl vu lo hi sl Q I rx hs pl pu h;obtain ⟨a,xs,rfl,hx,hw,q⟩:=h;cases rx;obtain ⟨its,r,ht,hz⟩:=I.tuple hx;have hlen:its.toArray.size=xs.length:=by rw [LK];exact r.length.symm
 refine ⟨"tuple", _,PyProof.Rows.slot_tuple_getitem.lookup,ht.typeIs,?_⟩;refine HT.fM ht hs pl pu (by rw [hlen];exact hw) ?_ (by rw [hlen];exact hz);rw [hlen];refine ⟨.ref s.heap.objs.size,_,I.laid (t':=s.toks) (o:=.tup (vV xs lo hi)) (fun b ob q=>LB _ q) (LA _) ?_,rfl,q _ (I.IT.fresh (LA _))⟩;exact ⟨LG (iw xs lo hi) hz,_,(r.drop (HT.Ov xs.length 0 lo)).take (HT.Ov xs.length xs.length hi - HT.Ov xs.length 0 lo),IsTup.new _ _⟩
def Er (K:Fg):R2:=fun x y H Q=>∃ a b xs ys,x=.ref a/\y=.ref b/\OU K H a xs/\OU K H b ys/\xs≠[]/\xs.length+ys.length<=sizeLine /\
 (ys=[]->Q (.ref a) H)/\(ys≠[]->∀ p,H p=none->Q (.ref p) (upd H p (.tup (xs++ys))))
theorem Vals.nE (r:Vals xs us):us=[]↔xs=[]:=by
 cases r with
 | nil=>simp
 | cons _ _=>simp
theorem zI:Oy X (binaryOp .Add) (Er X.K):=by intro ti s Y H x y v u Q I rx ry h;obtain ⟨a,b,xs,ys,rfl,rfl,ha,hb,hx,hz,q1,q2⟩:=h;cases rx;cases ry;obtain ⟨its,r1,p1,_⟩:=I.tuple ha;obtain ⟨R8,r2,p2,_⟩:=I.tuple hb;refine HT.Ao p1 p2 (fun z=>hx (r1.nE.mp z)) (fun z=>⟨.ref a,H,I,rfl,q1 (r2.nE.mp z)⟩) (fun z=>?_) (by rw [<- r1.length,<-r2.length];exact hz);refine ⟨.ref s.heap.objs.size,_,I.laid (t':=s.toks) (o:=.tup (xs++ys)) (fun b ob q=>LB _ q) (LA _) ?_,rfl,q2 (fun w=>z (r2.nE.mpr w)) _ (I.IT.fresh (LA _))⟩;exact ⟨by rw [Ln];exact hz,_,r1.append r2,IsTup.new _ _⟩
end
noncomputable def TM (n:Nat) (i:Int):Option Nat:=if 0<=i then (if i < n then some i.toNat else none) else if -(n:Int)<=i then some (i+n).toNat else none
def Po {W:Type} (xs:List W) (i:Int):Option W:=(TM xs.length i).bind fun j=>xs[j]?
theorem Af (h:TM n i=some j):seqIndex? i n=some j/\j < n/\-(n:Int)<=i/\i < n:=by
 unfold TM at h;by_cases h0:0<=i
 .rw [Lz h0] at h;by_cases h1:i < n
  .rw [Lz h1] at h;have e:i.toNat=j:=Mp h;exact ⟨by rw [seqIndex_of h0 h1,e],by lia,by lia,h1⟩
  .rw [Lw h1] at h;cases h
 .rw [Lw h0] at h;by_cases h1:-(n:Int)<=i
  .rw [Lz h1] at h;have e:(i+n).toNat=j:=Mp h;exact ⟨by rw [seqIndex_neg (by lia) h1,e],by lia,h1,by lia⟩
  .rw [Lw h1] at h;cases h
theorem oh {W:Type} {xs:List W} {i:Int} {v:W} (h:Po xs i=some v):∃ j,seqIndex? i xs.length=some j/\xs[j]?=some v/\j < xs.length/\-(xs.length:Int)<=i/\i < xs.length:=by
 unfold Po at h;cases e:TM xs.length i with
 | none=>rw [e] at h;cases h
 | some j =>
  rw [e] at h;obtain ⟨h1,h2,h3,h4⟩:=Af e;exact ⟨j,h1,h,h2,h3,h4⟩
theorem c5 {W:Type} {xs:List W} {j:Nat} {v:W} (h:xs[j]?=some v):Po xs (j:Int)=some v:=by
 have hj:j < xs.length:=(Ls.mp h).1;have e:TM xs.length (j:Int)=some j:=by unfold TM;rw [Lz (by lia),Lz (by lia)];simp
 unfold Po;rw [e];exact h
def m5 (b:Expr):Prop:=∀ o i,subscripted b false o i=operate [o,i] (getItem o i)
def R9 (X:Cx) (r:R2):Prop :=
 ∀ (value slice:Expr) (ti:Qw) (s:Qx) (Y:St) (H:Hp) (x y:V) (v u:Qj) (Q:VK),Inv X ti Y H s->RelV x v->RelV y u->r x y H Q ->
  subscripted slice false v u=operate [v,u] (getItem v u)->wMY X (subscriptTail value slice v u) (EP X ti Y Q) X.xe s
def ZS (X:Cx) (id:String) (r:V->List V->Hp->VK->Prop):Prop :=
 ∀ (ti:Qw) (s:Qx) (Y:St) (H:Hp) (x:V) (xs:List V) (v:Qj) (us:List Qj) (Q:VK),Inv X ti Y H s->RelV x v->Vals xs us->r x xs H Q ->
  wMY X (call (.builtin id) (v :: us)) (EP X ti Y Q) X.xe s
section
variable {X:Cx} {a b:Expr} {ta tb:TE} {pos:Pos}
theorem R9.or {r r':R2} (h:R9 X r) (h':R9 X r'):R9 X (fun x y H Q=>r x y H Q\/r' x y H Q):=by
 intro value slice ti s Y H x y v u Q I rx ry q hs;rcases q with q | q
 .exact h value slice ti s Y H x y v u Q I rx ry q hs
 .exact h' value slice ti s Y H x y v u Q I rx ry q hs
theorem Hr (hr:R9 X r) (ha:PE X a ta) (hb:PE X b tb) (hs:m5 b):PE X (.Subscript a b pos) (RZ r ta tb):=by intro ti s Y H Q I h;exact Subscript_ (Gi ha hb I h fun v u s2 x y H2 I2 rx ry q=>hr a b ti s2 Y H2 x y v u Q I2 rx ry q (hs _ _))
def Kj (K:Fg):R2:=fun x y H Q=>∃ p xs i v,x=.ref p/\y=.int i/\OO K H p xs/\Po xs i=some v/\Q v H
def JD (K:Fg):R2:=fun x y H Q=>∃ p xs i v,x=.ref p/\y=.int i/\OU K H p xs/\Po xs i=some v/\Q v H
def Ka:R2:=fun x y H Q=>∃ z i c,x=.str z/\y=.int i/\z.length<=sizeLine/\Po z.cps.toList i=some c/\Q (.str ⟨#[c]⟩) H
theorem Bz:R9 X (Kj X.K):=by
 intro value slice ti s Y H x y v u Q I rx ry h hs;obtain ⟨p,xs,i,z,rfl,rfl,hq,he,q⟩:=h;cases rx;obtain ⟨t,rfl⟩:=ry;obtain ⟨its,r,pl,hz⟩:=I.list hq;obtain ⟨j,h1,h2,h3,h4,h5⟩:=oh he;obtain ⟨w,ew,Vy⟩:=r.get h2;have hl:=r.length;have hn:=l7;have fin:EP X ti Y Q w s:=⟨z,H,I,Vy,q⟩;by_cases h0:0<=i
 .have hj:i.toNat=j:=by rw [seqIndex_of h0 h5] at h1;exact Mp h1
  exact item_listR pl.isList h0 (by lia) (by rw [hj];simpa using ew) fin hs
 .have hj:(i+(its.toArray.size:Int)).toNat=j:=by rw [seqIndex_neg (by lia) h4] at h1;rw [LK,<-hl];exact Mp h1
  exact subscriptTail_builtinR (x:=w) pl.isList.typeIs slot_list_getitem.lookup
   (wpAny_getItem_list_neg (Q:=fun r s'=>r=w/\EP X ti Y Q r s') pl.isList (by lia) (by rw [LK] <;> lia) (by lia) (by rw [hj];simpa using ew) ⟨rfl,fin⟩) hs
theorem BS:R9 X (JD X.K):=by
 intro value slice ti s Y H x y v u Q I rx ry h hs;obtain ⟨p,xs,i,z,rfl,rfl,hq,he,q⟩:=h;cases rx;obtain ⟨t,rfl⟩:=ry;obtain ⟨its,r,pl,hz⟩:=I.tuple hq;obtain ⟨j,h1,h2,h3,h4,h5⟩:=oh he;obtain ⟨w,ew,Vy⟩:=r.get h2;have hl:=r.length;have hn:=l7;have fin:EP X ti Y Q w s:=⟨z,H,I,Vy,q⟩;exact subscriptTail_builtinR (x:=w) pl.typeIs slot_tuple_getitem.lookup
  (getItem_tuple (j:=j) (Q:=fun r s'=>r=w/\EP X ti Y Q r s') pl (by lia) (by lia) (by rw [LK,<-hl];exact h1) (by simpa using ew) ⟨rfl,fin⟩) hs
theorem Eo:R9 X Ka:=by
 intro value slice ti s Y H x y v u Q I rx ry h hs;obtain ⟨z,i,c,rfl,rfl,hz,he,q⟩:=h;obtain ⟨t,rfl⟩:=rx;obtain ⟨t',rfl⟩:=ry;obtain ⟨j,h1,h2,h3,h4,h5⟩:=oh he;have hl:z.cps.toList.length=z.length:=by simp [Str.length]
 rw [hl] at h1 h4 h5;have hn:=l7
 exact tail_any (N9 s z t) slot_str_getitem.lookup (getItem_str (c:=c) (by
  have e1:decide (i < -(2 ^ 63:Int))=false:=LV (by lia);have e2:decide (i>=2 ^ 63)=false:=LV (by lia)
  rw [e1,e2,Bool.or_false]) (by rw [h1];simpa using h2) ⟨.str ⟨#[c]⟩,H,I.tok _,⟨_,rfl⟩,q⟩) hs
def ZT (K:Fg):R2:=fun x y H Q=>Kj K x y H Q\/JD K x y H Q\/Ka x y H Q
theorem Ey:R9 X (ZT X.K):=Bz.or (BS.or Eo)
theorem lQ (lo hi:Option Int) (n:Nat):(sliceBounds lo hi none n).1=((HT.Ov n 0 lo:Nat):Int)/\(sliceBounds lo hi none n).2.1=((HT.Ov n n hi:Nat):Int)/\(sliceBounds lo hi none n).2.2=1:=by
 refine ⟨?_,?_,rfl⟩
 .cases lo with
  | none=>simp [sliceBounds,HT.Ov]
  | some i =>
   simp only [sliceBounds,HT.Ov,Option.getD_none,show (1:Int) > 0 by decide,NP];by_cases h:i < 0
   .simp only [h,NP] <;> lia
   .simp only [h,Nv] <;> lia
 .cases hi with
  | none=>simp [sliceBounds,HT.Ov]
  | some i =>
   simp only [sliceBounds,HT.Ov,Option.getD_none,show (1:Int) > 0 by decide,NP];by_cases h:i < 0
   .simp only [h,NP] <;> lia
   .simp only [h,Nv] <;> lia
theorem k6 (its:List Qj) (lo hi:Option Int):slicePick its.toArray lo hi none=((its.drop (HT.Ov its.length 0 lo)).take (HT.Ov its.length its.length hi - HT.Ov its.length 0 lo)).toArray:=by obtain ⟨h1,h2,h3⟩:=lQ lo hi its.toArray.size;unfold slicePick;rw [h1,h2,h3];simp only [sliceRange_one,pick_run,LK] <;> rfl
def Km (K:Fg):V->Option Int->Option Int->Hp->VK->Prop:=fun x lo hi H Q=>∃ a xs,x=.ref a/\OO K H a xs/\∀ p,H p=none->Q (.ref p) (upd H p (.lst (vV xs lo hi)))
theorem bJ:Rt X (Km X.K):=by intro ti s Y H x v vl vu lo hi sl Q I rx hs pl pu h;obtain ⟨a,xs,rfl,hx,q⟩:=h;cases rx;obtain ⟨its,r,ht,hz⟩:=I.list hx;have hlen:=r.length;refine ⟨"list", _,slot_list_getitem.lookup,ht.isList.typeIs,?_⟩;refine wpAny_getItem_list_slice ht.isList hs pl pu .none (by simp) ?_ (by rw [LK] <;> lia);rw [k6,<-hlen];refine ⟨.ref s.heap.objs.size,_,I.laid (t':=s.toks) (o:=.lst (vV xs lo hi)) (fun b ob q=>LB _ q) (LA _) ?_,rfl,q _ (I.IT.fresh (LA _))⟩;exact ⟨LG (iw xs lo hi) hz,_,0,(r.drop (HT.Ov xs.length 0 lo)).take (HT.Ov xs.length xs.length hi - HT.Ov xs.length 0 lo),L0 _ rfl⟩
theorem mL:aH X (.type "list") (fun xs H Q=>∃ p ys,xs=[.ref p]/\(OO X.K H p ys\/OU X.K H p ys)/\∀ l,H l=none->Q (.ref l) (upd H l (.lst ys))):=by
 intro ti s Y H xs us Q I r h;obtain ⟨p,ys,rfl,hq,q⟩:=h;obtain ⟨u,rfl,rx⟩:=vals1 r;cases rx;have fin:(its:List Qj)->Vals ys its->ys.length<=sizeLine->∀ (h':Heap) (c':Nat),(∀ b o',s.heap.get? b=some o'->h'.get? b=some o') ->
   h'.get? s.heap.objs.size=some { cls:=.type "list", dict:=none,data:=.seq its.toArray c',slots:=#[] }->EP X ti Y Q (.ref s.heap.objs.size) { s with heap:=h' }:=fun its r' hz h' c' kp e =>
  ⟨.ref s.heap.objs.size,_,I.laid (t':=s.toks) kp (LA _) (show aI X.prog X.w _ h' _ (.lst ys) from ⟨hz,its,c',r',e⟩),rfl,q _ (I.IT.fresh (LA _))⟩
 rcases hq with hq | hq
 .obtain ⟨its,r',pl,hz⟩:=I.list hq;have hlen:=r'.length;obtain ⟨o,ho,hc,n,hd⟩:=pl.isList;exact call_list_seq p (.inl rfl) ho hc hd (fun h' c' kp e=>fin its r' hz h' c' kp e) (by simp only [LK] <;> lia)
 .obtain ⟨its,r',pl,hz⟩:=I.tuple hq;have hlen:=r'.length;obtain ⟨o,ho,hc,n,hd⟩:=pl;exact call_list_seq p (.inr rfl) ho hc hd (fun h' c' kp e=>fin its r' hz h' c' kp e) (by simp only [LK] <;> lia)
theorem kz:aH X (.type "tuple") (fun xs H Q=>∃ p ys,xs=[.ref p]/\((OO X.K H p ys/\∀ l,H l=none->Q (.ref l) (upd H l (.tup ys)))\/(OU X.K H p ys/\Q (.ref p) H))):=by
 intro ti s Y H xs us Q I r h;obtain ⟨p,ys,rfl,h⟩:=h;obtain ⟨u,rfl,rx⟩:=vals1 r;cases rx;rcases h with ⟨hq,q⟩ | ⟨hq,q⟩
 .obtain ⟨its,r',pl,hz⟩:=I.list hq;have hlen:=r'.length;refine call_tuple_list pl.isList (fun h' kp=>?_) (by simp only [LK] <;> lia);have I1:Inv X ti Y H { s with heap:=h' }:=I.kept (t':=s.toks) kp;have I2:Inv X ti Y (upd H h'.objs.size (.tup ys)) { s with heap:=h'.push { cls:=.type "tuple", data:=.seq its.toArray } } :=
   I1.laid (t':=s.toks) (fun b o e=>LB _ e) (LA _) (show aI X.prog X.w _ _ _ (.tup ys) from ⟨hz,its,r',IsTup.new _ _⟩)
  exact ⟨.ref h'.objs.size,_,I2,rfl,q _ (I1.IT.fresh (LA _))⟩
 .obtain ⟨its,r',pl,hz⟩:=I.tuple hq;exact call_tuple_same pl ⟨.ref p,H,I,rfl,q⟩
def UT (K:Fg) (T:String) (x:V) (H:Hp):Prop:=match x with
 | .str _=>T = "str"
 | .int _=>T = "int"
 | .ref p=>(T = "list" /\ ∃ xs,OO K H p xs)\/(T = "tuple" /\ ∃ o,K.lookup p=some o/\o.cls=.type "tuple" /\ o.dict=none) \/
   (T = "dict" /\ ((∃ kvs,H p=some (.dK kvs))\/(∃ kvs,H p=some (.dT kvs))\/∃ ep xs,H p=some (.dD ep xs)))\/(T = "set" /\ ∃ S n,H p=some (.set S n))
 | _=>False
theorem Ee (I:Inv X ti Y H s) (r:RelV x v) (ty:UT X.K T x H) :
  s.TypeIs v T/\∀ a,v=.ref a->∃ ob,s.heap.get? a=some ob/\ob.dict=none:=by
 cases x with
 | str z =>
  obtain ⟨t,rfl⟩:=r;cases (show T = "str" from ty);exact ⟨N9 s z t,fun _ e=>nomatch e⟩
 | int i =>
  obtain ⟨t,rfl⟩:=r;cases (show T = "int" from ty);exact ⟨typeIs_int s i t,fun _ e=>nomatch e⟩
 | ref p =>
  cases r;rcases ty with ⟨rfl,xs,hq⟩ | ⟨rfl,o,hk,hc,hd⟩ | ⟨rfl,hk⟩ | ⟨rfl,S,n,hk⟩
  .obtain ⟨its,_,pl,_⟩:=I.list hq;refine ⟨pl.isList.typeIs,fun a e=>?_⟩;cases e;obtain ⟨o,n,e,c,hd,_⟩:=pl;exact ⟨o,e,hd⟩
  .refine ⟨⟨o,I.OL p o hk,hc⟩,fun a e=>?_⟩;cases e;exact ⟨o,I.OL _ o hk,hd⟩
  .have z:∃ o,s.heap.get? p=some o/\o.ExactDict:=by
    rcases hk with ⟨kvs,hk⟩ | ⟨kvs,hk⟩ | ⟨ep,xs,hk⟩
    .obtain ⟨_,_,_,_,o,_,_,e,ex,_⟩:=I.IT p _ hk;exact ⟨o,e,ex⟩
    .obtain ⟨_,_,_,_,o,_,_,e,ex,_⟩:=I.IT p _ hk;exact ⟨o,e,ex⟩
    .obtain ⟨_,_,_,o,_,e,ex,_⟩:=I.IT p _ hk;exact ⟨o,e,ex⟩
   obtain ⟨o,e,ex⟩:=z;refine ⟨⟨o,e,ex.1⟩,fun a e2=>?_⟩;cases e2;exact ⟨o,e,ex.2.1⟩
  .obtain ⟨o,_,_,_,e,ex,_⟩:=I.IT p _ hk;refine ⟨⟨o,e,ex.1⟩,fun a e2=>?_⟩;cases e2;exact ⟨o,e,ex.2.1⟩
 | _=>exact False.elim ty
def WL (K:Fg) (T:String) (r:V->List V->Hp->VK->Prop) (to:TE) (t:TA):TE:=fun Y H Q=>to Y H fun x H1=>UT K T x H1/\t Y H1 fun xs H2=>r x xs H2 Q
variable {o e:Expr} {es:List Expr} {to:TE} {t:TA} {name:Str} {apos OM:Pos} {T id:String} {r:V->List V->Hp->VK->Prop}
theorem Jg (pa:PlainAttrs T) (slot:Slot T name id) (Uj:typeOf (.builtin id)=pure (.type "method_descriptor")) (hm:ZS X id r) (ho:PE X o to) (ha:PA X (e :: es) t)
  (Qn:attributeBase o name X.env (eval o X.env)=eval o X.env:=by rfl)
  (Uk:((backTo OM (starEach (e :: es) X.env)).all (fun x=>!x.1)&&(backToKw OM (keywordEach [] X.env)).all (fun x=>x.1.isSome)
   && decide ((e :: es).length+([]:List Keyword).length+(if ([]:List Keyword).isEmpty then 0 else 1) < 30))=true:=by rfl)
  (hline:(apos.endLine==OM.line)=true:=by rfl) (hs:starEach (e :: es) X.env=(false,eval e X.env) :: starEach es X.env:=by rfl) (Ul:(backTo OM (starEach es X.env)).any (·.1)=false:=by rfl) :
  PE X (.Call (.Attribute o name apos) (e :: es) [] OM) (WL X.K T r to t):=by intro ti s Y H Q I h;refine wpAny_Call_method_late Qn Uk hline rfl (Oq (ho ti s Y H _ I h) fun v s1 ⟨x,H1,I1,r1,ty,q1⟩=>?_);obtain ⟨h1,h2⟩:=Ee I1 r1 ty;refine ⟨T,id,pa,slot,Uj,h1,h2,?_⟩;have hA:=ha OM ti s1 Y H1 _ I1 q1;rw [hs] at hA ⊢;refine Calls.callWith_builtin (by show (false||(backTo OM (starEach es X.env)).any (·.1))=false;rw [Ul] <;> rfl) (Calls.evalArgs_plain ?_);exact Oq hA fun us s2 ⟨vs,H2,I2,r2,q2⟩=>hm ti s2 Y H2 x vs v us Q I2 r1 r2 q2
end
def WM (X:Cx) (id:String) (r:V->List V->Hp->VK->Prop):Prop :=
 ∀ (ti:Qw) (s:Qx) (Y:St) (H:Hp) (x:V) (xs:List V) (v:Qj) (us:List Qj) (Q:VK),Inv X ti Y H s->RelV x v->Vals xs us->r x xs H Q ->
  wMY X (call (.builtin id) (v :: us)) (EP X ti Y Q) X.xe s
theorem Vals.one:∀ {x:V} {us:List Qj},Vals [x] us->∃ u,us=[u]/\RelV x u
 | _,_,.cons r .nil=>⟨_,rfl,r⟩
section
variable {X:Cx} {ti:Qw} {Y:St} {H:Hp} {s:Qx} {l b:Qz} {xs ys zs:List V}
theorem Inv.KZ {its its':List Qj} {n:Nat} {f:Array Qj->Array Qj} {t':Nat} (I:Inv X ti Y H s) (hH:H l=some (.lst xs))
  (e:s.heap.get? l=some { cls:=.type "list", data:=.seq its.toArray n }) (hf:f its.toArray=its'.toArray) (hv:Vals ys its') (hz:ys.length<=sizeLine) :
  Inv X ti Y (upd H l (.lst ys)) { s with heap:=s.heap.update l (Obj.mapSeq f),toks:=t' }:=by have q:=PySem.IsL.update e f;rw [hf] at q;refine I.write (x:=l) (e:=l) (by rw [hH];exact trivial) (.inl rfl) (fun b' u hb hu=>(L4 s.heap (Obj.mapSeq f) (Ne.symm hb)).trans hu) ⟨_,q⟩ ?_;exact ⟨hz,its',_,hv,q⟩
theorem Inv.K9 (I:Inv X ti Y H s) (hv:Vals ys its) (hz:ys.length<=sizeLine) :
  Inv X ti Y (upd H s.heap.objs.size (.lst ys)) { s with heap:=s.heap.push { cls:=.type "list", data:=.seq its.toArray },toks:=t' } :=
 I.laid (fun _ _ q=>LB _ q) (LA _) ⟨hz,its,0,hv,L0 _ rfl⟩
theorem Inv.fresh (I:Inv X ti Y H s):H s.heap.objs.size=none:=I.IT.fresh (LA _)
theorem Inv.KO (I:Inv X ti Y H s) (hH:H l=some (.lst xs)):xs.length<=sizeLine/\∃ (its:List Qj) (n:Nat),Vals xs its/\xs.length=its.length/\s.heap.get? l=some { cls:=.type "list", data:=.seq its.toArray n }:=by obtain ⟨z,its,n,r,e⟩:=I.IT l _ hH;exact ⟨z,its,n,r,r.length,e⟩
end
section
variable {X:Cx}
def uv:V->List V->Hp->VK->Prop:=fun x vs H Q=>∃ l xs y,x=.ref l/\vs=[y]/\H l=some (.lst xs)/\xs.length < sizeLine/\Q .non (upd H l (.lst (xs++[y])))
theorem l6:WM X "list.append" uv:=by intro ti s Y H x vs v us Q I rx rv h;obtain ⟨l,xs,y,rfl,rfl,hH,hz,q⟩:=h;cases rx;obtain ⟨u,rfl,ru⟩:=rv.one;obtain ⟨z,its,n,r,hl,e⟩:=I.KO hH;refine call_meets F.slot_list_append ⟨_,e,rfl⟩ F.entry_list_append (F.args_list_append_2 _ _) (PySem.list_append l its.toArray n u (by rw [LK];lia)) ⟨e,?_⟩;refine ⟨.non,_,I.KZ (its':=its++[u]) hH e (by simp) (r.append (.cons ru .nil)) ?_,rfl,q⟩;rw [Ln,MO];lia
end
section
variable {κ:Type} [DecidableEq κ]
noncomputable def putK (kvs:List (κ×V)) (k:κ) (v:V):List (κ×V) :=
 if (kvs.any fun kv=>decide (kv.1=k))=true then kvs.map (fun kv=>if kv.1=k then (kv.1,v) else kv) else kvs++[(k,v)]
theorem m6 (kvs:List (κ×V)) (k:κ) (v:V):(putK kvs k v).length<=kvs.length+1:=by
 unfold putK;split
 .rw [Lo];lia
 .rw [Ln,LN,MV];lia
theorem KV.any {kvs:List (κ×V)} {vs:List (κ×Qj)} (r:KV kvs vs) (k:κ):(kvs.any fun kv=>decide (kv.1=k))=vs.any fun kv=>decide (kv.1=k):=by
 unfold KV at r;induction r with
 | nil=>rfl
 | cons h t ih=>rw [List.any_cons,List.any_cons,ih,h.1]
theorem KV.KP (r:KV kvs vs) (k:κ) (ry:RelV y u) :
  KV (kvs.map fun kv=>if kv.1=k then (kv.1,y) else kv) (vs.map fun kv=>if kv.1=k then (kv.1,u) else kv):=by
 unfold KV at r ⊢;induction r with
 | nil=>exact .nil
 | @cons p q ps qs h t ih =>
  rw [List.map_cons,List.map_cons];refine .cons ?_ ih;obtain ⟨h1,h2⟩:=h;by_cases e:p.1=k
  .rw [Lz e,Lz (h1.symm.trans e)];exact ⟨h1,ry⟩
  .rw [Lw e,Lw (fun z=>e (h1.trans z))];exact ⟨h1,h2⟩
theorem KV.put (r:KV kvs vs) (k:κ) (ry:RelV y u):KV (putK kvs k y) (stored vs k u):=by
 unfold putK stored;rw [r.any k];by_cases e:(vs.any fun kv=>decide (kv.1=k))=true
 .rw [Lz e,Lz e];exact r.KP k ry
 .rw [Lw e,Lw e];exact Paired.snoc r ⟨rfl,ry⟩
end
theorem Ir (r:RelV (kV k) u):(bf P w).is k u=true:=by
 cases k with
 | inl i=>obtain ⟨t,e⟩:=(show ∃ t,u=Value.int i t from r);subst e;exact mY P w i t
 | inr x=>obtain ⟨t,e⟩:=(show ∃ t,u=Value.str x t from r);subst e;exact nP P w x t
section
variable {X:Cx} {ti:Qw} {Y:St} {H:Hp} {s:Qx} {a:Qz} {y v:V} {u r:Qj} {o:Option V} {A:Around} {E:Qy}
theorem Inv.big (I:Inv X ti Y H s):sysModules < s.heap.objs.size:=by have h:mainGlobals < s.heap.objs.size:=(I.mod.glob.keeps I.bk).lt;exact Nat.lt_trans (by decide) h
theorem ng (I:Inv X ti Y H s) (mu:Vl (H a)) (hs:Heap.SameBut a s.heap h') (he:∃ q,h'.get? a=some q) (new:aI X.prog X.w (upd H a ob) h' a ob) :
  Inv X ti Y (upd H a ob) { s with heap:=h',toks:=t' } :=
 I.write (x:=a) (e:=a) mu (.inl rfl) (fun b q hb z=>(hs.2 b hb).trans z) he new
end
def J1 (i:Expr):Prop:=∀ ov iv,subscripted i false ov iv=operate [ov,iv] (getItem ov iv)
theorem AG {prog:Program} {w:World} {A:Around} {E:Qy} {s:Qx} {env:Env} {value slice:Expr} {pos:Pos} {T id:String} {Q:Qy}
  (hl:typeLookup (.type T) "__getitem__" = pure (some (.builtin id))) (hs:J1 slice)
  (h:wMX prog w A (eval value env) (fun o ZW=>wMX prog w A (eval slice env) (fun i ZU=>ZU.TypeIs o T/\wMX prog w A (getItem o i) Q E ZU) E ZW) E s) :
  wMX prog w A (eval (.Subscript value slice pos) env) Q E s:=by
 refine Subscript_ (L6 h (fun o ZW h₁=>L6 h₁ (fun i ZU h₂=>?_) fun _ _ x=>x) fun _ _ x=>x);obtain ⟨hT,h₂⟩:=h₂;unfold subscriptTail;refine Lm ?_;rw [getitemInPython_of_ne hT.not_modules];refine Lm (wpAny_specialOf hT hl ?_);have fin:wMX prog w A (subscripted slice false o i) (fun r ZM=>wMX prog w A (letTemporaryGo value o r>>=fun _=>pure r) Q E ZM) E ZU:=by rw [hs o i];exact wpAny_operating (L6 h₂ (fun r ZM h₃=>Lm (wpAny_letTemporaryGo (Lu h₃))) fun _ _ x=>x)
 first
  | exact Lu (Lm fin)
  | exact Lm (Lu (Lm fin))
  | exact Lm fin
def ow:List (TE×TE)->St->Hp->(List (V×V)->Hp->Prop)->Prop
 | [],_,H,Q=>Q [] H
 | (tk,tv) :: r,Y,H,Q=>tk Y H fun x H1=>tv Y H1 fun y H2=>ow r Y H2 fun ps H3=>Q ((x,y) :: ps) H3
abbrev VV:List (V×V)->List (Qj×Qj)->Prop:=Paired fun p q=>RelV p.1 q.1/\RelV p.2 q.2
def Vz (X:Cx) (pos:Pos) (keys:List (Option Expr)) (values:List Expr) (RP:List (TE×TE)):Prop :=
 ∀ (ti:Qw) (s:Qx) (Y:St) (H:Hp) (Q:List (V×V)->Hp->Prop),Inv X ti Y H s->ow RP Y H Q ->
  wMY X (evalPairs (pairTrees keys values X.env pos)) (fun vs s'=>∃ ps H',Inv X ti Y H' s'/\VV ps vs/\Q ps H') X.xe s
theorem AD:Vz X pos [] [] []:=fun ti s Y H Q I h=>pairTrees_nil_walk ⟨[],H,I,.nil,h⟩
theorem ye (hk:PE X k tk) (hv:PE X v tv) (hr:Vz X pos ks vs RP) :
  Vz X pos (some k :: ks) (v :: vs) ((tk,tv) :: RP):=fun ti s Y H Q I h =>
 pairTrees_cons_walk (Oq (hk ti s Y H _ I h) fun u s1 ⟨x,H1,I1,rx,q1⟩=>Oq (hv ti s1 Y H1 _ I1 q1) fun w2 s2 ⟨y,H2,I2,ry,q2⟩ =>
  Oq (hr ti s2 Y H2 _ I2 q2) fun ws s3 ⟨ps,H3,I3,rel,q3⟩=>⟨(x,y) :: ps,H3,I3,.cons ⟨rx,ry⟩ rel,q3⟩)
def cP (kvs more:List (Key×V)):List (Key×V):=more.foldl (fun acc kv=>putK acc kv.1 kv.2) kvs
theorem KV.merge:∀ {more:List (Key×V)} {rs:List (Key×Qj)} {kvs:List (Key×V)} {vs:List (Key×Qj)},KV more rs->KV kvs vs->KV (cP kvs more) (merged vs rs):=by
 intro more rs kvs vs r;unfold KV at r;induction r generalizing kvs vs with
 | nil=>intro q;exact q
 | @cons p q ps qs h t ih =>
  intro r0;have e:KV (putK kvs p.1 p.2) (stored vs q.1 q.2):=by have:=r0.put p.1 h.2;rw [<- h.1];exact this
  exact ih e
theorem fh:∀ (more kvs:List (Key×V)),(cP kvs more).length<=kvs.length+more.length
 | [],kvs=>by show kvs.length<=kvs.length+0;lia
 | p :: r,kvs=>by have h1:=fh r (putK kvs p.1 p.2);have h2:=m6 kvs p.1 p.2;show (cP (putK kvs p.1 p.2) r).length<=_;rw [LN];lia
theorem jA:∀ {kvs:List (Key×V)} {ws:List (Qj×Qj)},VV (kvs.map fun kv=>(kV kv.1,kv.2)) ws->∃ rs,Carries (bf P w) ws rs/\KV kvs rs
 | [],_,r=>by rw [List.map_nil] at r;cases r;exact ⟨[],True.intro,.nil⟩
 | p :: kvs,_,r=>by
  rw [List.map_cons] at r;cases r with
  | @cons a b as bs h t =>
   obtain ⟨rs,c,q⟩:=jA (P:=P) (w:=w) t;obtain ⟨b1,b2⟩:=b;exact ⟨(p.1,b2) :: rs,⟨Ir h.1,rfl,c⟩,.cons ⟨rfl,h.2⟩ q⟩
end L2
namespace ZV
open PySem PySem.W PySem.Calls PyProof.Rows
theorem iY:∀ (ns:List Int) (vs:List Qj),WellAll P h vs (ns.map WData.int)->IntsAre vs ns:=by
 intro ns;induction ns with
 | nil =>
  intro vs w;rw [List.map_nil] at w;cases w;exact .nil
 | cons n ns ih =>
  intro vs w;rw [List.map_cons] at w;cases w with
  | cons a b =>
   cases a;exact .cons _ _ (ih _ b)
theorem rq {l:OpenLaw} {n:Nat} (hn:l.most=some n) {P:Params} {h:Heap} {args:List WData} {vals:List Qj}
  (Tb:l.row.toRowW.claim.pre args=true) (XY:WellAll P h vals args) :
  ∃ a vs ns,vals=[Value.ref a]/\args=[WData.list (ns.map WData.int)]/\h.get? a=some { cls:=.type "list", data:=.seq vs.toArray }/\IntsAre vs ns/\ns.length<=n:=by
 have hsh:WShape.hasAll [] args [.list .int]=true:=(pre_splitW Tb).1;have hc:l.pre.holds [] { args:=args }=true:=(pre_splitW Tb).2;obtain ⟨d,r,rfl,h1,h2⟩:=hasAllW_cons hsh;obtain rfl:=hasAllW_nil h2;obtain ⟨xs,rfl,h3⟩:=hasW_list h1;obtain ⟨ns,rfl⟩:=items_int h3;have hlen:ns.length<=n:=by
  unfold OpenLaw.pre at hc;have h4:(WTm.not (.lt (.lit (.int (n:Int))) (.len (.arg 0)))).holds [] { args:=[.list (ns.map .int)] }=true:=by have h4:=(holds_andW hc).1;rw [hn] at h4;exact h4
  have h5:=condW_of h4 (w_not (w_lt w_lit (w_len_list (w_arg rfl))));rw [Lo] at h5;refine Nat.le_of_not_lt fun q=>?_;have q':(n:Int) < ((ns.length:Nat):Int):=by lia
  first
   | (rw [LH q'] at h5;exact absurd h5 (by decide))
   | (simp at h5;lia)
 cases XY with
 | cons w1 w2 =>
  cases w2;cases w1 with
  | list ho Pg=>exact ⟨_,_,ns,rfl,rfl,ho,iY ns _ Pg,hlen⟩
theorem tE (l:OpenLaw) (args:List WData):l.row.toRowW.claim.post args (.bool true) args=true :=
 postW_of (r:=l.row.toRowW) (X:=(true==true))
  (show WShape.has [] (.bool true) .bool=true by first | rfl | decide | simp [WShape.has,WShape.arms,WShape.armsAll])
  (show (WTm.eq .res (.lit (.bool true))).value [] { args:=args,res:=some (.bool true),after:=args }=some (.bool (true==true)) from w_eq_bool (w_res rfl) w_lit) rfl
theorem nK {l:OpenLaw} {n:Nat} {q:Program} {loose:List Str} {XP:(Str->Option Qj)->Heap->Prop} {YP:World->Heap->Prop} {d:DefRec}
  (hn:l.most=some n) (Tc:d.params.defaults=[])
  (call:∀ (w:World) (ZZ ZW:Qx) (mg mb:Str->Option Qj) (fa:Qz) (o:Obj) (pm cd doc:Qj) (a:Qz) (vs:List Qj) (ns:List Int),
   Ground q loose [] XP w ZZ mg mb ZW.heap->YP w ZW.heap ->
   ZW.heap.get? fa=some o->o.data=.func (docDef d.name d.params d.body d.scope pm cd doc)->ZW.heap.CodeRec cd d.name->mg d.name=some (.ref fa) ->
   ZW.heap.get? a=some { cls:=.type "list", data:=.seq vs.toArray }->IntsAre vs ns->ns.length<=n->ZW.gens=#[] ->
   codeAny (model l.prog w) callerA (.call (.ref fa) ⟨[.ref a],[]⟩) (fun r s'=>r=.ok (.ret (.bool true))/\OldK ZW.heap s'.heap/\s'.os=ZW.os/\AllBare s'.gens) ZW) :
  WalkO q loose XP YP l.row.toRowW d [] (fun f vs=>PySem.call f vs):=by intro w ZZ ZW mg mb G Y fa o pm cd doc dV kV ho hd Pt hD hmg hg args vals as Tb hlay hrd XY ZX;obtain rfl:dV=.none:=Dflts.none hD Tc;obtain rfl:kV=.none:=Dflts.noKw hD;obtain ⟨a,vs,ns,rfl,rfl,Um,hints,hlen⟩:=rq hn Tb XY;refine enter_call (NQ (call w ZZ ZW mg mb fa o pm cd doc a vs ns G Y ho (fd_plain hd) Pt hmg Um hints hlen hg) fun r s' hq=>?_);obtain ⟨rfl,h2,h3,h4⟩:=hq;exact ⟨.inl ⟨.bool true,.bool true,[],rfl,fun _=>rfl,.bool true,tE l _,fun _=>⟨List.Pairwise.nil,fun _ hm=>(nomatch hm)⟩⟩,h2,h3,h4⟩
end ZV
namespace L2
open PySem PySem.Spec PyProof.Rows
theorem mJ:∀ {vs:List Qj} {ns:List Int},IntsAre vs ns->Vals (ns.map V.int) vs
 | _,_,.nil=>.nil
 | _,_,.cons n t h=>.cons ⟨t,rfl⟩ (mJ h)
def FY (H:Hp):Prop:=∀ b,H b=none\/∃ o xs,H b=some (.RU o (.lst xs))
theorem wj {P:Program} {w:World} {K:Fg} {mg mb:Str->Option Qj} {CX:Q6} {k:Nat} {fa a:Qz} {fd:FuncData} {x:Str} {sp:Sp} {ZW:Qx} {vs:List Qj} {ns:List Int}
  (KX:K.In ZW.heap) (Sa:ZW.heap.Ns mainGlobals mg) (hb:ZW.heap.Ns builtinsNs mb) (hbb:(x:Str)->x ≠ "__name__" -> mb x=bootBuiltins x) (XZ:ZW.heap.NoLimit) (hg:ZW.gens=#[])
  (ha:ZW.heap.get? a=some { cls:=.type "list", data:=.seq vs.toArray }) (hi:IntsAre vs ns) (hl:ns.length<=sizeLine) (hr:bN k callerA)
  (F:(base:Heap)->K.In base->base.Ns mainGlobals mg->fI P w K mg base CX k fa fd [x] sp) (VA:∀ (s:Qx) (u:Qj),BindsTo s fd ⟨[u],[]⟩ [(x,u)])
  (Pu:(H:Hp)->FY H->OO K H a (ns.map V.int)->sp [.ref a] H (fun v _=>v=.bl true) fun _ _ _=>False)
  (VB:∀ H e s',CX [] H ZW (fun _ _ _=>False) e s'->False) :
  codeAny (model P w) callerA (.call (.ref fa) ⟨[.ref a],[]⟩) (fun r s'=>r=.ok (.ret (.bool true))/\OldK ZW.heap s'.heap/\s'.os=ZW.os/\AllBare s'.gens) ZW:=by
 have rv:=mJ hi;have X0:=hi.length;have core:(H:Hp)->FY H->OO K H a (ns.map V.int)->O6 P w H ZW.heap->(∀ b,H b≠none->b=a)->(H a≠none->K.lookup a=none) ->
   codeAny (model P w) callerA (.call (.ref fa) ⟨[.ref a],[]⟩) (fun r s'=>r=.ok (.ret (.bool true))/\OldK ZW.heap s'.heap/\s'.os=ZW.os/\AllBare s'.gens) ZW:=by
  intro H hO hS IT hA hK;have Q8:∀ {b:Qz} {o:Obj},ZW.heap.get? b=some o->H b=none->(xV ZW.heap H).get? b=some o:=fun e n=>wR e n;have Vu:∀ {b:Qz} {o:Obj} {es:Array DictEntry} {ep:Nat},ZW.heap.get? b=some o->o.data=.dict es ep->H b=none:=fun {b o es ep} e d=>by
   cases q:H b with
   | none=>rfl
   | some u =>
    have e':b=a:=hA b (by rw [q];simp);subst e';rw [ha] at e;cases e;have d':Data.seq vs.toArray _=Data.dict es ep:=d;cases d'
  have WN:∀ {b:Qz} {m:Str->Option Qj},ZW.heap.Ns b m->(xV ZW.heap H).Ns b m:=fun {b m} ⟨o,es,ep,e,d,r⟩=>⟨o,es,ep,Q8 e (Vu e d),d,r⟩
  have Z0:K.In (xV ZW.heap H):=fun b o e=>Q8 (KX b o e) (by
   cases q:H b with
   | none=>rfl
   | some u =>
    have e':b=a:=hA b (by rw [q];simp);subst e'
    rw [hK (by rw [q];simp)] at e;cases e)
  have hM:Mod K mg (xV ZW.heap H):=⟨Z0,WN Sa,⟨mb,WN hb,hbb⟩,let ⟨mc,h1,h2⟩:=XZ;⟨mc,WN h1,h2⟩⟩;have e0:wb P w K mg (xV ZW.heap H) callerA [] ZW H:=⟨rfl,hM,fun b o e=>AR e,Nat.le_of_eq (rR _ _),trivial,fun b hb=>absurd (show b∈([]:List Qz) from hb) (by simp),IT,.of_eq hg⟩;refine NQ ((F _ Z0 (WN Sa)).run callerA [] ZW H ⟨[.ref a],[]⟩ [.ref a] [.ref a] _ _ hr e0 (VA ZW (.ref a)) (.cons rfl .nil) (Pu H hO hS)) fun r s' h=>?_;cases r with
  | error e=>exact (VB H e s' h).elim
  | ok fl =>
   cases fl with
   | next=>exact False.elim h
   | brk=>exact False.elim h
   | cont=>exact False.elim h
   | ret u =>
    obtain ⟨v,H',os,bare,un,QW,r',q⟩:=h;have q':v=.bl true:=q;subst q';obtain rfl:u=Value.bool true:=r';refine ⟨rfl,OldK.of_keep fun b o e=>?_,os,bare⟩;cases q:H b with
    | none=>exact un.keep b o e q (by intro z;exact absurd (show b∈([]:List Qz) from z) (by simp)) (by simp)
    | some u =>
     rcases hO b with z | ⟨ob,xs,z⟩
     .rw [q] at z;cases z
     .have z2:=un.nB b ob _ z;obtain ⟨e1,_⟩:=IT b _ z;obtain ⟨e2,_⟩:=QW b _ z2;rw [e] at e1;cases e1;exact e2
 cases hk:K.lookup a with
 | some o =>
  have e:=KX a o hk;rw [ha] at e;cases e;refine core (fun _=>none) (fun _=>.inl rfl) (.inr ⟨_,vs.toArray,_,hk,rfl,rfl,rfl,by rw [LK,X0];exact hl,by simpa using rv⟩) (fun b u z=>by have z':(none:Option HO)=some u:=z;cases z') (fun b z=>absurd rfl z) fun z=>absurd rfl z
 | none =>
  refine core (fun b=>if b=a then some (.RU { cls:=.type "list", data:=.seq vs.toArray } (.lst (ns.map V.int))) else none) (fun b=>?_) (.inl (.inr ⟨{ cls:=.type "list", data:=.seq vs.toArray },Lz rfl⟩)) (fun b u z=>?_) (fun b z=>?_) fun _=>hk
  .by_cases hb:b=a
   .exact .inr ⟨_,_,Lz hb⟩
   .exact .inl (Lw hb)
  .by_cases hb:b=a
   .have z':=(Lz hb).symm.trans z;cases z';subst hb;exact ⟨ha,by rw [Lo];exact hl,vs,_,rv,ha⟩
   .have z':=(Lw hb).symm.trans z;cases z'
  .by_cases hb:b=a
   .exact hb
   .exact absurd (Lw hb) z
abbrev KOf {K:Fg} {h:Heap} (_:K.In h):Fg:=K
theorem BD {l:PySem.W.OpenLaw} {n k:Nat} {q:Program} {loose:List Str} {XP:(Str->Option Qj)->Heap->Prop} {YP:World->Heap->Prop} {d:DefRec} {K:Params->Fg} {CX:World->Q6} {sp:World->Sp} {x:Str}
  (hn:l.most=some n) (Q9:n<=sizeLine) (Tc:d.params.defaults=[]) (hr:bN k callerA)
  (hY:∀ (w:World) (h:Heap),YP w h->(K w.params).In h)
  (F:∀ (w:World) (mg:Qg) (fa:Qz) (h:Heap),(K w.params).In h->h.Ns mainGlobals mg->mg d.name=some (.ref fa) ->
   ∃ fd:FuncData,(∀ (s:Qx) (u:Qj),BindsTo s fd ⟨[u],[]⟩ [(x,u)]) /\
    ∀ base:Heap,(K w.params).In base->base.Ns mainGlobals mg->fI l.prog w (K w.params) mg base (CX w) k fa fd [x] (sp w))
  (Pu:∀ (w:World) (H:Hp) (a:Qz) (ns:List Int),ns.length<=n->FY H->OO (K w.params) H a (ns.map V.int)->sp w [.ref a] H (fun v _=>v=.bl true) fun _ _ _=>False)
  (VB:∀ (w:World) (H:Hp) (s:Qx) (e:Qj) (s':Qx),CX w [] H s (fun _ _ _=>False) e s'->False) :
  PySem.W.WalkO q loose XP YP l.row.toRowW d [] (fun f vs=>PySem.call f vs):=by refine ZV.nK hn Tc fun w ZZ ZW mg mb fa o pm cd doc a vs ns G Y ho hd Pt hmg Um hints hlen hg=>?_;have KX:=hY w _ Y;obtain ⟨fd,hb,hF⟩:=F w mg fa _ KX G.T.g hmg;exact wj KX G.T.g G.T.b G.T.builtins G.T.nolimit hg Um hints (LG hlen Q9) hr hF hb (fun H hO hS=>Pu w H a ns hlen hO hS) fun H e s'=>VB w H ZW e s'
theorem wq {l:PySem.W.OpenLaw} {n k:Nat} {q:Program} {loose:List Str} {XP:(Str->Option Qj)->Heap->Prop} {YP:World->Heap->Prop} {d:DefRec} {K:Params->Fg} {CX:Q6} {sp:Fg->Sp} {x:Str}
  (hn:l.most=some n) (Q9:n<=sizeLine) (Tc:d.params.defaults=[]) (hr:bN k callerA)
  (hY:∀ (w:World) (h:Heap),YP w h->(K w.params).In h)
  (F:∀ (w:World) (mg:Qg) (fa:Qz) (h:Heap),(K w.params).In h->h.Ns mainGlobals mg->mg d.name=some (.ref fa) ->
   ∃ fd:FuncData,(∀ (s:Qx) (u:Qj),BindsTo s fd ⟨[u],[]⟩ [(x,u)]) /\
    ∀ base:Heap,(K w.params).In base->base.Ns mainGlobals mg->fI l.prog w (K w.params) mg base CX k fa fd [x] (sp (K w.params)))
  (Pu:∀ (K:Fg) (H:Hp) (a:Qz) (ns:List Int),ns.length<=n->FY H->OO K H a (ns.map V.int)->sp K [.ref a] H (fun v _=>v=.bl true) fun _ _ _=>False)
  (VB:∀ (H:Hp) (s:Qx) (e:Qj) (s':Qx),CX [] H s (fun _ _ _=>False) e s'->False) :
  PySem.W.WalkO q loose XP YP l.row.toRowW d [] (fun f vs=>PySem.call f vs) :=
 BD (K:=K) (CX:=fun _=>CX) (sp:=fun w=>sp (K w.params)) hn Q9 Tc hr hY F (fun w H a ns h1 h2 h3=>Pu (K w.params) H a ns h1 h2 h3) fun _ H s e s'=>VB H s e s'
noncomputable def dB (s:Stmt):Arguments:=match s with
 | .FunctionDef _ a _ _ _ _ _ _ _ _=>a
 | _=>{ posonlyargs:=[],args:=[],vararg:=none,kwonlyargs:=[],kw_defaults:=[],kwarg:=none,defaults:=[] }
noncomputable def aS (s:Stmt):List Stmt:=match s with
 | .FunctionDef _ _ b _ _ _ _ _ _ _=>b
 | _=>[]
noncomputable def aa (s:Stmt):Scope:=match s with
 | .FunctionDef _ _ _ _ _ _ sc _ _ _=>sc
 | _=>{ kind:=.function,names:=[],isGenerator:=false,isCoroutine:=false }
abbrev CX0:Q6:=fun _ _ _ _ _ _=>False
abbrev E0:XK:=fun _ _ _=>False
theorem FK:Passes CX0 X E0:=fun _ _ _ _ _ _ _ h=>h.elim
structure Qo (K:Fg) (x qual:Str) (st:Stmt) (f:Qz) (fd:FuncData):Prop where
 ex:∃ (oc:Qj) (od:Option Qz) (kV doc pm:Qj) (an:Option Qz) (OA ct:Qj) (R6:Array (Option Qj)),
  fd=PySem.W.fnOf x qual (dB st) (aS st) (aa st) .none kV doc pm an OA ct/\K.lookup f=some ⟨oc,od,.func fd,R6⟩/\PySem.W.codeIn K OA qual=true
 kp:PySem.W.keepIn K (.ref f)=true
section
variable {P:Program} {w:World} {K:Fg} {mg:Qg} {base:Heap}
theorem Qo.ok {x qual:Str} {st:Stmt} {f:Qz} {fd:FuncData} {N ps:List Str} {k:Nat} {sp:Sp} (F:Qo K x qual st f fd) (S:a6 N ps (aa st)) (len:∀ vs H Q E,sp vs H Q E->vs.length=ps.length)
  (OY:∀ (OA:Qj) (A:Around) (outer:List Env) (s:Qx) (H:Hp) (vs:List V) (Q:VK) (E:XK),bN k (A.deeper (envOfC qual (aa st) s.heap.objs.size f OA))->sp vs H Q E ->
   ∃ t,QG (i6 CX0 P w K mg base N qual (aa st) f OA A outer s H E).TH (aS st) t/\t { nx:=fun _ H'=>Q .non H',rt:=Q } (start N vs) H):fI P w K mg base CX0 (k+1) f fd ps sp:=by obtain ⟨oc,od,kV,doc,pm,an,OA,ct,R6,rfl,lk,Pt⟩:=F.ex;refine z8 lk Pt S len fun A outer s H vs Q E hr Pu=>?_;obtain ⟨t,h,q⟩:=OY OA A outer s H vs Q E hr Pu;exact ⟨t,h.TH,q⟩
theorem Qo.binds {x qual:Str} {st:Stmt} {f:Qz} {fd:FuncData} {ps:List Str} (F:Qo K x qual st f fd)
  (h:∀ (kV doc pm:Qj) (an:Option Qz) (OA ct:Qj) (us:List Qj),us.length=ps.length->bindArgs (PySem.W.fnOf x qual (dB st) (aS st) (aa st) .none kV doc pm an OA ct) ⟨us,[]⟩=pure (ps.zip us)):Binds K fd ps []:=by obtain ⟨oc,od,kV,doc,pm,an,OA,ct,R6,rfl,lk,Pt⟩:=F.ex;exact .all (h kV doc pm an OA ct)
theorem uz {x qual:Str} {st:Stmt} {f:Qz} {oc:Qj} {od an:Option Qz} {R6:Array (Option Qj)} {kV doc pm OA ct:Qj} (l:K.lookup f=some ⟨oc,od,.func (PySem.W.fnOf x qual (dB st) (aS st) (aa st) .none kV doc pm an OA ct),R6⟩)
  (c:PySem.W.codeIn K OA qual=true) (k:PySem.W.keepIn K (.ref f)=true):Qo K x qual st f (PySem.W.fnOf x qual (dB st) (aS st) (aa st) .none kV doc pm an OA ct):=⟨⟨oc,od,kV,doc,pm,an,OA,ct,R6,rfl,l,c⟩,k⟩
end
def ax (H H':Hp):Prop:=∀ b o,H b=some o->H' b=some o
theorem ax.refl (H:Hp):ax H H:=fun _ _ h=>h
theorem ax.trans (a:ax H H1) (b:ax H1 H2):ax H H2:=fun c o h=>b c o (a c o h)
theorem ax.free (e:ax H H') (h:H' l=Option.none):H l=Option.none:=by
 cases q:H l with
 | none=>rfl
 | some o =>
  rw [e l o q] at h;cases h
noncomputable def mU (env:Env):List (Str×NameKind)->List (Str×Qz)->List (Str×Qz)
 | [],cs=>cs
 | (n,k) :: r,cs=>mU env r (if k==.free then (n,(env.cells.lookup n).getD 0) :: cs else cs)
theorem df:∀ (ns:List (Str×NameKind)) (cs:List (Str×Qz)),(∀ y∈ns,y.2=.free->∃ c,env.cells.lookup y.1=some c) ->
  (forIn ns cs (fun (x:Str×NameKind) (r:List (Str×Qz))=>if (x.2==NameKind.free)=true then (cellOf env x.1>>=fun a=>pure (ForInStep.yield ((x.1,a) :: r)):Sem _) else pure (ForInStep.yield r)):Sem (List (Str×Qz)))=pure (mU env ns cs)
 | [],_,_=>rfl
 | (n,k) :: r,cs,h=>by
  rw [List.forIn_cons];by_cases hk:k=.free
  .subst hk;obtain ⟨c,e⟩:=h (n,.free) Lq rfl;have e':env.cells.lookup n=some c:=e;have q:=df (env:=env) r ((n,c) :: cs) fun y hy=>h y (Ly _ hy);have z:mU env ((n,NameKind.free) :: r) cs=mU env r ((n,c) :: cs):=by show mU env r (if (NameKind.free==NameKind.free)=true then (n,(env.cells.lookup n).getD 0) :: cs else cs)=_;rw [Lz (by decide),e'];rfl
   have k:cellOf env n=pure c:=by unfold cellOf;rw [e']
   rw [z,<-q];dsimp only;rw [Lz (by decide),k];rfl
  .have hb:(k==NameKind.free)=false:=by simpa using hk
   have q:=df (env:=env) r cs fun y hy=>h y (Ly _ hy);have z:mU env ((n,k) :: r) cs=mU env r cs:=by show mU env r (if (k==NameKind.free)=true then (n,(env.cells.lookup n).getD 0) :: cs else cs)=_;rw [hb,Lw LU]
   rw [z,<-q];dsimp only;rw [hb,Lw LU];rfl
theorem jw (h:∀ y∈scope.names,y.2=.free->∃ c,env.cells.lookup y.1=some c):closureFor scope env=pure (mU env scope.names []):=by have q:=df (env:=env) scope.names [] h;unfold closureFor;show (forIn scope.names [] _>>=_:Sem _)=_;refine Eq.trans (congrArg (fun m:Sem (List (Str×Qz))=>m>>=fun r=>pure r) (Eq.trans ?_ q)) rfl;rfl
theorem oP:∀ (ns:List (Str×NameKind)) (cs:List (Str×Qz)),(∀ y∈ns,y.2=.free->∃ c,env.cells.lookup y.1=some c)->(∀ y c,cs.lookup y=some c->env.cells.lookup y=some c) ->
  ∀ y c,(mU env ns cs).lookup y=some c->env.cells.lookup y=some c
 | [],_,_,g,y,c,e=>g y c e
 | (n,k) :: r,cs,h,g,y,c,e=>by
  refine oP r _ (fun z hz=>h z (Ly _ hz)) (fun z d e'=>?_) y c e;by_cases hk:(k==NameKind.free)=true
  .rw [Lz hk] at e';rw [M7] at e';obtain ⟨c',ec⟩:=h (n,k) Lq (by simpa using hk);have Td:env.cells.lookup n=some c':=ec;cases hz:z==n with
   | true =>
    rw [hz] at e';have hzn:z=n:=by simpa using hz
    subst hzn;rw [Td] at e' ⊢;exact e'
   | false=>rw [hz] at e';exact g z d e'
  .rw [Lw hk] at e';exact g z d e'
theorem lp:∀ (ns:List (Str×NameKind)) (cs:List (Str×Qz)),(∃ c,cs.lookup y=some c)->∃ c,(mU env ns cs).lookup y=some c
 | [],_,h=>h
 | (n,k) :: r,cs,h=>by
  refine lp r _ ?_;by_cases hk:(k==NameKind.free)=true
  .rw [Lz hk,M7];cases y==n
   .exact h
   .exact ⟨_,rfl⟩
  .rw [Lw hk];exact h
theorem gZ:∀ (ns:List (Str×NameKind)) (cs:List (Str×Qz)),(y,NameKind.free)∈ns->∃ c,(mU env ns cs).lookup y=some c
 | [],_,h=>by simp at h
 | (n,k) :: r,cs,h=>by
  rcases LJ.mp h with e | h
  .cases e;show ∃ c,(mU env r (if (NameKind.free==NameKind.free)=true then (y,(env.cells.lookup y).getD 0) :: cs else cs)).lookup y=some c;refine lp r _ ⟨(env.cells.lookup y).getD 0,?_⟩;rw [Lz (by decide),M7,Mo]
  .exact gZ r _ h
theorem bU {env:Env} {y:Str} {k:NameKind}:∀ (ns:List (Str×NameKind)),
  (ns.map fun (n,k)=>if (k==NameKind.free&&env.scope.kind==.function&&env.kindOf n==some .cell) then (n,NameKind.cell) else (n,k)).lookup y=some k->(y,k)∈ns\/(k=.cell/\(y,NameKind.free)∈ns)
 | [],h=>by simp at h
 | (n,k') :: r,h=>by
  have ih:=fun q=>bU (env:=env) (y:=y) (k:=k) r q;rw [List.map_cons] at h;have h2:=h;have again:=fun q=>(ih q).elim (fun q=>Or.inl (Ly (n,k') q)) fun q=>(Or.inr ⟨q.1,Ly (n,k') q.2⟩:(y,k)∈(n,k') :: r\/(k=.cell/\(y,NameKind.free)∈(n,k') :: r));dsimp only at h2;clear h;by_cases hc:(k'==NameKind.free&&env.scope.kind==.function&&env.kindOf n==some .cell)=true
  .rw [Lz hc,M7] at h2;cases hy:y==n with
   | true =>
    rw [hy] at h2;have e1:y=n:=by simpa using hy
    have hk:k'=.free:=by have:=hc;simp at this;exact this.1.1
    have e2:k=.cell:=(Mp h2).symm;exact .inr ⟨e2,by rw [e1,hk];exact Lq⟩
   | false=>rw [hy] at h2;exact again h2
  .rw [Lw hc,M7] at h2;cases hy:y==n with
   | true =>
    rw [hy] at h2;have e1:y=n:=by simpa using hy
    have e2:k'=k:=Mp h2;exact .inl (by rw [e1,e2];exact Lq)
   | false=>rw [hy] at h2;exact again h2
def P6 (X:Cx) (N':List Str) (scope:Scope) (C:Qz) (s3:Qx) (H3:Hp) (ex:List Qz):Cx :=
  { prog:=X.prog,w:=X.w,K:=X.K,mg:=X.mg,base:=X.base,A:=X.A,N:=N',ZZ:=s3,ZO:=H3,env:=compEnvC scope (mU X.env scope.names []) C X.env,outer:=X.stack,stack:=X.stack,ex:=ex,
    fn:=fun _=>false,calm:=true,pn:=[],xe:=fun _ _=>False }
def fB (X:Cx) (scope:Scope):List Str->List Nat->Prop
 | [],[]=>True
 | y :: ys,j :: js=>X.N[j]?=some y/\(X.env.scope.names.lookup y=some .cell/\scope.names.lookup y=some .free)/\fB X scope ys js
 | _,_=>False
theorem fB.get:∀ {ys:List Str} {js:List Nat} {k:Nat} {y:Str},fB X scope ys js->ys[k]?=some y->∃ j,js[k]?=some j/\X.N[j]?=some y/\X.env.scope.names.lookup y=some .cell/\scope.names.lookup y=some .free
 | [],_,_,_,_,e=>by simp at e
 | _ :: _,[],_,_,h,_=>False.elim h
 | y :: ys,j :: js,0,z,h,e=>by simp at e;subst e;exact ⟨j,rfl,h.1,h.2.1⟩
 | y :: ys,j :: js,k+1,z,h,e=>by obtain ⟨j',e1,e2⟩:=fB.get (k:=k) h.2.2 (by simpa using e);exact ⟨j',by simpa using e1,e2⟩
theorem fB.len:∀ {ys:List Str} {js:List Nat},fB X scope ys js->ys.length=js.length
 | [],[],_=>rfl
 | _ :: _,_ :: _,h=>by simp [fB.len h.2.2]
 | [],_ :: _,h=>False.elim h
 | _ :: _,[],h=>False.elim h
noncomputable def bL (js:List Nat) (Y:St):St:=js.map fun j=>(Y[j]?).getD none
structure gF (X:Cx) (scope:Scope) (x:Str):Prop where
 kind:scope.kind=.function
 cells:∀ y∈scope.names,y.2≠.cell
 locs:∀ y∈scope.names,y.2=.local->scope.names.lookup y.1=some .local
 var:scope.names.lookup x=some .local
 free:∀ y∈scope.names,y.2=.free->X.env.scope.names.lookup y.1=some .cell
def VC (X:Cx) (ifs:List Expr) (t:TT):Prop :=
 ∀ (ti:Qw) (s:Qx) (Y:St) (H:Hp) (Q:Bool->Hp->Prop),Inv X ti Y H s->t Y H Q ->
  wMY X (forIn ifs true fun c r=>if r=true then do let ok<-isTrue c X.env (eval c X.env);pure (ForInStep.yield ok) else pure (ForInStep.yield r)) (TP X ti Y Q) X.xe s
def GS:TT:=fun _ H Q=>Q true H
theorem Bo:VC X [] GS:=fun _ _ _ H _ I h=>wpAny_tests_nil ⟨H,I,h⟩
theorem uA (I:Inv X ti Y H s3) (hc:X.calm=true) (B:gF X scope x) (cap:fB X scope ys js)
  (Sa:h1.Ns s3.heap.objs.size (fun _=>none)) (hk:∀ b o,s3.heap.get? b=some o->h1.get? b=some o)
  (hex:∀ b∈ex,b ∉ Oj X.stack/\b < s3.heap.objs.size/\(∀ y c,X.env.cells.lookup y=some c->c≠b)/\X.base.get? b=none) :
  Inv (P6 X (x :: ys) scope s3.heap.objs.size s3 H ex) [] (none :: bL js Y) H { s3 with heap:=h1,toks:=tk }:=by
 have Q4:∀ y∈scope.names,y.2=.free->∃ c,X.env.cells.lookup y.1=some c:=fun y hy hf=>I.ok.has y.1 (.inl (B.free y hy hf));have sub:=oP (env:=X.env) scope.names [] Q4 (fun _ _ e=>by simp at e)
 refine ⟨⟨I.ok.mod,B.kind,I.ok.glob,I.ok.blt,LA _,fun y z c h1 h2=>I.ok.inj y z c (sub _ _ h1) (sub _ _ h2),fun y hy=>?_,fun y c hf _=>?_,fun _=>I.ok.hd hc,I.ok.frames,.inl rfl,fun b hb=>?_,fun b o e=>I.bs b o e,LG I.ok.QO I.sz,fun b o e hb=>?_,fun b hb=>(hex b hb).1,I.stack,I.iP⟩,
  rfl,I.bare,Un.kept hk,⟨_,Sa,fun i y v e1 e2 e3=>?_⟩,fun y c e=>?_,I.IT.fresh (LA _),fun y c e=>I.cH y c (sub _ _ e),fun p hp=>absurd (show p∈([]:Qw) from hp) (by simp),I.IT.kept hk,?_⟩
 .have hy:(relabel scope X.env).names.lookup y=some .cell\/(relabel scope X.env).names.lookup y=some .free:=hy;rcases hy with hy | hy
  .rcases bU _ hy with q | ⟨_,q⟩
   .exact absurd rfl (B.cells _ q)
   .exact gZ _ _ q
  .rcases bU _ hy with q | ⟨q,_⟩
   .exact gZ _ _ q
   .cases q
 .exact absurd (show false=true from hf) (by simp)
 .exact ⟨L9 (hex b hb).2.1,fun y c e=>(hex b hb).2.2.1 y c (sub _ _ e)⟩
 .have e':X.base.get? b=some o:=e;have:=(hex b hb).2.2.2;rw [e'] at this;cases this
 .cases i with
  | zero=>simp at e2
  | succ i =>
   have WO:ys[i]?=some y:=by simpa [P6] using e1
   have Ru:(bL js Y)[i]?=some (some v):=by simpa using e2
   obtain ⟨j,ej,en,ec,ef⟩:=cap.get WO;have e4:Y[j]?=some (some v):=by
    unfold bL at Ru;rw [LO,ej] at Ru;simp only [NM,Option.some.injEq] at Ru;cases q:Y[j]? with
    | none=>rw [q] at Ru;cases Ru
    | some w=>rw [q] at Ru;simp at Ru;rw [Ru]
   obtain ⟨m,hn,hl⟩:=I.loc;obtain ⟨u,r,l⟩:=hl j y v en e4 (.inr (.inl ec));refine ⟨u,r,.inr ?_⟩;rcases l with ⟨kl,_⟩ | ⟨kc,c,ecl,cell⟩
   .have kl:X.env.scope.names.lookup y=some .local:=kl;rw [ec] at kl;cases kl
   .have e3:(relabel scope X.env).names.lookup y=some .local\/(relabel scope X.env).names.lookup y=some .cell\/(relabel scope X.env).names.lookup y=some .free:=e3;refine ⟨?_,?_⟩
    .rcases e3 with q | q | q
     .rcases bU _ q with q | ⟨q,_⟩
      .have:=B.locs _ q rfl;rw [ef] at this;cases this
      .cases q
     .exact .inl q
     .exact .inr q
    .have mem:(y,NameKind.free)∈scope.names:=Nu ef;obtain ⟨c',Td⟩:=gZ (env:=X.env) scope.names [] mem;have:=sub _ _ Td;rw [ecl] at this;cases this;obtain ⟨o,ho,hd⟩:=cell;exact ⟨c,Td,o,hk _ _ ho,hd⟩
 .obtain ⟨v,o,ho,hd⟩:=I.cell y c (sub _ _ e);exact ⟨v,o,hk _ _ ho,hd⟩
 .show (none :: bL js Y).length=(x :: ys).length;rw [LN,LN,cap.len];unfold bL;rw [Lo]
def qh (js:List Nat) (wi:TI) (tt:TT) (te:TE):TE:=fun Y H Q=>wi Y H fun J H1=>∃ W:Nat->Nat->List V->Hp->Prop,(∃ m,W 0 m [] H1)/\∀ i m acc H,W i m acc H ->
 (J.stop i H/\acc.length<=sizeLine/\∀ p,H p=none->Q (.ref p) (upd H p (.lst acc)))\/(J.go i H/\acc.length < sizeLine/\∀ x H',J.RM i H x H' ->
  tt (some x :: bL js Y) H' fun b H2=>if b=true then te (some x :: bL js Y) H2 fun y H3=>∃ m',m' < m/\W (i+1) m' (acc++[y]) H3 else ∃ m',m' < m/\W (i+1) m' acc H2)
theorem xo {M:Model} {A:Around} {W B:Type} {E E':Qy} {a:W} {t:Sem W} {u:Sem B} {Q:W->Qx->Prop} {R:B->Qx->Prop} {s s':Qx} (e:t=pure a) (h:wpAny M A t Q E s) (k:Q a s->wpAny M A u R E' s'):wpAny M A u R E' s':=by subst e;exact fun Γ p ZJ=>k (h Γ p ZJ) Γ p ZJ
theorem pO {X:Cx} {ti:Qw} {Y:St} {H:Hp} {s2:Qx} {elt iter:Expr} {x:Str} {px pos:Pos} {ifs:List Expr} {scope:Scope} {tt:TT} {te:TE} {ys:List Str} {js:List Nat} {it:Qz} {fp:List Qz} {tn:Nat->Heap->Prop} {J:It}
    {Q:VK} {E:Qy} {RR:Qj->Qz->Result->Qx->Prop} (hc:X.calm=true) (B:gF X scope x) (nd:(x :: ys).Nodup) (cap:fB X scope ys js)
    (ht:∀ C s3 H3 ex,VC (P6 X (x :: ys) scope C s3 H3 ex) ifs tt) (he:∀ C s3 H3 ex,PE (P6 X (x :: ys) scope C s3 H3 ex) elt te)
    (I:Inv X ti Y H s2) (T:Turn X.prog X.w X.K (.Name x px) J fp it tn) (h0:tn 0 s2.heap) (hf:∀ b∈fp,wA X ti H b)
    (W:Nat->Nat->List V->Hp->Prop) (w0:∃ m,W 0 m [] H)
    (turn:∀ i m acc H,W i m acc H->(J.stop i H/\acc.length<=sizeLine/\∀ p,H p=none->Q (.ref p) (upd H p (.lst acc)))\/(J.go i H/\acc.length < sizeLine/\∀ x H',J.RM i H x H' ->
      tt (some x :: bL js Y) H' fun b H2=>if b=true then te (some x :: bL js Y) H2 fun y H3=>∃ m',m' < m/\W (i+1) m' (acc++[y]) H3 else ∃ m',m' < m/\W (i+1) m' acc H2))
    (hRR:∀ (D C:Qz) (H':Hp) (s':Qx) (m':Str->Option Qj),s'.heap.Ns C m'->s2.heap.objs.size<=C->C≠D->H' C=none->Inv X ti Y H' s'->Q (.ref D) H'->RR (.ref D) C (.ok .next) s') :
    wMY X (newList []) (fun acc ZM=>wMY X (newFunctionEnv scope X.env.globals (mU X.env scope.names []) [] X.env.qual none .none (some X.env)) (fun VD s₄ =>
      codeAny (model X.prog X.w) X.A (.compStart (.ListComp elt [⟨.Name x px,iter,ifs,0⟩] scope pos) 0 (.ref it) acc { VD with scope:=relabel scope X.env }) (RR acc VD.locals) s₄) E ZM) E s2:=by
  refine MJ (wpAny_newFunctionEnv B.cells (by intro y hy;simp at hy) (fun h1 Sa X3=>?_) B.kind);dsimp only at Sa X3 ⊢;have hD:H s2.heap.objs.size=none:=I.IT.fresh (LA _);generalize X4:s2.heap.push { cls:=.type "list", dict:=none,data:=.seq ([]:List Qj).toArray }=P2 at Sa X3 ⊢;have VE:P2.get? s2.heap.objs.size=some { cls:=.type "list", dict:=none,data:=.seq ([]:List Qj).toArray }:=by rw [<- X4];exact L0 _ rfl
  have hold:∀ b o,s2.heap.get? b=some o->P2.get? b=some o:=fun b o e=>by rw [<- X4];exact LB _ e
  have Pn:P2.objs.size=s2.heap.objs.size+1:=by rw [<- X4,Heap.size_push]
  have I3:Inv X ti Y H { s2 with heap:=P2,toks:=s2.toks }:=I.kept hold;generalize Uo:s2.heap.objs.size=D at *;have Rb:∀ b o,P2.get? b=some o->h1.get? b=some o:=fun b o e=>X3.extBut b o (L9 (LM e)) (LB _ e);have X5:∀ b∈fp,b < D:=fun b hb=>by obtain ⟨o,e,_⟩:=T.obj _ _ h0 b hb;rw [<- Uo];exact LM e
  have VF:∀ b,b≠X.env.locals->b ∉ X.fs->b ∉ Oj X.stack:=fun b h1 h2 z=>(LJ.mp (I.jt b z)).elim h1 h2;have Z4:D≠X.env.locals:=fun z=>absurd I.lt (by rw [Uo,z];exact Mn _);have X6:D ∉ X.fs:=I.DV (by rw [Uo];exact LA _);have Z5:∀ y c,X.env.cells.lookup y=some c->c≠D:=fun y c e z=>by obtain ⟨v,q⟩:=I.cell y c e;have:=q.lt;rw [z,Uo] at this;exact absurd this (Mn _)
  have hex:∀ b∈D :: fp,b ∉ Oj X.stack/\b < ({ s2 with heap:=P2,toks:=s2.toks }:Qx).heap.objs.size/\(∀ y c,X.env.cells.lookup y=some c->c≠b)/\X.base.get? b=none:=fun b hb=>by
    rcases LJ.mp hb with rfl | hb
    · refine ⟨VF _ Z4 X6,by show _ < P2.objs.size;rw [Pn];exact MH _,Z5,?_⟩;cases q:X.base.get? b with
      | none=>rfl
      | some o =>
        have:=LM (I.bk b o q);rw [Uo] at this;exact absurd this (Mn _)
    · obtain ⟨f0,f1,f2,f3,f4,f5⟩:=hf b hb;refine ⟨VF _ f1 f2,by show _ < P2.objs.size;rw [Pn];exact Nat.lt_succ_of_lt (X5 b hb),f4,?_⟩;cases q:X.base.get? b with
      | none=>rfl
      | some o =>
        rcases f3 with z | z
        · exact absurd z (I.ok.vU b o q)
        · exact absurd (LQ (LM q) (LG I.ok.QO z)) (Mn _)
  have IB:=uA (tk:=s2.toks) (ex:=D :: fp) I3 hc B cap (h1:=h1) Sa Rb hex;have WQ:P2.objs.size≠D:=by rw [Pn];exact Nat.succ_ne_self _
  have start:codeAny (model X.prog X.w) X.A (.compLoop (.ListComp elt [⟨.Name x px,iter,ifs,0⟩] scope pos) 0 (.ref it) (.ref D) (compEnvC scope (mU X.env scope.names []) P2.objs.size X.env)) (RR (.ref D) P2.objs.size) { s2 with heap:=h1,toks:=s2.toks }:=by
    obtain ⟨m0,w0⟩:=w0;refine codeAny_compLoop_tests (fun n s=>∃ i v0 H' acc its k,Inv (P6 X (x :: ys) scope P2.objs.size { s2 with heap:=P2,toks:=s2.toks } H (D :: fp)) [] (v0 :: bL js Y) H' s/\tn i s.heap/\(∀ b∈D :: fp,H' b=none)/\s.heap.get? D=some { cls:=.type "list", data:=.seq its k }/\Vals acc its.toList/\acc.length<=sizeLine/\W i n acc H') ?_ m0 ?_
    · rintro n s ⟨i,v0,H3,acc,its,k,I4,t4,X7,g4,va,hl4,w4⟩;have SJ:D∈D :: fp:=Lq;have QM:=I4.ok.QM;have VG:∀ b∈D :: fp,b ∉ (P6 X (x :: ys) scope P2.objs.size { s2 with heap:=P2,toks:=s2.toks } H (D :: fp)).fs:=fun b hb=>(hex b hb).1;have stat:∀ {H':Hp} {ob:Obj},(∀ b∈fp,H' b=none)->∀ b∈fp,wA (P6 X (x :: ys) scope P2.objs.size { s2 with heap:=P2,toks:=s2.toks } H (D :: fp)) [(D,ob)] H' b:=fun {H' ob} hn b hb =>
        ⟨hn b hb,(QM b (Ly _ hb)).1,VG b (Ly _ hb),.inl (Ly _ hb),(QM b (Ly _ hb)).2,fun p hp z=>by
          have hp':p∈[(D,ob)]:=hp;have e:=LF.mp hp';rw [e] at z
          exact absurd (X5 b hb) (by rw [<- show D=b from z];exact Mn _)⟩
      have Z8:∀ b∈fp,H3 b=none:=fun b hb=>X7 b (Ly _ hb);have I5:Inv (P6 X (x :: ys) scope P2.objs.size { s2 with heap:=P2,toks:=s2.toks } H (D :: fp)) [(D,{ cls:=.type "list", data:=.seq its k })] (v0 :: bL js Y) H3 s:=I4.cB fun p hp=>by rw [LF.mp hp];exact ⟨g4,X7 D SJ,(QM D SJ).1,VG D SJ,fun v z=>nomatch z⟩
      rcases turn i n acc H3 w4 with ⟨stop,OV,q⟩ | ⟨go,OV,step⟩
      · refine L6 (T.done (P6 X (x :: ys) scope P2.objs.size { s2 with heap:=P2,toks:=s2.toks } H (D :: fp)) rfl rfl rfl rfl i _ s _ H3 (fun _ _=>False) I5 (stat Z8) t4 stop) (fun r s1 ⟨hr,I6⟩=>?_) (fun _ _ z=>z.elim);subst hr;obtain ⟨m',Vq,_⟩:=id I6.loc;have pD:=(I6.pin (D,{ cls:=.type "list", data:=.seq its k }) (Lx _ (LF.mpr rfl))).1;have nD:H3 D=none:=X7 D SJ;have u:=I6.base;have uu:Un (Oj X.stack) (D :: fp) H (upd H3 D (.lst acc)) P2 s1.heap :=
          ⟨u.keep,u.slot,fun b o q n hx=>by rw [aj fun z=>hx (by rw [z];exact SJ)];exact u.free b o q n hx,u.there,
           fun b xs q=>by rw [aj (aG (u.ou b xs q) nD)];exact u.ou b xs q,fun b o v q=>by rw [aj (aG (u.nB b o v q) nD)];exact u.nB b o v q,
           fun b ps q=>by
            obtain ⟨more,z⟩:=u.qv b ps q
            exact ⟨more,by rw [aj (aG z nD)];exact z⟩⟩
        have IT:O6 X.prog X.w (upd H3 D (.lst acc)) s1.heap:=fun b o e=>by
          by_cases hb:b=D
          · subst hb;rw [ak] at e;cases e;exact ⟨OV,its.toList,k,va,by rw [Array.toArray_toList];exact pD⟩
          · rw [aj hb] at e;exact (I6.IT b o e).jf (fun c v _ q=>q) (fun c q=>by rw [aj (aG q nD)];exact q) fun c xs q=>by rw [aj (aG q nD)];exact q
        have fin:=I3.call (g':=s1.gens) (t':=s1.toks) (d':=s1.drawn) uu IT I6.bare (fun b hb=>by
          rcases LJ.mp hb with z | hb
          · rw [z];refine ⟨.inr (by rw [<- Uo];exact I.sz),Z4,Z5,fun p hp z=>?_⟩;have:=LM (I.pin p hp).1;rw [z,Uo] at this;exact Mn _ this
          · exact ⟨(hf b hb).2.2.2.1,(hf b hb).2.1,(hf b hb).2.2.2.2.1,(hf b hb).2.2.2.2.2⟩)
        have es:({ heap:=s1.heap,gens:=s1.gens,drawn:=s1.drawn,toks:=s1.toks,os:=s2.os }:Qx)=s1:=by have:=I6.os;obtain ⟨a1,a2,a3,a4,a5⟩:=s1;have e5:a5=s2.os:=this;rw [e5]
        have X8:Inv X ti Y (upd H3 D (.lst acc)) s1:=es▸fin;exact hRR D P2.objs.size (upd H3 D (.lst acc)) s1 m' Vq (by rw [Pn];exact Nat.le_succ _) WQ (by rw [aj WQ];exact I6.free) X8 (q D nD)
      · refine L6 (T.item (P6 X (x :: ys) scope P2.objs.size { s2 with heap:=P2,toks:=s2.toks } H (D :: fp)) rfl rfl rfl rfl i _ s _ H3 (fun _ _=>False) I5 (stat Z8) t4 go) (fun r s1 ⟨u,hr,h4⟩=>?_) (fun _ _ z=>z.elim);subst hr;refine xo (a:=()) rfl h4 fun ⟨x',H5,I6,r6,y6,t6,fr6⟩=>?_;have I7:=I6.pinned (stat fr6) (T.obj _ _ t6);have kx:(relabel scope X.env).names.lookup x=some .local:=lookup_relabel_local B.var;have pg:PG (P6 X (x :: ys) scope P2.objs.size { s2 with heap:=P2,toks:=s2.toks } H (D :: fp)) (.Name x px) (cY 0):=kT nd rfl (.inl kx) (.inr kx);refine L6 (pg _ s1 _ H5 x' u (fun Z' H'=>Z'=some x' :: bL js Y/\H'=H5) I7 r6 ⟨rfl,rfl⟩) (fun _ s2' ⟨Z6,H6,I8,e1,e2⟩=>?_) (fun _ _ z=>z.elim);subst e1 e2;refine L6 (ht _ _ _ _ _ s2' _ _ _ I8 (step x' H6 y6)) (fun b s3' ⟨H7,I9,q9⟩=>?_) (fun _ _ z=>z.elim);have Qp:∀ {Z':St} {H':Hp} {s':Qx},Inv (P6 X (x :: ys) scope P2.objs.size { s2 with heap:=P2,toks:=s2.toks } H (D :: fp)) ([(D,{ cls:=.type "list", data:=.seq its k })]++mO fp s1.heap) Z' H' s' ->
            s'.heap.get? D=some { cls:=.type "list", data:=.seq its k }/\(∀ b∈D :: fp,H' b=none)/\∀ b∈fp,∀ o,s1.heap.get? b=some o->s'.heap.get? b=some o:=fun {Z' H' s'} J=>by
          have pd:=J.pin (D,{ cls:=.type "list", data:=.seq its k }) (Lx _ (LY _ (LF.mpr rfl)));refine ⟨pd.1,fun b hb=>?_,fun b hb o e=>(J.pin (b,o) (Lx _ (Lx _ (dF hb e)))).1⟩;rcases LJ.mp hb with rfl | hb
          · exact pd.2.1
          · obtain ⟨o,e,_⟩:=T.obj _ _ t6 b hb;exact (J.pin (b,o) (Lx _ (Lx _ (dF hb e)))).2.1
        cases b with
        | false =>
          rw [Lw LU] at q9;obtain ⟨m',hm,w9⟩:=q9;obtain ⟨p1,p2,p3⟩:=Qp I9;rw [Lw LU];exact ⟨m',hm,i+1,some x',H7,acc,its,k,I9.cB (fun p hp=>absurd hp (by simp)),T.keep _ _ _ t6 p3,p2,p1,va,hl4,w9⟩
        | true =>
          rw [Lz rfl] at q9;rw [Lz rfl];refine L6 (he _ _ _ _ _ s3' _ _ _ I9 q9) (fun y X9 ⟨yv,H8,Z9,ry,m',hm,w10⟩=>?_) (fun _ _ z=>z.elim);obtain ⟨p1,p2,p3⟩:=Qp Z9;have VH:its.size=acc.length:=by rw [va.length];simp
          have Yb:=Z9.cB (pins':=[]) (fun p hp=>absurd hp (by simp));refine wpAny_list_append_plain ⟨k,p1⟩ (fun h' QU PX=>?_) (by rw [VH];exact NC OV);obtain ⟨k',e'⟩:=QU;have WR:∀ {b:Qz} {o:HO},H8 b=some o->b≠D:=fun e z=>by rw [z,p2 D SJ] at e;cases e
          refine ⟨m',hm,i+1,some x',H8,acc++[yv],its.push y,k',?_,?_,p2,e',?_,?_,w10⟩
          · refine Yb.step (g':=X9.gens) (t':=X9.toks) (d':=X9.drawn) (ch:=[D]) (fun b hb=>?_) (fun b o _ _ OT e _=>?_) (fun b o _ _ OT e _=>⟨o.slots,?_⟩) (fun b o OT e n=>n) (fun b o OT e=>⟨o,?_⟩) (fun _ _ z=>z) (fun _ _ _ z=>z) (fun b ps z=>⟨#[],by rw [z];simp⟩) (fun m hn=>hn.sameBut PX (Ne.symm (QM D SJ).1)) (fun b o e=>?_) Yb.bare
            · rw [LF.mp hb];exact ⟨.inl SJ,(QM D SJ).1,(QM D SJ).2,fun p hp=>absurd (show p∈([]:Qw) from hp) (by simp)⟩
            · exact (PX.2 b fun z=>OT (LF.mpr z)).trans e
            · exact (PX.2 b fun z=>OT (LF.mpr z)).trans e
            · exact (PX.2 b fun z=>OT (LF.mpr z)).trans e
            · refine (Yb.IT b o e).jf (fun c v OT q=>(PX.2 c ?_).trans q) (fun _ q=>q) fun _ _ q=>q;rcases OT with z | z
              · rw [z];exact WR e
              · exact WR z
          · refine T.keep _ _ _ t6 fun b hb o e=>(PX.2 b ?_).trans (p3 b hb o e);exact L9 (X5 b hb)
          · rw [Array.toList_push];exact va.append (.cons ry .nil)
          · rw [Ln,MO];exact OV
    · refine ⟨0,none,H,[],#[],_,IB,T.keep _ _ _ h0 (fun b hb o e=>Rb b o (hold b o e)),fun b hb=>?_,Rb _ _ VE,.nil,Mk _,w0⟩;rcases LJ.mp hb with rfl | hb
      · exact hD
      · exact (hf b hb).1
  exact codeAny_compStart_list start (T.self _ 0 _ _ _ (T.keep _ _ _ h0 (fun b hb o e=>Rb b o (hold b o e))) start)
theorem zE (hc:X.calm=true) (hi:PI X (.Name x px) iter wi) (B:gF X scope x) (nd:(x :: ys).Nodup) (cap:fB X scope ys js)
  (ht:∀ C s3 H3 ex,VC (P6 X (x :: ys) scope C s3 H3 ex) ifs tt) (he:∀ C s3 H3 ex,PE (P6 X (x :: ys) scope C s3 H3 ex) elt te) (hs:∀ x,foldedSetIterable iter X.env x=pure x:=by intro _;rfl) :
  PE X (.ListComp elt [⟨.Name x px,iter,ifs,0⟩] scope pos) (qh js wi tt te):=by
 intro ti s Y H Q I h;have QX:=jw (scope:=scope) (env:=X.env) fun y hy hf=>I.ok.has y.1 (.inl (B.free y hy hf));rw [eval_ListComp];refine wpAny_comprehension_free (use:=none) rfl hs QX B.kind B.locs (L6 (hi ti s Y H _ I h) (fun xv s1 h1=>L6 h1 (fun WC s2 h2=>?_) fun _ _ e=>e) fun _ _ e=>e);obtain ⟨it,fp,tn,J,H2,e,I2,T,Vt,f2,W,w0,turn⟩:=h2;subst e;refine pO (RR:=fun acc C=>compPost (model X.prog X.w) X.A X.xe none (EP X ti Y Q) acc C) hc B nd cap ht he I2 T Vt f2 W w0 turn ?_;intro D C H' s' m' hn hC WQ Yc I' q;refine ⟨m',hn,fun h' Sb=>⟨.ref D,H',?_,rfl,q⟩⟩;have hL:X.env.locals≠C:=L9 (LQ I2.lt hC);have SF:∀ {b:Qz} {o:HO},H' b=some o->b≠C:=fun e z=>by rw [z,Yc] at e;cases e
 refine I'.step (g':=s'.gens) (t':=s'.toks) (d':=s'.drawn) (ch:=[C]) (fun b hb=>?_) (fun b o _ _ OT e _=>?_) (fun b o _ _ OT e _=>⟨o.slots,?_⟩) (fun b o OT e n=>n) (fun b o OT e=>⟨o,?_⟩) (fun _ _ z=>z) (fun _ _ _ z=>z) (fun b ps z=>⟨#[],by rw [z];simp⟩) (fun m hn=>hn.sameBut Sb hL) (fun b o e=>?_) I'.bare
 .rw [LF.mp hb];refine ⟨.inr (LG I2.sz hC),Ne.symm hL,fun y c e z=>?_,fun p hp z=>?_⟩
  .obtain ⟨v,q⟩:=I2.cell y c e;have:=q.lt;rw [z] at this;exact absurd (LQ this hC) (Mn _)
  .have:=LM (I2.pin p hp).1;rw [z] at this;exact absurd (LQ this hC) (Mn _)
 .exact (Sb.2 b fun z=>OT (LF.mpr z)).trans e
 .exact (Sb.2 b fun z=>OT (LF.mpr z)).trans e
 .exact (Sb.2 b fun z=>OT (LF.mpr z)).trans e
 .refine (I'.IT b o e).jf (fun c v OT q=>(Sb.2 c ?_).trans q) (fun _ q=>q) fun _ _ q=>q;rcases OT with z | z
  .rw [z];exact SF e
  .exact SF z
theorem A3 (hN:X.N.Nodup) (RQ:X.N[i]?=some y) (hy:X.env.scope.names.lookup y=some .local)
  (Yd:swapsWith (.ListComp elt [⟨.Name x px,iter,ifs,0⟩] scope pos) (some (.Name y py)) Uq.line X.env=pure true) (hc:X.calm=true) (hi:PI X (.Name x px) iter wi) (B:gF X scope x) (nd:(x :: ys).Nodup) (cap:fB X scope ys js)
  (ht:∀ C s3 H3 ex,VC (P6 X (x :: ys) scope C s3 H3 ex) ifs tt) (he:∀ C s3 H3 ex,PE (P6 X (x :: ys) scope C s3 H3 ex) elt te) (hs:∀ x,foldedSetIterable iter X.env x=pure x:=by intro _;rfl) :
  PS X (.Assign [.Name y py] (.ListComp elt [⟨.Name x px,iter,ifs,0⟩] scope pos) Uq) (pI (qh js wi tt te) (cY i)):=by
 intro ti s Y H Dn I h;have QX:=jw (scope:=scope) (env:=X.env) fun y hy hf=>I.ok.has y.1 (.inl (B.free y hy hf));rw [exec_Assign_Name_used _ _ _ _ Yd];refine Lm (NH (Lm ?_));show wpAny _ X.A (do let _<-comprehension (.ListComp elt [⟨.Name x px,iter,ifs,0⟩] scope pos) scope X.env _ (newList []) false (eval iter X.env) (some (assign (.Name y py) X.env))) _ _ s
 refine Lm (L6 (wpAny_comprehension_free (use:=some (assign (.Name y py) X.env)) (Q:=fun _ s'=>SP X ti Dn .next s') rfl hs QX B.kind B.locs
  (L6 (hi ti s Y H _ I h) (fun xv s1 h1=>L6 h1 (fun WC s2 h2=>?_) fun _ _ e=>e) fun _ _ e=>e)) (fun _ s' hq=>Lu (Lu hq)) fun _ _ e=>e)
 obtain ⟨it,fp,tn,J,H2,e,I2,T,Vt,f2,W,w0,turn⟩:=h2;subst e;refine pO (Q:=fun x H1=>cY i x Y H1 Dn.nx) (RR:=fun acc C=>compPost (model X.prog X.w) X.A X.xe (some (assign (.Name y py) X.env)) (fun _ s'=>SP X ti Dn .next s') acc C) hc B nd cap ht he I2 T Vt f2 W w0 turn ?_;intro D C H' s' m' hn hC WQ Yc I' q;have hL:X.env.locals≠C:=L9 (LQ I2.lt hC);have Ye:C ∉ X.fs:=I2.DV hC;obtain ⟨oC,esC,epC,hoC,WU,VI⟩:=id hn;have WV:Inv X (ti++[(C,oC)]) Y H' s':=I'.cB fun p hp=>by
  rcases Mc.mp hp with z | z
  .exact I'.pin p (Lx _ z)
  .rw [LF.mp z];exact ⟨hoC,Yc,Ne.symm hL,Ye,fun v z=>by rw [WU] at z;cases z⟩
 show wpAny _ X.A (assign (.Name y py) X.env (.ref D)) _ _ _;refine L6 (kT (pos:=py) hN RQ (.inl hy) (.inr hy) _ s' Y H' (.ref D) (.ref D) Dn.nx WV rfl q) (fun _ s3 ⟨Z3,H3,I3,q3⟩=>?_) fun _ _ e=>e;have pC:=I3.pin (C,oC) (Lx _ (Lx _ (LF.mpr rfl)));have hn3:s3.heap.Ns C m':=⟨oC,esC,epC,pC.1,WU,VI⟩;have Yf:H3 C=none:=pC.2.1;refine ⟨m',hn3,fun h' Sb=>⟨Z3,H3,?_,q3⟩⟩;have I4:=I3.gY;have SF:∀ {b:Qz} {o:HO},H3 b=some o->b≠C:=fun e z=>by rw [z,Yf] at e;cases e
 refine I4.step (g':=s3.gens) (t':=s3.toks) (d':=s3.drawn) (ch:=[C]) (fun b hb=>?_) (fun b o _ _ OT e _=>?_) (fun b o _ _ OT e _=>⟨o.slots,?_⟩) (fun b o OT e n=>n) (fun b o OT e=>⟨o,?_⟩) (fun _ _ z=>z) (fun _ _ _ z=>z) (fun b ps z=>⟨#[],by rw [z];simp⟩) (fun m hn=>hn.sameBut Sb hL) (fun b o e=>?_) I4.bare
 .rw [LF.mp hb];refine ⟨.inr (LG I2.sz hC),Ne.symm hL,fun y c e z=>?_,fun p hp z=>?_⟩
  .obtain ⟨v,q⟩:=I2.cell y c e;have:=q.lt;rw [z] at this;exact absurd (LQ this hC) (Mn _)
  .have:=LM (I2.pin p hp).1;rw [z] at this;exact absurd (LQ this hC) (Mn _)
 .exact (Sb.2 b fun z=>OT (LF.mpr z)).trans e
 .exact (Sb.2 b fun z=>OT (LF.mpr z)).trans e
 .exact (Sb.2 b fun z=>OT (LF.mpr z)).trans e
 .refine (I4.IT b o e).jf (fun c v OT q=>(Sb.2 c ?_).trans q) (fun _ q=>q) fun _ _ q=>q;rcases OT with z | z
  .rw [z];exact SF e
  .exact SF z
def Yg (x:Str):It:=⟨fun i _=>i < x.length,fun i H v H'=>H'=H/\∃ c,x.cps[i]?=some c/\v=.str ⟨#[c]⟩,fun i _=>x.length<=i⟩
theorem wF {P:Program} {w:World} {K:Fg} {y:Str} {py:Pos} {x:Str} {it:Qz} {St:Nat->Heap->Prop} (W:(A':Around)->A'.handled=none->Walks P w A' it [it] [it] x.cps.size (SignAt x) St)
  (ob:∀ i h,St i h->∃ o,h.get? it=some o/\∀ v,o.data≠.cell v) (hs:∀ (A:Around) i (s:Qx) (Q:Qy) (E:Qy),St i s.heap->Q (.ref it) s->wMX P w A (pyIter (.ref it)) Q E s) :
  Turn P w K (.Name y py) (Yg x) [it] it (fun i h=>i<=x.cps.size/\St i h) where
 mem:=by simp
 obj:=fun i h st b hb=>by
  have e:b=it:=by simpa using hb
  subst e;exact ob i h st.2
 keep:=fun i h h' st k=>⟨st.1,(W { depth:=0,frames:=none,guards:=none,units:=0,handled:=none } rfl).frame i h h' st.2 fun b hb o e=>k b hb o e⟩
 item:=by intro X hP hw hK hc i ti s Y H E I hf st hg;subst hP hw hK;obtain ⟨f0,f1,f2,f3,f4,f5⟩:=hf it (by simp);refine (W X.A (I.ok.hd hc)).item i s _ _ hg st.2 fun v h' tk hv O0 kk=>?_;obtain ⟨c,t,Yh,rfl⟩:=hv;have I1:Inv X ti Y H { s with heap:=h',toks:=tk }:=I.turned (fun b o hb e=>kk b o (by simpa using hb) e) f0 f1 f3 f4 f5;exact ⟨_,rfl,Lu (show _ from ⟨.str ⟨#[c]⟩,H,I1,⟨t,rfl⟩,⟨rfl,c,Yh,rfl⟩,⟨hg,O0⟩,fun b hb=>(hf b hb).1⟩)⟩
 done:=by intro X hP hw hK hc i ti s Y H E I hf st hg;subst hP hw hK;obtain ⟨f0,f1,f2,f3,f4,f5⟩:=hf it (by simp);have e:i=x.cps.size:=Nat.le_antisymm st.1 hg;subst e;exact (W X.A (I.ok.hd hc)).done s _ _ st.2 fun h' tk kk=>⟨rfl,I.turned (fun b o hb e=>kk b o (by simpa using hb) e) f0 f1 f3 f4 f5⟩
 self:=fun A i s Q E st h=>hs A i s Q E st.2 h
def Hy (tl:TE):TI:=fun Y H R=>tl Y H fun x H1=>∃ z,x=.str z/\R (Yg z) H1
theorem FE (hl:PE X l tl):PI X (.Name y py) l (Hy tl):=by
 intro ti s Y H R I h;refine Oq (hl ti s Y H _ I h) fun v s1 ⟨x,H1,I1,r1,q1⟩=>?_;obtain ⟨z,e,q⟩:=q1;subst e;obtain ⟨t,rfl⟩:=r1;have hn:H1 s1.heap.objs.size=none:=I1.IT.fresh (LA _);have key:∀ (T:String) (sz:T = "str_ascii_iterator" \/ T = "str_iterator"),XU X ti Y (.Name y py) R (.ref s1.heap.objs.size) { s1 with heap:=s1.heap.push { cls:=.type T,data:=.fields #[.str z t,.int 0 0] } }:=fun T sz=>by
  have I2:Inv X ti Y H1 { s1 with heap:=s1.heap.push { cls:=.type T,data:=.fields #[.str z t,.int 0 0] },toks:=s1.toks }:=I1.kept fun b o e=>LB _ e;have st0:(s1.heap.push { cls:=.type T,data:=.fields #[.str z t,.int 0 0] }).IsStrIter s1.heap.objs.size T z t 0:=⟨_,L0 _ rfl,rfl,rfl⟩;refine ⟨s1.heap.objs.size,[s1.heap.objs.size],fun i h=>i<=z.cps.size/\h.IsStrIter s1.heap.objs.size T z t i,Yg z,H1,rfl,I2,?_,⟨Mk _,st0⟩,fun b hb=>?_,q⟩
  .refine wF (fun A' hA=>?_) (fun i h st=>?_) fun A i s Q E st hq=>?_
   .rcases sz with rfl | rfl
    .exact Walks.strAscii hA _ z t
    .exact Walks.strWide hA _ z t
   .obtain ⟨o,e,c,d⟩:=st;exact ⟨o,e,fun v z=>by rw [d] at z;cases z⟩
   .rcases sz with rfl | rfl
    .exact wpAny_pyIter_striter_ascii st hq
    .exact wpAny_pyIter_striter_wide st hq
  .rw [LF.mp hb];exact I1.Cu (LA _) hn
 cases ha:z.cps.all (· < 128)
 .exact wpAny_pyIter_wide ha (key _ (.inr rfl))
 .exact wpAny_pyIter_ascii ha (key _ (.inl rfl))
section
variable {X:Cx}
theorem tU:Oy X (compareOp .LtE) (fun x y H Q=>∃ i j,x=.str i/\y=.str j/\Q (.bl (!(decide (j.cps.toList < i.cps.toList)))) H):=by intro ti s Y H x y v u Q I rx ry h;obtain ⟨i,j,rfl,rfl,q⟩:=h;obtain ⟨t,rfl⟩:=rx;obtain ⟨t',rfl⟩:=ry;exact P.le_str ⟨.bl _,H,I,rfl,q⟩
theorem Oy.or' (h:Oy X f r) (h':Oy X f r'):Oy X f (fun x y H Q=>r x y H Q\/r' x y H Q):=by
 intro ti s Y H x y v u Q I rx ry q;rcases q with q | q
 .exact h ti s Y H x y v u Q I rx ry q
 .exact h' ti s Y H x y v u Q I rx ry q
theorem xu:Oy X (binaryOp .FloorDiv) (rI (fun _ j=>0 < j/\j.natAbs.log2 < 9000) fun i j=>.int (i / j)):=WJ fun i j _ _ _ _ _ hc q=>by have h1:(0:Int) < j:=hc.1;exact floordiv_int (by lia) (by rw [Int.fdiv_eq_ediv_of_nonneg i (by lia)];exact q) (.inl (PyProof.noPylong_of_log2 hc.2))
theorem uY (hc:X.calm=true):aH X (.builtin "all") (fun xs H Q=>∃ (a:Qz) (bs:List Bool),xs=[.ref a]/\OO X.K H a (bs.map V.bl)/\Q (.bl (bs.all id)) H):=by
 intro ti s Y H xs us Q I r h;obtain ⟨a,bs,rfl,hq,q⟩:=h;obtain ⟨u,rfl,r1⟩:=vals1 r;cases (show u=Value.ref a from r1);obtain ⟨its,rv,p,hz⟩:=I.list hq;have ha:a < s.heap.objs.size:=by obtain ⟨o,e,_⟩:=p.isList;exact LM e
 refine call_all_walk (wpAny_pyIter_list p.isList ?_);refine ⟨s.heap.objs.size,_,_,_,_,_,fun i=>(bs[i]?).getD true,rfl,Walks.list (show X.A.in1.handled=none from I.ok.hd hc) s.heap.objs.size a (L9 ha) its.toArray,⟨⟨_,L0 _ rfl,rfl,rfl⟩,p.isList.push _⟩,?_,?_⟩
 .intro i v s' Q' E' hv hQ;have δ:its[i]?=some v:=by simpa using hv
  have hi:i < its.length:=(Ls.mp δ).1;have hb:i < bs.length:=by have:=rv.length;rw [Lo] at this;lia
  obtain ⟨u,hu,ru⟩:=rv.get (i:=i) (x:=.bl bs[i]) (by rw [LO,Lp hb];rfl);rw [δ] at hu;cases hu;cases (show v=Value.bool bs[i] from ru);dsimp only at hQ;rw [Lp hb] at hQ;exact MI hQ
 .intro h' tk kk;have e:(List.range its.toArray.size).all (fun i=>(bs[i]?).getD true)=bs.all id:=by
   have hl:its.toArray.size=bs.length:=by rw [LK,<-rv.length,Lo]
   rw [hl,Bool.eq_iff_iff,MY,MY];constructor
   .intro h b hb;obtain ⟨i,hi,e⟩:=List.mem_iff_getElem.mp hb;have:=h i (List.mem_range.mpr hi);rw [Lp hi,e] at this;exact this
   .intro h i hi;rw [Lp (List.mem_range.mp hi)];exact h _ (List.getElem_mem _)
  rw [e];have I1:Inv X ti Y H { s with heap:=s.heap.push { cls:=.type "list_iterator", data:=.fields #[.ref a,rawInt 0] },toks:=s.toks }:=I.kept fun b o e=>LB _ e;have hn:H s.heap.objs.size=none:=I.IT.fresh (LA _)
  have I2:Inv X ti Y H { s with heap:=h',toks:=tk }:=I.kept fun b o e=>kk b o (by
   intro z;have:=LF.mp z;rw [this] at e
   exact absurd (LM e) (Mn _)) (LB _ e)
  exact ⟨.bl _,H,I2,rfl,q⟩
def lB (x:Str) (lo hi:Option Int):Str:=⟨((x.cps.toList.drop (HT.Ov x.length 0 lo)).take (HT.Ov x.length x.length hi - HT.Ov x.length 0 lo)).toArray⟩
theorem HC (lo hi:Option Int) (n:Nat):Builtin.Str.strSliceIndices lo hi 1 n=(List.range (HT.Ov n n hi - HT.Ov n 0 lo)).map (HT.Ov n 0 lo+·):=by
 rw [<- sliceRange_one];unfold Builtin.Str.strSliceIndices;dsimp only;have h1:(1:Int) > 0:=by decide
 have e0:(match lo with | none=>(if (1:Int) > 0 then 0 else (n:Int) - 1) | some i=>if (1:Int) > 0 then max 0 (min (if i < 0 then i+(n:Int) else i) (n:Int)) else max (-1) (min (if i < 0 then i+(n:Int) else i) ((n:Int) - 1)))=((HT.Ov n 0 lo:Nat):Int):=by
  cases lo with
  | none=>simp [HT.Ov]
  | some i =>
   simp only [HT.Ov,h1,NP];by_cases h:i < 0
   .simp only [h,NP] <;> lia
   .simp only [h,Nv] <;> lia
 have e1:(match hi with | none=>(if (1:Int) > 0 then (n:Int) else -1) | some i=>if (1:Int) > 0 then max 0 (min (if i < 0 then i+(n:Int) else i) (n:Int)) else max (-1) (min (if i < 0 then i+(n:Int) else i) ((n:Int) - 1)))=((HT.Ov n n hi:Nat):Int):=by
  cases hi with
  | none=>simp [HT.Ov]
  | some i =>
   simp only [HT.Ov,h1,NP];by_cases h:i < 0
   .simp only [h,NP] <;> lia
   .simp only [h,Nv] <;> lia
 rw [<- e0,<-e1];cases lo <;> cases hi <;> rfl
theorem pT (n:Nat) (v:Option Int):HT.Ov n n v<=n/\HT.Ov n 0 v<=n:=by
 cases v with
 | none=>simp [HT.Ov]
 | some i =>
  simp only [HT.Ov];split <;> lia
def JK:V->Option Int->Option Int->Hp->VK->Prop:=fun x lo hi H Q=>∃ z,x=.str z/\z.length<=sizeLine/\Q (.str (lB z lo hi)) H
theorem iG (x:Str) (lo hi:Option Int):(lB x lo hi).length<=x.length:=by
 have e:x.cps.toList.length=x.length:=by simp [Str.length]
 show (((x.cps.toList.drop _).take _).toArray).size<=x.length;rw [LK,Mi,ME,e];lia
theorem cU:Rt X JK:=by
 intro ti s Y H x v vl vu lo hi sl Q I rx hs pl pu h;obtain ⟨z,rfl,hz,q⟩:=h;obtain ⟨t,rfl⟩:=rx;refine ⟨"str", _,F.slot_str_getitem.lookup,N9 _ _ _,?_⟩;obtain ⟨l,el,el'⟩:∃ l:Option (Int×Tok),l.map (·.1)=lo/\vl=partValue l:=by
  cases pl with
  | none=>exact ⟨none,rfl,rfl⟩
  | int i t=>exact ⟨some (i,t),rfl,rfl⟩
 obtain ⟨u,eu,eu'⟩:∃ l:Option (Int×Tok),l.map (·.1)=hi/\vu=partValue l:=by
  cases pu with
  | none=>exact ⟨none,rfl,rfl⟩
  | int i t=>exact ⟨some (i,t),rfl,rfl⟩
 subst el' eu';obtain ⟨o,h1,h2,h3⟩:=hs;refine wpAny_getItem_str_slice (l:=l) (u:=u) (st:=none) ⟨o,h1,h2,h3⟩ rfl ?_;have pk:slicePicked z l u none=(List.range (HT.Ov z.length z.length hi - HT.Ov z.length 0 lo)).map (HT.Ov z.length 0 lo+·):=by rw [<- HC,<-el,<-eu];rfl
 have ez:z.cps.toList.length=z.length:=by simp [Str.length]
 have cut:(⟨((slicePicked z l u none).filterMap (z.cps[·]?)).toArray⟩:Str)=lB z lo hi:=by rw [pk,pick_run];rfl
 unfold sliceMade;split
 .rename_i hc;have hl:(slicePicked z l u none).length=z.length:=by have:=(Bool.and_eq_true_iff.mp hc).2;simpa using this
  rw [pk,Lo,MS] at hl;have b1:=pT z.length hi;have b2:=pT z.length lo;have h0:HT.Ov z.length 0 lo=0\/z.length=0:=by lia
  have e:lB z lo hi=z:=by
   unfold lB;rcases h0 with h0 | h0
   .rw [h0,List.drop_zero,Mu (by lia)]
   .have hn:z.cps.toList=[]:=L5 (by lia);rw [hn];have:z.cps=#[]:=by have:=congrArg List.toArray hn;simpa using this
    obtain ⟨c⟩:=z;simp only at this;subst this;simp
  rw [e] at q;exact ⟨.str z,H,I,⟨t,rfl⟩,q⟩
 .rw [cut];exact ⟨LG (iG _ _ _) hz,⟨.str _,H,I.tok _,⟨_,rfl⟩,q⟩⟩
end
def TN (r r':R2):R2:=fun x y H Q=>r x y H Q\/r' x y H Q
def Jm (r r':V->Option Int->Option Int->Hp->VK->Prop):V->Option Int->Option Int->Hp->VK->Prop:=fun x l u H Q=>r x l u H Q\/r' x l u H Q
def Cc:R2:=fun x y H Q=>∃ i j,x=.str i/\y=.str j/\i.length+j.length<=sizeLine/\Q (.str (i++j)) H
def GU:R2:=fun x y H Q=>∃ i j,x=.str i/\y=.str j/\Q (.bl (decide (i.cps.toList < j.cps.toList))) H
def Kp:R2:=fun x y H Q=>∃ i j,x=.str i/\y=.str j/\Q (.bl (!(decide (j.cps.toList < i.cps.toList)))) H
def J2 (K:Fg):List V->Hp->VK->Prop:=fun xs H Q=>∃ (a:Qz) (bs:List Bool),xs=[.ref a]/\OO K H a (bs.map V.bl)/\Q (.bl (bs.all id)) H
def DF (K:Fg):List V->Hp->VK->Prop:=fun xs H Q=>∃ x n,xs=[x]/\Jx K x H n/\Q (.int n) H
def Im:List V->Hp->VK->Prop:=fun xs H Q=>∃ i,xs=[.int i]/\Q (.int (if i < 0 then -i else i)) H
def AB:List V->Hp->VK->Prop:=fun xs H Q=>(∃ i,xs=[.int i]/\Q (.int i) H)\/∃ k,xs=[.bl k]/\Q (.int (if k then 1 else 0)) H
section
variable {X:Cx}
theorem UU (h:Oy X f r) (h':Oy X f r'):Oy X f (TN r r'):=Oy.or' h h'
theorem PF (h:Rt X r) (h':Rt X r'):Rt X (Jm r r'):=Rt.or h h'
theorem A4:Oy X (binaryOp .Add) Cc:=qg
theorem BW:Oy X (compareOp .Lt) GU:=vM
theorem CA:Oy X (compareOp .LtE) Kp:=tU
theorem rJ (hc:X.calm=true):aH X (.builtin "all") (J2 X.K):=uY hc
theorem rM:aH X (.builtin "len") (DF X.K):=wL
theorem rQ:aH X (.builtin "abs") Im:=xM
theorem uJ:aH X (.type "int") AB:=sx
end
end L2
namespace L2
open PySem
noncomputable def oJ (sc scope:Scope) (x:Str):Bool :=
 (scope.kind==.function)&&scope.names.all (fun y=>y.2 != .cell)&&scope.names.all (fun y=>y.2 != .local||scope.names.lookup y.1==some .local)&&(scope.names.lookup x==some .local)&&scope.names.all (fun y=>y.2 != .free||sc.names.lookup y.1==some .cell)
theorem SK (e:X.env.scope=sc) (h:oJ sc scope x=true):gF X scope x:=by unfold oJ at h;simp only [Mj,MY,Bool.or_eq_true,bne_iff_ne,Ma,ne_eq] at h;obtain ⟨⟨⟨⟨h1,h2⟩,h3⟩,h4⟩,h5⟩:=h;exact ⟨h1,fun y hy=>h2 y hy,fun y hy e=>(h3 y hy).resolve_left fun z=>z e,h4,fun y hy e'=>by rw [e];exact (h5 y hy).resolve_left fun z=>z e'⟩
theorem aw (h:PySem.W.isStarred e=false):starEach (e :: es) env=(false,eval e env) :: starEach es env:=by cases e <;> first | rfl | exact absurd h (by simp [PySem.W.isStarred])
theorem bb:∀ {es:List Expr},es.all (fun e=>!PySem.W.isStarred e)=true->(backTo pos (starEach es env)).any (·.1)=false
 | [],_=>rfl
 | e :: es,h=>by rw [List.all_cons,Mj] at h;rw [aw (by simpa using h.1)];have ih:=bb (pos:=pos) (env:=env) h.2;unfold backTo at ih ⊢;rw [List.map_cons,List.any_cons,ih];rfl
end L2
namespace L2
open PySem PySem.Spec PyProof.Rows
noncomputable def Ur:Qq->String
 | .none => "NoneType" | .bool _ => "bool" | .int _ => "int" | .str _ => "str" | .list _ => "list" | .tuple _ => "tuple" | .dict _ => "dict"
noncomputable def UW:Qq->Bool | .str _=>true | _=>false
noncomputable def ζ:Qq->Bool | .int _=>true | .bool _=>true | _=>false
noncomputable def η:Qq->Bool | .bool _=>true | _=>false
noncomputable def TQ:Qq->Bool | .tuple _=>true | _=>false
noncomputable def SM:Qq->Bool | .list _=>true | _=>false
section
variable {K:Fg}
theorem HF (d:Qq):PySem.W.kitOne K (.type (Ur d)) (.type "str")=some (UW d):=by cases d <;> with_unfolding_all rfl
theorem HR (d:Qq):PySem.W.kitOne K (.type (Ur d)) (.type "int")=some (ζ d):=by cases d <;> with_unfolding_all rfl
theorem IW (d:Qq):PySem.W.kitOne K (.type (Ur d)) (.type "bool")=some (η d):=by cases d <;> with_unfolding_all rfl
theorem Dg (d:Qq):PySem.W.kitOne K (.type (Ur d)) (.type "tuple")=some (TQ d):=by cases d <;> with_unfolding_all rfl
theorem C5 (d:Qq):PySem.W.kitOne K (.type (Ur d)) (.type "list")=some (SM d):=by cases d <;> with_unfolding_all rfl
variable {p:Qz} {H:Hp} {d:Qq} {v:V} {Q:VK}
end
end L2
namespace L2
open PySem
structure JE (X:Cx) (e:Expr) (t:TE):Prop where
 h:PE X e t
structure JT (X:Cx) (e:Expr) (t:TT):Prop where
 h:PT X e t
structure JW (X:Cx) (e:Expr) (t:TT):Prop where
 h:PW X e t
structure JA (X:Cx) (es:List Expr) (t:TA):Prop where
 h:PA X es t
structure JS (X:Cx) (s:Stmt) (t:TS):Prop where
 h:PS X s t
structure Pw (X:Cx) (s:List Stmt) (t:TS):Prop where
 h:QG X s t
structure JG (X:Cx) (e:Expr) (t:TG):Prop where
 h:PG X e t
structure JI (X:Cx) (tg e:Expr) (t:TI):Prop where
 h:PI X tg e t
structure JO (X:Cx) (e:Option Expr) (t:TO):Prop where
 h:PO X e t
structure JC (X:Cx) (N:List Str) (scope:Scope) (e:Expr) (t:TE):Prop where
 h:∀ C s3 H3 ex,PE (P6 X N scope C s3 H3 ex) e t
structure WW (X:Cx) (N:List Str) (scope:Scope) (e:List Expr) (t:TT):Prop where
 h:∀ C s3 H3 ex,VC (P6 X N scope C s3 H3 ex) e t
structure JP (X:Cx) (pos:Pos) (ks:List (Option Expr)) (vs:List Expr) (t:List (TE×TE)):Prop where
 h:Vz X pos ks vs t
section
variable {X:Cx} {e a b c:Expr} {es rest:List Expr} {te ta tb tc:TE} {tA S8:TT} {t:TA} {x:Str} {p pos:Pos} {id T:String} {r:List V->Hp->VK->Prop} {CX:Q6} {k:Nat} {f:Qz} {fd:FuncData} {ps:List Str} {sp:Sp} {ds:List Qj} {R5:List V} {E:XK}
theorem DA (i:Nat) (hN:X.N[i]?=some x) (hv:Qi X.env.scope x) (hd:Qv x) (Pt:Qk x):JE X (.Name x pos) (fJ i):=⟨dZ hN hv hd Pt⟩
theorem au {i j}:JE X (.Constant (.int i) j pos) (tC (.int i)):=⟨CZ⟩
theorem Rv {b j}:JE X (.Constant (.bool b) j pos) (tC (.bl b)):=⟨Il⟩
theorem yS {j}:JE X (.Constant .none j pos) (tC .non):=⟨EG⟩
theorem ay {x j}:JE X (.Constant (.str x) j pos) (tC (.str x)):=⟨FD⟩
theorem ai:JA X [] dX:=⟨jy⟩
theorem eA (ha:JE X e te) (hr:JA X es t) (h:PySem.W.isStarred e=false):JA X (e :: es) (aL te t):=⟨eM ha.h hr.h (aw h)⟩
theorem GB (F:fI X.prog X.w X.K X.mg X.base CX k f fd ps sp) (hr:bN k X.A) (hg:Gl X x) (hm:X.mg x=some (.ref f)) (hk:PySem.W.keepIn X.K (.ref f)=true) (hb:Binds X.K fd ps ds) (hd:Vals R5 ds) (hx:Passes CX X E)
  (ha:JA X (e :: es) t) (h1:PySem.W.isStarred e=false) (h2:es.all (fun e=>!PySem.W.isStarred e)=true) (QR:Qv x):JE X (.Call (.Name x p) (e :: es) [] pos) (oq sp R5 E t) :=
 ⟨As F hr hg hm hk hb hd hx ha.h QR (aw h1) (bb h2)⟩
theorem eB (hc:aH X (.builtin id) r) (hg:Gl X x) (hm:X.mg x=none) (hv:bootBuiltins x=some (.builtin id)) (ha:JA X (e :: es) t) (h1:PySem.W.isStarred e=false) (h2:es.all (fun e=>!PySem.W.isStarred e)=true)
  (hn:x ≠ "__name__") (QR:Qv x):JE X (.Call (.Name x p) (e :: es) [] pos) (PN r t):=⟨xj hc hg hm hv ha.h hn QR (aw h1) (bb h2)⟩
theorem eTy (hc:aH X (.type T) r) (hg:Gl X x) (hm:X.mg x=none) (hv:bootBuiltins x=some (.type T)) (ha:JA X (e :: es) t) (h1:PySem.W.isStarred e=false) (h2:es.all (fun e=>!PySem.W.isStarred e)=true)
  (hn:x ≠ "__name__") (QR:Qv x):JE X (.Call (.Name x p) (e :: es) [] pos) (PN r t):=⟨vL hc hg hm hv ha.h hn QR (aw h1) (bb h2)⟩
theorem Us {tg a:Expr} {ta:TA} (hg:Gl X "range") (hm:X.mg "range" = none) (ha:JA X [a] ta) (h:PySem.W.isStarred a=false):JI X tg (.Call (.Name "range" p) [a] [] pos) (Ba ta):=⟨rW hg hm ha.h (aw h)⟩
theorem WX (h:JE X e te):JI X tg e (wG X.K te):=⟨tD h.h⟩
theorem eIT (h:JE X e te):JI X tg e (Gf X.K te):=⟨zp h.h⟩
theorem θ (h:JE X e te):JI X (.Name y py) e (Hy te):=⟨FE h.h⟩
theorem jX (hg:Gl X x) (hm:X.mg x=some u) (r:RelV v u) (hd:Qv x):JE X (.Name x pos) (tC v):=⟨rh hg hm r hd⟩
theorem F5 (hg:Gl X x) (hm:X.mg x=none) (hv:bootBuiltins x=some u) (r:RelV v u) (hn:x ≠ "__name__") (hd:Qv x):JE X (.Name x pos) (tC v):=⟨Bc hg hm hv r hn hd⟩
theorem Oz {op:Operator} {r:R2} (ho:Oy X (binaryOp op) r) (ha:JE X a ta) (hb:JE X b tb):JE X (.BinOp a op b pos) (RZ r ta tb):=⟨Ie ho ha.h hb.h⟩
theorem μ {op:UnaryOp} {r:V->Hp->VK->Prop} (ho:WH X (unaryOp op) r) (ha:JE X a ta):JE X (.UnaryOp op a pos) (ZN r ta):=⟨Ih ho ha.h⟩
theorem Kc (ha:JE X a ta):JE X (.UnaryOp .Not a pos) (z4 ta):=⟨FN ha.h⟩
theorem Be {op} (h:JE X a te):JE X (.BoolOp op [a] pos) te:=⟨Dr h.h⟩
theorem yZ (ha:JE X a ta) (hb:JE X (.BoolOp .And (b :: rest) pos) tb):JE X (.BoolOp .And (a :: b :: rest) pos) (zO ta tb):=⟨Cv ha.h hb.h⟩
theorem Yi (ha:JE X a ta) (hb:JE X (.BoolOp .Or (b :: rest) pos) tb):JE X (.BoolOp .Or (a :: b :: rest) pos) (HW ta tb):=⟨GW ha.h hb.h⟩
theorem UX (hc:JT X c tA) (ha:JE X a ta) (hb:JE X b tb):JE X (.IfExp c a b pos) (XR tA ta tb):=⟨wN hc.h ha.h hb.h⟩
theorem xB {op:CmpOp} {r:R2} (ho:Oy X (compareOp op) r) (ha:JE X a ta) (hb:JE X b tb) (hm:behindInMarks op b=false):JE X (.Compare a [op] [b] pos) (RZ r ta tb):=⟨zF ho ha.h hb.h hm⟩
theorem Hn {op:CmpOp} {r:R2} (ho:Oy X (compareOp op) r) (ha:JE X a ta) (hb:JE X b tb) (hm:behindInMarks op b=false):JT X (.Compare a [op] [b] pos) (tV (RZ r ta tb)):=⟨A5 ho ha.h hb.h hm⟩
theorem yR {op op':CmpOp} {r r':R2} (ho:Oy X (compareOp op) r) (QQ:Oy X (compareOp op') r') (ha:JE X a ta) (hb:JE X b tb) (hc:JE X c tc) (hm:lastMarks [op,op'] [b,c]=false):JE X (.Compare a [op,op'] [b,c] pos) (mB r r' ta tb tc):=⟨wk ho QQ ha.h hb.h hc.h hm⟩
theorem sO {op op':CmpOp} {r r':R2} (ho:Oy X (compareOp op) r) (QQ:Oy X (compareOp op') r') (ha:JE X a ta) (hb:JE X b tb) (hc:JE X c tc) (hm:lastMarks [op,op'] [b,c]=false):JT X (.Compare a [op,op'] [b,c] pos) (tV (mB r r' ta tb tc)):=⟨yg ho QQ ha.h hb.h hc.h hm⟩
theorem Ga (h:JE X e te) (he:∀ whole,isTrue e X.env whole=(do let v<-whole;standAt e.pos;holding [v] (truthy v))):JT X e (tB te):=⟨CS h.h he⟩
theorem du (ha:JT X a tA):JT X (.UnaryOp .Not a pos) (Jc tA):=⟨Dw ha.h⟩
theorem FC (ha:JT X a tA):JW X (.BoolOp .And [a] pos) tA:=⟨S9 ha.h⟩
theorem mD (ha:JT X a tA):JW X (.BoolOp .Or [a] pos) tA:=⟨Uh ha.h⟩
theorem Fx (ha:JT X a tA) (hb:JW X (.BoolOp .And (b :: rest) pos) S8):JW X (.BoolOp .And (a :: b :: rest) pos) (JH tA S8):=⟨Ui ha.h hb.h⟩
theorem xG (ha:JT X a tA) (hb:JW X (.BoolOp .Or (b :: rest) pos) S8):JW X (.BoolOp .Or (a :: b :: rest) pos) (XQ tA S8):=⟨Vr ha.h hb.h⟩
theorem eW (h:JW X e tA):JT X e tA:=⟨PW.pt h.h⟩
theorem oV {x1} (h:JA X es t):JE X (.Tuple es x1 pos) (FX t):=⟨Cj h.h⟩
theorem gN (h:JA X es t):JE X (.List es pos) (HN t):=⟨FG h.h⟩
theorem eIx {r:R2} (hr:R9 X r) (ha:JE X a ta) (hb:JE X b tb) (hs:m5 b):JE X (.Subscript a b pos) (RZ r ta tb):=⟨Hr hr ha.h hb.h hs⟩
theorem qA:JO X none rp:=⟨Bq⟩
theorem eP (h:JE X e te):JO X (some e) (FL te):=⟨Ah h.h⟩
theorem Sd {p2:Pos} {lo hi:Option Expr} {tl th:TO} {r:V->Option Int->Option Int->Hp->VK->Prop} (hr:Rt X r) (he:JE X e te) (hl:JO X lo tl) (hu:JO X hi th):JE X (.Subscript e (.Slice lo hi none p2) pos) (ZR r te tl th):=⟨xR hr he.h hl.h hu.h⟩
theorem ePN:JP X pos [] [] []:=⟨AD⟩
theorem Yj {k v:Expr} {ks:List (Option Expr)} {vs:List Expr} {tk tv:TE} {RP:List (TE×TE)} (hk:JE X k tk) (hv:JE X v tv) (hr:JP X pos ks vs RP):JP X pos (some k :: ks) (v :: vs) ((tk,tv) :: RP):=⟨ye hk.h hv.h hr.h⟩
theorem FA (he:JE X e te) (hN:X.N.Nodup) (hi:X.N[i]?=some x) (hx:Loc X.env.scope x) (hs:swapsWith e (some (.Name x pos')) pos.line X.env=pure false) (hf:X.fn x=true\/X.env.scope.names.lookup x=some .local) :
  JS X (.Assign [.Name x pos'] e pos) (pI te (cY i)):=⟨C3 hN hi hx he.h hs hf⟩
theorem Kw (he:JE X e te) (hg:JG X tg g) (hs:swapsWithSole [tg] e pos.line X.env=pure false) (hw:swappedStores [tg] e X.env=pure none) (h1:(assignEach [tg] X.env).map (·.2)=[assign tg X.env]):JS X (.Assign [tg] e pos) (pI te g):=⟨Ec he.h hg.h hs hw h1⟩
theorem Ke {iter tg:Expr} {body:List Stmt} {wi:TI} {g:TG} {tb:TS} (hi:JI X tg iter wi) (hg:JG X tg g) (hb:Pw X body tb) (hp:PassesOwn (model X.prog X.w) X.A X.env X.xe) (hc:X.calm=true) (hs:∀ x,foldedSetIterable iter X.env x=pure x):JS X (.For tg iter body [] pos) (BK wi g tb):=⟨CD hp hc hi.h hg.h hb.h hs⟩
theorem yB {c:Expr} {body:List Stmt} {tc:TT} {tb:TS} (hc:JT X c tc) (hb:Pw X body tb) (hp:PassesOwn (model X.prog X.w) X.A X.env X.xe):JS X (.While c body [] pos) (rF tc tb):=⟨x8 hp hc.h hb.h⟩
theorem cN {a b:List Stmt} {tc:TT} {t u:TS} (hc:JT X c tc) (ha:Pw X a t) (hb:Pw X b u):JS X (.If c a b pos) (Ai tc t u):=⟨IP hc.h ha.h hb.h⟩
theorem ba (he:JE X e te):JS X (.Return (some e) pos) (sG te):=⟨Fd he.h⟩
theorem eGN (hN:X.N.Nodup) (hi:X.N[i]?=some x) (hx:Loc X.env.scope x) (hf:X.fn x=true\/X.env.scope.names.lookup x=some .local):JG X (.Name x pos) (cY i):=⟨kT hN hi hx hf⟩
theorem C9 (he:JE X e te) (hs:swapsWith e none pos.line X.env=pure false):JS X (.Expr e pos) (wW te):=⟨zN he.h hs⟩
theorem cL:Pw X [] vC:=⟨A7⟩
theorem aM {s:Stmt} {t:TS} (h:JS X s t):Pw X [s] t:=⟨z9 h.h⟩
theorem aC {s:Stmt} {rest:List Stmt} {t u:TS} (h:JS X s t) (hr:Pw X rest u):Pw X (s :: rest) (zd t u):=⟨xb h.h hr.h⟩
theorem Gk (ys:List Str) (hi:JI X (.Name x px) iter wi) (ht:WW X (x :: ys) scope ifs tt) (he:JC X (x :: ys) scope elt te)
  (hc:X.calm=true) (B:gF X scope x) (nd:(x :: ys).Nodup) (cap:fB X scope ys js) (hs:∀ x,foldedSetIterable iter X.env x=pure x):JE X (.ListComp elt [⟨.Name x px,iter,ifs,0⟩] scope pos) (qh js wi tt te):=⟨zE hc hi.h B nd cap ht.h he.h hs⟩
theorem Gx (ys:List Str) (hi:JI X (.Name x px) iter wi) (ht:WW X (x :: ys) scope ifs tt) (he:JC X (x :: ys) scope elt te)
  (hN:X.N.Nodup) (RQ:X.N[i]?=some y) (hy:X.env.scope.names.lookup y=some .local) (Yd:swapsWith (.ListComp elt [⟨.Name x px,iter,ifs,0⟩] scope pos) (some (.Name y py)) Uq.line X.env=pure true)
  (hc:X.calm=true) (B:gF X scope x) (nd:(x :: ys).Nodup) (cap:fB X scope ys js) (hs:∀ x,foldedSetIterable iter X.env x=pure x):JS X (.Assign [.Name y py] (.ListComp elt [⟨.Name x px,iter,ifs,0⟩] scope pos) Uq) (pI (qh js wi tt te) (cY i)):=⟨A3 hN RQ hy Yd hc hi.h B nd cap ht.h he.h hs⟩
theorem eC (h:∀ C s3 H3 ex,JE (P6 X N scope C s3 H3 ex) e te):JC X N scope e te:=⟨fun C s3 H3 ex=>(h C s3 H3 ex).h⟩
theorem SN:WW X N scope [] GS:=⟨fun _ _ _ _=>Bo⟩
theorem Rw {apos OM:Pos} {o:Expr} {name:Str} {to:TE} {r:V->List V->Hp->VK->Prop} (ho:JE X o to) (ha:JA X (e :: es) t) (hm:ZS X id r) (pa:PlainAttrs T) (slot:Slot T name id) (Uj:typeOf (.builtin id)=pure (.type "method_descriptor"))
  (Qn:attributeBase o name X.env (eval o X.env)=eval o X.env)
  (Uk:((backTo OM (starEach (e :: es) X.env)).all (fun x=>!x.1)&&(backToKw OM (keywordEach [] X.env)).all (fun x=>x.1.isSome)
   && decide ((e :: es).length+([]:List Keyword).length+(if ([]:List Keyword).isEmpty then 0 else 1) < 30))=true)
  (hline:(apos.endLine==OM.line)=true) (h1:PySem.W.isStarred e=false) (h2:es.all (fun e=>!PySem.W.isStarred e)=true):JE X (.Call (.Attribute o name apos) (e :: es) [] OM) (WL X.K T r to t):=⟨Jg pa slot Uj hm ho.h ha.h Qn Uk hline (aw h1) (bb h2)⟩
end
end L2
namespace L2
open PySem PySem.Spec PyProof.Rows
theorem iH {A B:Prop} (e:b=true) (h:A):if b=true then A else B:=by rw [Lz e];exact h
theorem i9 {A B:Prop} (e:b=false) (h:B):if b=true then A else B:=by rw [Lw (by rw [e];exact LU)];exact h
section
variable {r r':R2} {x y:V} {H:Hp} {Q:VK}
theorem EN {K:Fg} {z:Str} (l:z.length<=sizeLine) (h:Q (.int z.length) H):DF K [.str z] H Q:=⟨_,_,rfl,⟨l,rfl⟩,h⟩
theorem CN {K:Fg} {p:Qz} {xs:List V} (s:OO K H p xs) (h:Q (.int xs.length) H):DF K [.ref p] H Q:=⟨_,_,rfl,.inl ⟨xs,s,rfl⟩,h⟩
theorem El {K:Fg} {p:Qz} {xs:List V} (s:OU K H p xs) (h:Q (.int xs.length) H):DF K [.ref p] H Q:=⟨_,_,rfl,.inr ⟨xs,s,rfl⟩,h⟩
theorem Hx (h:Q (.int (if i < 0 then -i else i)) H):Im [.int i] H Q:=⟨i,rfl,h⟩
end
theorem Qo.okJ {P:Program} {w:World} {K:Fg} {mg:Qg} {base:Heap} {x qual:Str} {st:Stmt} {f:Qz} {fd:FuncData} {N ps:List Str} {k:Nat} {sp:Sp} (F:Qo K x qual st f fd) (S:a6 N ps (aa st)) (len:∀ vs H Q E,sp vs H Q E->vs.length=ps.length)
  (OY:∀ (OA:Qj) (A:Around) (outer:List Env) (s:Qx) (H:Hp) (vs:List V) (Q:VK) (E:XK),bN k (A.deeper (envOfC qual (aa st) s.heap.objs.size f OA))->sp vs H Q E ->
   ∃ t,Pw (i6 CX0 P w K mg base N qual (aa st) f OA A outer s H E).TH (aS st) t/\t { nx:=fun _ H'=>Q .non H',rt:=Q } (start N vs) H):fI P w K mg base CX0 (k+1) f fd ps sp :=
 F.ok S len fun OA A outer s H vs Q E hr h=>let ⟨t,j,q⟩:=OY OA A outer s H vs Q E hr h;⟨t,j.h,q⟩
theorem fV:∀ {ss:List Str} {us:List Qj},Vals (ss.map V.str) us->StrsAre us ss
 | [],_,r=>by cases r;exact .nil
 | s :: ss,_,r=>by
  cases r with
  | cons r1 r2 =>
   obtain ⟨t,rfl⟩:=r1;exact .cons _ _ (fV r2)
section
variable {X:Cx}
def sv:V->List V->Hp->VK->Prop:=fun x vs H Q=>∃ z y:Str,x=.str z/\vs=[.str y]/\Q (.bl (decide (y.length<=z.length)&&Builtin.Str.subAt z y 0)) H
theorem mM:WM X "str.startswith" sv:=by intro ti s Y H x vs v us Q I rx rv h;obtain ⟨z,y,rfl,rfl,q⟩:=h;obtain ⟨t,rfl⟩:=rx;obtain ⟨u,rfl,ru⟩:=rv.one;obtain ⟨t',rfl⟩:=ru;refine call_meets F.slot_str_startswith (N9 _ _ _) F.entry_str_startswith (F.args_str_startswith_2 _ _) (gives_str_startswith z y t t').meets ?_;exact ⟨.bl _,H,I,by simp only [Oa];rfl,q⟩
def ER (K:Fg):List V->Hp->VK->Prop:=fun xs H Q=>∃ p ys,xs=[.ref p]/\(OO K H p ys\/OU K H p ys)/\∀ l,H l=none->Q (.ref l) (upd H l (.lst ys))
def za (K:Fg):List V->Hp->VK->Prop:=fun xs H Q=>∃ p ys,xs=[.ref p]/\((OO K H p ys/\∀ l,H l=none->Q (.ref l) (upd H l (.tup ys)))\/(OU K H p ys/\Q (.ref p) H))
def Dy:R2:=fun x y H Q=>y=.non/\Q (.bl (!decide (x=.non))) H
theorem qK:aH X (.type "list") (ER X.K):=mL
theorem oa:aH X (.type "tuple") (za X.K):=kz
theorem xw:Oy X (compareOp .IsNot) Dy:=AU
end
noncomputable def kH (xs:List V) (lo hi st:Option Int):List V:=(sliceRange (sliceBounds lo hi st xs.length).1 (sliceBounds lo hi st xs.length).2.1 (sliceBounds lo hi st xs.length).2.2).filterMap (xs[·]?)
theorem lF (r:Vals xs us):(is:List Nat)->Vals (is.filterMap (xs[·]?)) (is.filterMap (us[·]?))
 | []=>.nil
 | i :: is=>by
  have ih:=lF r is;cases e:xs[i]? with
  | none =>
   have hi:us[i]?=none:=by rw [List.getElem?_eq_none_iff] at e ⊢;rw [<- r.length];exact e
   rw [List.filterMap_cons_none e,List.filterMap_cons_none hi];exact ih
  | some x =>
   obtain ⟨u,hu,ru⟩:=r.get e;rw [List.filterMap_cons_some e,List.filterMap_cons_some hu];exact .cons ru ih
section
variable {X:Cx} {e st:Expr} {te:TE} {lo hi:Option Expr} {tl th ts:TO} {pos p2:Pos}
def Kb (K:Fg) (te:TE) (tl th ts:TO):TE:=fun Y H Q=>te Y H fun x H1=>tl Y H1 fun l H2=>th Y H2 fun u H3=>ts Y H3 fun k H4=>∃ a xs,x=.ref a/\k≠some 0/\OO K H4 a xs/\∀ p,H4 p=none->(kH xs l u k).length<=xs.length->Q (.ref p) (upd H4 p (.lst (kH xs l u k)))
theorem uU (he:PE X e te) (hl:PO X lo tl) (hu:PO X hi th) (OW:PO X (some st) ts):PE X (.Subscript e (.Slice lo hi (some st) p2) pos) (Kb X.K te tl th ts):=by
 intro ti s Y H Q I h;refine Subscript_ (Oq (he ti s Y H _ I h) fun v s1 ⟨x,H1,I1,r1,q1⟩=>?_);refine wpAny_Slice (Oq (hl ti s1 Y H1 _ I1 q1) fun vl s2 ⟨l,H2,I2,pl,q2⟩=>Oq (hu ti s2 Y H2 _ I2 q2) fun vu s3 ⟨u,H3,I3,pu,q3⟩=>Oq (OW ti s3 Y H3 _ I3 q3) fun vk s4 ⟨k,H4,I4,pk,q4⟩=>?_);obtain ⟨a,xs,rfl,k0,hx,q⟩:=q4;cases r1;have I5:Inv X ti Y H4 { s4 with heap:=s4.heap.push { cls:=.type "slice", data:=.fields #[vl,vu,vk] } }:=I4.kept (t':=s4.toks) fun b ob q=>LB _ q;obtain ⟨its,r,ht,hz⟩:=I5.list hx;have hlen:=r.length;show wMY X (subscriptTail e (.Slice lo hi (some st) p2) (.ref a) (.ref s4.heap.objs.size)) (EP X ti Y Q) X.xe { s4 with heap:=s4.heap.push { cls:=.type "slice", data:=.fields #[vl,vu,vk] } };refine tail_any (ops:=[.ref a,.ref s4.heap.objs.size]) ht.isList.typeIs slot_list_getitem.lookup ?_ (by with_unfolding_all rfl);refine wpAny_getItem_list_slice ht.isList (Heap.IsSliceOf.new ..) pl pu pk k0 ?_ (by rw [LK] <;> lia);have hp:(slicePick its.toArray l u k).size<=its.toArray.size:=slicePick_size_le _ _ _ _;have es:slicePick its.toArray l u k=((sliceRange (sliceBounds l u k xs.length).1 (sliceBounds l u k xs.length).2.1 (sliceBounds l u k xs.length).2.2).filterMap (its[·]?)).toArray:=by unfold slicePick;rw [LK,<-hlen];congr 2;funext i;simp
 have rv:=lF r (sliceRange (sliceBounds l u k xs.length).1 (sliceBounds l u k xs.length).2.1 (sliceBounds l u k xs.length).2.2);have QU:(kH xs l u k).length<=xs.length:=by have:=rv.length;rw [es,LK] at hp;unfold kH;rw [this];rw [LK] at hp;lia
 refine ⟨.ref _,_,I5.laid (t':=s4.toks) (o:=.lst (kH xs l u k)) (fun b ob q=>LB _ q) (LA _) ?_,rfl,q _ (I5.IT.fresh (LA _)) QU⟩;exact ⟨LG QU hz,_,0,rv,by rw [<- es];exact L0 _ rfl⟩
end
theorem Ld {X:Cx} {e st:Expr} {te:TE} {lo hi:Option Expr} {tl th ts:TO} {pos p2:Pos} (he:JE X e te) (hl:JO X lo tl) (hu:JO X hi th) (OW:JO X (some st) ts):JE X (.Subscript e (.Slice lo hi (some st) p2) pos) (Kb X.K te tl th ts):=⟨uU he.h hl.h hu.h OW.h⟩
def J9 (K:Fg) (te:TE):TT:=fun Y H Q=>te Y H fun x H'=>∃ k,F7 K x H' k/\Q k H'
theorem K6 (h:JE X e te) (he:∀ whole,isTrue e X.env whole=(do let v<-whole;standAt e.pos;holding [v] (truthy v))):JT X e (J9 X.K te):=⟨yi h.h he⟩
structure WY (X:Cx) (es:List Expr) (t:Ta):Prop where
 h:Vs X es t
section
variable {X:Cx} {es:List Expr} {t:Ta} {pos:Pos} {x:Str} {i:Nat}
theorem Jy:WY X [] GA:=⟨Au⟩
theorem Dt (hN:X.N.Nodup) (hi:X.N[i]?=some x) (hx:Loc X.env.scope x) (hf:X.fn x=true\/X.env.scope.names.lookup x=some .local) (h:WY X es t):WY X (.Name x pos :: es) (AS (cY i) t):=⟨wg (kT hN hi hx hf) h.h rfl⟩
theorem ν {k} (hc:X.calm=true) (h:WY X es t) (hn:(assignEach es X.env).length=n) (OW:(assignEach es X.env).findIdx? (·.1)=none):JG X (.Tuple es k pos) (Jn X.K n t):=⟨FT hc h.h hn OW⟩
end
section
variable {X:Cx}
def E4:List V->Hp->VK->Prop:=fun xs H Q=>(∃ i:Int,xs=[.int i]/\i.natAbs.log2 < 1920/\Q (.str (toString i)) H)\/(xs=[.non]/\Q (.str "None") H)\/∃ x,xs=[.str x]/\Q (.str x) H
theorem ri:aH X (.type "str") E4:=by
 intro ti s Y H xs us Q I r h;rcases h with ⟨i,rfl,hz,q⟩ | ⟨rfl,q⟩ | ⟨x,rfl,q⟩
 .obtain ⟨u,rfl,t,rfl⟩:=vals1 r;exact PySem.P.str_of_int hz ⟨.str _,H,I.tok _,⟨_,rfl⟩,q⟩
 .obtain ⟨u,rfl,r1⟩:=vals1 r;cases r1;exact PySem.P.str_of_none ⟨.str _,H,I.tok _,⟨_,rfl⟩,q⟩
 .obtain ⟨u,rfl,t,rfl⟩:=vals1 r;exact PySem.P.str_of_str ⟨.str _,H,I,⟨_,rfl⟩,q⟩
end
def yF (K:Fg):V->List V->Hp->VK->Prop:=fun x vs H Q=>∃ (z:Str) (a:Qz) (ss:List Str),x=.str z/\vs=[.ref a]/\(OO K H a (ss.map V.str)\/OU K H a (ss.map V.str))/\(ss.map (·.length)).sum+ss.length*z.length<=16777216/\Q (.str (Txt.join z ss)) H
theorem dW:WM X "str.join" (yF X.K):=by
 intro ti s Y H x vs v us Q I rx rv h;obtain ⟨z,a,ss,rfl,rfl,hq,IT,q⟩:=h;obtain ⟨t,rfl⟩:=rx;obtain ⟨u,rfl,ru⟩:=rv.one;cases (show u=Value.ref a from ru);rcases hq with hq | hq
 .obtain ⟨its,r,p,hz⟩:=I.list hq;exact join_list p.isList (by simpa using fV r) IT fun t' k=>⟨.str _,H,I.tok k,⟨t',rfl⟩,q⟩
 .obtain ⟨its,r,p,hz⟩:=I.tuple hq;exact join_tuple p (by simpa using fV r) IT fun t' k=>⟨.str _,H,I.tok k,⟨t',rfl⟩,q⟩
section
variable {X:Cx}
def Ep (K:Fg):R2:=fun x y H Q=>∃ l b xs zs,x=.ref l/\y=.ref b/\OO K H l xs/\OO K H b zs/\xs.length+zs.length<=sizeLine/\∀ p,H p=none->Q (.ref p) (upd H p (.lst (xs++zs)))
theorem Aa:Oy X (binaryOp .Add) (Ep X.K):=by
 intro ti s Y H x y v u Q I rx ry h;obtain ⟨l,b,xs,zs,rfl,rfl,hH,hB,hz,q⟩:=h;cases rx;cases ry;obtain ⟨its,r,p,_⟩:=I.list hH;obtain ⟨R8,r2,p2,_⟩:=I.list hB;obtain ⟨⟨cls,dd,data,sl⟩,n,ho,hc,ξ,hd⟩:=p;obtain ⟨⟨Vv,TK,data2,TL⟩,n2,SH,RO,aad,hd2⟩:=p2;simp only at hc hd RO hd2;subst hc hd RO hd2;have e:its.toArray++R8.toArray=(its++R8).toArray:=by simp
 refine concat_meets ⟨_,ho,rfl⟩ ⟨_,SH,rfl⟩ noFill_list_add seq_list_add PySem.F.slot_list_add PySem.F.entry_list_add (PySem.F.args_list_add_2 _ _) (list_addW l b its.toArray R8.toArray n n2 dd TK sl TL (by rw [LK,LK,<-r.length,<-r2.length];exact hz)) ⟨ho,SH,?_⟩;rw [e];exact ⟨.ref _,_,I.K9 (t':=s.toks) (r.append r2) (by rw [Ln];lia),rfl,q _ I.fresh⟩
end
mutual
noncomputable def RS:Qq->Bool
 | .int _=>true
 | .str _=>true
 | .tuple ds=>vY ds
 | _=>false
noncomputable def vY:List Qq->Bool
 | []=>true
 | d :: ds=>RS d&&vY ds
end
theorem j5:∀ {ds:List Qq},vY ds=true↔∀ d∈ds,RS d=true
 | []=>by simp [vY]
 | d :: ds=>by simp [vY,j5 (ds:=ds)]
def PY (d:Qq):Bool:=RS d&&d.canLay0&&decide (d.depth<=6)
def QY (d:Qq):Bool:=RS d&&decide (d.depth<=6)
mutual
theorem gf:(d e:Qq)->RS d=true->RS e=true->(PyData.eqv d e=true↔d=e)
 | .int i,e,_,h=>by
  cases e with
  | int j=>simp [PyData.eqv]
  | str y=>simp [PyData.eqv]
  | tuple es=>simp [PyData.eqv]
  | _=>cases h
 | .str x,e,_,h=>by
  cases e with
  | int j=>simp [PyData.eqv]
  | str y=>simp [PyData.eqv]
  | tuple es=>simp [PyData.eqv]
  | _=>cases h
 | .tuple ds,e,h1,h=>by
  cases e with
  | int j=>simp [PyData.eqv]
  | str y=>simp [PyData.eqv]
  | tuple es=>simp only [PyData.eqv,PyData.tuple.injEq];exact uT ds es h1 h
  | _=>cases h
 | .none,_,h,_=>by cases h
 | .bool _,_,h,_=>by cases h
 | .list _,_,h,_=>by cases h
 | .dict _,_,h,_=>by cases h
theorem uT:(ds es:List Qq)->vY ds=true->vY es=true->(PyData.eqvAll ds es=true↔ds=es)
 | [],[],_,_=>by simp [PyData.eqvAll]
 | [],_ :: _,_,_=>by simp [PyData.eqvAll]
 | _ :: _,[],_,_=>by simp [PyData.eqvAll]
 | d :: ds,e :: es,h1,h2=>by simp only [vY,Mj] at h1 h2;rw [PyData.eqvAll,Mj,gf d e h1.1 h2.1,uT ds es h1.2 h2.2,List.cons.injEq]
end
theorem lU (h:d∈ds):d.depth+1<=(PyData.tuple ds).depth:=by
 have:∀ {ds:List Qq},d∈ds->d.depth<=PyData.depthAll ds:=by
  intro ds;induction ds with
  | nil=>intro h;cases h
  | cons x xs ih =>
   intro h;rw [PyData.depthAll];rcases LJ.mp h with rfl | h
   .exact Nat.le_max_left _ _
   .exact LG (ih h) (Nat.le_max_right _ _)
 rw [PyData.depth];have:=this h;lia
theorem gW:∀ {vs:List Qj} {ds:List Qq} {as:List Qz},ReadsAll h vs ds as->vs.length=ds.length/\∀ (i:Nat) (v:Qj),vs[i]?=some v->∃ d bs,ds[i]?=some d/\Reads h v d bs
 | _,_,_,.nil=>⟨rfl,fun i v e=>by simp at e⟩
 | _,_,_,.cons r t=>by
  obtain ⟨l,f⟩:=gW t;refine ⟨by simp [l],fun i v e=>?_⟩;cases i with
  | zero=>simp at e;subst e;exact ⟨_,_,rfl,r⟩
  | succ i=>simpa using f i v (by simpa using e)
section
variable {P:Program} {w:World} {A:Around} {E:Qy} {s:Qx}
theorem vP:∀ (n:Nat) {d:Qq} {v:Qj} {as:List Qz} {Q:Bool->Qx->Prop},Reads s.heap v d as->RS d=true->d.depth<=n->Q true s->wMX P w A (eqIsQuiet n v) Q E s:=by
 intro n;induction n with
 | zero =>
  intro d v as Q r h hd q;cases r with
  | int i t=>rw [eqIsQuiet_byValue _ rfl];exact Lu q
  | str x t=>rw [eqIsQuiet_byValue _ rfl];exact Lu q
  | tuple _ _ _ _=>rw [PyData.depth] at hd;lia
  | _=>cases h
 | succ n ih =>
  intro d v as Q r h hd q;cases r with
  | int i t=>rw [eqIsQuiet_byValue _ rfl];exact Lu q
  | str x t=>rw [eqIsQuiet_byValue _ rfl];exact Lu q
  | @tuple a o vs k xs as ho hc VJ ra =>
   have hT:s.TypeIs (.ref a) "tuple" := ⟨o,ho,hc⟩;unfold eqIsQuiet;refine Lm (wpAny_specialOf hT F.slot_tuple_eq.lookup ?_);show wpAny _ _ (isInstance (.ref a) (.type "tuple")>>=_) _ _ s;refine Lm (wpAny_isInstance hT isSubtype_tuple_tuple ?_);simp only [Bool.not_true,Nz,Nv];refine Lm (wpAny_seqItems ho VJ (Lm ?_));show wpAny _ _ (forIn vs _ _) _ _ s;rw [<- Array.forIn_toList];have hx:=j5.mp h;refine NG _ (fun rest r s'=>r.1=none/\s'=s/\∀ u∈rest,u∈vs.toList) _ ?_ ?_ _ _ ⟨rfl,rfl,fun _ z=>z⟩
   .rintro u rest r s' ⟨hr,rfl,Pg⟩;obtain ⟨i,hi⟩:=Ni.mp (Pg u Lq);obtain ⟨d',bs,e1,r1⟩:=(gW ra).2 i u hi;have hm:=LP e1;refine Lm (ih r1 (hx d' hm) (by have:=lU hm;lia) ?_);simp only [Bool.not_true,Nz,Nv];exact Lu ⟨rfl,rfl,fun y hy=>Pg y (Ly _ hy)⟩
   .rintro ⟨r1,r2⟩ s' ⟨hr,rfl,_⟩;simp only at hr;subst hr;exact Lu q
  | _=>cases h
theorem yU:∀ (n:Nat) {A:Around} {s:Qx} {E:Qy} {d:Qq} {v:Qj} {as:List Qz} {Q:Int->Qx->Prop},Reads s.heap v d as->RS d=true->d.depth<=n->A.units+n < cLine ->
  (∀ t,Q (bM w d) { s with toks:=t })->wMX P w A (pyHash v) Q E s:=by
 intro n;induction n with
 | zero =>
  intro A s E d v as Q r h hd hu q;cases r with
  | int i t=>exact wpAny_pyHash_int (q _)
  | str x t=>exact wpAny_pyHash_str (q _)
  | tuple _ _ _ _=>rw [PyData.depth] at hd;lia
  | _=>cases h
 | succ n ih =>
  intro A s E d v as Q r h hd hu q;cases r with
  | int i t=>exact wpAny_pyHash_int (q _)
  | str x t=>exact wpAny_pyHash_str (q _)
  | @tuple a o vs k xs as ho hc VJ ra =>
   have hT:s.TypeIs (.ref a) "tuple" := ⟨o,ho,hc⟩;have hx:=j5.mp h;unfold pyHash;first | unfold pyHashByItsType | skip
   first | refine Lm (wpAny_cRoomFor_or (.inr (by lia)) ?_) | skip
   refine Lm (wpAny_specialOf hT F.slot_tuple_hash.lookup ?_);show wpAny _ _ (if (some (Value.builtin "tuple.__hash__")==some Value.none)=true then _ else _) Q E s;rw [Lw (by rw [beq_builtin_none];exact LU)];refine Lm (wpAny_specialOf hT F.slot_tuple_hash.lookup ?_);show wpAny _ _ (callSpecialIfBoundUnlessNone? (.ref a) "__hash__" _>>=_) Q E s;refine Lm (wpAny_callSpecialIfBoundUnlessNone?_slot hT F.slot_tuple_hash (Nq F.slot_tuple_hash hT F.entry_tuple_hash ?_ (F.args_tuple_hash_1 _)));show wpAny _ _ (Builtin.Tuple.tupleItemsOf (.ref a)>>=_) _ _ s;refine Lm (wpAny_tupleItemsOf ho VJ (Lm ?_));rw [<- Array.forIn_toList];have hap:(l m:List Qq)->cg w (l++m)=cg w l++cg w m:=by
    intro l m;induction l with
    | nil=>rfl
    | cons x l ihl=>rw [My,cg,cg,ihl];rfl
   refine NG _ (fun rest (b:Array Int) s'=>∃ i,rest=vs.toList.drop i/\b.toList=cg w (xs.take i)/\∃ t,s'={ s with toks:=t }) _ ?_ ?_ _ _ ⟨0,rfl,rfl,_,rfl⟩
   .rintro u rest b s' ⟨i,hr,hb,t,rfl⟩;have hi:vs.toList[i]?=some u:=by
     have:(vs.toList.drop i)[0]?=some u:=by rw [<- hr];rfl
     simpa using this
    obtain ⟨d',bs,e1,r1⟩:=(gW ra).2 i u hi;have hm:=LP e1;refine Lm (ih (s:={ s with toks:=t }) r1 (hx d' hm) (by have:=lU hm;lia) (by have:A.in1.units=A.units+1:=rfl;lia) fun t'=>?_);have nx:rest=vs.toList.drop (i+1)/\(b.push (bM w d')).toList=cg w (xs.take (i+1))/\∃ Yk,({ s with toks:=t' }:Qx)={ s with toks:=Yk }:=by
     refine ⟨?_,?_,_,rfl⟩
     .have:=congrArg List.tail hr;simpa [List.tail_drop] using this
     .rw [List.take_add_one,e1,hap,Array.toList_push,hb];rfl
    first
     | exact Lu ⟨i+1,nx⟩
     | exact Lm (Lu (Lu ⟨i+1,nx⟩))
   .rintro b s' ⟨i,hr,hb,t,rfl⟩;have hi:vs.toList.length<=i:=by have:=congrArg List.length hr;simp at this;simpa using (by lia:vs.size<=i)
    rw [Mu (by rw [<- (gW ra).1];exact hi)] at hb;show wpAny _ _ (retInt (Builtin.Tuple.tupleHashOf b.toList)) _ _ _;rw [hb];refine wpAny_ret_mkInt ?_;have q':=q;rw [bM] at q';unfold reduceHash at q';show wpAny _ _ (if (decide (-(2:Int) ^ 63<=Builtin.Tuple.tupleHashOf (cg w xs))&&decide (Builtin.Tuple.tupleHashOf (cg w xs) < 2 ^ 63))=true then _ else _) Q E _;by_cases hc:(decide (-(2:Int) ^ 63<=Builtin.Tuple.tupleHashOf (cg w xs))&&decide (Builtin.Tuple.tupleHashOf (cg w xs) < 2 ^ 63))=true
    .rw [Lz hc];rw [Lz hc] at q';exact Lu (q' _)
    .rw [Lw hc];rw [Lw hc] at q';exact Lm (MT (Lu (q' _)))
  | _=>cases h
end
theorem aA {d:Qq}:PY d=true↔RS d=true/\d.canLay0=true/\d.depth<=6:=by simp [PY,and_assoc]
section
variable {P:Program} {w:World} {A:Around} {E:Qy} {s:Qx}
structure BM (w:World) (h:Heap) (es:Array DictEntry) (ks:List Qq):Prop where
 len:es.size=ks.length
 nd:ks.Nodup
 at_:∀ (j:Nat) (k:Qq),ks[j]?=some k->PY k=true/\∃ e bs,es[j]?=some e/\e.hash=bM w k/\Reads h e.key k bs
theorem BM.at' {h:Heap} {es:Array DictEntry} {ks:List Qq} (N:BM w h es ks) {j:Nat} {e:DictEntry} (he:es[j]?=some e):∃ k bs,ks[j]?=some k/\PY k=true/\e.hash=bM w k/\Reads h e.key k bs:=by
 have hj:j < ks.length:=by rw [<- N.len];exact (Np.mp he).1
 obtain ⟨a,e',bs,b,c,r⟩:=N.at_ j _ (Lp hj);rw [he] at b;cases b;exact ⟨_,bs,Lp hj,a,c,r⟩
theorem BM.one {h:Heap} {es:Array DictEntry} {ks:List Qq} (N:BM w h es ks) {i j:Nat} {k:Qq} (hi:ks[i]?=some k) (hj:ks[j]?=some k):i=j :=
 (List.getElem?_inj (Ls.mp hi).1 N.nd).mp (hi.trans hj.symm)
theorem Ac {key Ut:Qj} {k k':Qq} {as bs:List Qz} (hu:A.units+6 < cLine) (r:Reads s.heap key k as) (r':Reads s.heap Ut k' bs) (h:PY k=true) (h':PY k'=true):SeqAt.EqAt A s Ut key (PyData.eqv k' k):=by rw [aA] at h h';exact SeqAt.eqAt_reads k' k A s Ut key bs as r' r h'.2.1 h.2.1 (by have:=Nat.min_le_right k'.depth k.depth;lia)
theorem Eg {key:Qj} {k:Qq} {as:List Qz} {st:List Qj} {Q:Bool->Qx->Prop} (r:Reads s.heap key k as) (h:PY k=true) (OW:∀ v∈st,∃ k' bs,Reads s.heap v k' bs/\PY k'=true) (q:Q false s) :
  wMX P w A (tableMayTell key st) Q E s:=by
 rw [aA] at h;unfold tableMayTell;split
 .exact Lu q
 .refine Lm (vP 8 r h.1 (by lia) ?_);rw [Lw (by simp)];refine Lm (NG _ (fun rest b s'=>s'=s/\b=(none,())/\∀ v∈rest,v∈st) _ ?_ ?_ _ _ ⟨rfl,rfl,fun _ z=>z⟩)
  .rintro v rest b s' ⟨rfl,rfl,hr⟩;obtain ⟨k',bs,r',h'⟩:=OW v (hr v Lq);rw [aA] at h';refine Lm (vP 8 r' h'.1 (by lia) ?_);rw [Lw (by simp)];exact Lu ⟨rfl,rfl,fun v hv=>hr v (Ly _ hv)⟩
  .rintro b s' ⟨rfl,rfl,_⟩;exact Lu q
theorem t9 {h:Heap} {v:Qj} {x:Str} {as:List Qz} (r:Reads h v (.str x) as):∃ t,v=.str x t:=by cases r;exact ⟨_,rfl⟩
theorem m8 {h:Heap} {v:Qj} {x:Str} {k:Qq} {as:List Qz} (r:Reads h v k as) (hk:RS k=true) (hp:v.isStr x=true):k=.str x:=by
 cases r with
 | str y t=>simp [Value.isStr] at hp;simp [hp]
 | int i t=>simp [Value.isStr] at hp
 | tuple _ _ _ _=>simp [Value.isStr] at hp
 | _=>cases hk
theorem uO {W:Type} {c:Prop} [Decidable c] {x y:Sem W} {Q:W->Qx->Prop} (hx:wMX P w A x Q E s) (hy:wMX P w A y Q E s):wMX P w A (if c then x else y) Q E s:=by
 split
 .exact hx
 .exact hy
theorem Fu {W:Type} {c:Prop} [Decidable c] {m:Sem Bool} {f:Bool->Sem W} {Q:W->Qx->Prop} (hm:∀ Q':Bool->Qx->Prop,Q' false s->wMX P w A m Q' E s) (h:wMX P w A (f false) Q E s) :
  wMX P w A (if c then (pure false:Sem Bool)>>=f else m>>=f) Q E s:=uO (Lm (Lu h)) (Lm (hm _ h))
theorem yO {w0:World} {d:Qz} {o:Obj} {es:Array DictEntry} {ep:Nat} {ks:List Qq} {k:Qq} {key:Qj} {as:List Qz} {Q:Option Nat->Qx->Prop}
  (hu:A.units+6 < cLine) (hk:Reads s.heap key k as) (Uu:PY k=true) (ho:s.heap.get? d=some o) (hd:o.data=.dict es ep) (N:BM w0 s.heap es ks)
  (Se:((j:Nat)->ks[j]?≠some k)->Q none s) (Rf:(j:Nat)->ks[j]?=some k->Q (some j) s):wMX P w A (dictFind d key (bM w0 k)) Q E s:=by
 have π:=aA.mp Uu;have Pn:=N.len;have Rg:(j:Nat)->ks[j]?=some k->((es[j]?.map (·.hash))==some (bM w0 k))=true:=fun j hj=>by obtain ⟨_,e,bs,he,hh,_⟩:=N.at_ j k hj;rw [he];simp [hh]
 have same:∀ {k'},PY k'=true->(PyData.eqv k' k=true↔k'=k):=fun h'=>gf _ _ (aA.mp h').1 π.1;have done:(i:Nat)->i<=es.size->((j:Nat)->j < i->ks[j]?≠some k)->[]=(List.range' i (es.size - i)).filter (fun i=>(es[i]?.map (·.hash))==some (bM w0 k))->(j:Nat)->ks[j]?≠some k:=by
  intro i hi PV hr j hj;rcases Nat.lt_or_ge j i with h | h
  .exact PV j h hj
  .have hjl:j < es.size:=by rw [Pn];exact (Ls.mp hj).1
   have:=List.filter_eq_nil_iff.mp hr.symm j (List.mem_range'_1.mpr ⟨h,by lia⟩);exact this (Rg j hj)
 have skip:∀ {i x:Nat},((j:Nat)->j < i->ks[j]?≠some k)->((j:Nat)->i<=j->j < x->((es[j]?.map (·.hash))==some (bM w0 k))=false)->(j:Nat)->j < x->ks[j]?≠some k:=by
  intro i x PV hs j hjx hj;rcases Nat.lt_or_ge j i with h | h
  .exact PV j h hj
  .have:=hs j h hjx;rw [Rg j hj] at this;cases this
 have step:∀ {x:Nat} {k':Qq},ks[x]?=some k'->k'≠k->((j:Nat)->j < x->ks[j]?≠some k)->(j:Nat)->j < x+1->ks[j]?≠some k:=by
  intro x k' hx O2 PV j hj Uv;rcases Nat.lt_or_ge j x with h | h
  .exact PV j h Uv
  .have:j=x:=by lia
   subst this;rw [hx] at Uv;cases Uv;exact O2 rfl
 have plain:wMX P w A (dictWalkPlain d key (bM w0 k) es (placesWithHash es.size (fun i=>es[i]?.map (·.hash)) (bM w0 k))) Q E s:=by
  unfold dictWalkPlain
  refine Lm (NG _ (fun rest b s'=>s'=s/\b=(none,())/\∃ i:Nat,rest=(List.range' i (es.size - i)).filter (fun i=>(es[i]?.map (·.hash))==some (bM w0 k))/\i<=es.size/\∀ j:Nat,j < i->ks[j]?≠some k) _ ?_ ?_ _ _
   ⟨rfl,rfl,0,by rw [placesWithHash,List.range_eq_range',Nat.sub_zero],Mk _,fun _ h=>absurd h (Nat.not_lt_zero _)⟩)
  .rintro x rest b s' ⟨rfl,rfl,i,hr,hi,PV⟩;obtain ⟨hix,hxn,VL,Sf,Qr⟩:=filter_range'_cons _ _ _ _ _ hr.symm;have O7:x < es.size:=by lia
   have hex:es[x]?=some es[x]:=Ms O7;obtain ⟨k',bs,SQ,PZ,hh,UY⟩:=N.at' hex;have Yl:=skip PV Sf;have Px:rest=(List.range' (x+1) (es.size - (x+1))).filter (fun i=>(es[i]?.map (·.hash))==some (bM w0 k)):=by rw [Qr];congr 2;lia
   rw [hex] at VL ⊢;have Ym:(es[x].hash==bM w0 k)=true:=by simpa using VL
   dsimp only;rw [Lz Ym];refine Lm (M0 ho hd (Lm (Ac hu hk UY Uu PZ _ _ _ _ (Lm (M0 ho hd ?_)))));rw [Lw (by simp)];by_cases z:k'=k
   .subst z;rw [(same Uu).mpr rfl];first | rw [Lz rfl] | skip
    exact Lm (MT (Lu (Lu (Rf x SQ))))
   .have:PyData.eqv k' k=false:=by
     cases q:PyData.eqv k' k with
     | false=>rfl
     | true=>exact absurd ((same PZ).mp q) z
    rw [this];rw [Lw (by simp)];exact Lm (MT (Lu ⟨rfl,rfl,x+1,Px,O7,step SQ z Yl⟩))
  .rintro b s' ⟨rfl,rfl,i,hr,hi,PV⟩;exact Lu (Se (done i hi PV hr))
 have OW:∀ v∈(placesWithHash es.size (fun i=>es[i]?.map (·.hash)) (bM w0 k)).filterMap (fun i=>es[i]?.map (·.key)),∃ k' bs,Reads s.heap v k' bs/\PY k'=true:=by intro v hv;obtain ⟨i,_,hi⟩:=List.mem_filterMap.mp hv;obtain ⟨e,he,rfl⟩:=LZ.mp hi;obtain ⟨k',bs,_,h1,_,h2⟩:=N.at' he;exact ⟨k',bs,h2,h1⟩
 unfold dictFind;try with_reducible refine MG ?_
 refine Lm (NA ho hd ?_);have shape:(∃ i t,key=.int i t)\/(∃ x t,key=.str x t/\k=.str x)\/∃ a,key=.ref a:=by
  cases hk with
  | int i t=>exact .inl ⟨i,t,rfl⟩
  | str x t=>exact .inr (.inl ⟨x,t,rfl,rfl⟩)
  | tuple _ _ _ _=>exact .inr (.inr ⟨_,rfl⟩)
  | _=>cases π.1
 rcases shape with ⟨i,t,rfl⟩ | ⟨x,t,rfl,ek⟩ | ⟨a,rfl⟩;refine uO plain ?_
 rotate_left
 refine uO ?_ (uO plain ?_)
 .subst ek;unfold foundByValue;cases hf:es.findIdx? (·.key.isStr x) with
  | none =>
   refine Lu (Se fun j hj=>?_);obtain ⟨_,e,bs,he,_,r⟩:=N.at_ j _ hj;have:=Array.findIdx?_eq_none_iff.mp hf e (Array.mem_of_getElem? he);obtain ⟨t',e'⟩:=t9 r;rw [e'] at this;simp [Value.isStr] at this
  | some i =>
   have hi:=(Array.findIdx?_eq_some_iff_getElem.mp hf);obtain ⟨O7,hp,_⟩:=hi;have hex:es[i]?=some es[i]:=Ms O7;obtain ⟨k',bs,SQ,PZ,hh,UY⟩:=N.at' hex;have e1:k'=.str x:=m8 UY (aA.mp PZ).1 hp;subst e1;dsimp only;rw [hex];dsimp only;refine Lm (M0 ho hd (Lm (Ac hu hk UY Uu PZ _ _ _ _ (Lm (M0 ho hd ?_)))));rw [Lw (by simp),(same Uu).mpr rfl];first | rw [Lz rfl] | skip
   exact Lm (MT (Lu (Rf i SQ)))
 rotate_left
 refine uO plain ?_;have Yn:¬(es.any fun e=>e.key==Value.ref a&&e.hash != bM w0 k)=true:=by rw [<- Array.any_toList,N5];rintro ⟨e,hin,hc⟩;obtain ⟨j,hj⟩:=Ni.mp hin;obtain ⟨k',bs,_,_,h3,h4⟩:=N.at' (j:=j) (e:=e) (by simpa using hj);simp only [Mj,Ma,bne_iff_ne,ne_eq] at hc;rw [hc.1] at h4;exact hc.2 (by rw [h3,(PySem.Reads.unique h4 _ _ hk).1])
 dsimp only;rw [Lw Yn]
 all_goals
  refine Fu (fun Q' q=>Eg hk Uu OW q) ?_;try dsimp only
  rw [Lw (by simp)]
  refine Lm (NG _ (fun rest b s'=>s'=s/\∃ (i:Nat) (hit:Option Nat),b=(none,hit)/\rest=(List.range' i (es.size - i)).filter (fun i=>(es[i]?.map (·.hash))==some (bM w0 k))/\i<=es.size /\
    ((hit=none/\∀ j:Nat,j < i->ks[j]?≠some k)\/∃ j,hit=some j/\j < i/\ks[j]?=some k)) _ ?_ ?_ _ _
   ⟨rfl,0,none,rfl,by rw [placesWithHash,List.range_eq_range',Nat.sub_zero],Mk _,.inl ⟨rfl,fun _ h=>absurd h (Nat.not_lt_zero _)⟩⟩)
  .rintro x rest b s' ⟨rfl,i,hit,rfl,hr,hi,hH⟩;obtain ⟨hix,hxn,VL,Sf,Qr⟩:=filter_range'_cons _ _ _ _ _ hr.symm;have O7:x < es.size:=by lia
   have hex:es[x]?=some es[x]:=Ms O7;obtain ⟨k',bs,SQ,PZ,hh,UY⟩:=N.at' hex;have Px:rest=(List.range' (x+1) (es.size - (x+1))).filter (fun i=>(es[i]?.map (·.hash))==some (bM w0 k)):=by rw [Qr];congr 2;lia
   rw [hex] at VL ⊢;have Ym:=(show (es[x].hash==bM w0 k)=true by simpa using VL);dsimp only;rw [Lz Ym];refine Lm (M0 ho hd (Lm (Ac hu hk UY Uu PZ _ _ _ _ (Lm (M0 ho hd ?_)))));rw [Lw (by simp)];cases q:PyData.eqv k' k with
   | true =>
    have z:=(same PZ).mp q;rw [z] at SQ;first | rw [Lz rfl] | skip
    have h0:hit=none:=by
     rcases hH with ⟨h0,_⟩ | ⟨j,_,hj,Uv⟩
     .exact h0
     .exact absurd (N.one Uv SQ) (by lia)
    subst h0;simp only [Option.isSome_none,Nz,Nv];first | refine Lm (Lu ?_) | skip
    refine Lm (MT ?_);split
    .exact Lu (Lu (Rf x SQ))
    .exact Lu ⟨rfl,x+1,some x,rfl,Px,O7,.inr ⟨x,rfl,MH x,SQ⟩⟩
   | false =>
    rw [Lw (by simp)];have z:k'≠k:=fun e=>by rw [(same PZ).mpr e] at q;cases q
    have st:(hit=none/\∀ j:Nat,j < x+1->ks[j]?≠some k)\/∃ j,hit=some j/\j < x+1/\ks[j]?=some k:=by
     rcases hH with ⟨h0,PV⟩ | ⟨j,h0,hj,Uv⟩
     .exact .inl ⟨h0,step SQ z (skip PV Sf)⟩
     .exact .inr ⟨j,h0,by lia,Uv⟩
    refine Lm (MT ?_);first | rw [Lw (by simp)] | skip
    first
     | exact Lu ⟨rfl,x+1,hit,rfl,Px,O7,st⟩
     | exact Lm (Lu (Lu ⟨rfl,x+1,hit,rfl,Px,O7,st⟩))
  .rintro b s' ⟨rfl,i,hit,rfl,hr,hi,hH⟩;rcases hH with ⟨rfl,PV⟩ | ⟨j,rfl,_,hj⟩
   .exact Lu (Se (done i hi PV hr))
   .exact Lu (Rf j hj)
end
noncomputable def kD:Key->Qq | .inl i=>.int i | .inr x=>.str x
def Ry (kv:Key×V):Qq×V×V:=(kD kv.1,kV kv.1,kv.2)
theorem B9 (h:kD a=kD b):a=b:=by cases a <;> cases b <;> simp [kD] at h <;> simp [h]
theorem AN (w:World) (k:Key):bM w (kD k)=Ko w k:=by cases k <;> rfl
theorem oE (h:Heap) (hb:sysModules < h.objs.size):aI P w H (h.push { cls:=.type "dict", data:=.dict #[] }) h.objs.size (.dD 0 []) :=
 ⟨Mk _,beq_eq_false_iff_ne.mpr (Ne.symm (L9 hb)),List.nodup_nil,_,#[],L0 _ rfl,⟨rfl,rfl,rfl⟩,rfl,.nil⟩
theorem lD:∀ {kvs:List (Key×V)} {vs:List (Key×Qj)} {es:List DictEntry},KV kvs vs->Pairs (bf P w) es vs->(∀ e∈es,∃ k,(bf P w).is k e.key=true/\e.hash=(bf P w).hash k)->Paired (AJ w) (kvs.map Ry) es
 | [],_,_,r,q,_=>by cases r;cases q;exact .nil
 | p :: kvs,_,es,r,q,h=>by
  cases r with
  | cons r t =>
   cases q with
   | @cons e kv Vp Yo h1 h2 h3 =>
    obtain ⟨k,hk,hh⟩:=h e Lq;have e1:k=p.1:=by rw [r.1];exact (bf P w).inj _ _ _ hk h1
    subst e1;refine .cons ⟨?_,?_,?_⟩ (lD t h3 fun e he=>h e (Ly _ he))
    .rw [hh];exact (AN w _).symm
    .show RelV (kV p.1) e.key;rcases aD (show oj p.1 e.key=true from hk) with ⟨i,t,e1,e2⟩ | ⟨x,t,e1,e2⟩
     .rw [e1,e2];exact ⟨t,rfl⟩
     .rw [e1,e2];exact ⟨t,rfl⟩
    .show RelV p.2 e.val;rw [h2];exact r.2
theorem Jj (z:kvs.length<=sizeLine) (hd:(a==sysModules)=false) (rel:KV kvs vs) (dd:h.DictOf (bf P w) a vs) :
  ∃ ep,aI P w H h a (.dD ep (kvs.map Ry)):=by
 obtain ⟨o,es,ep,h1,h2,h3,h4,h5,h6⟩:=dd;refine ⟨ep,by rw [Lo];exact z,hd,?_,o,es,h1,h2,h3,lD rel h5 fun e he=>h4 e (Array.mem_toList_iff.mp he)⟩;have e1:vs.map (·.1)=kvs.map (·.1):=by
  clear h5 h6 z;unfold KV at rel;induction rel with
  | nil=>rfl
  | cons r t ih=>rw [List.map_cons,List.map_cons,ih,r.1]
 rw [e1] at h6;rw [Na];have:(kvs.map ((fun x:Qq×V×V=>x.1)∘Ry))=(kvs.map (·.1)).map kD:=by rw [Na];rfl
 rw [this];exact List.Pairwise.map kD (fun _ _ n z=>n (B9 z)) h6
def y8:TE:=fun _ H Q=>∀ p,H p=none->Q (.ref p) (upd H p (.dD 0 []))
def sy (RP:List (TE×TE)):TE:=fun Y H Q=>∀ p,H p=none->ow RP Y (upd H p (.dD 0 [])) fun ps H2=>H2 p=some (.dD 0 [])/\∃ kvs:List (Key×V),ps=kvs.map (fun kv=>(kV kv.1,kv.2))/\kvs.length<=15/\∀ ep,Q (.ref p) (upd H2 p (.dD ep ((cP [] kvs).map Ry)))
section
variable {X:Cx} {pos:Pos}
theorem wt:PE X (.Dict [] [] pos) y8:=fun ti s Y H Q I h =>
 wpAny_Dict_empty ⟨.ref s.heap.objs.size,_,I.laid (o:=.dD 0 []) (t':=s.toks) (fun _ _ q=>LB _ q) (LA _) (oE s.heap I.big),rfl,h _ (I.IT.fresh (LA _))⟩
theorem ym (h:Vz X pos keys values RP) (Pg:keys.all (·.isSome)=true) (hl:keys.length=values.length) (h0:keys≠[])
  (VM:keys.length<=15):PE X (.Dict keys values pos) (sy RP):=by
 intro ti s Y H Q I q;have hn:=I.IT.fresh (LA s.heap.objs.size);have I1:=I.laid (o:=.dD 0 []) (h':=s.heap.push { cls:=.type "dict", data:=.dict #[] }) (t':=s.toks) (fun _ _ q=>LB _ q) (LA _) (oE s.heap I.big);refine wpAny_Dict_walk (knd:=bf X.prog X.w) Pg hl h0 VM (Oq (h ti _ Y _ _ I1 (q _ hn)) fun ws s2 ⟨ps,H2,I2,rel,e,kvs,ep,lk,q2⟩=>?_);subst ep;obtain ⟨rs,c,rk⟩:=jA (P:=X.prog) (w:=X.w) rel;obtain ⟨z,hd,nd,o,es,g1,g2,g3,g4⟩:=(show aI X.prog X.w H2 s2.heap s.heap.objs.size (.dD 0 []) from I2.IT _ _ e);have ees:es=#[]:=by
  cases es with
  | mk l=>cases g4;rfl
 subst ees;have dd:s2.heap.DictOf (bf X.prog X.w) s.heap.objs.size []:=⟨o,#[],0,g1,g2,g3,fun e he=>by simp at he,.nil,List.nodup_nil⟩;refine ⟨rs,c,dd,fun h' VN hs=>?_⟩;have hz:(cP [] kvs).length<=sizeLine:=by have h1:=fh kvs [];rw [MV] at h1;rw [MF];lia
 have he:∃ q,h'.get? s.heap.objs.size=some q:=let ⟨q,_,_,hq,_⟩:=VN;⟨q,hq⟩
 obtain ⟨ep,new⟩:=Jj (H:=upd H2 s.heap.objs.size (.dD 0 [])) hz hd (rk.merge .nil) VN;exact ⟨.ref s.heap.objs.size,_,ng I2 (by rw [e];exact True.intro) hs he (ob:=.dD ep ((cP [] kvs).map Ry)) new,rfl,q2 ep⟩
end
noncomputable def yy (xs:List (Qq×V×V)) (k:Qq):Option V:=(xs.find? fun x=>PyData.eqv x.1 k).map (·.2.2)
noncomputable def mZ (xs:List (Qq×V×V)) (k:Qq) (j v:V):List (Qq×V×V) :=
 if (xs.any fun x=>PyData.eqv x.1 k)=true then xs.map (fun x=>if PyData.eqv x.1 k=true then (x.1,x.2.1,v) else x) else xs++[(k,j,v)]
def i8 (h:Heap) (xs:List (Qq×V×V)):Prop:=∀ x∈xs,PY x.1=true/\∀ u,RelV x.2.1 u->∃ bs,Reads h u x.1 bs
section
variable {X:Cx} {ti:Qw} {Y:St} {H:Hp} {s:Qx} {a:Qz} {A:Around} {E:Qy} {ep:Nat} {xs:List (Qq×V×V)} {k:Qq} {u:Qj} {as:List Qz}
theorem dh {W B:Type} {R:W->B->Prop}:∀ {l:List W} {m:List B},Paired R l m->∀ (j:Nat) (x:W),l[j]?=some x->∃ y,m[j]?=some y/\R x y
 | _,_,.nil,j,x,e=>by simp at e
 | _,_,.cons r t,0,x,e=>by simp at e;subst e;exact ⟨_,rfl,r⟩
 | _,_,.cons r t,j+1,x,e=>by simpa using dh t j x (by simpa using e)
theorem vR {P:Program} {w:World} {h:Heap} {es:Array DictEntry} (kr:i8 h xs) (nd:(xs.map (·.1)).Nodup) (r:Paired (AJ w) xs es.toList):BM w h es (xs.map (·.1)) where
 len:=by rw [Lo,NI r];simp
 nd:=nd
 at_:=fun j k e=>by rw [LO] at e;obtain ⟨x,hx,rfl⟩:=LZ.mp e;obtain ⟨en,h1,h2,h3,h4⟩:=dh r j x hx;obtain ⟨k1,k2⟩:=kr x (LP hx);obtain ⟨bs,r1⟩:=k2 _ h3;exact ⟨k1,en,bs,by simpa using h1,h2,r1⟩
theorem ux {j:Nat} (kr:i8 s.heap xs) (nd:(xs.map (·.1)).Nodup) (ky:PY k=true) (hj:(xs.map (·.1))[j]?=some k):∃ x,xs[j]?=some x/\x.1=k/\xs.find? (fun x=>PyData.eqv x.1 k)=some x:=by
 rw [LO] at hj;obtain ⟨x,hx,rfl⟩:=LZ.mp hj;refine ⟨x,hx,rfl,?_⟩;rw [List.find?_eq_some_iff_getElem];obtain ⟨hl,e⟩:=Ls.mp hx;refine ⟨(gf _ _ (aA.mp ky).1 (aA.mp ky).1).mpr rfl,j,hl,e,fun i hi=>?_⟩;have Yp:i < xs.length:=by lia
 cases q:PyData.eqv xs[i].1 x.1 with
 | false=>rfl
 | true =>
  have z:=(gf _ _ (aA.mp (kr _ (List.getElem_mem Yp)).1).1 (aA.mp ky).1).mp q;have e1:(xs.map (·.1))[i]?=some x.1:=by rw [LO,Lp Yp,NM,z]
  have e2:(xs.map (·.1))[j]?=some x.1:=by rw [LO,hx];rfl
  have:=(List.getElem?_inj (by rw [Lo];exact Yp) nd).mp (e1.trans e2.symm);lia
theorem vF (kr:i8 s.heap xs) (ky:PY k=true) (h:(j:Nat)->(xs.map (·.1))[j]?≠some k):xs.find? (fun x=>PyData.eqv x.1 k)=none:=by rw [List.find?_eq_none];intro x hx q;have z:=(gf _ _ (aA.mp (kr x hx).1).1 (aA.mp ky).1).mp q;obtain ⟨j,hj⟩:=Ni.mp hx;exact h j (by rw [LO,hj,NM,z])
theorem GO {Q:Option Qj->Qx->Prop} (hu:A.units+6 < cLine) (I:Inv X ti Y H s) (e:H a=some (.dD ep xs)) (kr:i8 s.heap xs) (hk:Reads s.heap u k as) (ky:PY k=true)
  (q:∀ t ov,E9 (yy xs k) ov->Q ov { s with toks:=t }):wMX X.prog X.w A (dictGet a u) Q E s:=by
 obtain ⟨z,hd,nd,o,es,g1,g2,g3,g4⟩:=(show aI X.prog X.w H s.heap a (.dD ep xs) from I.IT _ _ e);unfold dictGet;refine MG (Lm (yU 6 hk (aA.mp ky).1 (aA.mp ky).2.2 hu fun t=>?_));refine Lm (yO (s:={ s with toks:=t }) hu hk ky g1 g3 (vR (P:=X.prog) kr nd g4) (fun PV=>?_) fun j hj=>?_)
 .refine Lu (q _ _ ?_);unfold yy;rw [vF (s:=s) kr ky PV];exact True.intro
 .obtain ⟨x,hx,e1,e2⟩:=ux (s:=s) kr nd ky hj;obtain ⟨en,h1,h2,h3,h4⟩:=dh g4 j x hx;refine Lm (NA (s:={ s with toks:=t }) g1 g3 (Lu (q _ _ ?_)));unfold yy;rw [e2,show es[j]?=some en by simpa using h1];exact h4
theorem kW (I:Inv X ti Y H s) (e:H a=some (.dD ep xs)):s.TypeIs (.ref a) "dict" /\ (a==sysModules)=false:=by obtain ⟨z,hd,nd,o,es,g1,g2,g3,g4⟩:=(show aI X.prog X.w H s.heap a (.dD ep xs) from I.IT _ _ e);exact ⟨⟨o,g1,g2.1⟩,hd⟩
theorem DY (hu:A.units+7 < cLine) (I:Inv X ti Y H s) (e:H a=some (.dD ep xs)) (kr:i8 s.heap xs) (hk:Reads s.heap u k as) (ky:PY k=true) (hv:yy xs k=some v)
  (q:∀ t w',RelV v w'->Q w' { s with toks:=t }):wMX X.prog X.w A (getItem (.ref a) u) Q E s:=by
 obtain ⟨T,_⟩:=kW I e;unfold getItem;refine MG (Lm (wpAny_sequenceKey T (by decide) (Lm (M4 (name:=Str.ofString "__getitem__") T slot_dict_getitem (Nq slot_dict_getitem T entry_dict_getitem ?_ (args_dict_getitem _ _))))));refine Lm (m:=dictGet a u) (GO (by have:A.in1.units=A.units+1:=rfl;lia) I e kr hk ky fun t ov r=>?_);rw [hv] at r;cases ov with
 | none=>cases r
 | some w'=>exact Lu ⟨w',rfl,Lu (q t w' r)⟩
theorem pY:(mZ xs k j v).length<=xs.length+1:=by
 unfold mZ;split
 .rw [Lo];lia
 .rw [Ln];exact LA _
theorem o7 (h:xs.find? (fun x=>PyData.eqv x.1 k)=none):mZ xs k j v=xs++[(k,j,v)]:=by unfold mZ;rw [Lw];rw [N5];rintro ⟨x,hx,q⟩;exact absurd q (by simpa using List.find?_eq_none.mp h x hx)
theorem oO (h:xs.find? (fun x=>PyData.eqv x.1 k)=some x):mZ xs k j v=xs.map (fun x=>if PyData.eqv x.1 k=true then (x.1,x.2.1,v) else x):=by unfold mZ;rw [Lz];rw [N5];exact ⟨x,List.mem_of_find?_eq_some h,by simpa using List.find?_some h⟩
theorem se (ky:PY k=true) (rv:RelV v r):∀ {xs:List (Qq×V×V)} {es:List DictEntry} {i:Nat},i8 h xs->(xs.map (·.1)).Nodup->(xs.map (·.1))[i]?=some k->Paired (AJ w) xs es ->
  Paired (AJ w) (xs.map (fun x=>if PyData.eqv x.1 k=true then (x.1,x.2.1,v) else x)) (es.modify i fun e=>{ e with val:=r })
 | [],es,i,_,_,hi,_=>by simp at hi
 | x :: xs,es,i,kr,nd,hi,p=>by
  cases p with
  | @cons _ e _ Vp h1 h2 =>
   have ky':=(kr x Lq).1;rw [List.map_cons,MA] at nd;have off:∀ {ys:List (Qq×V×V)} {fs:List DictEntry},k ∉ ys.map (·.1)->i8 h ys->Paired (AJ w) ys fs->Paired (AJ w) (ys.map (fun x=>if PyData.eqv x.1 k=true then (x.1,x.2.1,v) else x)) fs:=by
    intro ys fs hn kr' q;have:(ys.map (fun x=>if PyData.eqv x.1 k=true then (x.1,x.2.1,v) else x))=ys:=by
     refine (List.map_congr_left fun y hy=>?_).trans (List.map_id _);rw [Lw]
     .rfl
     .intro z;exact hn (Mh.mpr ⟨y,hy,(gf _ _ (aA.mp (kr' y hy).1).1 (aA.mp ky).1).mp z⟩)
    rw [this];exact q
   cases i with
   | zero =>
    simp at hi;subst hi;rw [List.map_cons,Lz ((gf _ _ (aA.mp ky).1 (aA.mp ky).1).mpr rfl)];exact .cons ⟨h1.1,h1.2.1,rv⟩ (off nd.1 (fun y hy=>kr y (Ly _ hy)) h2)
   | succ i =>
    have RQ:(xs.map (·.1))[i]?=some k:=by simpa using hi
    have ne:x.1≠k:=fun z=>nd.1 (by rw [z];exact LP RQ);rw [List.map_cons,Lw fun z=>ne ((gf _ _ (aA.mp ky').1 (aA.mp ky).1).mp z)];exact .cons h1 (se ky rv (fun y hy=>kr y (Ly _ hy)) nd.2 RQ h2)
theorem Hi {j v:V} {r:Qj} {Q:Unit->Qx->Prop} (hu:A.units+6 < cLine) (I:Inv X ti Y H s) (e:H a=some (.dD ep xs)) (kr:i8 s.heap xs) (hk:Reads s.heap u k as) (ky:PY k=true) (rj:RelV j u) (rv:RelV v r) (hl:xs.length < sizeLine)
  (q:∀ Qm s',Inv X ti Y (upd H a (.dD Qm (mZ xs k j v))) s'->(∀ b o,b≠a->s.heap.get? b=some o->s'.heap.get? b=some o)->Q () s'):wMX X.prog X.w A (dictSet a u r) Q E s:=by
 obtain ⟨T,hd⟩:=kW I e;obtain ⟨z,_,nd,o,es,g1,g2,g3,g4⟩:=(show aI X.prog X.w H s.heap a (.dD ep xs) from I.IT _ _ e);have Pn:es.size=xs.length:=by rw [NI g4];simp
 unfold dictSet dictSetHashed;refine MG (Lm (yU 6 hk (aA.mp ky).1 (aA.mp ky).2.2 hu fun t=>MG ?_));have Qh:(mZ xs k j v).length<=sizeLine:=by have:=pY (xs:=xs) (k:=k) (j:=j) (v:=v);lia
 refine Lm (yO (s:={ s with toks:=t }) hu hk ky g1 g3 (vR (P:=X.prog) kr nd g4) (fun PV=>?_) fun i hi=>?_)
 .have fn:=vF (s:=s) kr ky PV;refine Lm (MT (wpAny_updateDictKeys (s:={ s with toks:=t }) (hz:=by lia) g1 g3 (q (ep+1) _ (ng (t':=t) (I.tok t) (by rw [e];exact True.intro) (Heap.SameBut.update ..) ⟨_,Mm _ g1 (Obj.isFreed_of_dict (Obj.data_mapDictKeys g3 _))⟩ ?_) fun b o hb e=>(L4 _ _ (Ne.symm hb)).trans e)));refine ⟨Qh,hd,?_,_,_,Mm _ g1 (Obj.isFreed_of_dict (Obj.data_mapDictKeys g3 _)),g2.mapDictKeys _,Obj.data_mapDictKeys g3 _,?_⟩
  .rw [o7 fn,Mw,Mf];refine ⟨nd,by simp,fun y hy z hz=>?_⟩;simp only [List.map_cons,List.map_nil,LF] at hz;subst hz;rintro rfl;obtain ⟨i,hi⟩:=Ni.mp hy;exact PV i hi
  .rw [o7 fn,Array.toList_push];exact Paired.snoc g4 ⟨rfl,rj,rv⟩
 .obtain ⟨x,hx,e1,e2⟩:=ux (s:=s) kr nd ky hi;refine Lm (MT (Lm (wpAny_updateDict (s:={ s with toks:=t }) g1 g3 (wpAny_point (q ep _ (ng (t':=t) (I.tok t) (by rw [e];exact True.intro) (Heap.SameBut.update ..) ⟨_,Mm _ g1 (Obj.isFreed_of_dict (Obj.data_mapDict g3 _))⟩ ?_) fun b o hb e=>(L4 _ _ (Ne.symm hb)).trans e)))));refine ⟨Qh,hd,?_,_,_,Mm _ g1 (Obj.isFreed_of_dict (Obj.data_mapDict g3 _)),g2.mapDict _,Obj.data_mapDict g3 _,?_⟩
  .rw [oO e2,Na];have:(xs.map ((fun x:Qq×V×V=>x.1)∘fun y=>if PyData.eqv y.1 k=true then (y.1,y.2.1,v) else y))=xs.map (·.1):=List.map_congr_left fun y _=>by show (if PyData.eqv y.1 k=true then (y.1,y.2.1,v) else y).1=y.1;split <;> rfl
   rw [this];exact nd
  .rw [oO e2,Array.toList_modify];exact se ky rv kr nd hi g4
theorem FU (hu:A.units+7 < cLine) (I:Inv X ti Y H s) (e:H a=some (.dD ep xs)) (kr:i8 s.heap xs) (hk:Reads s.heap u k as) (ky:PY k=true) (rj:RelV j u) (rv:RelV v r) (hl:xs.length < sizeLine)
  (q:∀ Qm s',Inv X ti Y (upd H a (.dD Qm (mZ xs k j v))) s'->Q () s'):wMX X.prog X.w A (setItem (.ref a) u r) Q E s:=by obtain ⟨T,hd⟩:=kW I e;unfold setItem;refine MG (Lm (wpAny_sequenceKey T (by decide) (Lm (M4 (name:=Str.ofString "__setitem__") T slot_dict_setitem (Nq slot_dict_setitem T entry_dict_setitem ?_ (args_dict_setitem _ _ _))))));refine Lm (m:=Builtin.Dict.notOrdered "__setitem__" ⟨[.ref a,u,r],[]⟩) (wpAny_notOrdered_dict T ?_);exact Lm (m:=dictSet a u r) (Hi (by have:A.in1.units=A.units+1:=rfl;lia) I e kr hk ky rj rv hl fun Qm s' I' _=>Lu ⟨.none,rfl,Lu (q Qm s' I')⟩)
end
section
variable {P:Program} {w:World} {A:Around} {E:Qy} {s:Qx} {it d:Qz} {o od:Obj} {es:Array DictEntry} {i ep:Nat}
theorem CV (hd:(d==sysModules)=false) (g1:s.heap.get? d=some od) (g2:od.ExactDict) (g3:od.data=.dict es ep)
  (q:Q (.ref s.heap.objs.size) { s with heap:=s.heap.push { cls:=.type "dict_keyiterator", data:=.fields #[.ref d,.int 0 0,.int es.size 0,.int ep 0] } }):wMX P w A (pyIter (.ref d)) Q E s:=by
 have T:s.TypeIs (.ref d) "dict" := ⟨od,g1,g2.1⟩;refine wpAny_pyIter_slot T F.slot_dict_iter (Nq F.slot_dict_iter T F.entry_dict_iter ?_ (F.args_dict_iter_1 _));unfold Builtin.«dict.__iter__» Builtin.Dict.dictSlotNone
 refine Lm (Lm (wpAny_notOrdered_dict T ?_));show wpAny _ _ (pure (Value.ref d):Sem Qj) _ _ s;refine Lu ?_;show wpAny _ _ (Builtin.Dict.showsAll d>>=_) _ _ s;unfold Builtin.Dict.showsAll;rw [Lw (by rw [hd];exact LU)];refine Lm (Lu (Lm (NA g1 g3 (Lm (M0 g1 g3 ?_)))));exact Lm (MJ (Lu ⟨_,rfl, "dict_keyiterator", _,⟨_,L0 _ rfl,rfl⟩,NN.lookup,q⟩))
theorem Fz (hit:s.heap.IsKeyIter it d i es.size ep) (g1:s.heap.get? d=some od) (g3:od.data=.dict es ep) (he:es[i]?=some e)
  (q:∀ h',h'.IsKeyIter it d (i+1) es.size ep->Heap.SameBut it s.heap h'->Q (some e.key) { s with heap:=h' }):wMX P w A (pyNext (.ref it)) Q E s:=by
 obtain ⟨ob,ho,hc,hd⟩:=id hit;have T:=hit.typeIs;unfold pyNext;refine Lm (wpAny_attempt (M4 (name:=Str.ofString "__next__") T NN (Nq NN T F.entry_dict_keyiterator_next ?_ (F.args_dict_keyiterator_next_1 _))));refine Lm (Lu (Lm (Lm ?_)));first | refine Lm (NJ T (Lu (Lm (wpAny_fieldsOf ho hd ?_)))) | refine Lm (NZ T (Lu (Lm (wpAny_fieldsOf ho hd ?_))))
 simp only [show Builtin.Dict_items.ownsTuple "dict_keyiterator" = false by decide,Nz,Nv];show wpAny _ _ (if (Value.ref d==Value.none)=true then _ else _) _ _ s;rw [Lw (show ¬((Value.ref d==Value.none)=true) from LU)];refine Lm (Lu (Lm (NA g1 g3 ?_)));rw [Lw (by simp)];refine Lm (Lu (Lm (M0 g1 g3 ?_)));rw [Lw (by simp)];refine Lu ?_;simp only [show ¬((i:Int) < 0) from by lia,Nv,Int.toNat_natCast,he];refine Lm ?_;first | refine Lm (NJ T (Lu (Lm (wpAny_isOneOf_keyiter T ?_)))) | refine Lm (NZ T (Lu (Lm (wpAny_isOneOf_keyiter T ?_))))
 show wpAny _ _ (setField (.ref it) 1 (rawInt ((i:Int)+1))>>=_) _ _ s;have VO:(s.heap.update it (Obj.mapFields (·.setIfInBounds 1 (rawInt ((i:Int)+1))))).IsKeyIter it d (i+1) es.size ep :=
  ⟨_,Mm _ ho (Obj.isFreed_of_fields (NU hd _)),(Obj.cls_mapFields ..).trans hc,by rw [NU hd];simp [rawInt]⟩
 refine Lm (NS ho hd (by simp) (Lm (MG ?_)));refine Lm (wpAny_isOneOf_keyiter (s:={ s with heap:=s.heap.update it (Obj.mapFields (·.setIfInBounds 1 (rawInt ((i:Int)+1)))) }) VO.typeIs ?_);show wpAny _ _ (pure e.key:Sem Qj) _ _ _;exact Lu (Lu ⟨_,rfl,Lu (q _ VO (Heap.SameBut.update ..))⟩)
theorem IU (hh:A.handled=none) (hit:s.heap.IsKeyIter it d i es.size ep) (g1:s.heap.get? d=some od) (g3:od.data=.dict es ep) (he:es.size<=i)
  (q:∀ h',Heap.ExtBut it s.heap h'->Q none { s with heap:=h' }):wMX P w A (pyNext (.ref it)) Q E s:=by
 obtain ⟨ob,ho,hc,hd⟩:=id hit;have T:=hit.typeIs;unfold pyNext;refine Lm (wpAny_attempt (M4 (name:=Str.ofString "__next__") T NN (Nq NN T F.entry_dict_keyiterator_next ?_ (F.args_dict_keyiterator_next_1 _))));refine Lm (Lu (Lm (Lm ?_)));first | refine Lm (NJ T (Lu (Lm (wpAny_fieldsOf ho hd ?_)))) | refine Lm (NZ T (Lu (Lm (wpAny_fieldsOf ho hd ?_))))
 simp only [show Builtin.Dict_items.ownsTuple "dict_keyiterator" = false by decide,Nz,Nv];show wpAny _ _ (if (Value.ref d==Value.none)=true then _ else _) _ _ s;rw [Lw (show ¬((Value.ref d==Value.none)=true) from LU)];refine Lm (Lu (Lm (NA g1 g3 ?_)));rw [Lw (by simp)];refine Lm (Lu (Lm (M0 g1 g3 ?_)));rw [Lw (by simp)];refine Lu ?_;simp only [show ¬((i:Int) < 0) from by lia,Nv,Int.toNat_natCast,Oe he];refine Lm ?_;first | refine Lm (NJ T (Lu ?_)) | refine Lm (NZ T (Lu ?_))
 show wpAny _ _ (setField (.ref it) 0 .none>>=_) _ _ s;refine Lm (NS ho hd (by simp) ?_);show wpAny _ _ (newExc (.type "StopIteration") []>>=_) _ _ _;refine Lm ?_;simp only [newExc,newTuple];refine Lm (MJ (Lm (m:=firstArgMember _ _) (wpAny_of_eq (a:=Value.none) (by first | rfl | (simp only [firstArgMember];rfl)) (MJ ?_ (by size_fits)))) (by size_fits));simp only [raiseNew];refine Lm (wpAny_handled ?_);rw [show A.in1.handled=none from hh];refine Lm (Lu (wpAny_throw ?_));refine Lm (wpAny_isInstance (b:=true) (T := "StopIteration") ⟨_,L0 _ rfl,rfl⟩ isSubtype_stop ?_);exact Lu (q _ (((Heap.SameBut.update ..).extBut.push _).push _))
end
section
variable {X:Cx} {ti:Qw} {Y:List (Option V)} {H:Hp} {s:Qx} {h':Heap}
theorem Inv.Jk {ch:List Qz} {p:Qz} {o:HO} (I:Inv X ti Y H s) (hc:∀ b∈ch,wA X ti H b) (hp:s.heap.objs.size<=p) (hs:∀ b u,b ∉ ch->s.heap.get? b=some u->h'.get? b=some u) (new:aI X.prog X.w (upd H p o) h' p o):Inv X ti Y (upd H p o) { s with heap:=h' }:=by
 have nH:H p=none:=I.IT.fresh hp;have nd:∀ b u,H b=some u->b≠p:=fun b u e z=>by rw [z,nH] at e;cases e
 have nc:∀ b u,H b=some u->b ∉ ch:=fun b u e z=>by rw [(hc b z).1] at e;cases e
 have np:∀ b u,s.heap.get? b=some u->b≠p:=fun b u e=>L9 (LQ (LM e) hp);refine I.step (t':=s.toks) (g':=s.gens) (d':=s.drawn) (ch:=ch) (fun b hb=>⟨(hc b hb).2.2.2.1,(hc b hb).2.1,(hc b hb).2.2.2.2.1,(hc b hb).2.2.2.2.2⟩) (fun b o _ _ hb e _=>hs b o hb e) (fun b o _ _ hb e _=>⟨o.slots,hs b o hb e⟩) (fun b u hb e n=>by rw [aj (np b u e)];exact n)
  (fun b o hb e=>⟨o,hs b o hb e⟩) (fun b xs e=>by rw [aj (nd b _ e)];exact e) (fun b o u e=>by rw [aj (nd b _ e)];exact e) (fun b ps e=>⟨#[],by rw [aj (nd b _ e),e];simp⟩) (fun m hm=>?_) (fun b u e=>?_) I.bare
 .obtain ⟨o,es,ep,ho,r⟩:=hm;exact ⟨o,es,ep,hs _ o (fun z=>(hc _ z).2.1 rfl) ho,r⟩
 .by_cases z:b=p
  .subst z;rw [ak] at e;cases e;exact new
  .rw [aj z] at e;refine (I.IT b u e).jf (fun c v OT q=>?_) (fun c q=>by rw [aj (nd c _ q)];exact q) fun c xs q=>by rw [aj (nd c _ q)];exact q
   rcases OT with rfl | OT
   .exact hs _ _ (nc _ _ e) q
   .exact hs _ _ (nc c _ OT) q
end
def Yq (K:Fg) (a:Qz) (xs:List V):It :=
 ⟨fun i H=>OO K H a xs/\i < xs.length,fun i H x H'=>∃ p u,H p=none/\x=.ref p/\xs[i]?=some u/\H'=upd H p (.tup [.int i,u]),fun i H=>OO K H a xs/\xs.length<=i⟩
theorem xq {P:Program} {w:World} {K:Fg} {elts:List Expr} {c:Nat} {pos:Pos} (a e it:Qz) (xs:List V) (ne:e≠it):Turn P w K (.Tuple elts c pos) (Yq K a xs) [e,it] e
  (fun i h=>(∃ old,IsEnum h e it i old)/\h.IsListIter it a i) where
 mem:=by simp
 obj:=fun i h st c hc=>by
  obtain ⟨⟨old,he⟩,⟨o1,e1,c1,d1⟩⟩:=st;simp only [LJ,List.not_mem_nil,M5] at hc;rcases hc with rfl | rfl
  .exact ⟨_,he,fun v z=>nomatch z⟩
  .exact ⟨o1,e1,fun v z=>by rw [d1] at z;cases z⟩
 keep:=fun i h h' st k=>by obtain ⟨⟨old,he⟩,h1⟩:=st;exact ⟨⟨old,k e (by simp) _ he⟩,h1.at fun o q=>k it (by simp) o q⟩
 item:=by
  intro X hP hw hK hc i ti s Y H E I hf st hg;subst hP hw hK;obtain ⟨⟨old,he⟩,h1⟩:=st;obtain ⟨q1,l1⟩:=hg;obtain ⟨its,r1,p1,_⟩:=I.list q1;have hx:=Lp l1;obtain ⟨u,hu,ru⟩:=r1.get hx;refine wpAny_pyNext_enum_item he h1 p1.isList (x:=u) (by simpa using hu) ne fun h' a1 a2 a3 a4 a5=>⟨_,rfl,?_⟩;refine wpAny_letOwnedTupleGo_enum a1 fun VP Py sb=>?_;have keep:∀ b o,b ∉ [e,it]->s.heap.get? b=some o->VP.get? b=some o:=fun b o hb q=>by simp only [LJ,List.not_mem_nil,M5,not_or] at hb;exact (sb.2 b hb.1).trans (a5 b o hb.1 hb.2 q)
  have nz:s.heap.objs.size≠e:=Nr (LM he);have gp:VP.get? s.heap.objs.size=_:=(sb.2 _ nz).trans a3;have In:Inv X ti Y (upd H s.heap.objs.size (.tup [.int i,xs[i]])) { s with heap:=VP }:=I.Jk hf (LA _) keep ⟨by rw [MF];exact Of rfl,[.int i s.toks,u],.cons ⟨_,rfl⟩ (.cons ru .nil),⟨_,gp,rfl,0,rfl⟩⟩;refine ⟨.ref s.heap.objs.size,_,In.tok _,rfl,⟨_,_,I.IT.fresh (LA _),rfl,hx,rfl⟩,⟨⟨u,Py⟩,a2.extBut sb.extBut (Ne.symm ne)⟩,fun b hb=>?_⟩;have:=hf b hb;rw [aj]
  .exact this.1
  .intro z';subst z';simp only [LJ,List.not_mem_nil,M5] at hb;rcases hb with hb | hb
   .exact nz hb
   .obtain ⟨_,q,_⟩:=h1;exact absurd hb (Nr (LM q))
 done:=by intro X hP hw hK hc i ti s Y H E I hf st hg;subst hP hw hK;obtain ⟨⟨old,he⟩,h1⟩:=st;obtain ⟨q1,l⟩:=hg;obtain ⟨its,r1,p1,_⟩:=I.list q1;obtain ⟨f0,f1,f2,f3,f4,f5⟩:=hf it (by simp);refine wpAny_pyNext_enum_end (I.ok.hd hc) he h1 p1.isList ?_ fun h' k=>⟨rfl,I.turned (t':=s.toks) (fun b o hb q=>k b o hb q) f0 f1 f3 f4 f5⟩;exact Oe (by rw [LK,<-r1.length];exact l)
 self:=fun A i s Q E st h=>by obtain ⟨⟨old,he⟩,_⟩:=st;exact wpAny_pyIter_enum he h
def He (K:Fg) (t:TA):TI:=fun Y H R=>t Y H fun vs H1=>∃ a xs,vs=[.ref a]/\OO K H1 a xs/\R (Yq K a xs) H1
theorem Es {X:Cx} {elts:List Expr} {c:Nat} {pt p pos:Pos} {ea:Expr} {t:TE} (hg:Gl X "enumerate") (hm:X.mg "enumerate" = none) (ha:PE X ea t)
  (hs:starEach [ea] X.env=(false,eval ea X.env) :: starEach [] X.env):PI X (.Tuple elts c pt) (.Call (.Name "enumerate" p) [ea] [] pos) (He X.K (aL t dX)):=by
 intro ti s Y H R I h;refine MQ (jV I hg hm boot_enumerate ?_ (by decide) (by decide));refine PyProof.Rows.callWith_type1 (Oq ((eM ha jy hs) pos ti s Y H _ I h) fun us s1 ⟨vs,H1,I1,r1,a,xs,ev,q1,q⟩=>?_) hs rfl;subst ev;cases r1 with
 | cons ra r1 =>
 cases r1;have ra:_=Value.ref a:=ra;subst ra;obtain ⟨its,v1,p1,_⟩:=I1.list q1;refine call_enumerate_list p1.isList fun h' he hi Pn hk=>?_;refine wpAny_pyIter_enum he ⟨s1.heap.objs.size+1,[s1.heap.objs.size+1,s1.heap.objs.size],_,_,H1,rfl,I1.kept (t':=s1.toks) hk,xq a _ _ xs (Nr (MH _)),⟨⟨_,he⟩,hi⟩,fun c hc=>?_,q⟩;have hb:s1.heap.objs.size<=c:=by
  simp only [LJ,List.not_mem_nil,M5] at hc;rcases hc with rfl | rfl
  .exact Nat.le_add_right _ _
  .exact LA _
 exact I1.Cu hb (I1.IT.fresh hb)
end L2
namespace L2
open PySem
def Li (K:Fg) (a:Qz) (xs:List V):Prop:=∃ (o:Obj) (its:Array Qj) (n:Nat),K.lookup a=some o/\o.cls=.type "list" /\ o.dict=none/\o.data=.seq its n/\its.size<=sizeLine/\Vals xs its.toList
def Sh (K:Fg) (F:Zq) (H:Hp) (a:Qz) (xs:List V):Prop:=(¬F a/\Rd H a (.lst xs))\/Li K a xs
mutual
def Dm (K:Fg) (F:Zq) (H:Hp):Qq->V->Prop
 | .none,v=>v=.non
 | .bool b,v=>v=.bl b
 | .int i,v=>v=.int i
 | .str x,v=>v=.str x/\x.length<=sizeLine/\PyData.strOk x=true
 | .list ds,v=>∃ a xs,v=.ref a/\Sh K F H a xs/\xs.length<=sizeLine/\Ot K F H ds xs
 | .tuple ds,v=>∃ a xs,v=.ref a/\OU K H a xs/\xs.length<=sizeLine/\Ot K F H ds xs
 | .dict kvs,v=>∃ a ep xs,v=.ref a/\¬F a/\H a=some (.dD ep xs)/\xs.length<=sizeLine/\ON K F H kvs xs
def Ot (K:Fg) (F:Zq) (H:Hp):List Qq->List V->Prop
 | [],vs=>vs=[]
 | d :: ds,vs=>∃ v r,vs=v :: r/\Dm K F H d v/\Ot K F H ds r
def ON (K:Fg) (F:Zq) (H:Hp):List (Qq×Qq)->List (Qq×V×V)->Prop
 | [],vs=>vs=[]
 | (k,d) :: ds,vs=>∃ j v r,vs=(k,j,v) :: r/\QY k=true/\Dm K F H k j/\Dm K F H d v/\ON K F H ds r
end
noncomputable def Wr:HO->Bool | .lst _=>true | .dD _ _=>true | _=>false
def Pr (F:Zq) (H H':Hp):Prop:=∀ b o,H b=some o->(¬F b\/Wr o=false)->H' b=some o
section
variable {K:PySem.W.Frag} {F F':Zq} {H H':Hp}
theorem OU.pr (p:Pr F H H') (h:OU K H a xs):OU K H' a xs:=by
 rcases h with (h | ⟨o,h⟩) | h
 .exact .inl (.inl (p _ _ h (.inr rfl)))
 .exact .inl (.inr ⟨o,p _ _ h (.inr rfl)⟩)
 .exact .inr h
theorem Sh.pr (p:Pr F H H') (hf:∀ b,F' b->F b) (h:Sh K F H a xs):Sh K F' H' a xs:=by
 rcases h with ⟨n,h | ⟨o,h⟩⟩ | h
 .exact .inl ⟨fun z=>n (hf _ z),.inl (p _ _ h (.inl n))⟩
 .exact .inl ⟨fun z=>n (hf _ z),.inr ⟨o,p _ _ h (.inl n)⟩⟩
 .exact .inr h
mutual
theorem Dm.pr (p:Pr F H H') (hf:∀ b,F' b->F b):∀ {d:Qq} {v:V},Dm K F H d v->Dm K F' H' d v
 | .none,v,h=>h
 | .bool b,v,h=>h
 | .int i,v,h=>h
 | .str x,v,h=>h
 | .list ds,v,h=>by obtain ⟨a,xs,e,l,z,r⟩:=h;exact ⟨a,xs,e,l.pr p hf,z,Ot.pr p hf r⟩
 | .tuple ds,v,h=>by obtain ⟨a,xs,e,l,z,r⟩:=h;exact ⟨a,xs,e,l.pr p,z,Ot.pr p hf r⟩
 | .dict kvs,v,h=>by obtain ⟨a,ep,xs,e,n,l,z,r⟩:=h;exact ⟨a,ep,xs,e,fun q=>n (hf _ q),p _ _ l (.inl n),z,ON.pr p hf r⟩
theorem Ot.pr (p:Pr F H H') (hf:∀ b,F' b->F b):∀ {ds:List Qq} {vs:List V},Ot K F H ds vs->Ot K F' H' ds vs
 | [],vs,h=>h
 | d :: ds,vs,h=>by obtain ⟨v,r,e,h1,h2⟩:=h;exact ⟨v,r,e,Dm.pr p hf h1,Ot.pr p hf h2⟩
theorem ON.pr (p:Pr F H H') (hf:∀ b,F' b->F b):∀ {ds:List (Qq×Qq)} {vs:List (Qq×V×V)},ON K F H ds vs->ON K F' H' ds vs
 | [],vs,h=>h
 | (k,d) :: ds,vs,h=>by obtain ⟨j,v,r,e,e2,h0,h1,h2⟩:=h;exact ⟨j,v,r,e,e2,Dm.pr p hf h0,Dm.pr p hf h1,ON.pr p hf h2⟩
end
theorem Sh.fresh (hc:H c=none) (h:Sh K F H a xs):Sh K (fun b=>F b\/b=c) H a xs:=by
 rcases h with ⟨n,h⟩ | h
 .refine .inl ⟨fun z=>z.elim n fun e=>?_,h⟩;subst e;rcases h with h | ⟨o,h⟩ <;> (rw [hc] at h;cases h)
 .exact .inr h
mutual
theorem Dm.fresh (hc:H c=none):∀ {d:Qq} {v:V},Dm K F H d v->Dm K (fun b=>F b\/b=c) H d v
 | .none,v,h=>h
 | .bool b,v,h=>h
 | .int i,v,h=>h
 | .str x,v,h=>h
 | .list ds,v,h=>by obtain ⟨a,xs,e,l,z,r⟩:=h;exact ⟨a,xs,e,l.fresh hc,z,Ot.fresh hc r⟩
 | .tuple ds,v,h=>by obtain ⟨a,xs,e,l,z,r⟩:=h;exact ⟨a,xs,e,l,z,Ot.fresh hc r⟩
 | .dict kvs,v,h=>by obtain ⟨a,ep,xs,e,n,l,z,r⟩:=h;exact ⟨a,ep,xs,e,fun q=>q.elim n fun q=>(by subst q;rw [hc] at l;cases l),l,z,ON.fresh hc r⟩
theorem Ot.fresh (hc:H c=none):∀ {ds:List Qq} {vs:List V},Ot K F H ds vs->Ot K (fun b=>F b\/b=c) H ds vs
 | [],vs,h=>h
 | d :: ds,vs,h=>by obtain ⟨v,r,e,h1,h2⟩:=h;exact ⟨v,r,e,Dm.fresh hc h1,Ot.fresh hc h2⟩
theorem ON.fresh (hc:H c=none):∀ {ds:List (Qq×Qq)} {vs:List (Qq×V×V)},ON K F H ds vs->ON K (fun b=>F b\/b=c) H ds vs
 | [],vs,h=>h
 | (k,d) :: ds,vs,h=>by obtain ⟨j,v,r,e,e2,h0,h1,h2⟩:=h;exact ⟨j,v,r,e,e2,Dm.fresh hc h0,Dm.fresh hc h1,ON.fresh hc h2⟩
end
theorem Pr.refl:Pr F H H:=fun _ _ h _=>h
theorem Pr.trans (a:Pr F H H1) (b:Pr F' H1 H2) (hf:∀ b,F' b->F b):Pr F H H2:=fun c o h n=>b c o (a c o h n) (n.imp (fun z q=>z (hf _ q)) id)
theorem Pr.of_same (a:ax H H'):Pr F H H':=fun c o h _=>a c o h
theorem Dm.mono (hf:∀ b,F' b->F b) (h:Dm K F H d v):Dm K F' H d v:=h.pr Pr.refl hf
theorem Ot.mono (hf:∀ b,F' b->F b) (h:Ot K F H d v):Ot K F' H d v:=h.pr Pr.refl hf
theorem Ot.len:∀ {ds:List Qq} {vs:List V},Ot K F H ds vs->vs.length=ds.length
 | [],vs,h=>by rw [show vs=[] from h];rfl
 | d :: ds,vs,h=>by obtain ⟨v,r,e,h1,h2⟩:=h;rw [e,LN,LN,Ot.len h2]
theorem Ot.get:∀ {ds:List Qq} {vs:List V} {i:Nat} {d:Qq},Ot K F H ds vs->ds[i]?=some d->∃ v,vs[i]?=some v/\Dm K F H d v
 | [],vs,_,_,h,e=>by simp at e
 | d :: ds,vs,0,d',h,e=>by obtain ⟨v,r,e1,h1,h2⟩:=h;simp at e;subst e;subst e1;exact ⟨v,rfl,h1⟩
 | d :: ds,vs,i+1,d',h,e=>by obtain ⟨v,r,e1,h1,h2⟩:=h;subst e1;obtain ⟨w,q1,q2⟩:=Ot.get (i:=i) h2 (by simpa using e);exact ⟨w,by simpa using q1,q2⟩
theorem Ot.get' {ds:List Qq} {vs:List V} {i:Nat} {v:V} (h:Ot K F H ds vs) (e:vs[i]?=some v):∃ d,ds[i]?=some d/\Dm K F H d v:=by have hl:=h.len;have hi:i < vs.length:=(Ls.mp e).1;have hd:ds[i]?=some (ds[i]'(by lia)):=Lp _;obtain ⟨w,e2,q⟩:=h.get hd;rw [e] at e2;cases e2;exact ⟨_,hd,q⟩
theorem Ot.app:∀ {ds es:List Qq} {vs ws:List V},Ot K F H ds vs->Ot K F H es ws->Ot K F H (ds++es) (vs++ws)
 | [],es,vs,ws,h,q=>by rw [show vs=[] from h];exact q
 | d :: ds,es,vs,ws,h,q=>by obtain ⟨v,r,e,h1,h2⟩:=h;subst e;exact ⟨v,r++ws,rfl,h1,Ot.app h2 q⟩
theorem Ot.snoc (h:Ot K F H ds vs) (q:Dm K F H d v):Ot K F H (ds++[d]) (vs++[v]):=h.app ⟨v,[],rfl,q,rfl⟩
def Top (K:PySem.W.Frag) (F:Zq) (H:Hp):Qq->Zq
 | .list ds,a=>∃ xs,H a=some (.lst xs)/\xs.length<=sizeLine/\Ot K F H ds xs
 | .dict kvs,a=>∃ ep xs,H a=some (.dD ep xs)/\xs.length<=sizeLine/\ON K F H kvs xs
 | _,_=>False
def vG (K:PySem.W.Frag) (F:Zq) (H:Hp):Qq->Zq
 | .list ds,a=>∃ xs,OO K H a xs/\xs.length<=sizeLine/\Ot K F H ds xs
 | .dict kvs,a=>∃ ep xs,H a=some (.dD ep xs)/\xs.length<=sizeLine/\ON K F H kvs xs
 | _,_=>False
def Vw (K:PySem.W.Frag) (F:Zq) (H:Hp):Qq->V->Prop
 | .list ds,v=>∃ a,v=.ref a/\vG K F H (.list ds) a
 | .dict ds,v=>∃ a,v=.ref a/\vG K F H (.dict ds) a
 | d,v=>Dm K F H d v
theorem Top.r (h:Top K F H d a):vG K F H d a:=by
 cases d with
 | list ds=>obtain ⟨xs,e,z,r⟩:=h;exact ⟨xs,.inl (.inl e),z,r⟩
 | dict ds=>exact h
 | _=>exact h
theorem vG.vw (h:vG K F H d a):Vw K F H d (.ref a):=by
 cases d with
 | list ds=>exact ⟨a,rfl,h⟩
 | dict ds=>exact ⟨a,rfl,h⟩
 | _=>exact absurd h id
theorem Dm.vw (h:Dm K F H d v):Vw K F H d v:=by
 cases d with
 | list ds =>
  obtain ⟨a,xs,e,l,z,r⟩:=h;refine ⟨a,e,xs,?_,z,r⟩;rcases l with ⟨n,l⟩ | l
  .exact .inl l
  .exact .inr l
 | dict ds=>obtain ⟨a,ep,xs,e,n,l,z,r⟩:=h;exact ⟨a,e,ep,xs,l,z,r⟩
 | _=>exact h
theorem Top.dm (h:Top K F H d a) (n:¬F a):Dm K F H d (.ref a):=by
 cases d with
 | list ds=>obtain ⟨xs,e,z,r⟩:=h;exact ⟨a,xs,rfl,.inl ⟨n,.inl e⟩,z,r⟩
 | dict ds=>obtain ⟨ep,xs,e,z,r⟩:=h;exact ⟨a,ep,xs,rfl,n,e,z,r⟩
 | _=>exact absurd h id
theorem Top.wr (h:Top K F H d a):∃ o,H a=some o/\Wr o=true:=by
 cases d with
 | list ds=>obtain ⟨xs,e,_⟩:=h;exact ⟨_,e,rfl⟩
 | dict ds=>obtain ⟨ep,xs,e,_⟩:=h;exact ⟨_,e,rfl⟩
 | _=>exact absurd h id
theorem Top.pr (h:Top K F H d a) (p:Pr F H H') (hf:∀ b,F' b->F b) (ha:∀ o,H a=some o->H' a=some o):Top K F' H' d a:=by
 cases d with
 | list ds=>obtain ⟨xs,e,z,r⟩:=h;exact ⟨xs,ha _ e,z,r.pr p hf⟩
 | dict ds=>obtain ⟨ep,xs,e,z,r⟩:=h;exact ⟨ep,xs,ha _ e,z,r.pr p hf⟩
 | _=>exact absurd h id
theorem vG.pr (h:vG K F H d a) (p:Pr F H H') (hf:∀ b,F' b->F b) (ha:∀ o,H a=some o->H' a=some o):vG K F' H' d a:=by
 cases d with
 | list ds =>
  obtain ⟨xs,e,z,r⟩:=h;refine ⟨xs,?_,z,r.pr p hf⟩;rcases e with (e | ⟨o,e⟩) | e
  .exact .inl (.inl (ha _ e))
  .exact .inl (.inr ⟨o,ha _ e⟩)
  .exact .inr e
 | dict ds=>obtain ⟨ep,xs,e,z,r⟩:=h;exact ⟨ep,xs,ha _ e,z,r.pr p hf⟩
 | _=>exact absurd h id
theorem Top.fresh (hc:H c=none) (h:Top K F H d a):Top K (fun b=>F b\/b=c) H d a:=by
 cases d with
 | list ds=>obtain ⟨xs,e,z,r⟩:=h;exact ⟨xs,e,z,r.fresh hc⟩
 | dict ds=>obtain ⟨ep,xs,e,z,r⟩:=h;exact ⟨ep,xs,e,z,r.fresh hc⟩
 | _=>exact absurd h id
end
def Ki (K:Fg) (tl:TE):TI:=fun Y H R=>wG K tl Y H R\/Gf K tl Y H R
inductive Sl where | un | dat (d:Qq) | own (d:Qq) | GG (d:Qq) | ro (d:Qq)
abbrev En:=List Sl
inductive RV where | dat (d:Qq) | bor (i:Nat) | Oj (d:Qq)
inductive PR where | dat (d:Qq) | Oj (d:Qq)
inductive AV where | dat (d:Qq) | bor (i:Nat)
inductive PM where | dat | bor | GG
def PR.rv:PR->RV | .dat d=>.dat d | .Oj d=>.Oj d
def RV.av:RV->AV | .dat d=>.dat d | .Oj d=>.dat d | .bor i=>.bor i
structure Fn where
 ms:List PM
 F:List Qq->Option (PR×List Qq)
noncomputable def cont (env:En) (i:Nat):Option Qq:=match env[i]? with | some (.own d)=>some d | some (.GG d)=>some d | some (.ro d)=>some d | _=>none
noncomputable def aP (env:En) (i:Nat):Option Qq:=match env[i]? with | some (.own d)=>some d | some (.GG d)=>some d | _=>none
noncomputable def gO (env:En) (i:Nat) (d:Qq):En:=match env[i]? with | some (.own _)=>env.set i (.own d) | some (.GG _)=>env.set i (.GG d) | _=>env
def AV.view (env:En):AV->Option Qq | .dat d=>some d | .bor i=>cont env i
def RV.view (env:En) (r:RV):Option Qq:=r.av.view env
def mu (env:En) (i:Nat):Prop:=∃ d,env[i]?=some (.own d)\/env[i]?=some (.GG d)
def IA (env:En) (Y:St) (b:Qz):Prop:=∃ i,mu env i/\Y[i]?=some (some (.ref b))
def FF (F0:Zq) (env:En) (Y:St) (b:Qz):Prop:=F0 b\/∃ (i:Nat) (d:Qq),env[i]?=some (.own d)/\Y[i]?=some (some (.ref b))
def iq (K:Fg) (F I:Zq) (H:Hp):Qq->Zq
 | .list ds,a=>∃ xs,Sh K I H a xs/\xs.length<=sizeLine/\Ot K F H ds xs
 | .dict kvs,a=>∃ ep xs,¬I a/\H a=some (.dD ep xs)/\xs.length<=sizeLine/\ON K F H kvs xs
 | _,_=>False
structure Rel (K:Fg) (F0:Zq) (ZO:Hp) (I:Zq) (env:En) (Y:St) (H:Hp):Prop where
 len:env.length=Y.length
 dat:∀ (i:Nat) (d:Qq),env[i]?=some (.dat d)->∃ v,Y[i]?=some (some v)/\Dm K (FF F0 env Y) H d v
 own:∀ (i:Nat) (d:Qq),env[i]?=some (.own d)->∃ a,Y[i]?=some (some (.ref a))/\¬F0 a/\(ZO a=none\/I a)/\Top K (FF F0 env Y) H d a
 GG:∀ (i:Nat) (d:Qq),env[i]?=some (.GG d)->∃ a,Y[i]?=some (some (.ref a))/\F0 a/\I a/\Top K (FF F0 env Y) H d a
 ro:∀ (i:Nat) (d:Qq),env[i]?=some (.ro d)->∃ a,Y[i]?=some (some (.ref a))/\iq K (FF F0 env Y) (IA env Y) H d a
 sep:∀ i j a,mu env i->mu env j->Y[i]?=some (some (.ref a))->Y[j]?=some (some (.ref a))->i=j
 dom:∀ b,F0 b->H b≠none
 fg:∀ b o,ZO b=some o->¬I b->H b=some o
section
variable {K:Fg} {F F' I I' F0:Zq} {H H' ZO:Hp} {env tR:En} {Y Z':St}
theorem iq.r (h:iq K F I H d a):vG K F H d a:=by
 cases d with
 | list ds =>
  obtain ⟨xs,l,z,r⟩:=h;exact ⟨xs,l.elim (fun q=>.inl q.2) .inr,z,r⟩
 | dict ds=>obtain ⟨ep,xs,n,l,z,r⟩:=h;exact ⟨ep,xs,l,z,r⟩
 | _=>exact absurd h id
theorem iq.pr (h:iq K F I H d a) (p:Pr F H H') (hf:∀ b,F' b->F b) (hi:∀ b,I' b->I b) (k:∀ b o,H b=some o->¬I b->H' b=some o):iq K F' I' H' d a:=by
 cases d with
 | list ds =>
  obtain ⟨xs,l,z,r⟩:=h;refine ⟨xs,?_,z,r.pr p hf⟩;rcases l with ⟨n,l | ⟨o,l⟩⟩ | l
  .exact .inl ⟨fun q=>n (hi _ q),.inl (k _ _ l n)⟩
  .exact .inl ⟨fun q=>n (hi _ q),.inr ⟨o,k _ _ l n⟩⟩
  .exact .inr l
 | dict ds=>obtain ⟨ep,xs,n,l,z,r⟩:=h;exact ⟨ep,xs,fun q=>n (hi _ q),k _ _ l n,z,r.pr p hf⟩
 | _=>exact absurd h id
theorem iq.fresh (hc:H c=none) (h:iq K F I H d a):iq K (fun b=>F b\/b=c) I H d a:=by
 cases d with
 | list ds=>obtain ⟨xs,e,z,r⟩:=h;exact ⟨xs,e,z,r.fresh hc⟩
 | dict ds=>obtain ⟨ep,xs,n,e,z,r⟩:=h;exact ⟨ep,xs,n,e,z,r.fresh hc⟩
 | _=>exact absurd h id
theorem Dm.ro (h:Dm K F H d v) (hi:∀ b,I b->F b) (l:(∃ ds,d=.list ds)\/∃ ds,d=.dict ds):∃ a,v=.ref a/\iq K F I H d a:=by
 rcases l with ⟨ds,rfl⟩ | ⟨ds,rfl⟩
 .obtain ⟨a,xs,e,l,z,r⟩:=h;exact ⟨a,e,xs,l.elim (fun q=>.inl ⟨fun z=>q.1 (hi _ z),q.2⟩) .inr,z,r⟩
 .obtain ⟨a,ep,xs,e,n,l,z,r⟩:=h;exact ⟨a,e,ep,xs,fun q=>n (hi _ q),l,z,r⟩
theorem Top.ro (h:Top K F H d a) (n:¬I a):iq K F I H d a:=by
 cases d with
 | list ds=>obtain ⟨xs,e,z,r⟩:=h;exact ⟨xs,.inl ⟨n,.inl e⟩,z,r⟩
 | dict ds=>obtain ⟨ep,xs,e,z,r⟩:=h;exact ⟨ep,xs,n,e,z,r⟩
 | _=>exact absurd h id
theorem Rel.ia (R:Rel K F0 ZO I env Y H) (h:IA env Y b):FF F0 env Y b:=by
 obtain ⟨i,⟨d,e | e⟩,s⟩:=h
 .exact .inr ⟨i,d,e,s⟩
 .obtain ⟨a,s',f,_⟩:=R.GG i d e;rw [s] at s';cases s';exact .inl f
theorem Rel.UZ (R:Rel K F0 ZO I env Y H) (h:IA env Y b):∃ o,H b=some o/\Wr o=true:=by
 obtain ⟨i,⟨d,e | e⟩,s⟩:=h
 .obtain ⟨a,s',_,_,t⟩:=R.own i d e;rw [s] at s';cases s';exact t.wr
 .obtain ⟨a,s',_,_,t⟩:=R.GG i d e;rw [s] at s';cases s';exact t.wr
theorem Rel.Yr (R:Rel K F0 ZO I env Y H) (h:IA env Y b):ZO b=none\/I b:=by
 obtain ⟨i,⟨d,e | e⟩,s⟩:=h
 .obtain ⟨a,s',_,q,t⟩:=R.own i d e;rw [s] at s';cases s';exact q
 .obtain ⟨a,s',_,q,t⟩:=R.GG i d e;rw [s] at s';cases s';exact .inr q
theorem Rel.fC (R:Rel K F0 ZO I env Y H) (h:FF F0 env Y b):H b≠none:=by
 rcases h with h | ⟨i,d,e,s⟩
 .exact R.dom b h
 .obtain ⟨o,q,_⟩:=R.UZ ⟨i,⟨d,.inl e⟩,s⟩;rw [q];exact nofun
theorem Rel.q0 (R:Rel K F0 ZO I env Y H) (k:∀ b o,H b=some o->¬IA env Y b->H' b=some o):Pr (FF F0 env Y) H H':=fun b o h n=>k b o h fun q=>by
 rcases n with n | n
 .exact n (R.ia q)
 .obtain ⟨o',h',w⟩:=R.UZ q;rw [h] at h';cases h';rw [n] at w;cases w
theorem Rel.rebase (R:Rel K F0 ZO I env Y H):Rel K F0 H (IA env Y) env Y H :=
 ⟨R.len,R.dat,fun i d e=>let ⟨a,s,n,_,t⟩:=R.own i d e;⟨a,s,n,.inr ⟨i,⟨d,.inl e⟩,s⟩,t⟩,fun i d e=>let ⟨a,s,n,_,t⟩:=R.GG i d e;⟨a,s,n,⟨i,⟨d,.inr e⟩,s⟩,t⟩,R.ro,R.sep,R.dom,fun _ _ h _=>h⟩
theorem Rel.oi (R:Rel K F0 ZO I env Y H) (h:H a=none\/IA env Y a):ZO a=none\/I a:=by
 rcases h with h | h
 .cases e:ZO a with
  | none=>exact .inl rfl
  | some o =>
   by_cases z:I a
   .exact .inr z
   .have:=R.fg a o e z;rw [h] at this;cases this
 .exact R.Yr h
theorem Rel.bj (R:Rel K F0 ZO I env Y H) (S:Rel K F0 H (IA env Y) tR Z' H'):Rel K F0 ZO I tR Z' H':=by
 refine ⟨S.len,S.dat,fun i d e=>?_,fun i d e=>?_,S.ro,S.sep,S.dom,fun b o h n=>?_⟩
 .obtain ⟨a,s,n,q,t⟩:=S.own i d e;exact ⟨a,s,n,R.oi q,t⟩
 .obtain ⟨a,s,n,q,t⟩:=S.GG i d e;refine ⟨a,s,n,?_,t⟩;obtain ⟨j,⟨d',e' | e'⟩,s'⟩:=q
  .obtain ⟨a',s2,n',_⟩:=R.own j d' e';rw [s'] at s2;cases s2;exact absurd n n'
  .obtain ⟨a',s2,_,n',_⟩:=R.GG j d' e';rw [s'] at s2;cases s2;exact n'
 .refine S.fg b o (R.fg b o h n) fun q=>?_;rcases R.Yr q with z | z
  .rw [h] at z;cases z
  .exact n z
def Te:Sl->Sl->Prop
 | .un,s=>s=.un
 | .dat d,s=>s=.dat d
 | .own _,s=>(∃ d,s=.own d)\/(∃ d,s=.dat d)\/s=.un
 | .GG _,s=>∃ d,s=.GG d
 | .ro d,s=>s=.ro d
def OD (env tR:En):Prop:=tR.length=env.length/\∀ (i:Nat) (s:Sl),env[i]?=some s->∃ s',tR[i]?=some s'/\Te s s'
theorem Te.refl:∀ s,Te s s
 | .un=>rfl
 | .dat _=>rfl
 | .own d=>.inl ⟨d,rfl⟩
 | .GG d=>⟨d,rfl⟩
 | .ro _=>rfl
theorem Te.trans:∀ {a b c:Sl},Te a b->Te b c->Te a c
 | .un,b,c,h,q=>by rw [show b=.un from h] at q;exact q
 | .dat d,b,c,h,q=>by rw [show b=.dat d from h] at q;exact q
 | .own d,b,c,h,q=>by
  rcases h with ⟨d,rfl⟩ | ⟨d,rfl⟩ | rfl
  .exact q
  .exact .inr (.inl ⟨d,q⟩)
  .exact .inr (.inr q)
 | .GG d,b,c,h,q=>by obtain ⟨d,rfl⟩:=h;exact q
 | .ro d,b,c,h,q=>by rw [show b=.ro d from h] at q;exact q
theorem OD.refl (env:En):OD env env:=⟨rfl,fun i s e=>⟨s,e,.refl s⟩⟩
theorem OD.trans (a:OD e1 e2) (b:OD e2 e3):OD e1 e3:=⟨b.1.trans a.1,fun i s e=>by
 obtain ⟨s1,h1,v1⟩:=a.2 i s e;obtain ⟨s2,h2,v2⟩:=b.2 i s1 h1
 exact ⟨s2,h2,v1.trans v2⟩⟩
theorem OD.back (k:OD env tR) {i:Nat} {s':Sl} (e:tR[i]?=some s'):∃ s,env[i]?=some s/\Te s s':=by have hi:i < tR.length:=(Ls.mp e).1;have:env[i]?=some (env[i]'(by rw [<- k.1];exact hi)):=Lp _;obtain ⟨s2,h2,v⟩:=k.2 i _ this;rw [e] at h2;cases h2;exact ⟨_,this,v⟩
theorem OD.own (k:OD env tR) {i:Nat} {d:Qq} (e:tR[i]?=some (.own d)):∃ d',env[i]?=some (.own d'):=by
 obtain ⟨s,h,v⟩:=k.back e;cases s with
 | un=>cases v
 | dat _=>cases v
 | own d'=>exact ⟨d',h⟩
 | GG _=>obtain ⟨_,v⟩:=v;cases v
 | ro _=>cases v
theorem OD.ff (k:OD env tR) {b:Qz} (h:FF F0 tR Y b):FF F0 env Y b:=by
 rcases h with h | ⟨i,d,e,s⟩
 .exact .inl h
 .obtain ⟨d',e'⟩:=k.own e;exact .inr ⟨i,d',e',s⟩
theorem OD.mu (k:OD env tR) {i:Nat} (h:mu tR i):mu env i:=by
 obtain ⟨d,h | h⟩:=h
 .obtain ⟨d',e⟩:=k.own h;exact ⟨d',.inl e⟩
 .obtain ⟨s,h,v⟩:=k.back h;cases s with
  | un=>cases v
  | dat _=>cases v
  | own d'=>rcases v with ⟨_,v⟩ | ⟨_,v⟩ | v <;> cases v
  | GG d'=>exact ⟨d',.inr h⟩
  | ro _=>cases v
theorem OD.ia (k:OD env tR) (h:IA tR Y b):IA env Y b:=let ⟨i,m,s⟩:=h;⟨i,k.mu m,s⟩
theorem Rel.oQ (R:Rel K F0 ZO I env Y H) (S:Rel K F0 H (IA env Y) tR Y H') (k:OD env tR) (h:Dm K (FF F0 env Y) H d v):Dm K (FF F0 tR Y) H' d v :=
 h.pr (R.q0 fun b o e n=>S.fg b o e n) fun _ z=>k.ff z
theorem Rel.same (R:Rel K F0 ZO I env Y H) (s:ax H H'):Rel K F0 ZO I env Y H':=by
 have p:Pr (FF F0 env Y) H H':=Pr.of_same s;refine ⟨R.len,fun i d e=>?_,fun i d e=>?_,fun i d e=>?_,fun i d e=>?_,R.sep,fun b h=>?_,fun b o h n=>s _ _ (R.fg b o h n)⟩
 .obtain ⟨v,q,r⟩:=R.dat i d e;exact ⟨v,q,r.pr p fun _ z=>z⟩
 .obtain ⟨a,q,n,w,t⟩:=R.own i d e;exact ⟨a,q,n,w,t.pr p (fun _ z=>z) (fun o z=>s _ _ z)⟩
 .obtain ⟨a,q,n,w,t⟩:=R.GG i d e;exact ⟨a,q,n,w,t.pr p (fun _ z=>z) (fun o z=>s _ _ z)⟩
 .obtain ⟨a,q,t⟩:=R.ro i d e;exact ⟨a,q,t.pr p (fun _ z=>z) (fun _ z=>z) (fun b o z _=>s _ _ z)⟩
 .cases e:H b with
  | none=>exact absurd e (R.dom b h)
  | some o=>rw [s _ _ e];exact nofun
theorem iZ:FF (fun b=>F0 b\/b=c) env Y=fun b=>FF F0 env Y b\/b=c:=by
 funext b;apply propext;constructor
 .rintro ((h | h) | h)
  .exact .inl (.inl h)
  .exact .inr h
  .exact .inl (.inr h)
 .rintro ((h | h) | h)
  .exact .inl (.inl h)
  .exact .inr h
  .exact .inl (.inr h)
theorem Rel.fresh (R:Rel K F0 ZO I env Y H) (hc:H c=none) (s:ax H H') (OT:H' c≠none):Rel K (fun b=>F0 b\/b=c) ZO I env Y H':=by
 have p:Pr (fun b=>FF F0 env Y b\/b=c) H H':=Pr.of_same s;have na:∀ i a,mu env i->Y[i]?=some (some (.ref a))->a≠c:=fun i a m q z=>by obtain ⟨o,h,_⟩:=R.UZ ⟨i,m,q⟩;rw [z,hc] at h;cases h
 refine ⟨R.len,fun i d e=>?_,fun i d e=>?_,fun i d e=>?_,fun i d e=>?_,R.sep,fun b h=>?_,fun b o h n=>s _ _ (R.fg b o h n)⟩
 .obtain ⟨v,q,r⟩:=R.dat i d e;rw [iZ];exact ⟨v,q,(r.fresh hc).pr p fun _ z=>z⟩
 .obtain ⟨a,q,n,w,t⟩:=R.own i d e;rw [iZ];exact ⟨a,q,fun z=>z.elim n (na i a ⟨d,.inl e⟩ q),w,(t.fresh hc).pr p (fun _ z=>z) (fun o z=>s _ _ z)⟩
 .obtain ⟨a,q,n,w,t⟩:=R.GG i d e;rw [iZ];exact ⟨a,q,.inl n,w,(t.fresh hc).pr p (fun _ z=>z) (fun o z=>s _ _ z)⟩
 .obtain ⟨a,q,t⟩:=R.ro i d e;rw [iZ];exact ⟨a,q,(t.fresh hc).pr p (fun _ z=>z) (fun _ z=>z) (fun b o z _=>s _ _ z)⟩
 .rcases h with h | h
  .cases e:H b with
   | none=>exact absurd e (R.dom b h)
   | some o=>rw [s _ _ e];exact nofun
  .rw [h];exact OT
theorem Rel.less (R:Rel K (fun b=>F0 b\/b=c) ZO I env Y H) (hi:∀ (i:Nat) (d:Qq),env[i]?=some (.GG d)->Y[i]?≠some (some (.ref c))):Rel K F0 ZO I env Y H:=by
 have hf:∀ b,FF F0 env Y b->FF (fun b=>F0 b\/b=c) env Y b:=fun b z=>by rw [iZ];exact .inl z
 refine ⟨R.len,fun i d e=>?_,fun i d e=>?_,fun i d e=>?_,fun i d e=>?_,R.sep,fun b h=>R.dom b (.inl h),R.fg⟩
 .obtain ⟨v,q,r⟩:=R.dat i d e;exact ⟨v,q,r.mono hf⟩
 .obtain ⟨a,q,n,w,t⟩:=R.own i d e;exact ⟨a,q,fun z=>n (.inl z),w,t.pr Pr.refl hf fun _ z=>z⟩
 .obtain ⟨a,q,n,w,t⟩:=R.GG i d e;refine ⟨a,q,?_,w,t.pr Pr.refl hf fun _ z=>z⟩;rcases n with n | n
  .exact n
  .exact absurd (n▸q) (hi i d e)
 .obtain ⟨a,q,t⟩:=R.ro i d e;exact ⟨a,q,t.pr Pr.refl hf (fun _ z=>z) fun _ _ z _=>z⟩
end
def xZ (K:Fg) (F:Zq) (H H':Hp):PR->V->Prop
 | .dat d,v=>Dm K F H' d v
 | .Oj d,v=>∃ a,v=.ref a/\H a=none/\Top K (fun b=>F b\/b=a) H' d a
def VQ (K:Fg) (F:Zq) (H:Hp):List Qq->List V->Prop
 | [],vs=>vs=[]
 | d :: ds,vs=>∃ v r,vs=v :: r/\Vw K F H d v/\VQ K F H ds r
structure QZ where
 d:Qq
 v:V
 ok:∀ (K:Fg) (F:Zq) (H:Hp),Dm K F H d v
def QZ.i (i:Int):QZ:=⟨.int i,.int i,fun _ _ _=>rfl⟩
def QZ.s (x:Str) (h:x.length<=sizeLine) (h2:PyData.strOk x=true):QZ:=⟨.str x,.str x,fun _ _ _=>⟨rfl,h,h2⟩⟩
def QZ.b (b:Bool):QZ:=⟨.bool b,.bl b,fun _ _ _=>rfl⟩
def QZ.n:QZ:=⟨.none,.non,fun _ _ _=>rfl⟩
structure Oo where
 r:Fg->List V->Hp->VK->Prop
 f:List Qq->Option PR
 ok:∀ (K:Fg) (F:Zq) (H:Hp) (ds:List Qq) (vs:List V) (pr:PR) (Q:VK),f ds=some pr->VQ K F H ds vs->(∀ b,F b->H b≠none)->(∀ v H',ax H H'->xZ K F H H' pr v->Q v H')->r K vs H Q
structure U0 where
 T:String
 r:Fg->V->List V->Hp->VK->Prop
 ty:Qq->Bool
 f:Qq->List Qq->Option PR
 zV:∀ (K:Fg) (F:Zq) (H:Hp) (d:Qq) (v:V),ty d=true->Vw K F H d v->UT K T v H
 ok:∀ (K:Fg) (F:Zq) (H:Hp) (d:Qq) (v:V) (ds:List Qq) (vs:List V) (pr:PR) (Q:VK),f d ds=some pr->Vw K F H d v->VQ K F H ds vs->(∀ b,F b->H b≠none)->(∀ v H',ax H H'->xZ K F H H' pr v->Q v H')->r K v vs H Q
def WZ (K:Fg) (F:Zq) (H:Hp):List (Bool×Qq)->List V->Prop
 | [],vs=>vs=[]
 | (true,d) :: ds,vs=>∃ v r,vs=v :: r/\Dm K F H d v/\WZ K F H ds r
 | (false,d) :: ds,vs=>∃ v r,vs=v :: r/\Vw K F H d v/\WZ K F H ds r
structure Ys where
 T:String
 r:Fg->V->List V->Hp->VK->Prop
 ty:Qq->Bool
 f:Qq->List (Bool×Qq)->Option (Qq×Qq)
 zV:∀ (K:Fg) (F:Zq) (H:Hp) (d:Qq) (a:Qz),ty d=true->Top K F H d a->UT K T (.ref a) H
 ok:∀ (K:Fg) (F:Zq) (H:Hp) (d:Qq) (a:Qz) (as:List (Bool×Qq)) (vs:List V) (d' x:Qq) (Q:VK),f d as=some (d',x)->F a->Top K F H d a->WZ K F H as vs ->
  (∀ v H',(∀ b o,b≠a->H b=some o->H' b=some o)->Top K F H' d' a->Dm K F H' x v->Q v H')->r K (.ref a) vs H Q
structure F4 where
 r:Fg->V->V->V->Hp->(Hp->Prop)->Prop
 f:Qq->Qq->Qq->Option Qq
 ok:∀ (K:Fg) (F:Zq) (H:Hp) (d:Qq) (a:Qz) (k x:Qq) (vk vx:V) (d':Qq) (Q:Hp->Prop),f d k x=some d'->F a->Top K F H d a->Vw K F H k vk->Dm K F H x vx ->
  (∀ H',(∀ b o,b≠a->H b=some o->H' b=some o)->Top K F H' d' a->Q H')->r K (.ref a) vk vx H Q
mutual
inductive XE where
 | var (i:Nat) | U3 (i:Nat) | cst (c:QZ) | W0 (g:Nat)
 | Si (p:Oo) (as:XA) | met (m:U0) (o:XE) (as:XA) | Uw (m:Ys) (i:Nat) (as:XA) | call (f:Fn) (as:XA)
 | tup (as:XA) | lst (as:XA) | VR (as:XP)
 | Sj (c:XT) (a b:XE) | qk (a b:XE) | TR (a b:XE) | Bj (a:XE) | SR (p q:Oo) (a b c:XE)
 | cmp (js:List Nat) (it:XI) (c:XT) (e:XE)
inductive XA where | nil | cons (e:XE) (r:XA)
inductive XP where | nil | cons (k e:XE) (r:XP)
inductive XT where | OB (e:XE) | TU (e:XE) | or (a b:XT) | not (a:XT) | yes
inductive XI where | lst (e:XE) | tup (e:XE) | str (e:XE) | Pl (as:XA) | sq (e:XE) | U4 (e:XE)
end
inductive XS where
 | skip | seq (a b:XS) | bu (i:Nat) (e:XE) | vX (i:Nat) (e:XE) | BP (is:List Nat) (e:XE) | drop (e:XE) | ret (e:XE)
 | ifs (c:XT) (a b:XS) | fr (i:Nat) (it:XI) (b:XS) | U5 (is:List Nat) (it:XI) (b:XS) | wh (n:Nat) (c:XT) (b:XS) | VS | Sk (m:F4) (i:Nat) (k e:XE)
def Yt:List Nat->Ta
 | []=>GA
 | i :: r=>AS (cY i) (Yt r)
def υ (K:PySem.W.Frag) (is:List Nat):TG:=Jn K is.length (Yt is)
def W2:XK:=fun _ _ _=>False
def z7 (K:PySem.W.Frag) (G I:Zq) (H:Hp) (d:Qq) (v:V):Prop:=match d with
 | .tuple ds=>Dm K G H (.tuple ds) v
 | d=>∃ a,v=.ref a/\iq K G I H d a
def bA (K:PySem.W.Frag) (G I:Zq) (H:Hp):List PM->List Qq->List V->List Qz->Prop
 | [],[],[],is=>is=[]
 | .dat :: ms,d :: ds,v :: vs,is=>Dm K G H d v/\bA K G I H ms ds vs is
 | .bor :: ms,d :: ds,v :: vs,is=>z7 K G I H d v/\bA K G I H ms ds vs is
 | .GG :: ms,d :: ds,v :: vs,is=>∃ a r,v=.ref a/\is=a :: r/\G a/\Top K G H d a/\a ∉ r/\bA K G I H ms ds vs r
 | _,_,_,_=>False
def ix (K:PySem.W.Frag) (G:Zq) (H:Hp):List Qq->List Qz->Prop
 | [],[]=>True
 | d :: ds,a :: r=>Top K G H d a/\ix K G H ds r
 | _,_=>False
def GJ (K:PySem.W.Frag) (G:Zq) (H H':Hp) (outs:List Qq) (is:List Qz):PR->V->Prop
 | .dat d,v=>Dm K G H' d v/\ix K G H' outs is
 | .Oj d,v=>∃ a,v=.ref a/\H a=none/\Top K (fun b=>G b\/b=a) H' d a/\ix K (fun b=>G b\/b=a) H' outs is
def gT (f:Fn) (K:PySem.W.Frag):Sp:=fun vs H Q _=>∃ (G:Zq) (ds:List Qq) (is:List Qz) (pr:PR) (outs:List Qq),f.F ds=some (pr,outs)/\bA K G (·∈is) H f.ms ds vs is/\(∀ b,G b->H b≠none) /\
 ∀ v' H',(∀ b o,H b=some o->b ∉ is->H' b=some o)->GJ K G H H' outs is pr v'->Q v' H'
section
variable (K:PySem.W.Frag) (ga:Nat->V)
mutual
noncomputable def rE:XE->TE
 | .var i=>fJ i | .U3 i=>fJ i | .cst c=>tC c.v | .W0 g=>tC (ga g)
 | .Si p as=>PN (p.r K) (rA as) | .met m o as=>WL K m.T (m.r K) (rE o) (rA as) | .Uw m i as=>WL K m.T (m.r K) (fJ i) (rA as) | .call f as=>oq (gT f K) [] W2 (rA as)
 | .tup as=>FX (rA as) | .lst as=>HN (rA as) | .VR as=>sy (rP as)
 | .Sj c a b=>XR (rT c) (rE a) (rE b) | .qk a b=>zO (rE a) (rE b) | .TR a b=>HW (rE a) (rE b) | .Bj a=>z4 (rE a)
 | .SR p q a b c=>mB (fun x y=>p.r K [x,y]) (fun x y=>q.r K [x,y]) (rE a) (rE b) (rE c)
 | .cmp js it c e=>qh js (W3 it) (rT c) (rE e)
noncomputable def rA:XA->TA
 | .nil=>dX | .cons e r=>aL (rE e) (rA r)
noncomputable def rP:XP->List (TE×TE)
 | .nil=>[] | .cons k e r=>(rE k,rE e) :: rP r
noncomputable def rT:XT->TT
 | .OB e=>tB (rE e) | .TU e=>J9 K (rE e) | .or a b=>XQ (rT a) (rT b) | .not a=>Jc (rT a) | .yes=>GS
noncomputable def W3:XI->TI
 | .lst e=>wG K (rE e) | .tup e=>Gf K (rE e) | .str e=>Hy (rE e) | .Pl as=>Ba (rA as) | .sq e=>Ki K (rE e) | .U4 e=>He K (aL (rE e) dX)
end
def rS:XS->TS
 | .skip=>vC | .seq a b=>zd (rS a) (rS b) | .bu i e=>pI (rE K ga e) (cY i) | .vX i e=>pI (rE K ga e) (cY i) | .BP is e=>pI (rE K ga e) (υ K is) | .drop e=>wW (rE K ga e) | .ret e=>sG (rE K ga e)
 | .ifs c a b=>Ai (rT K ga c) (rS a) (rS b) | .fr i it b=>BK (W3 K ga it) (cY i) (rS b) | .U5 is it b=>BK (W3 K ga it) (υ K is) (rS b) | .wh n c b=>rF (rT K ga c) (rS b) | .VS=>yp
 | .Sk m i k e=>fun D Y H=>rE K ga e Y H fun x H1=>fJ i Y H1 fun o H2=>rE K ga k Y H2 fun y H3=>m.r K o y x H3 (D.nx Y)
end
noncomputable def Ik:Qq->Bool
 | .none=>false | .bool b=>b | .int i=>i != 0 | .str x=>(x.length:Int) != 0 | .list ds=>!ds.isEmpty | .tuple ds=>!ds.isEmpty | .dict ds=>!ds.isEmpty
noncomputable def Hw:Qq->Bool | .dict _=>true | _=>false
noncomputable def nU (lk:Bool):Sl->Sl
 | .own d=>if lk then .ro d else .GG d
 | .GG d=>if lk then .ro d else .GG d
 | s=>s
def eO (env:En) (lock:Option Nat) (js:List Nat):En:=js.map fun j=>nU (decide (lock=some j)) (env[j]?.getD .un)
def aK:En->List Nat->En->En
 | env,j :: js,.GG d :: es=>aK (gO env j d) js es
 | env,_ :: js,_ :: es=>aK env js es
 | env,_,_=>env
noncomputable def wo (step:Qq->En->Option (Option Qq×En)):List Qq->En->Option (List Qq×En)
 | [],env=>some ([],env)
 | d :: ds,env=>match step d env with
  | some (y,e1)=>match wo step ds e1 with
   | some (ys,e2)=>some (y.toList++ys,e2)
   | none=>none
  | none=>none
def HH (env:En):PM->AV->Option Qq
 | .dat,.dat d=>some d
 | .bor,.dat (.list d)=>some (.list d)
 | .bor,.dat (.dict d)=>some (.dict d)
 | .bor,.dat (.tuple d)=>some (.tuple d)
 | .bor,.bor i=>cont env i
 | .GG,.bor i=>aP env i
 | _,_=>none
def ja (env:En):List PM->List AV->Option (List Qq)
 | [],[]=>some []
 | m :: ms,a :: as=>match HH env m a,ja env ms as with
  | some d,some ds=>some (d :: ds)
  | _,_=>none
 | _,_=>none
noncomputable def cj:List PM->List AV->List Nat
 | .GG :: ms,.bor i :: as=>i :: cj ms as
 | _ :: ms,_ :: as=>cj ms as
 | _,_=>[]
noncomputable def tm:List PM->List AV->List Nat
 | .bor :: ms,.bor i :: as=>i :: tm ms as
 | _ :: ms,_ :: as=>tm ms as
 | _,_=>[]
def cJ:En->List Nat->List Qq->En
 | env,i :: is,d :: ds=>cJ (gO env i d) is ds
 | env,_,_=>env
noncomputable def BJ:List Nat->Bool
 | []=>true
 | x :: xs=>!xs.contains x&&BJ xs
def W4 (is bs:List Nat) (n:Nat):Bool:=BJ is&&(bs.all (fun i=>!is.contains i)&&n==is.length)
def xJ (f:Fn) (Ou:List AV) (env:En):Option (RV×En) :=
 match ja env f.ms Ou with
 | none=>none
 | some ds=>match f.F ds with
  | none=>none
  | some (pr,outs)=>if W4 (cj f.ms Ou) (tm f.ms Ou) outs.length=true then some (pr.rv,cJ env (cj f.ms Ou) outs) else none
def aW (env:En):List AV->Option (List Qq)
 | []=>some []
 | a :: as=>match a.view env,aW env as with
  | some d,some ds=>some (d :: ds)
  | _,_=>none
noncomputable def AV.HS:AV->Bool | .dat _=>true | .bor _=>false
def d6 (env:En):List AV->Option (List (Bool×Qq))
 | []=>some []
 | a :: as=>match a.view env,d6 env as with
  | some d,some ds=>some ((a.HS,d) :: ds)
  | _,_=>none
noncomputable def ml:List AV->Option (List Qq)
 | []=>some []
 | .dat d :: as=>match ml as with | some ds=>some (d :: ds) | none=>none
 | .bor _ :: _=>none
noncomputable def keyOf:Qq->Option Key | .int i=>some (.inl i) | .str x=>some (.inr x) | _=>none
noncomputable def putD (kvs:List (Qq×Qq)) (k d:Qq):List (Qq×Qq) :=
 if (kvs.any fun kv=>PyData.eqv kv.1 k)=true then kvs.map (fun kv=>if PyData.eqv kv.1 k=true then (kv.1,d) else kv) else kvs++[(k,d)]
noncomputable def getD (kvs:List (Qq×Qq)) (k:Qq):Option Qq:=(kvs.find? fun kv=>PyData.eqv kv.1 k).map (·.2)
def fW (t:En->Option (Bool×En)) (b:En->Option (RV×En)) (d:Qq) (ec:En):Option (Option Qq×En):=match t (.dat d :: ec) with
 | some (true,e2)=>match b e2 with
  | some (rv,e3)=>match rv.av with | .dat y=>some (some y,e3.tail) | .bor _=>none
  | none=>none
 | some (false,e2)=>some (none,e2.tail)
 | none=>none
mutual
noncomputable def dE (gd:List Qq):XE->En->Option (RV×En)
 | .var i,env=>match env[i]? with | some (.dat d)=>some (.dat d,env) | some (.own _)=>some (.bor i,env) | some (.GG _)=>some (.bor i,env) | some (.ro _)=>some (.bor i,env) | _=>none
 | .U3 i,env=>match env[i]? with | some (.own d)=>some (.Oj d,env.set i .un) | _=>none
 | .cst c,env=>some (.dat c.d,env)
 | .W0 g,env=>match gd[g]? with | some d=>some (.dat d,env) | none=>none
 | .Si p as,env=>match dA gd as env with
  | some (Ou,e1)=>match aW e1 Ou with
   | some ds=>match p.f ds with | some pr=>some (pr.rv,e1) | none=>none
   | none=>none
  | none=>none
 | .met m o as,env=>match dE gd o env with
  | some (rv,e1)=>match rv.view e1 with
   | some d0=>if m.ty d0=true then match dA gd as e1 with
     | some (Ou,e2)=>match rv.view e2,aW e2 Ou with
      | some d,some ds=>match m.f d ds with | some pr=>some (pr.rv,e2) | none=>none
      | _,_=>none
     | none=>none
    else none
   | none=>none
  | none=>none
 | .Uw m i as,env=>match aP env i with
  | some d0=>if m.ty d0=true then match dA gd as env with
    | some (Ou,e1)=>match aP e1 i,d6 e1 Ou with
     | some d,some ds=>match m.f d ds with | some (d',x)=>some (.dat x,gO e1 i d') | none=>none
     | _,_=>none
    | none=>none
   else none
  | none=>none
 | .call f as,env=>match dA gd as env with
  | some (Ou,e1)=>xJ f Ou e1
  | none=>none
 | .tup as,env=>match dA gd as env with
  | some (Ou,e1)=>match ml Ou with | some ds=>if ds.length<=sizeLine then some (.dat (.tuple ds),e1) else none | none=>none
  | none=>none
 | .lst as,env=>match dA gd as env with
  | some (Ou,e1)=>match ml Ou with | some ds=>if ds.length<=sizeLine then some (.Oj (.list ds),e1) else none | none=>none
  | none=>none
 | .VR as,env=>match dP gd as env with
  | some (kvs,e1)=>if kvs.length<=15 then some (.Oj (.dict (kvs.foldl (fun acc kv=>putD acc (kD kv.1) kv.2) [])),e1) else none
  | none=>none
 | .Sj c a b,env=>match dT gd c env with
  | some (true,e1)=>dE gd a e1
  | some (false,e1)=>dE gd b e1
  | none=>none
 | .qk a b,env=>match dE gd a env with
  | some (.dat (.bool true),e1)=>dE gd b e1
  | some (.dat (.bool false),e1)=>some (.dat (.bool false),e1)
  | _=>none
 | .TR a b,env=>match dE gd a env with
  | some (.dat (.bool true),e1)=>some (.dat (.bool true),e1)
  | some (.dat (.bool false),e1)=>dE gd b e1
  | _=>none
 | .Bj a,env=>match dE gd a env with
  | some (.dat (.bool x),e1)=>some (.dat (.bool (!x)),e1)
  | _=>none
 | .SR p q a b c,env=>match dE gd a env with
  | some (ra,e1)=>match dE gd b e1 with
   | some (rb,e2)=>match ra.av,rb.av with
    | .dat x,.dat y=>match p.f [x,y] with
     | some (.dat (.bool true))=>match dE gd c e2 with
      | some (rc,e3)=>match rc.av with
       | .dat z=>match q.f [y,z] with | some pr=>some (pr.rv,e3) | none=>none
       | _=>none
      | none=>none
     | some (.dat (.bool false))=>some (.dat (.bool false),e2)
     | _=>none
    | _,_=>none
   | none=>none
  | none=>none
 | .cmp js it c e,env=>match dI gd it env with
  | some (ds,lock,e1)=>if js.Nodup then match wo (fW (dT gd c) (dE gd e)) ds (eO e1 lock js) with
    | some (ys,ec)=>some (.Oj (.list ys),aK e1 js ec)
    | none=>none
   else none
  | none=>none
noncomputable def dA (gd:List Qq):XA->En->Option (List AV×En)
 | .nil,env=>some ([],env)
 | .cons e r,env=>match dE gd e env with
  | some (rv,e1)=>match dA gd r e1 with
   | some (Ou,e2)=>some (rv.av :: Ou,e2)
   | none=>none
  | none=>none
noncomputable def dP (gd:List Qq):XP->En->Option (List (Key×Qq)×En)
 | .nil,env=>some ([],env)
 | .cons k e r,env=>match dE gd k env with
  | some (rk,e1)=>match dE gd e e1 with
   | some (rv,e2)=>match dP gd r e2 with
    | some (kvs,e3)=>match rk.av,rv.av with
     | .dat dk,.dat d=>match keyOf dk with | some k=>some ((k,d) :: kvs,e3) | none=>none
     | _,_=>none
    | none=>none
   | none=>none
  | none=>none
noncomputable def dT (gd:List Qq):XT->En->Option (Bool×En)
 | .OB e,env=>match dE gd e env with | some (.dat (.bool b),e1)=>some (b,e1) | _=>none
 | .TU e,env=>match dE gd e env with
  | some (rv,e1)=>match rv.view e1 with | some d=>if Hw d=true then none else some (Ik d,e1) | none=>none
  | none=>none
 | .or a b,env=>match dT gd a env with | some (true,e1)=>some (true,e1) | some (false,e1)=>dT gd b e1 | none=>none
 | .not a,env=>match dT gd a env with | some (b,e1)=>some (!b,e1) | none=>none
 | .yes,env=>some (true,env)
noncomputable def dI (gd:List Qq):XI->En->Option (List Qq×Option Nat×En)
 | .lst e,env=>match dE gd e env with
  | some (rv,e1)=>match rv.av with
   | .dat (.list ds)=>some (ds,none,e1)
   | .dat _=>none
   | .bor i=>match cont e1 i with | some (.list ds)=>some (ds,some i,e1) | _=>none
  | none=>none
 | .tup e,env=>match dE gd e env with
  | some (rv,e1)=>match rv.av with | .dat (.tuple ds)=>some (ds,none,e1) | _=>none
  | none=>none
 | .U4 e,env=>match dE gd e env with
  | some (rv,e1)=>match rv.av with
   | .dat (.list ds)=>some (ds.zipIdx.map fun p=>.tuple [.int p.2,p.1],none,e1)
   | _=>none
  | none=>none
 | .sq e,env=>match dE gd e env with
  | some (rv,e1)=>match rv.av with
   | .dat (.list ds)=>some (ds,none,e1)
   | .dat (.tuple ds)=>some (ds,none,e1)
   | .dat _=>none
   | .bor i=>match cont e1 i with | some (.list ds)=>some (ds,some i,e1) | _=>none
  | none=>none
 | .str e,env=>match dE gd e env with
  | some (rv,e1)=>match rv.av with | .dat (.str x)=>some (x.cps.toList.map fun c=>.str ⟨#[c]⟩,none,e1) | _=>none
  | none=>none
 | .Pl as,env=>match dA gd as env with
  | some (Ou,e1)=>match Ou with | [.dat (.int j)]=>if -(2 ^ 62)<=j/\j<=2 ^ 24 then some ((List.range j.toNat).map fun (k:Nat)=>.int ((0:Int)+(k:Int)),none,e1) else none | _=>none
  | none=>none
end
inductive Out where | nx (env:En) | rt (rv:RV) (env:En) | bk (env:En) | ct (env:En)
noncomputable def forL (b:Qq->En->Option Out):List Qq->En->Option Out
 | [],env=>some (.nx env)
 | d :: ds,env=>match b d env with
  | some (.nx e)=>forL b ds e
  | some (.ct e)=>forL b ds e
  | some (.bk e)=>some (.nx e)
  | some (.rt r e)=>some (.rt r e)
  | none=>none
noncomputable def TV (t:En->Option (Bool×En)) (b:En->Option Out):Nat->En->Option Out
 | 0,_=>none
 | n+1,env=>match t env with
  | some (true,e1)=>match b e1 with
   | some (.nx e)=>TV t b n e
   | some (.ct e)=>TV t b n e
   | some (.bk e)=>some (.nx e)
   | some (.rt r e)=>some (.rt r e)
   | none=>none
  | some (false,e1)=>some (.nx e1)
  | none=>none
noncomputable def free (env:En) (i:Nat):Bool:=match env[i]? with | some .un=>true | some (.dat _)=>true | some (.own _)=>true | _=>false
def fv:En->List Nat->List Qq->Option En
 | env,[],[]=>some env
 | env,i :: is,d :: ds=>if free env i=true then fv (env.set i (.dat d)) is ds else none
 | _,_,_=>none
def lj (i:Nat) (b:En->Option Out) (d:Qq) (e:En):Option Out:=if free e i=true then b (e.set i (.dat d)) else none
def hG (is:List Nat) (b:En->Option Out) (d:Qq) (e:En):Option Out:=match d with
 | .tuple xs=>match fv e is xs with | some e2=>b e2 | none=>none
 | _=>none
def dS (gd:List Qq):XS->En->Option Out
 | .skip,env=>some (.nx env)
 | .seq a b,env=>match dS gd a env with
  | some (.nx e)=>dS gd b e
  | o=>o
 | .bu i e,env=>match dE gd e env with
  | some (rv,e1)=>match rv.av with | .dat d=>if free e1 i=true then some (.nx (e1.set i (.dat d))) else none | .bor _=>none
  | none=>none
 | .vX i e,env=>match dE gd e env with
  | some (.Oj d,e1)=>if free e1 i=true then some (.nx (e1.set i (.own d))) else none
  | _=>none
 | .BP is e,env=>match dE gd e env with
  | some (rv,e1)=>match rv.av with
   | .dat (.tuple ds)=>match fv e1 is ds with | some e2=>some (.nx e2) | none=>none
   | _=>none
  | none=>none
 | .drop e,env=>match dE gd e env with | some (_,e1)=>some (.nx e1) | none=>none
 | .ret e,env=>match dE gd e env with | some (rv,e1)=>some (.rt rv e1) | none=>none
 | .ifs c a b,env=>match dT gd c env with
  | some (true,e1)=>dS gd a e1
  | some (false,e1)=>dS gd b e1
  | none=>none
 | .fr i it b,env=>match dI gd it env with
  | some (ds,none,e1)=>forL (lj i (dS gd b)) ds e1
  | _=>none
 | .U5 is it b,env=>match dI gd it env with
  | some (ds,none,e1)=>forL (hG is (dS gd b)) ds e1
  | _=>none
 | .wh n c b,env=>TV (dT gd c) (dS gd b) n env
 | .VS,_=>none
 | .Sk m i k e,env=>match dE gd e env with
  | some (rv,e1)=>match rv.av with
   | .dat x=>match aP e1 i with
    | some _=>match dE gd k e1 with
     | some (rk,e2)=>match rk.view e2,aP e2 i with
      | some dk,some d=>match m.f d dk x with | some d'=>some (.nx (gO e2 i d')) | none=>none
      | _,_=>none
     | none=>none
    | none=>none
   | .bor _=>none
  | none=>none
noncomputable def zR:Qq->Sl | .tuple ds=>.dat (.tuple ds) | d=>.ro d
def aq:List PM->List Qq->Nat->En
 | .dat :: ms,d :: ds,n=>.dat d :: aq ms ds (n - 1)
 | .bor :: ms,d :: ds,n=>zR d :: aq ms ds (n - 1)
 | .GG :: ms,d :: ds,n=>.GG d :: aq ms ds (n - 1)
 | _,_,n=>List.replicate n .un
noncomputable def iU:List PM->En->Option (List Qq)
 | .GG :: ms,.GG d :: es=>match iU ms es with | some ds=>some (d :: ds) | none=>none
 | .GG :: _,_=>none
 | _ :: ms,_ :: es=>iU ms es
 | _,_=>some []
def RV.pr:RV->Option PR | .dat d=>some (.dat d) | .Oj d=>some (.Oj d) | .bor _=>none
def bV (gd:List Qq) (ms:List PM) (n:Nat) (b:XS):Fn where
 ms:=ms
 F:=fun ds=>if ds.length=ms.length then match dS gd b (aq ms ds n) with
   | some (.rt rv env)=>match rv.pr,iU ms env with | some pr,some outs=>some (pr,outs) | _,_=>none
   | some (.nx env)=>match iU ms env with | some outs=>some (.dat .none,outs) | none=>none
   | _=>none
  else none
theorem ax.rf (H:Hp):ax H H:=fun _ _ h=>h
theorem ax.tr (a:ax H H1) (b:ax H1 H2):ax H H2:=fun c o h=>b c o (a c o h)
theorem ax.nw (o:HO) (h:H a=none):ax H (upd H a o):=fun b u q=>by rw [aj (aG q h)];exact q
section
variable {K:Fg} {F F' I I' F0:Zq} {H H' ZO:Hp} {env tR:En} {Y Z':St} {ga:Nat->V} {gd:List Qq}
def gR (K:Fg) (F0:Zq) (ZO:Hp) (I:Zq) (env:En) (Y:St) (H:Hp):RV->V->Prop
 | .dat d,v=>Dm K (FF F0 env Y) H d v
 | .bor i,v=>Y[i]?=some (some v)
 | .Oj d,v=>∃ a,v=.ref a/\Rel K (fun b=>F0 b\/b=a) ZO I env Y H/\Top K (fun b=>FF F0 env Y b\/b=a) H d a/\(ZO a=none\/I a)/\¬FF F0 env Y a/\(∀ (i:Nat) (d':Qq),env[i]?=some (.GG d')->Y[i]?≠some (some (.ref a))) /\
   ∀ (i:Nat) (d':Qq),env[i]?=some (.ro d')->∃ b,Y[i]?=some (some (.ref b))/\iq K (fun b=>FF F0 env Y b\/b=a) (fun b=>IA env Y b\/b=a) H d' b
def Ae (K:Fg) (F0:Zq) (env:En) (Y:St) (H:Hp):AV->V->Prop
 | .dat d,v=>Dm K (FF F0 env Y) H d v
 | .bor i,v=>Y[i]?=some (some v)
def gK (K:Fg) (F0:Zq) (env:En) (Y:St) (H:Hp):List AV->List V->Prop
 | [],vs=>vs=[]
 | a :: as,vs=>∃ v r,vs=v :: r/\Ae K F0 env Y H a v/\gK K F0 env Y H as r
theorem gR.av (h:gR K F0 ZO I env Y H rv v):Ae K F0 env Y H rv.av v:=by
 cases rv with
 | dat d=>exact h
 | bor i=>exact h
 | Oj d =>
  obtain ⟨a,e,R,t,_,n,_⟩:=h;subst e;exact (t.pr Pr.refl (F':=FF F0 env Y) (fun _ z=>.inl z) (fun _ z=>z)).dm n
theorem Ae.keep (R:Rel K F0 ZO I env Y H) (S:Rel K F0 H (IA env Y) tR Y H') (k:OD env tR) (h:Ae K F0 env Y H a v):Ae K F0 tR Y H' a v:=by
 cases a with
 | dat d=>exact R.oQ S k h
 | bor i=>exact h
theorem Rel.Jb (R:Rel K F0 ZO I env Y H) (h:cont env i=some d) (s:Y[i]?=some (some v)):Vw K (FF F0 env Y) H d v:=by
 unfold cont at h;cases e:env[i]? with
 | none=>rw [e] at h;cases h
 | some sl =>
  rw [e] at h;cases sl with
  | un=>cases h
  | dat _=>cases h
  | own d' =>
   cases h;obtain ⟨a,q,_,_,t⟩:=R.own i d e;rw [s] at q;cases q;exact t.r.vw
  | GG d' =>
   cases h;obtain ⟨a,q,_,_,t⟩:=R.GG i d e;rw [s] at q;cases q;exact t.r.vw
  | ro d' =>
   cases h;obtain ⟨a,q,t⟩:=R.ro i d e;rw [s] at q;cases q;exact t.r.vw
theorem Rel.de (R:Rel K F0 ZO I env Y H) (h:aP env i=some d):mu env i/\∃ a,Y[i]?=some (some (.ref a))/\FF F0 env Y a/\Top K (FF F0 env Y) H d a:=by
 unfold aP at h;cases e:env[i]? with
 | none=>rw [e] at h;cases h
 | some sl =>
  rw [e] at h;cases sl with
  | un=>cases h
  | dat _=>cases h
  | own d' =>
   cases h;obtain ⟨a,q,_,_,t⟩:=R.own i d e;exact ⟨⟨d,.inl e⟩,a,q,.inr ⟨i,d,e,q⟩,t⟩
  | GG d' =>
   cases h;obtain ⟨a,q,f,_,t⟩:=R.GG i d e;exact ⟨⟨d,.inr e⟩,a,q,.inl f,t⟩
  | ro d'=>cases h
theorem Ae.vw (R:Rel K F0 ZO I env Y H) (h:Ae K F0 env Y H a v) (e:a.view env=some d):Vw K (FF F0 env Y) H d v:=by
 cases a with
 | dat d'=>cases e;exact Dm.vw h
 | bor i=>exact R.Jb e h
theorem gK.vw (R:Rel K F0 ZO I env Y H):∀ {as:List AV} {vs:List V} {ds:List Qq},gK K F0 env Y H as vs->aW env as=some ds->VQ K (FF F0 env Y) H ds vs
 | [],_,ds,h,e=>by cases e;exact h
 | a :: as,_,ds,h,e=>by
  obtain ⟨v,r,rfl,h1,h2⟩:=h;unfold aW at e;cases e1:a.view env with
  | none=>rw [e1] at e;cases e
  | some d =>
   cases e2:aW env as with
   | none=>rw [e1,e2] at e;cases e
   | some Tf =>
    rw [e1,e2] at e;cases e;exact ⟨v,r,rfl,h1.vw R e1,gK.vw R h2 e2⟩
theorem gK.mv (R:Rel K F0 ZO I env Y H):∀ {as:List AV} {vs:List V} {ds:List (Bool×Qq)},gK K F0 env Y H as vs->d6 env as=some ds->WZ K (FF F0 env Y) H ds vs
 | [],_,ds,h,e=>by cases e;exact h
 | a :: as,_,ds,h,e=>by
  obtain ⟨v,r,rfl,h1,h2⟩:=h;unfold d6 at e;cases e1:a.view env with
  | none=>rw [e1] at e;cases e
  | some d =>
   cases e2:d6 env as with
   | none=>rw [e1,e2] at e;cases e
   | some Tf =>
    rw [e1,e2] at e;cases e;have ih:=gK.mv R h2 e2;cases a with
    | dat d'=>cases e1;exact ⟨v,r,rfl,h1,ih⟩
    | bor i=>exact ⟨v,r,rfl,h1.vw R e1,ih⟩
theorem gK.Gs:∀ {as:List AV} {vs:List V} {ds:List Qq},gK K F0 env Y H as vs->ml as=some ds->Ot K (FF F0 env Y) H ds vs
 | [],_,ds,h,e=>by cases e;exact h
 | .dat d :: as,_,ds,h,e=>by
  obtain ⟨v,r,rfl,h1,h2⟩:=h;unfold ml at e;cases e2:ml as with
  | none=>rw [e2] at e;cases e
  | some Tf =>
   rw [e2] at e;cases e;exact ⟨v,r,rfl,h1,gK.Gs h2 e2⟩
 | .bor i :: as,_,ds,h,e=>by unfold ml at e;cases e
theorem iq.zv (hc:H c=none) (h:iq K F I H d a):iq K F (fun b=>I b\/b=c) H d a:=by
 cases d with
 | list ds=>obtain ⟨xs,e,z,r⟩:=h;exact ⟨xs,e.fresh hc,z,r⟩
 | dict ds =>
  obtain ⟨ep,xs,n,e,z,r⟩:=h;exact ⟨ep,xs,fun q=>q.elim n fun q=>(by subst q;rw [hc] at e;cases e),e,z,r⟩
 | _=>exact absurd h id
theorem Rel.qd (R:Rel K F0 ZO I env Y H) (s:ax H H') (h:xZ K (FF F0 env Y) H H' pr v):gR K F0 ZO I env Y H' pr.rv v:=by
 cases pr with
 | dat d=>exact h
 | Oj d =>
  obtain ⟨a,e,hn,t⟩:=h;refine ⟨a,e,R.fresh hn s ?_,t,R.oi (.inl hn),fun z=>R.fC z hn,fun i d' e' q=>?_,fun i d' e'=>?_⟩
  .obtain ⟨o,q,_⟩:=t.wr;rw [q];exact nofun
  .obtain ⟨o,z,_⟩:=R.UZ ⟨i,⟨d',.inr e'⟩,q⟩;rw [hn] at z;cases z
  .obtain ⟨b,q,t'⟩:=R.ro i d' e';exact ⟨b,q,((t'.fresh hn).zv hn).pr (Pr.of_same s) (fun _ z=>z) (fun _ z=>z) fun b o z _=>s _ _ z⟩
theorem tP (env:En) (i:Nat) (d:Qq):OD env (gO env i d):=by
 unfold gO;cases e:env[i]? with
 | none=>exact OD.refl _
 | some sl =>
  have hi:i < env.length:=(Ls.mp e).1;cases sl with
  | un=>exact OD.refl _
  | dat _=>exact OD.refl _
  | ro _=>exact OD.refl _
  | own d' =>
   refine ⟨Md,fun j s h=>?_⟩;by_cases z:i=j
   .subst z;rw [e] at h;cases h;exact ⟨.own d,by rw [LR hi],.inl ⟨d,rfl⟩⟩
   .exact ⟨s,by rw [Lv z];exact h,.refl s⟩
  | GG d' =>
   refine ⟨Md,fun j s h=>?_⟩;by_cases z:i=j
   .subst z;rw [e] at h;cases h;exact ⟨.GG d,by rw [LR hi],⟨d,rfl⟩⟩
   .exact ⟨s,by rw [Lv z];exact h,.refl s⟩
def Ph (env tR:En):Prop:=tR.length=env.length/\∀ i:Nat,tR[i]?=env[i]?\/(∃ d d',env[i]?=some (.own d)/\tR[i]?=some (.own d'))\/∃ d d',env[i]?=some (.GG d)/\tR[i]?=some (.GG d')
theorem Ph.refl (env:En):Ph env env:=⟨rfl,fun _=>.inl rfl⟩
theorem Ph.trans (a:Ph e1 e2) (b:Ph e2 e3):Ph e1 e3:=⟨b.1.trans a.1,fun i=>by
 rcases b.2 i with h | ⟨d,d',h,h'⟩ | ⟨d,d',h,h'⟩
 .rw [h];exact a.2 i
 .rcases a.2 i with q | ⟨c,c',q,q'⟩ | ⟨c,c',q,q'⟩
  .exact .inr (.inl ⟨d,d',by rw [<- q];exact h,h'⟩)
  .exact .inr (.inl ⟨c,d',q,h'⟩)
  .rw [h] at q';cases q'
 .rcases a.2 i with q | ⟨c,c',q,q'⟩ | ⟨c,c',q,q'⟩
  .exact .inr (.inr ⟨d,d',by rw [<- q];exact h,h'⟩)
  .rw [h] at q';cases q'
  .exact .inr (.inr ⟨c,d',q,h'⟩)⟩
theorem Ph.kp (k:Ph env tR):OD env tR:=⟨k.1,fun i s e=>by
 rcases k.2 i with h | ⟨d,d',h,h'⟩ | ⟨d,d',h,h'⟩
 .exact ⟨s,by rw [h];exact e,.refl s⟩
 .rw [e] at h;cases h;exact ⟨_,h',.inl ⟨d',rfl⟩⟩
 .rw [e] at h;cases h;exact ⟨_,h',⟨d',rfl⟩⟩⟩
theorem Ph.symm (k:Ph env tR):Ph tR env:=⟨k.1.symm,fun i=>by
 rcases k.2 i with h | ⟨d,d',h,h'⟩ | ⟨d,d',h,h'⟩
 .exact .inl h.symm
 .exact .inr (.inl ⟨d',d,h',h⟩)
 .exact .inr (.inr ⟨d',d,h',h⟩)⟩
theorem Ph.ff (k:Ph env tR):FF F0 tR Y=FF F0 env Y:=by funext b;exact propext ⟨fun h=>k.kp.ff h,fun h=>k.symm.kp.ff h⟩
theorem Ph.ia (k:Ph env tR):IA tR Y=IA env Y:=by funext b;exact propext ⟨fun h=>k.kp.ia h,fun h=>k.symm.kp.ia h⟩
theorem dG (env:En) (i:Nat) (d:Qq):Ph env (gO env i d):=by
 unfold gO;cases e:env[i]? with
 | none=>exact Ph.refl _
 | some sl =>
  have hi:i < env.length:=(Ls.mp e).1;cases sl with
  | un=>exact Ph.refl _
  | dat _=>exact Ph.refl _
  | ro _=>exact Ph.refl _
  | own d' =>
   refine ⟨Md,fun j=>?_⟩;by_cases z:i=j
   .subst z;exact .inr (.inl ⟨d',d,e,by rw [LR hi]⟩)
   .exact .inl (by rw [Lv z])
  | GG d' =>
   refine ⟨Md,fun j=>?_⟩;by_cases z:i=j
   .subst z;exact .inr (.inr ⟨d',d,e,by rw [LR hi]⟩)
   .exact .inl (by rw [Lv z])
theorem kG (h:mu env i):aP (gO env i d) i=some d:=by
 unfold gO aP;obtain ⟨d',e | e⟩:=h
 .have hi:i < env.length:=(Ls.mp e).1;rw [e];simp only;rw [LR hi]
 .have hi:i < env.length:=(Ls.mp e).1;rw [e];simp only;rw [LR hi]
theorem kK (h:j≠i):(gO env i d)[j]?=env[j]?:=by unfold gO;split <;> first | rfl | rw [Lv (Ne.symm h)]
theorem o5 (h:aP env i=some d):env[i]?=some (.own d)\/env[i]?=some (.GG d):=by
 unfold aP at h;split at h
 .rename_i e;cases h;exact .inl e
 .rename_i e;cases h;exact .inr e
 .cases h
theorem Rel.chg (R:Rel K F0 ZO I env Y H) (k:Ph env tR) (hk:∀ b o,H b=some o->¬IA env Y b->H' b=some o) (ht:∀ i d a,aP tR i=some d->Y[i]?=some (some (.ref a))->Top K (FF F0 env Y) H' d a):Rel K F0 ZO I tR Y H':=by
 have p:=R.q0 hk;have eF:=k.ff (F0:=F0) (Y:=Y);have eI:=k.ia (Y:=Y);have mc:∀ {i:Nat} {d:Qq},tR[i]?=some (.own d)\/tR[i]?=some (.GG d)->aP tR i=some d:=fun {i d} h=>by unfold aP;rcases h with h | h <;> rw [h]
 refine ⟨k.1.trans R.len,fun i d e=>?_,fun i d e=>?_,fun i d e=>?_,fun i d e=>?_,fun i j a h1 h2 h3 h4=>R.sep i j a (k.kp.mu h1) (k.kp.mu h2) h3 h4,fun b h=>?_,fun b o h n=>?_⟩
 .rcases k.2 i with q | ⟨c,c',q,q'⟩ | ⟨c,c',q,q'⟩
  .rw [e] at q;obtain ⟨v,s,r⟩:=R.dat i d q.symm;rw [eF];exact ⟨v,s,r.pr p fun _ z=>z⟩
  .rw [e] at q';cases q'
  .rw [e] at q';cases q'
 .have hm:=mc (.inl e);obtain ⟨d0,e0⟩:=k.kp.own e;obtain ⟨a,s,n,w,_⟩:=R.own i d0 e0;rw [eF];exact ⟨a,s,n,w,ht i d a hm s⟩
 .have hm:=mc (.inr e);have:∃ d0,env[i]?=some (.GG d0):=by
   rcases k.2 i with q | ⟨c,c',q,q'⟩ | ⟨c,c',q,q'⟩
   .exact ⟨d,by rw [<- q];exact e⟩
   .rw [e] at q';cases q'
   .exact ⟨c,q⟩
  obtain ⟨d0,e0⟩:=this;obtain ⟨a,s,n,w,_⟩:=R.GG i d0 e0;rw [eF];exact ⟨a,s,n,w,ht i d a hm s⟩
 .have e0:env[i]?=some (.ro d):=by
   rcases k.2 i with q | ⟨c,c',q,q'⟩ | ⟨c,c',q,q'⟩
   .rw [<- q];exact e
   .rw [e] at q';cases q'
   .rw [e] at q';cases q'
  obtain ⟨a,s,t⟩:=R.ro i d e0;rw [eF,eI];exact ⟨a,s,t.pr p (fun _ z=>z) (fun _ z=>z) hk⟩
 .by_cases z:IA env Y b
  .obtain ⟨i,m,s⟩:=z;have m':=k.symm.kp.mu m;obtain ⟨d,m'⟩:=m';obtain ⟨o,q,_⟩:=(ht i d b (mc m') s).wr;rw [q];exact nofun
  .cases e:H b with
   | none=>exact absurd e (R.dom b h)
   | some o=>rw [hk b o e z];exact nofun
 .refine hk b o (R.fg b o h n) fun z=>?_;rcases R.Yr z with q | q
  .rw [h] at q;cases q
  .exact n q
end
section
variable {K:Fg} {F F' I I' F0:Zq} {H H' ZO:Hp} {env tR:En} {Y Z':St} {ga:Nat->V} {gd:List Qq}
theorem get_set {W:Type} {l:List W} {i j:Nat} {x y:W} (h:(l.set i x)[j]?=some y):(i=j/\x=y)\/(i≠j/\l[j]?=some y):=by
 by_cases z:i=j
 .subst z;by_cases hi:i < l.length
  .rw [LR hi] at h;exact .inl ⟨rfl,Mp h⟩
  .rw [List.getElem?_eq_none (by rw [Md];lia)] at h;cases h
 .rw [Lv z] at h;exact .inr ⟨z,h⟩
theorem Rel.sub (R:Rel K F0 ZO I env Y H) (i:Nat) (x:Option V):(∀ b,FF F0 (env.set i .un) (Y.set i x) b->FF F0 env Y b)/\(∀ b,IA (env.set i .un) (Y.set i x) b->IA env Y b):=by
 constructor
 .rintro b (h | ⟨j,d,e,s⟩)
  .exact .inl h
  .rcases get_set e with ⟨_,z⟩ | ⟨n,e⟩
   .cases z
   .rw [Lv n] at s;exact .inr ⟨j,d,e,s⟩
 .rintro b ⟨j,⟨d,e⟩,s⟩;have:∃ d,(env[j]?=some (.own d)\/env[j]?=some (.GG d))/\i≠j:=by
   rcases e with e | e
   .rcases get_set e with ⟨_,z⟩ | ⟨n,e⟩
    .cases z
    .exact ⟨d,.inl e,n⟩
   .rcases get_set e with ⟨_,z⟩ | ⟨n,e⟩
    .cases z
    .exact ⟨d,.inr e,n⟩
  obtain ⟨d,e,n⟩:=this;rw [Lv n] at s;exact ⟨j,⟨d,e⟩,s⟩
theorem Rel.forget (R:Rel K F0 ZO I env Y H) (i:Nat) (x:Option V):Rel K F0 ZO I (env.set i .un) (Y.set i x) H:=by
 obtain ⟨hf,hi⟩:=R.sub i x;have mm:∀ j,mu (env.set i .un) j->mu env j/\i≠j:=fun j h=>by
  obtain ⟨d,e | e⟩:=h
  .rcases get_set e with ⟨_,z⟩ | ⟨n,e⟩
   .cases z
   .exact ⟨⟨d,.inl e⟩,n⟩
  .rcases get_set e with ⟨_,z⟩ | ⟨n,e⟩
   .cases z
   .exact ⟨⟨d,.inr e⟩,n⟩
 refine ⟨by rw [Md,Md];exact R.len,fun j d e=>?_,fun j d e=>?_,fun j d e=>?_,fun j d e=>?_,fun j k a h1 h2 h3 h4=>?_,R.dom,R.fg⟩
 .rcases get_set e with ⟨_,z⟩ | ⟨n,e⟩
  .cases z
  obtain ⟨v,s,r⟩:=R.dat j d e;exact ⟨v,by rw [Lv n];exact s,r.mono hf⟩
 .rcases get_set e with ⟨_,z⟩ | ⟨n,e⟩
  .cases z
  obtain ⟨a,s,q,w,t⟩:=R.own j d e;exact ⟨a,by rw [Lv n];exact s,q,w,t.pr Pr.refl hf fun _ z=>z⟩
 .rcases get_set e with ⟨_,z⟩ | ⟨n,e⟩
  .cases z
  obtain ⟨a,s,q,w,t⟩:=R.GG j d e;exact ⟨a,by rw [Lv n];exact s,q,w,t.pr Pr.refl hf fun _ z=>z⟩
 .rcases get_set e with ⟨_,z⟩ | ⟨n,e⟩
  .cases z
  obtain ⟨a,s,t⟩:=R.ro j d e;exact ⟨a,by rw [Lv n];exact s,t.pr Pr.refl hf hi fun _ _ z _=>z⟩
 .obtain ⟨m1,n1⟩:=mm j h1;obtain ⟨m2,n2⟩:=mm k h2;rw [Lv n1] at h3;rw [Lv n2] at h4;exact R.sep j k a m1 m2 h3 h4
theorem Fh {i:Nat} {s:Sl} {x:Option V} (hu:env[i]?=some .un) (hs:∀ d,s≠.own d):FF F0 (env.set i s) (Y.set i x)=FF F0 env Y:=by
 funext b;apply propext;constructor
 .rintro (h | ⟨j,d,e,q⟩)
  .exact .inl h
  .rcases get_set e with ⟨_,z⟩ | ⟨n,e⟩
   .exact absurd z (hs d)
   .rw [Lv n] at q;exact .inr ⟨j,d,e,q⟩
 .rintro (h | ⟨j,d,e,q⟩)
  .exact .inl h
  .have n:i≠j:=fun z=>by subst z;rw [hu] at e;cases e
   exact .inr ⟨j,d,by rw [Lv n];exact e,by rw [Lv n];exact q⟩
theorem Eb {i:Nat} {s:Sl} {x:Option V} (hu:env[i]?=some .un) (hs:∀ d,s≠.own d/\s≠.GG d):IA (env.set i s) (Y.set i x)=IA env Y:=by
 funext b;apply propext;constructor
 .rintro ⟨j,⟨d,e | e⟩,q⟩
  .rcases get_set e with ⟨_,z⟩ | ⟨n,e⟩
   .exact absurd z (hs d).1
   .rw [Lv n] at q;exact ⟨j,⟨d,.inl e⟩,q⟩
  .rcases get_set e with ⟨_,z⟩ | ⟨n,e⟩
   .exact absurd z (hs d).2
   .rw [Lv n] at q;exact ⟨j,⟨d,.inr e⟩,q⟩
 .rintro ⟨j,⟨d,e⟩,q⟩;have n:i≠j:=fun z=>by subst z;rw [hu] at e;rcases e with e | e <;> cases e
  refine ⟨j,⟨d,?_⟩,by rw [Lv n];exact q⟩;rw [Lv n];exact e
theorem Rel.putD (R:Rel K F0 ZO I env Y H) {i:Nat} {d:Qq} {v:V} (hu:env[i]?=some .un) (h:Dm K (FF F0 env Y) H d v):Rel K F0 ZO I (env.set i (.dat d)) (Y.set i (some v)) H:=by
 have hi:i < env.length:=(Ls.mp hu).1;have eF:FF F0 (env.set i (.dat d)) (Y.set i (some v))=FF F0 env Y:=Fh hu (fun _=>nofun);have eI:IA (env.set i (.dat d)) (Y.set i (some v))=IA env Y:=Eb hu (fun _=>⟨nofun,nofun⟩);have mm:∀ j,mu (env.set i (.dat d)) j->mu env j/\i≠j:=fun j h=>by
  obtain ⟨c,e | e⟩:=h
  .rcases get_set e with ⟨_,z⟩ | ⟨n,e⟩
   .cases z
   .exact ⟨⟨c,.inl e⟩,n⟩
  .rcases get_set e with ⟨_,z⟩ | ⟨n,e⟩
   .cases z
   .exact ⟨⟨c,.inr e⟩,n⟩
 refine ⟨by rw [Md,Md];exact R.len,fun j c e=>?_,fun j c e=>?_,fun j c e=>?_,fun j c e=>?_,fun j k a h1 h2 h3 h4=>?_,R.dom,R.fg⟩
 .rw [eF];rcases get_set e with ⟨z,y⟩ | ⟨n,e⟩
  .subst z;cases y;exact ⟨v,LR (by rw [<- R.len];exact hi),h⟩
  obtain ⟨w,s,r⟩:=R.dat j c e;exact ⟨w,by rw [Lv n];exact s,r⟩
 .rw [eF];rcases get_set e with ⟨_,z⟩ | ⟨n,e⟩
  .cases z
  obtain ⟨a,s,q,w,t⟩:=R.own j c e;exact ⟨a,by rw [Lv n];exact s,q,w,t⟩
 .rw [eF];rcases get_set e with ⟨_,z⟩ | ⟨n,e⟩
  .cases z
  obtain ⟨a,s,q,w,t⟩:=R.GG j c e;exact ⟨a,by rw [Lv n];exact s,q,w,t⟩
 .rw [eF,eI];rcases get_set e with ⟨_,z⟩ | ⟨n,e⟩
  .cases z
  obtain ⟨a,s,t⟩:=R.ro j c e;exact ⟨a,by rw [Lv n];exact s,t⟩
 .obtain ⟨m1,n1⟩:=mm j h1;obtain ⟨m2,n2⟩:=mm k h2;rw [Lv n1] at h3;rw [Lv n2] at h4;exact R.sep j k a m1 m2 h3 h4
theorem Rel.Lh {i:Nat} {d:Qq} {a:Qz} (hu:env[i]?=some .un) (h:gR K F0 ZO I env Y H (.Oj d) (.ref a)):Rel K F0 ZO I (env.set i (.own d)) (Y.set i (some (.ref a))) H:=by
 obtain ⟨a',ea,R,t,w,nF,Tg,W5⟩:=h;cases ea;have hi:i < env.length:=(Ls.mp hu).1;have U6:i < Y.length:=by rw [<- R.len];exact hi
 have eF:FF F0 (env.set i (.own d)) (Y.set i (some (.ref a)))=fun b=>FF F0 env Y b\/b=a:=by
  funext b;apply propext;constructor
  .rintro (h | ⟨j,c,e,q⟩)
   .exact .inl (.inl h)
   .rcases get_set e with ⟨z,y⟩ | ⟨n,e⟩
    .subst z;rw [LR U6] at q;cases q;exact .inr rfl
    .rw [Lv n] at q;exact .inl (.inr ⟨j,c,e,q⟩)
  .rintro ((h | ⟨j,c,e,q⟩) | rfl)
   .exact .inl h
   .have n:i≠j:=fun z=>by subst z;rw [hu] at e;cases e
    exact .inr ⟨j,c,by rw [Lv n];exact e,by rw [Lv n];exact q⟩
   .exact .inr ⟨i,d,LR hi,LR U6⟩
 have TX:FF (fun b=>F0 b\/b=a) env Y=fun b=>FF F0 env Y b\/b=a:=iZ;have mm:∀ j,mu (env.set i (.own d)) j->i=j\/(mu env j/\i≠j):=fun j h=>by
  obtain ⟨c,e | e⟩:=h
  .rcases get_set e with ⟨z,_⟩ | ⟨n,e⟩
   .exact .inl z
   .exact .inr ⟨⟨c,.inl e⟩,n⟩
  .rcases get_set e with ⟨z,_⟩ | ⟨n,e⟩
   .exact .inl z
   .exact .inr ⟨⟨c,.inr e⟩,n⟩
 have eI:∀ b,IA (env.set i (.own d)) (Y.set i (some (.ref a))) b->IA env Y b\/b=a:=by
  rintro b ⟨j,m,q⟩;rcases mm j m with z | ⟨m',n⟩
  .subst z;rw [LR U6] at q;cases q;exact .inr rfl
  .rw [Lv n] at q;exact .inl ⟨j,m',q⟩
 have na:∀ j,mu env j->Y[j]?≠some (some (.ref a)):=fun j m q=>by
  obtain ⟨c,e | e⟩:=m
  .exact nF (.inr ⟨j,c,e,q⟩)
  .exact Tg j c e q
 refine ⟨by rw [Md,Md];exact R.len,fun j c e=>?_,fun j c e=>?_,fun j c e=>?_,fun j c e=>?_,fun j k b h1 h2 h3 h4=>?_,fun b h=>R.dom b (.inl h),R.fg⟩
 .rw [eF];rcases get_set e with ⟨_,z⟩ | ⟨n,e⟩
  .cases z
  obtain ⟨x,s,r⟩:=R.dat j c e;rw [TX] at r;exact ⟨x,by rw [Lv n];exact s,r⟩
 .rw [eF];rcases get_set e with ⟨z,y⟩ | ⟨n,e⟩
  .subst z;cases y;exact ⟨a,LR U6,fun z=>nF (.inl z),w,t⟩
  obtain ⟨b,s,q,w',t'⟩:=R.own j c e;rw [TX] at t';exact ⟨b,by rw [Lv n];exact s,fun z=>q (.inl z),w',t'⟩
 .rw [eF];rcases get_set e with ⟨_,z⟩ | ⟨n,e⟩
  .cases z
  obtain ⟨b,s,q,w',t'⟩:=R.GG j c e;rw [TX] at t';refine ⟨b,by rw [Lv n];exact s,?_,w',t'⟩;rcases q with q | q
  .exact q
  .subst q;exact absurd s (Tg j c e)
 .rw [eF];rcases get_set e with ⟨_,z⟩ | ⟨n,e⟩
  .cases z
  obtain ⟨b,s,t'⟩:=W5 j c e;exact ⟨b,by rw [Lv n];exact s,t'.pr Pr.refl (fun _ z=>z) eI fun _ _ z _=>z⟩
 .rcases mm j h1 with z1 | ⟨m1,n1⟩
  .rcases mm k h2 with z2 | ⟨m2,n2⟩
   .rw [<- z1,<-z2]
   .rw [<- z1,LR U6] at h3;cases h3;rw [Lv n2] at h4;exact absurd h4 (na k m2)
  .rw [Lv n1] at h3;rcases mm k h2 with z2 | ⟨m2,n2⟩
   .rw [<- z2,LR U6] at h4;cases h4;exact absurd h3 (na j m1)
   .rw [Lv n2] at h4;exact R.sep j k b m1 m2 h3 h4
theorem Rel.take (R:Rel K F0 ZO I env Y H) {i:Nat} {d:Qq} (e:env[i]?=some (.own d)):∃ a,Y[i]?=some (some (.ref a))/\gR K F0 ZO I (env.set i .un) Y H (.Oj d) (.ref a):=by
 obtain ⟨a,s,nF0,w,t⟩:=R.own i d e;have hi:i < env.length:=(Ls.mp e).1;have mm:∀ j,mu (env.set i .un) j->mu env j/\i≠j:=fun j h=>by
  obtain ⟨c,e | e⟩:=h
  .rcases get_set e with ⟨_,z⟩ | ⟨n,e⟩
   .cases z
   .exact ⟨⟨c,.inl e⟩,n⟩
  .rcases get_set e with ⟨_,z⟩ | ⟨n,e⟩
   .cases z
   .exact ⟨⟨c,.inr e⟩,n⟩
 have eF:FF F0 env Y=fun b=>FF F0 (env.set i .un) Y b\/b=a:=by
  funext b;apply propext;constructor
  .rintro (h | ⟨j,c,e',q⟩)
   .exact .inl (.inl h)
   .by_cases n:i=j
    .subst n;rw [s] at q;cases q;exact .inr rfl
    .exact .inl (.inr ⟨j,c,by rw [Lv n];exact e',q⟩)
  .rintro ((h | ⟨j,c,e',q⟩) | rfl)
   .exact .inl h
   .rcases get_set e' with ⟨_,z⟩ | ⟨n,e'⟩
    .cases z
    .exact .inr ⟨j,c,e',q⟩
   .exact .inr ⟨i,d,e,s⟩
 have TX:FF (fun b=>F0 b\/b=a) (env.set i .un) Y=FF F0 env Y:=by rw [iZ];exact eF.symm
 have na:∀ j,mu (env.set i .un) j->Y[j]?≠some (some (.ref a)):=fun j m q=>by obtain ⟨m',n⟩:=mm j m;exact n (R.sep i j a ⟨d,.inl e⟩ m' s q)
 have nF:¬FF F0 (env.set i .un) Y a:=by
  rintro (h | ⟨j,c,e',q⟩)
  .exact nF0 h
  .exact na j ⟨c,.inl e'⟩ q
 have ia:∀ b,IA (env.set i .un) Y b->IA env Y b:=fun b ⟨j,m,q⟩=>⟨j,(mm j m).1,q⟩;have ia2:∀ b,(IA (env.set i .un) Y b\/b=a)->IA env Y b:=fun b h=>h.elim (ia b) fun z=>z▸⟨i,⟨d,.inl e⟩,s⟩;have R':Rel K (fun b=>F0 b\/b=a) ZO I (env.set i .un) Y H:=by
  refine ⟨by rw [Md];exact R.len,fun j c e'=>?_,fun j c e'=>?_,fun j c e'=>?_,fun j c e'=>?_,fun j k b h1 h2 h3 h4=>R.sep j k b (mm j h1).1 (mm k h2).1 h3 h4,fun b h=>?_,R.fg⟩
  .rw [TX];rcases get_set e' with ⟨_,z⟩ | ⟨n,e'⟩
   .cases z
   exact R.dat j c e'
  .rw [TX];have m:=e';rcases get_set e' with ⟨_,z⟩ | ⟨n,e'⟩
   .cases z
   obtain ⟨b,s',q,w',t'⟩:=R.own j c e';exact ⟨b,s',fun z=>z.elim q fun z=>na j ⟨c,.inl m⟩ (z▸s'),w',t'⟩
  .rw [TX];rcases get_set e' with ⟨_,z⟩ | ⟨n,e'⟩
   .cases z
   obtain ⟨b,s',q,w',t'⟩:=R.GG j c e';exact ⟨b,s',.inl q,w',t'⟩
  .rw [TX];rcases get_set e' with ⟨_,z⟩ | ⟨n,e'⟩
   .cases z
   obtain ⟨b,s',t'⟩:=R.ro j c e';exact ⟨b,s',t'.pr Pr.refl (fun _ z=>z) ia fun _ _ z _=>z⟩
  .rcases h with h | h
   .exact R.dom b h
   .obtain ⟨o,q,_⟩:=t.wr;rw [h,q];exact nofun
 refine ⟨a,s,a,rfl,R',by rw [eF] at t;exact t,w,nF,fun j c e'=>na j ⟨c,.inr e'⟩,fun j c e'=>?_⟩;rcases get_set e' with ⟨_,z⟩ | ⟨n,e'⟩
 .cases z
 obtain ⟨b,s',t'⟩:=R.ro j c e';rw [eF] at t';exact ⟨b,s',t'.pr Pr.refl (fun _ z=>z) ia2 fun _ _ z _=>z⟩
theorem gR.rel (h:gR K F0 ZO I env Y H (.Oj d) v):Rel K F0 ZO I env Y H:=by obtain ⟨a,_,R,_,_,_,hi,_⟩:=h;exact R.less hi
theorem Fq (e:env[i]?=some s) (v:Te s s'):OD env (env.set i s'):=by
 have hi:i < env.length:=(Ls.mp e).1;refine ⟨Md,fun j t h=>?_⟩;by_cases z:i=j
 .subst z;rw [e] at h;cases h;exact ⟨s',LR hi,v⟩
 .exact ⟨t,by rw [Lv z];exact h,.refl t⟩
end
theorem az (x y:Str):(x++y).cps=x.cps++y.cps:=rfl
theorem tW (h:PyData.strOk x=true) (q:PyData.strOk y=true):PyData.strOk (x++y)=true:=by unfold PyData.strOk at h q ⊢;rw [az,Array.all_append,h,q];rfl
def SE (K:Fg) (ga:Nat->V) (gd:List Qq) (e:XE):Prop:=∀ (env:En) (rv:RV) (tR:En),dE gd e env=some (rv,tR)->∀ (F0:Zq) (ZO:Hp) (I:Zq) (Y:St) (H:Hp) (Q:VK),Rel K F0 ZO I env Y H ->
 (∀ v H',Rel K F0 ZO I tR Y H'->OD env tR->gR K F0 ZO I tR Y H' rv v->Q v H')->rE K ga e Y H Q
def SA (K:Fg) (ga:Nat->V) (gd:List Qq) (e:XA):Prop:=∀ (env:En) (rv:List AV) (tR:En),dA gd e env=some (rv,tR)->∀ (F0:Zq) (ZO:Hp) (I:Zq) (Y:St) (H:Hp) (Q:List V->Hp->Prop),Rel K F0 ZO I env Y H ->
 (∀ v H',Rel K F0 ZO I tR Y H'->OD env tR->gK K F0 tR Y H' rv v->Q v H')->rA K ga e Y H Q
def DS (K:Fg) (F:Zq) (H:Hp):List (Key×Qq)->List (Key×V)->Prop
 | [],vs=>vs=[]
 | (k,d) :: ds,vs=>∃ v r,vs=(k,v) :: r/\Dm K F H (kD k) (kV k)/\Dm K F H d v/\DS K F H ds r
def VT (K:Fg) (ga:Nat->V) (gd:List Qq) (e:XP):Prop:=∀ (env:En) (kvs:List (Key×Qq)) (tR:En),dP gd e env=some (kvs,tR)->∀ (F0:Zq) (ZO:Hp) (I:Zq) (Y:St) (H:Hp) (Q:List (V×V)->Hp->Prop),Rel K F0 ZO I env Y H ->
 (∀ vs H',Rel K F0 ZO I tR Y H'->OD env tR->DS K (FF F0 tR Y) H' kvs vs->Q (vs.map fun kv=>(kV kv.1,kv.2)) H')->ow (rP K ga e) Y H Q
def ST (K:Fg) (ga:Nat->V) (gd:List Qq) (e:XT):Prop:=∀ (env:En) (b:Bool) (tR:En),dT gd e env=some (b,tR)->∀ (F0:Zq) (ZO:Hp) (I:Zq) (Y:St) (H:Hp) (Q:Bool->Hp->Prop),Rel K F0 ZO I env Y H ->
 (∀ H',Rel K F0 ZO I tR Y H'->OD env tR->Q b H')->rT K ga e Y H Q
def Yu (K:Fg) (F:Zq) (H H' O3:Hp) (d:Qq) (x:V):Prop:=(O3=H'/\Dm K F H d x)\/∃ p u v d1 d2,d=.tuple [d1,d2]/\x=.ref p/\H' p=none/\O3=upd H' p (.tup [u,v])/\Dm K F H d1 u/\Dm K F H d2 v
theorem Yu.dm {K:Fg} (h:Yu K F H H' O3 d x) (T:∀ d v,Dm K F H d v->Dm K F2 H' d v):ax H' O3/\Dm K F2 O3 d x:=by
 rcases h with ⟨rfl,h⟩ | ⟨p,u,v,d1,d2,rfl,rfl,hp,rfl,h1,h2⟩
 .exact ⟨fun _ _ e=>e,T _ _ h⟩
 .have sm:ax H' (upd H' p (.tup [u,v])):=fun b o e=>by rw [aj (fun z=>by rw [z,hp] at e;cases e)];exact e
  refine ⟨sm,p,[u,v],rfl,OU.of ak,Of rfl,u,_,rfl,?_,v,_,rfl,?_,rfl⟩
  .exact (T _ _ h1).pr (fun b o e _=>sm b o e) fun _ z=>z
  .exact (T _ _ h2).pr (fun b o e _=>sm b o e) fun _ z=>z
def yN (K:Fg) (F I:Zq) (H:Hp) (J:It) (ds:List Qq):Prop:=ds.length<=sizeLine/\∀ H',(∀ b o,H b=some o->¬I b->H' b=some o)->∀ k,(k < ds.length->J.go k H'/\∀ x O3,J.RM k H' x O3->∃ d,ds[k]?=some d/\Yu K F H H' O3 d x)/\(ds.length<=k->J.stop k H')
theorem kh {K:Fg} (hd:Ot K F H ds vs) (hl:vs.length<=sizeLine) (h:∀ H',(∀ b o,H b=some o->¬I b->H' b=some o)->∀ k,(k < vs.length->J.go k H'/\∀ x O3,J.RM k H' x O3->O3=H'/\vs[k]?=some x)/\(vs.length<=k->J.stop k H')):yN K F I H J ds:=by have e:=hd.len;refine ⟨by lia,fun H' k j=>⟨fun hj=>?_,fun hj=>((h H' k j).2 (by lia))⟩⟩;obtain ⟨g,y⟩:=(h H' k j).1 (by lia);refine ⟨g,fun x O3 hx=>?_⟩;obtain ⟨e0,VU⟩:=y x O3 hx;obtain ⟨d,h1,h2⟩:=hd.get' VU;exact ⟨d,h1,.inl ⟨e0,h2⟩⟩
def SI (K:Fg) (ga:Nat->V) (gd:List Qq) (e:XI):Prop:=∀ (env:En) (ds:List Qq) (lock:Option Nat) (tR:En),dI gd e env=some (ds,lock,tR)->∀ (F0:Zq) (ZO:Hp) (I:Zq) (Y:St) (H:Hp) (R:It->Hp->Prop),Rel K F0 ZO I env Y H ->
 (∀ J H',Rel K F0 ZO I tR Y H'->OD env tR->(∀ i,lock=some i->∃ d,cont tR i=some d)->yN K (FF F0 tR Y) (fun b=>IA tR Y b/\∀ i,lock=some i->mu tR i->Y[i]?≠some (some (.ref b))) H' J ds->R J H')->W3 K ga e Y H R
section
variable {K:Fg} {F F' I I' F0:Zq} {H H' ZO:Hp} {env tR:En} {Y Z':St} {ga:Nat->V} {gd:List Qq}
theorem Ij (i:Nat):SE K ga gd (.var i):=by
 intro env rv tR h F0 ZO I Y H Q R q;simp only [dE] at h;split at h
 .rename_i d e;cases h;obtain ⟨v,s,r⟩:=R.dat i d e;exact ⟨v,s,q v H R (OD.refl _) r⟩
 .rename_i d e;cases h;obtain ⟨a,s,_⟩:=R.own i d e;exact ⟨_,s,q _ H R (OD.refl _) s⟩
 .rename_i d e;cases h;obtain ⟨a,s,_⟩:=R.GG i d e;exact ⟨_,s,q _ H R (OD.refl _) s⟩
 .rename_i d e;cases h;obtain ⟨a,s,_⟩:=R.ro i d e;exact ⟨_,s,q _ H R (OD.refl _) s⟩
 .cases h
theorem IQ (i:Nat):SE K ga gd (.U3 i):=by
 intro env rv tR h F0 ZO I Y H Q R q;simp only [dE] at h;split at h
 .rename_i d e;cases h;obtain ⟨a,s,r⟩:=R.take e;exact ⟨_,s,q _ H r.rel (Fq e (.inr (.inr rfl))) r⟩
 .cases h
theorem Jq (c:QZ):SE K ga gd (.cst c):=by intro env rv tR h F0 ZO I Y H Q R q;simp only [dE] at h;cases h;exact q _ H R (OD.refl _) (c.ok _ _ _)
theorem Hv (hg:∀ g d,gd[g]?=some d->∀ F H,Dm K F H d (ga g)) (g:Nat):SE K ga gd (.W0 g):=by
 intro env rv tR h F0 ZO I Y H Q R q;simp only [dE] at h;split at h
 .rename_i d e;cases h;exact q _ H R (OD.refl _) (hg g d e _ _)
 .cases h
theorem GV (ih:SA K ga gd as):SE K ga gd (.Si p as):=by
 intro env rv tR h F0 ZO I Y H Q R q;simp only [dE] at h;split at h
 .rename_i Ou e1 h1;split at h
  .rename_i ds h2;split at h
   .rename_i pr h3;cases h;refine ih _ _ _ h1 F0 ZO I Y H _ R fun vs H1 R1 k1 a1=>?_;refine p.ok K _ H1 ds vs pr Q h3 (a1.vw R1 h2) (fun b z=>R1.fC z) fun v H2 s2 hp=>?_;exact q v H2 (R1.same s2) k1 (R1.qd s2 hp)
   .cases h
  .cases h
 .cases h
theorem HL (io:SE K ga gd o) (ih:SA K ga gd as):SE K ga gd (.met m o as):=by
 intro env rv tR h F0 ZO I Y H Q R q;simp only [dE] at h;split at h
 .rename_i rv0 e1 h1;split at h
  .rename_i d0 h2;split at h
   .rename_i Uj;split at h
    .rename_i Ou e2 h3;split at h
     .rename_i d ds h4 h5;split at h
      .rename_i pr h6;cases h;refine io _ _ _ h1 F0 ZO I Y H _ R fun v H1 R1 k1 a1=>?_;refine ⟨m.zV K _ H1 d0 v Uj (a1.av.vw R1 h2),?_⟩;refine ih _ _ _ h3 F0 _ _ Y H1 _ R1.rebase fun vs H2 S2 k2 a2=>?_;have R2:=R1.bj S2;refine m.ok K _ H2 d v ds vs pr Q h6 ((a1.av.keep R1 S2 k2).vw R2 h4) (a2.vw R2 h5) (fun b z=>R2.fC z) fun v H3 s3 hp=>?_;exact q v H3 (R2.same s3) (k1.trans k2) (R2.qd s3 hp)
      .cases h
     .cases h
    .cases h
   .cases h
  .cases h
 .cases h
theorem Rel.Jz (R:Rel K F0 ZO I env Y H) (hm:aP env i=some d) (s:Y[i]?=some (some (.ref a))) (hk:∀ b o,b≠a->H b=some o->H' b=some o) (ht:Top K (FF F0 env Y) H' d' a):Rel K F0 ZO I (gO env i d') Y H':=by
 obtain ⟨m,a',s',_,_⟩:=R.de hm;rw [s] at s';cases s';have W6:IA env Y a:=⟨i,m,s⟩;refine R.chg (dG env i d') (fun b o e n=>hk b o (fun z=>n (z▸W6)) e) fun j c b hc hs=>?_;by_cases z:j=i
 .subst z;rw [kG m] at hc;cases hc;rw [s] at hs;cases hs;exact ht
 .have OT:aP env j=some c:=by unfold aP at hc ⊢;rwa [kK z] at hc
  obtain ⟨m2,b',s2,_,t2⟩:=R.de OT;rw [hs] at s2;cases s2;have nb:b≠a:=fun y=>z (R.sep j i a m2 m (y▸hs) s);refine t2.pr (R.q0 fun b' o e n=>hk b' o (fun z=>n (z▸W6)) e) (fun _ z=>z) fun o e=>hk b o nb e
theorem HY (ih:SA K ga gd as):SE K ga gd (.Uw m i as):=by
 intro env rv tR h F0 ZO I Y H Q R q;simp only [dE] at h;split at h
 .rename_i d0 h0;split at h
  .rename_i Uj;split at h
   .rename_i Ou e1 h1;split at h
    .rename_i d ds h2 h3;split at h
     .rename_i d' pr h4;cases h;obtain ⟨_,a,s,f,t⟩:=R.de h0;refine ⟨.ref a,s,m.zV K _ H d0 a Uj t,?_⟩;refine ih _ _ _ h1 F0 ZO I Y H _ R fun vs H1 R1 k1 a1=>?_;obtain ⟨m1,a',s',f1,t1⟩:=R1.de h2;rw [s] at s';cases s';refine m.ok K _ H1 d a ds vs d' pr Q h4 f1 t1 (a1.mv R1 h3) fun v H2 hk ht hp=>?_;refine q v H2 (R1.Jz h2 s hk ht) (k1.trans (tP _ _ _)) ?_;show Dm K (FF F0 (gO e1 i d') Y) H2 pr v;rw [(dG e1 i d').ff (F0:=F0) (Y:=Y)];exact hp
     .cases h
    .cases h
   .cases h
  .cases h
 .cases h
noncomputable def adr (Y:St) (i:Nat):Qz:=match Y[i]? with | some (some (.ref a))=>a | _=>0
theorem gm (h:Y[i]?=some (some (.ref a))):adr Y i=a:=by unfold adr;rw [h]
theorem jP (h:ja env (m :: ms) (a :: as)=some ds):∃ d r,ds=d :: r/\HH env m a=some d/\ja env ms as=some r:=by
 unfold ja at h;split at h
 .rename_i d r e1 e2;cases h;exact ⟨d,r,rfl,e1,e2⟩
 .cases h
theorem iq.bor (h:iq K G I H d a):z7 K G I H d (.ref a):=by cases d <;> first | exact ⟨a,rfl,h⟩ | exact absurd h id
theorem EF (R:Rel K F0 ZO I env Y H) (all:List Nat) (Pg:∀ i∈all,mu env i):∀ {ms:List PM} {as:List AV} {ds:List Qq} {vs:List V},ja env ms as=some ds->gK K F0 env Y H as vs->(cj ms as).Nodup->(∀ i∈tm ms as,i ∉ all)->(∀ i∈cj ms as,i∈all) ->
  bA K (FF F0 env Y) (·∈all.map (adr Y)) H ms ds vs ((cj ms as).map (adr Y)):=by
 have Ux:∀ b,b∈all.map (adr Y)->IA env Y b:=fun b hb=>by
  obtain ⟨i,hi,e⟩:=Mh.mp hb;have m:=Pg i hi;obtain ⟨d,m'⟩:=m;have:∃ a,Y[i]?=some (some (.ref a)):=by
   rcases m' with z | z
   .obtain ⟨a,s,_⟩:=R.own i d z;exact ⟨a,s⟩
   .obtain ⟨a,s,_⟩:=R.GG i d z;exact ⟨a,s⟩
  obtain ⟨a,s⟩:=this;rw [gm s] at e;subst e;exact ⟨i,Pg i hi,s⟩
 intro ms;induction ms with
 | nil =>
  intro as ds vs h q _ _ _;cases as with
  | nil=>cases h;rw [show vs=[] from q];rfl
  | cons a as=>cases h
 | cons m ms ih =>
  intro as ds vs h q nd hb hi;cases as with
  | nil=>cases h
  | cons a as =>
   obtain ⟨d,r,rfl,h1,h2⟩:=jP h;obtain ⟨v,vr,rfl,q1,q2⟩:=q;cases m with
   | dat =>
    cases a with
    | bor i=>cases h1
    | dat d' =>
     cases h1;exact ⟨q1,ih h2 q2 (by simpa [cj] using nd) (by simpa [tm] using hb) (by simpa [cj] using hi)⟩
   | bor =>
    cases a with
    | dat d' =>
     by_cases ct:∃ ts,d'=.tuple ts
     .obtain ⟨ts,rfl⟩:=ct;cases h1;exact ⟨q1,ih h2 q2 (by simpa [cj] using nd) (by simpa [tm] using hb) (by simpa [cj] using hi)⟩
     have l:d'=d/\((∃ ds,d=.list ds)\/∃ ds,d=.dict ds):=by cases d' <;> first | exact absurd ⟨_,rfl⟩ ct | (cases h1;exact ⟨rfl,.inl ⟨_,rfl⟩⟩) | (cases h1;exact ⟨rfl,.inr ⟨_,rfl⟩⟩) | cases h1
     obtain ⟨rfl,l⟩:=l;obtain ⟨b,e,t⟩:=Dm.ro (I:=(·∈all.map (adr Y))) q1 (fun b z=>R.ia (Ux b z)) l;exact ⟨by rcases l with ⟨_,rfl⟩ | ⟨_,rfl⟩ <;> exact ⟨b,e,t⟩,ih h2 q2 (by simpa [cj] using nd) (by simpa [tm] using hb) (by simpa [cj] using hi)⟩
    | bor i =>
     have h1:cont env i=some d:=h1;have SU:i ∉ all:=hb i (by simp [tm]);refine ⟨?_,ih h2 q2 (by simpa [cj] using nd) (fun j hj=>hb j (by simp [tm,hj])) (by simpa [cj] using hi)⟩;unfold cont at h1;have na:∀ a,mu env i->Y[i]?=some (some (.ref a))->a ∉ all.map (adr Y):=fun a m s z=>by
      obtain ⟨j,hj,e⟩:=Mh.mp z;obtain ⟨k,mk,sk⟩:=Ux a z;obtain ⟨dj,mj⟩:=Pg j hj;have:∃ c,Y[j]?=some (some (.ref c)):=by
       rcases mj with z | z
       .obtain ⟨a,s,_⟩:=R.own j dj z;exact ⟨a,s⟩
       .obtain ⟨a,s,_⟩:=R.GG j dj z;exact ⟨a,s⟩
      obtain ⟨c,sj⟩:=this;rw [gm sj] at e;subst e;have:=R.sep i j c m ⟨dj,mj⟩ s sj;subst this;exact SU hj
     split at h1
     .rename_i d' e;cases h1;obtain ⟨a,s,_,_,t⟩:=R.own i d e;rw [show Y[i]?=some (some v) from q1] at s;cases s;exact iq.bor (t.ro (na a ⟨d,.inl e⟩ q1))
     .rename_i d' e;cases h1;obtain ⟨a,s,_,_,t⟩:=R.GG i d e;rw [show Y[i]?=some (some v) from q1] at s;cases s;exact iq.bor (t.ro (na a ⟨d,.inr e⟩ q1))
     .rename_i d' e;cases h1;obtain ⟨a,s,t⟩:=R.ro i d e;rw [show Y[i]?=some (some v) from q1] at s;cases s;exact iq.bor (t.pr Pr.refl (fun _ z=>z) Ux fun _ _ z _=>z)
     .cases h1
   | GG =>
    cases a with
    | dat d'=>cases h1
    | bor i =>
     have h1:aP env i=some d:=h1;obtain ⟨m,b,s,f,t⟩:=R.de h1;rw [show Y[i]?=some (some v) from q1] at s;cases s;have Rz:i ∉ cj ms as/\(cj ms as).Nodup:=by simpa [cj] using nd
     refine ⟨b,(cj ms as).map (adr Y),rfl,by simp [cj,gm q1],f,t,fun z=>?_,ih h2 q2 Rz.2 (by simpa [tm] using hb) (fun j hj=>hi j (by simp [cj,hj]))⟩;obtain ⟨j,hj,e⟩:=Mh.mp z;obtain ⟨dj,mj⟩:=Pg j (hi j (by simp [cj,hj]));have:∃ c,Y[j]?=some (some (.ref c)):=by
      rcases mj with z | z
      .obtain ⟨a,s,_⟩:=R.own j dj z;exact ⟨a,s⟩
      .obtain ⟨a,s,_⟩:=R.GG j dj z;exact ⟨a,s⟩
     obtain ⟨c,sj⟩:=this;rw [gm sj] at e;subst e;have:=R.sep i j c m ⟨dj,mj⟩ q1 sj;subst this;exact Rz.1 hj
theorem vB:∀ {ms:List PM} {as:List AV} {ds:List Qq},ja env ms as=some ds->∀ i∈cj ms as,mu env i
 | [],[],_,_,i,h=>by simp [cj] at h
 | [],_ :: _,_,h,_,_=>by cases h
 | _ :: _,[],_,h,_,_=>by cases h
 | m :: ms,a :: as,_,h,i,hi=>by
  obtain ⟨d,r,rfl,h1,h2⟩:=jP h;have ih:=vB h2 i;cases m with
  | dat=>exact ih (by simpa [cj] using hi)
  | bor=>exact ih (by simpa [cj] using hi)
  | GG =>
   cases a with
   | dat d'=>cases h1
   | bor j =>
    simp only [cj,LJ] at hi;rcases hi with rfl | hi
    .rcases o5 h1 with e | e
     .exact ⟨d,.inl e⟩
     .exact ⟨d,.inr e⟩
    .exact ih hi
theorem lg:∀ (env:En) (is:List Nat) (ds:List Qq),Ph env (cJ env is ds)
 | env,[],ds=>by unfold cJ;exact Ph.refl _
 | env,i :: is,[]=>by unfold cJ;exact Ph.refl _
 | env,i :: is,d :: ds=>by unfold cJ;exact (dG env i d).trans (lg _ is ds)
theorem ig:∀ (env:En) (is:List Nat) (ds:List Qq) (j:Nat),j ∉ is->(cJ env is ds)[j]?=env[j]?
 | env,[],ds,j,_=>by unfold cJ;rfl
 | env,i :: is,[],j,_=>by unfold cJ;rfl
 | env,i :: is,d :: ds,j,h=>by unfold cJ;have n:j≠i:=fun z=>h (by rw [z];exact Lq);rw [ig _ is ds j (fun z=>h (Ly _ z)),kK n]
theorem j8:∀ {env:En} {is:List Nat} {ds:List Qq} {j:Nat} {c:Qq},is.Nodup->(∀ i∈is,mu env i)->ix K G H ds (is.map (adr Y))->j∈is->aP (cJ env is ds) j=some c->Top K G H c (adr Y j)
 | env,[],ds,j,c,_,_,_,h,_=>by simp at h
 | env,i :: is,[],j,c,_,_,h,_,_=>by simp [ix] at h
 | env,i :: is,d :: ds,j,c,nd,hm,h,hj,hc=>by
  obtain ⟨n1,Rz⟩:=MA.mp nd;have h':Top K G H d (adr Y i)/\ix K G H ds (is.map (adr Y)):=h;unfold cJ at hc;rcases LJ.mp hj with rfl | hj
  .have e:=ig (gO env j d) is ds j n1;have:aP (gO env j d) j=some c:=by unfold aP at hc ⊢;rwa [e] at hc
   rw [kG (hm j Lq)] at this;cases this;exact h'.1
  .exact j8 (env:=gO env i d) Rz (fun k hk=>(dG env i d).symm.kp.mu (hm k (Ly _ hk))) h'.2 hj hc
theorem kg:∀ {is:List Nat},BJ is=true->is.Nodup
 | [],_=>List.nodup_nil
 | x :: xs,h=>by
  have h':xs.contains x=false/\BJ xs=true:=by simpa [BJ] using h
  exact MA.mpr ⟨fun z=>by simp [z] at h',kg h'.2⟩
theorem AQ (h:W4 is bs n=true):is.Nodup/\(∀ i∈bs,i ∉ is)/\n=is.length:=by unfold W4 at h;simp only [Mj,MY,Ma] at h;exact ⟨kg h.1,fun i hi z=>by have:=h.2.1 i hi;simp [z] at this,h.2.2⟩
theorem s_call (ih:SA K ga gd as):SE K ga gd (.call f as):=by
 intro env rv tR h F0 ZO I Y H Q R q;simp only [dE] at h;split at h
 .rename_i Ou e1 h1;unfold xJ at h;split at h
  .cases h
  .rename_i ds h2;split at h
   .cases h
   .rename_i pr outs h3;split at h
    .rename_i hc;obtain ⟨nd,hb,hl⟩:=AQ hc;cases h;refine ih _ _ _ h1 F0 ZO I Y H _ R fun vs H1 R1 k1 a1=>?_;show gT f K (vs++[]) H1 Q W2;rw [L7];have U7:=vB h2;refine ⟨FF F0 e1 Y,ds,(cj f.ms Ou).map (adr Y),pr,outs,h3,EF R1 (cj f.ms Ou) U7 h2 a1 nd hb (fun _ z=>z),fun b z=>R1.fC z,fun v H2 hk hr=>?_⟩;have k:=lg e1 (cj f.ms Ou) outs;have eF:=k.ff (F0:=F0) (Y:=Y);have eI:=k.ia (Y:=Y);have VW:∀ b,b∈(cj f.ms Ou).map (adr Y)->IA e1 Y b:=fun b hb=>by
      obtain ⟨i,hi,e⟩:=Mh.mp hb;obtain ⟨d,m'⟩:=U7 i hi;have:∃ a,Y[i]?=some (some (.ref a)):=by
       rcases m' with z | z
       .obtain ⟨a,s,_⟩:=R1.own i d z;exact ⟨a,s⟩
       .obtain ⟨a,s,_⟩:=R1.GG i d z;exact ⟨a,s⟩
      obtain ⟨a,s⟩:=this;rw [gm s] at e;subst e;exact ⟨i,U7 i hi,s⟩
     have PZ:∀ b o,H1 b=some o->¬IA e1 Y b->H2 b=some o:=fun b o e n=>hk b o e fun z=>n (VW b z);have jf:∀ j d a,j ∉ cj f.ms Ou->aP (cJ e1 (cj f.ms Ou) outs) j=some d->Y[j]?=some (some (.ref a))->aP e1 j=some d/\a ∉ (cj f.ms Ou).map (adr Y):=fun j d a hj hm hs=>by
      have TY:aP e1 j=some d:=by unfold aP at hm ⊢;rwa [ig _ _ _ _ hj] at hm
      refine ⟨TY,fun z=>?_⟩;obtain ⟨i,hi,e⟩:=Mh.mp z;obtain ⟨i',m2,s2⟩:=VW a z;obtain ⟨di,mi⟩:=U7 i hi;have:∃ a,Y[i]?=some (some (.ref a)):=by
       rcases mi with z | z
       .obtain ⟨a,s,_⟩:=R1.own i di z;exact ⟨a,s⟩
       .obtain ⟨a,s,_⟩:=R1.GG i di z;exact ⟨a,s⟩
      obtain ⟨c,sc⟩:=this;rw [gm sc] at e;subst e;have:=R1.sep j i c (R1.de TY).1 ⟨di,mi⟩ hs sc;subst this;exact hj hi
     cases pr with
     | dat d =>
      obtain ⟨hd,ht⟩:=hr;refine q v H2 (R1.chg k PZ fun j c a hm hs=>?_) (k1.trans k.kp) (show Dm K _ H2 d v by rw [eF];exact hd);by_cases hj:j∈cj f.ms Ou
      .have:=j8 nd U7 ht hj hm;rwa [gm hs] at this
      .obtain ⟨TY,ha⟩:=jf j c a hj hm hs;obtain ⟨_,a',s',_,t'⟩:=R1.de TY;rw [hs] at s';cases s';exact t'.pr (R1.q0 PZ) (fun _ z=>z) fun o e=>hk a o e ha
     | Oj d =>
      obtain ⟨c,ev,hn,td,ht⟩:=hr;obtain ⟨o,ho,_⟩:=td.wr;have sm:ax H1 (upd H1 c o):=ax.nw o hn;have R1c:=R1.fresh (c:=c) hn sm (by rw [ak];exact nofun);have Th:¬IA e1 Y c:=fun z=>by obtain ⟨o',z,_⟩:=R1.UZ z;rw [hn] at z;cases z
      have hkc:∀ b o',upd H1 c o b=some o'->¬IA e1 Y b->H2 b=some o':=fun b o' e n=>by
       by_cases z:b=c
       .subst z;rw [ak] at e;cases e;exact ho
       .rw [aj z] at e;exact PZ b o' e n
      have pF:Pr (fun b=>FF F0 e1 Y b\/b=c) H1 H2:=fun b o' e n=>PZ b o' e fun y=>by
       rcases n with n | n
       .exact n (.inl (R1.ia y))
       .obtain ⟨o2,h2,w2⟩:=R1.UZ y;rw [e] at h2;cases h2;rw [n] at w2;cases w2
      have R2c:Rel K (fun b=>F0 b\/b=c) ZO I (cJ e1 (cj f.ms Ou) outs) Y H2:=by
       refine R1c.chg k hkc fun j c' a hm hs=>?_;rw [iZ];by_cases hj:j∈cj f.ms Ou
       .have:=j8 nd U7 ht hj hm;rwa [gm hs] at this
       .obtain ⟨TY,ha⟩:=jf j c' a hj hm hs;obtain ⟨_,a',s',_,t'⟩:=R1.de TY;rw [hs] at s';cases s';exact (t'.fresh hn).pr pF (fun _ z=>z) fun o e=>hk a o e ha
      have Yv:∀ (i:Nat) (d':Qq),(cJ e1 (cj f.ms Ou) outs)[i]?=some (.GG d')->Y[i]?≠some (some (.ref c)):=fun i d' e' z=>Th ⟨i,k.kp.mu ⟨d',.inr e'⟩,z⟩;have rv:gR K F0 ZO I (cJ e1 (cj f.ms Ou) outs) Y H2 (.Oj d) v:=by
       refine ⟨c,ev,R2c,by rw [eF];exact td,R1.oi (.inl hn),fun z=>?_,Yv,fun i d' e'=>?_⟩
       .rw [eF] at z;exact R1.fC z hn
       .have e0:e1[i]?=some (.ro d'):=by
         rcases k.2 i with y | ⟨_,_,_,y⟩ | ⟨_,_,_,y⟩
         .rw [<- y];exact e'
         .rw [e'] at y;cases y
         .rw [e'] at y;cases y
        obtain ⟨b,s,t⟩:=R1.ro i d' e0;rw [eF,eI];exact ⟨b,s,((t.fresh hn).zv hn).pr pF (fun _ z=>z) (fun _ z=>z) fun b o' e n=>PZ b o' e fun z=>n (.inl z)⟩
      exact q v H2 rv.rel (k1.trans k.kp) rv
    .cases h
 .cases h
theorem HV (ih:SA K ga gd as):SE K ga gd (.tup as):=by
 intro env rv tR h F0 ZO I Y H Q R q;simp only [dE] at h;split at h
 .rename_i Ou e1 h1;split at h
  .rename_i ds h2;split at h
   .rename_i hl;cases h;refine ih _ _ _ h1 F0 ZO I Y H _ R fun vs H1 R1 k1 a1=>?_;have dl:=a1.Gs h2;have Qh:vs.length<=sizeLine:=by rw [dl.len];exact hl
    refine ⟨Qh,fun p hp=>?_⟩;have s:=ax.nw (.tup vs) hp;exact q _ _ (R1.same s) k1 ⟨p,vs,rfl,.inl (.inl ak),Qh,dl.pr (Pr.of_same s) fun _ z=>z⟩
   .cases h
  .cases h
 .cases h
theorem HJ (ih:SA K ga gd as):SE K ga gd (.lst as):=by
 intro env rv tR h F0 ZO I Y H Q R q;simp only [dE] at h;split at h
 .rename_i Ou e1 h1;split at h
  .rename_i ds h2;split at h
   .rename_i hl;cases h;refine ih _ _ _ h1 F0 ZO I Y H _ R fun vs H1 R1 k1 a1=>?_;have dl:=a1.Gs h2;have Qh:vs.length<=sizeLine:=by rw [dl.len];exact hl
    refine ⟨Qh,fun p hp=>?_⟩;have s:=ax.nw (.lst vs) hp;exact q _ _ (R1.same s) k1 (R1.qd (pr:=.Oj (.list ds)) s ⟨p,rfl,hp,vs,ak,Qh,(dl.fresh hp).pr (Pr.of_same s) fun _ z=>z⟩)
   .cases h
  .cases h
 .cases h
theorem Ip:SA K ga gd .nil:=by intro env rv tR h F0 ZO I Y H Q R q;simp only [dA] at h;cases h;exact q [] H R (OD.refl _) rfl
theorem CJ (ie:SE K ga gd e) (ir:SA K ga gd r):SA K ga gd (.cons e r):=by
 intro env rv tR h F0 ZO I Y H Q R q;simp only [dA] at h;split at h
 .rename_i rv0 e1 h1;split at h
  .rename_i Ou e2 h2;cases h;refine ie _ _ _ h1 F0 ZO I Y H _ R fun v H1 R1 k1 a1=>?_;refine ir _ _ _ h2 F0 _ _ Y H1 _ R1.rebase fun vs H2 S2 k2 a2=>?_;exact q (v :: vs) H2 (R1.bj S2) (k1.trans k2) ⟨v,vs,rfl,a1.av.keep R1 S2 k2,a2⟩
  .cases h
 .cases h
end
section
variable {K:Fg} {F F' I I' F0:Zq} {H H' ZO:Hp} {env tR:En} {Y Z':St} {ga:Nat->V} {gd:List Qq}
theorem Ib (ic:ST K ga gd c) (ia:SE K ga gd a) (ib:SE K ga gd b):SE K ga gd (.Sj c a b):=by
 intro env rv tR h F0 ZO I Y H Q R q;simp only [dE] at h;split at h
 .rename_i e1 h1;refine ic _ _ _ h1 F0 ZO I Y H _ R fun H1 R1 k1=>?_;rw [Lz rfl];exact ia _ _ _ h F0 ZO I Y H1 _ R1 fun v H2 R2 k2 r=>q v H2 R2 (k1.trans k2) r
 .rename_i e1 h1;refine ic _ _ _ h1 F0 ZO I Y H _ R fun H1 R1 k1=>?_;rw [Lw (by decide)];exact ib _ _ _ h F0 ZO I Y H1 _ R1 fun v H2 R2 k2 r=>q v H2 R2 (k1.trans k2) r
 .cases h
theorem Cb (ia:SE K ga gd a) (ib:SE K ga gd b):SE K ga gd (.qk a b):=by
 intro env rv tR h F0 ZO I Y H Q R q;simp only [dE] at h;split at h
 .rename_i e1 h1;refine ia _ _ _ h1 F0 ZO I Y H _ R fun v H1 R1 k1 r1=>⟨true,r1,?_⟩;rw [Lz rfl];exact ib _ _ _ h F0 ZO I Y H1 _ R1 fun v H2 R2 k2 r=>q v H2 R2 (k1.trans k2) r
 .rename_i e1 h1;cases h;refine ia _ _ _ h1 F0 ZO I Y H _ R fun v H1 R1 k1 r1=>⟨false,r1,?_⟩;rw [Lw (by decide)];exact q _ H1 R1 k1 rfl
 .cases h
theorem Gp (ia:SE K ga gd a) (ib:SE K ga gd b):SE K ga gd (.TR a b):=by
 intro env rv tR h F0 ZO I Y H Q R q;simp only [dE] at h;split at h
 .rename_i e1 h1;cases h;refine ia _ _ _ h1 F0 ZO I Y H _ R fun v H1 R1 k1 r1=>⟨true,r1,?_⟩;rw [Lz rfl];exact q _ H1 R1 k1 rfl
 .rename_i e1 h1;refine ia _ _ _ h1 F0 ZO I Y H _ R fun v H1 R1 k1 r1=>⟨false,r1,?_⟩;rw [Lw (by decide)];exact ib _ _ _ h F0 ZO I Y H1 _ R1 fun v H2 R2 k2 r=>q v H2 R2 (k1.trans k2) r
 .cases h
theorem Em (ia:SE K ga gd a):SE K ga gd (.Bj a):=by
 intro env rv tR h F0 ZO I Y H Q R q;simp only [dE] at h;split at h
 .rename_i x e1 h1;cases h;exact ia _ _ _ h1 F0 ZO I Y H _ R fun v H1 R1 k1 r1=>⟨x,r1,q _ H1 R1 k1 rfl⟩
 .cases h
theorem GQ (hx:Vw K F H x u) (hy:Vw K F H y v):VQ K F H [x,y] [u,v]:=⟨u,[v],rfl,hx,v,[],rfl,hy,rfl⟩
theorem IE (ia:SE K ga gd a) (ib:SE K ga gd b) (ic:SE K ga gd c):SE K ga gd (.SR p p' a b c):=by
 intro env rv tR h F0 ZO I Y H Q R q;simp only [dE] at h;split at h
 .rename_i ra e1 h1;split at h
  .rename_i rb e2 h2;split at h
   .rename_i x y hx hy;refine ia _ _ _ h1 F0 ZO I Y H _ R fun v H1 R1 k1 r1=>?_;refine ib _ _ _ h2 F0 _ _ Y H1 _ R1.rebase fun u H2 S2 k2 r2=>?_;have R2:=R1.bj S2;have a1:=r1.av.keep R1 S2 k2;have a2:=r2.av;rw [hx] at a1;rw [hy] at a2;have dx:Dm K (FF F0 e2 Y) H2 x v:=a1;have dy:Dm K (FF F0 e2 Y) H2 y u:=a2;split at h
    .rename_i hp;split at h
     .rename_i rc e3 h3;split at h
      .rename_i z hz;split at h
       .rename_i pr hq;cases h;refine p.ok K _ H2 _ _ _ _ hp (GQ dx.vw dy.vw) (fun b z=>R2.fC z) fun w H3 s3 hw=>⟨true,hw,?_⟩;rw [Lz rfl];have R3:=R2.same s3;have dy3:Dm K (FF F0 e2 Y) H3 y u:=dy.pr (Pr.of_same s3) fun _ z=>z;refine ic _ _ _ h3 F0 _ _ Y H3 _ R3.rebase fun t H4 S4 k4 r4=>?_;have R4:=R3.bj S4;have a4:=r4.av;rw [hz] at a4;have dz:Dm K (FF F0 tR Y) H4 z t:=a4;refine p'.ok K _ H4 _ _ _ _ hq (GQ (R3.oQ S4 k4 dy3).vw dz.vw) (fun b z=>R4.fC z) fun w H5 s5 hw=>?_;exact q w H5 (R4.same s5) ((k1.trans k2).trans k4) (R4.qd s5 hw)
       .cases h
      .cases h
     .cases h
    .rename_i hp;cases h;refine p.ok K _ H2 _ _ _ _ hp (GQ dx.vw dy.vw) (fun b z=>R2.fC z) fun w H3 s3 hw=>⟨false,hw,?_⟩;rw [Lw (by decide)];exact q _ H3 (R2.same s3) (k1.trans k2) rfl
    .cases h
   .cases h
  .cases h
 .cases h
theorem Ig (ie:SE K ga gd e):ST K ga gd (.OB e):=by
 intro env b tR h F0 ZO I Y H Q R q;simp only [dT] at h;split at h
 .rename_i x e1 h1;cases h;exact ie _ _ _ h1 F0 ZO I Y H _ R fun v H1 R1 k1 r1=>⟨_,r1,q H1 R1 k1⟩
 .cases h
theorem jm (h:Ot K F H ds vs):vs.isEmpty=ds.isEmpty:=by
 cases ds with
 | nil=>rw [show vs=[] from h];rfl
 | cons d ds=>obtain ⟨v,r,rfl,_⟩:=h;rfl
theorem Vw.TU (h:Vw K F H d v) (nd:Hw d≠true):F7 K v H (Ik d):=by
 cases d with
 | none=>rw [show v=.non from h];rfl
 | bool b=>rw [show v=.bl b from h];rfl
 | int i=>rw [show v=.int i from h];rfl
 | str x=>obtain ⟨rfl,hl,_⟩:=(show v=.str x/\x.length<=sizeLine/\PyData.strOk x=true from h);exact ⟨hl,rfl⟩
 | list ds=>obtain ⟨a,rfl,xs,e,_,r⟩:=h;exact .inl ⟨xs,e,by rw [jm r];rfl⟩
 | tuple ds=>obtain ⟨a,xs,rfl,e,_,r⟩:=h;exact .inr (.inl ⟨xs,e,by rw [jm r];rfl⟩)
 | dict ds=>exact absurd rfl nd
theorem GF (ie:SE K ga gd e):ST K ga gd (.TU e):=by
 intro env b tR h F0 ZO I Y H Q R q;simp only [dT] at h;split at h
 .rename_i x e1 h1;split at h
  .rename_i d h2;split at h
   .cases h
   .rename_i nd;cases h;exact ie _ _ _ h1 F0 ZO I Y H _ R fun v H1 R1 k1 r1=>⟨_,(r1.av.vw R1 h2).TU nd,q H1 R1 k1⟩
  .cases h
 .cases h
theorem Kz (ia:ST K ga gd a) (ib:ST K ga gd b):ST K ga gd (.or a b):=by
 intro env x tR h F0 ZO I Y H Q R q;simp only [dT] at h;split at h
 .rename_i e1 h1;cases h;refine ia _ _ _ h1 F0 ZO I Y H _ R fun H1 R1 k1=>?_;rw [Lz rfl];exact q H1 R1 k1
 .rename_i e1 h1;refine ia _ _ _ h1 F0 ZO I Y H _ R fun H1 R1 k1=>?_;rw [Lw (by decide)];exact ib _ _ _ h F0 ZO I Y H1 _ R1 fun H2 R2 k2=>q H2 R2 (k1.trans k2)
 .cases h
theorem Iq (ia:ST K ga gd a):ST K ga gd (.not a):=by
 intro env x tR h F0 ZO I Y H Q R q;simp only [dT] at h;split at h
 .rename_i b e1 h1;cases h;exact ia _ _ _ h1 F0 ZO I Y H _ R fun H1 R1 k1=>q H1 R1 k1
 .cases h
theorem IM:ST K ga gd .yes:=by intro env x tR h F0 ZO I Y H Q R q;simp only [dT] at h;cases h;exact q H R (OD.refl _)
theorem zB (hd:Ot K F H ds vs) (hl:vs.length<=sizeLine) (h:∀ H',(∀ b o,H b=some o->¬I b->H' b=some o)->OO K H' a vs):yN K F I H (WD K a) ds :=
 kh hd hl fun H' k j=>⟨fun hj=>⟨⟨vs,vs[j],h H' k,Lp hj⟩,fun x O3 y=>⟨y.1,y.2 vs (h H' k)⟩⟩,fun hj=>⟨vs,h H' k,hj⟩⟩
theorem B7 (hd:Ot K F H ds vs) (hl:vs.length<=sizeLine) (h:∀ H',(∀ b o,H b=some o->¬I b->H' b=some o)->OU K H' a vs):yN K F I H (XW K a) ds :=
 kh hd hl fun H' k j=>⟨fun hj=>⟨⟨vs,vs[j],h H' k,Lp hj⟩,fun x O3 y=>⟨y.1,y.2 vs (h H' k)⟩⟩,fun hj=>⟨vs,h H' k,hj⟩⟩
theorem Aj (ie:SE K ga gd e):SI K ga gd (.lst e):=by
 intro env ds lock tR h F0 ZO I Y H Q R q;simp only [dI] at h;split at h
 .rename_i rv e1 h1;split at h
  .rename_i Tf hv;cases h;refine ie _ _ _ h1 F0 ZO I Y H _ R fun v H1 R1 k1 r1=>?_;have a1:=r1.av;rw [hv] at a1;obtain ⟨a,xs,rfl,l,z,r⟩:=(show Dm K (FF F0 tR Y) H1 (.list ds) v from a1);refine ⟨a,rfl,⟨xs,l.elim (fun q=>.inl q.2) .inr⟩,q _ H1 R1 k1 (fun i z=>by cases z) (zB r z fun H' k=>?_)⟩;rcases l with ⟨n,l | ⟨o,l⟩⟩ | l
   .exact .inl (.inl (k _ _ l fun z=>n (R1.ia z.1)))
   .exact .inl (.inr ⟨o,k _ _ l fun z=>n (R1.ia z.1)⟩)
   .exact .inr l
  .cases h
  .rename_i i hv;split at h
   .rename_i Tf hc;cases h;refine ie _ _ _ h1 F0 ZO I Y H _ R fun v H1 R1 k1 r1=>?_;have a1:=r1.av;rw [hv] at a1;have s:Y[i]?=some (some v):=a1;unfold cont at hc;have fin:∀ a xs,v=.ref a->Ot K (FF F0 tR Y) H1 ds xs->xs.length<=sizeLine->(∀ H',(∀ b o,H1 b=some o->¬(IA tR Y b/\∀ j,some i=some j->mu tR j->Y[j]?≠some (some (.ref b)))->H' b=some o)->OO K H' a xs)->(∃ d,cont tR i=some d) ->
      ∃ a,v=.ref a/\(∃ xs,OO K H1 a xs)/\Q (WD K a) H1:=fun a xs ev r z k Pt =>
     ⟨a,ev,⟨xs,k H1 fun _ _ e _=>e⟩,q _ H1 R1 k1 (fun j hj=>by cases hj;exact Pt) (zB r z k)⟩
    split at hc
    .rename_i d e;cases hc;obtain ⟨a,s',_,_,xs,t,z,r⟩:=R1.own i _ e;rw [s] at s';cases s';exact fin a xs rfl r z (fun H' k=>.inl (.inl (k _ _ t fun y=>y.2 i rfl ⟨_,.inl e⟩ s))) ⟨_,by unfold cont;rw [e]⟩
    .rename_i d e;cases hc;obtain ⟨a,s',_,_,xs,t,z,r⟩:=R1.GG i _ e;rw [s] at s';cases s';exact fin a xs rfl r z (fun H' k=>.inl (.inl (k _ _ t fun y=>y.2 i rfl ⟨_,.inr e⟩ s))) ⟨_,by unfold cont;rw [e]⟩
    .rename_i d e;cases hc;obtain ⟨a,s',xs,l,z,r⟩:=R1.ro i _ e;rw [s] at s';cases s';refine fin a xs rfl r z (fun H' k=>?_) ⟨_,by unfold cont;rw [e]⟩;rcases l with ⟨n,l | ⟨o,l⟩⟩ | l
     .exact .inl (.inl (k _ _ l fun z=>n z.1))
     .exact .inl (.inr ⟨o,k _ _ l fun z=>n z.1⟩)
     .exact .inr l
    .cases hc
   .cases h
 .cases h
theorem D6 (hd:Ot K F H ds xs) (hl:xs.length<=sizeLine) (h1:∀ H',(∀ b o,H b=some o->¬I b->H' b=some o)->OO K H' a xs):yN K F I H (Yq K a xs) (ds.zipIdx.map fun p=>.tuple [.int p.2,p.1]):=by
 have e1:=hd.len;have el:(ds.zipIdx.map fun p=>PyData.tuple [.int p.2,p.1]).length=xs.length:=by rw [Lo,List.length_zipIdx,e1]
 refine ⟨by rw [el];exact hl,fun H' k j=>⟨fun hj=>?_,fun hj=>?_⟩⟩
 .rw [el] at hj;refine ⟨⟨h1 H' k,hj⟩,?_⟩;rintro x O3 ⟨p,u,hp,rfl,hu,rfl⟩;obtain ⟨d,d1,d2⟩:=hd.get' hu;refine ⟨.tuple [.int j,d],?_,.inr ⟨p,.int j,u,.int j,d,rfl,rfl,hp,rfl,rfl,d2⟩⟩;rw [LO,List.getElem?_zipIdx,d1];simp
 .rw [el] at hj;exact ⟨h1 H' k,hj⟩
theorem Hc (ie:SE K ga gd e):SI K ga gd (.U4 e):=by
 intro env ds lock tR h F0 ZO I Y H Q R q;simp only [dI] at h;split at h
 .rename_i rv e1 h1;split at h
  .rename_i Tf hv;cases h;refine ie _ _ _ h1 F0 ZO I Y H _ R fun v H1 R1 k1 r1=>?_;have a1:=r1.av;rw [hv] at a1;obtain ⟨a,xs,rfl,l,z,r⟩:=(show Dm K (FF F0 tR Y) H1 (.list Tf) v from a1);refine ⟨a,xs,rfl,l.elim (fun q=>.inl q.2) .inr,q _ H1 R1 k1 (fun i z=>by cases z) (D6 r z fun H' k=>?_)⟩;rcases l with ⟨n,l | ⟨o,l⟩⟩ | l
   .exact .inl (.inl (k _ _ l fun z=>n (R1.ia z.1)))
   .exact .inl (.inr ⟨o,k _ _ l fun z=>n (R1.ia z.1)⟩)
   .exact .inr l
  .cases h
 .cases h
theorem Fw (ie:SE K ga gd e):SI K ga gd (.tup e):=by
 intro env ds lock tR h F0 ZO I Y H Q R q;simp only [dI] at h;split at h
 .rename_i rv e1 h1;split at h
  .rename_i Tf hv;cases h;refine ie _ _ _ h1 F0 ZO I Y H _ R fun v H1 R1 k1 r1=>?_;have a1:=r1.av;rw [hv] at a1;obtain ⟨a,xs,rfl,l,z,r⟩:=(show Dm K (FF F0 tR Y) H1 (.tuple ds) v from a1);refine ⟨a,rfl,⟨xs,l⟩,q _ H1 R1 k1 (fun i z=>by cases z) (B7 r z fun H' k=>?_)⟩;exact l.pr (R1.q0 fun b o e n=>k b o e fun z=>n z.1)
  .cases h
 .cases h
theorem KC (ie:SE K ga gd e):SI K ga gd (.sq e):=by
 intro env ds lock tR h F0 ZO I Y H Q R q;simp only [dI] at h;split at h
 .rename_i rv e1 h1;split at h
  .rename_i Tf hv;exact .inl (Aj ie env ds lock tR (by simp only [dI,h1,hv];exact h) F0 ZO I Y H Q R q)
  .rename_i Tf hv;exact .inr (Fw ie env ds lock tR (by simp only [dI,h1,hv];exact h) F0 ZO I Y H Q R q)
  .cases h
  .rename_i i hv;exact .inl (Aj ie env ds lock tR (by simp only [dI,h1,hv];exact h) F0 ZO I Y H Q R q)
 .cases h
theorem zY:∀ {cs:List Nat},(∀ c∈cs,c < 0x110000)->Ot K F H (cs.map fun c=>.str ⟨#[c]⟩) (cs.map fun c=>.str ⟨#[c]⟩)
 | [],_=>rfl
 | c :: cs,h=>⟨_,_,rfl,⟨rfl,by show 1<=sizeLine;decide,by have:=h c Lq;simp [PyData.strOk,this]⟩,zY fun x hx=>h x (Ly _ hx)⟩
theorem e8 (h:PyData.strOk x=true):∀ c∈x.cps.toList,c < 0x110000:=fun c hc=>by unfold PyData.strOk at h;have:=NY.mp h c (by simpa using hc);simpa using this
theorem Hd (ie:SE K ga gd e):SI K ga gd (.str e):=by
 intro env ds lock tR h F0 ZO I Y H Q R q;simp only [dI] at h;split at h
 .rename_i rv e1 h1;split at h
  .rename_i x hv;cases h;refine ie _ _ _ h1 F0 ZO I Y H _ R fun v H1 R1 k1 r1=>?_;have a1:=r1.av;rw [hv] at a1;obtain ⟨rfl,hl,ok⟩:=(show v=.str x/\x.length<=sizeLine/\PyData.strOk x=true from a1);have ez:x.cps.toList.length=x.length:=by simp [Str.length]
   refine ⟨x,rfl,q _ H1 R1 k1 (fun i z=>by cases z) (kh (zY (e8 ok)) (by rw [Lo,ez];exact hl) fun H' k j=>⟨fun hj=>?_,fun hj=>?_⟩)⟩
   .rw [Lo,ez] at hj;refine ⟨hj,fun y O3 hy=>?_⟩;obtain ⟨e,c,hc,rfl⟩:=hy;refine ⟨e,?_⟩;rw [LO];have:x.cps.toList[j]?=some c:=by rw [<- hc];simp
    rw [this];rfl
   .rw [Lo,ez] at hj;exact hj
  .cases h
 .cases h
theorem zq {f:Nat->Int}:∀ {cs:List Nat},Ot K F H (cs.map fun c=>.int (f c)) (cs.map fun c=>.int (f c))
 | []=>rfl
 | c :: cs=>⟨_,_,rfl,rfl,zq⟩
theorem Cz {lo:Int} (hn:n<=sizeLine):yN K F I H (WG lo n) ((List.range n).map fun (k:Nat)=>.int (lo+(k:Int))):=by
 refine kh (vs:=(List.range n).map fun (k:Nat)=>.int (lo+(k:Int))) (zq (f:=fun k=>lo+(k:Int))) (by rw [Lo,MS];exact hn) fun H' k j=>⟨fun hj=>?_,fun hj=>?_⟩
 .rw [Lo,MS] at hj;refine ⟨hj,fun y O3 hy=>⟨hy.1,?_⟩⟩;rw [LO,List.getElem?_range hj,hy.2];rfl
 .rw [Lo,MS] at hj;exact hj
theorem CK (ia:SA K ga gd as):SI K ga gd (.Pl as):=by
 intro env ds lock tR h F0 ZO I Y H Q R q;simp only [dI] at h;split at h
 .rename_i Ou e1 h1;split at h
  .rename_i j;split at h
   .rename_i hj;cases h;refine ia _ _ _ h1 F0 ZO I Y H _ R fun vs H1 R1 k1 a1=>?_;obtain ⟨v,r,rfl,hv,rfl⟩:=a1;have hv:v=.int j:=hv;subst hv;refine ⟨j,rfl,hj.1,by have:=hj.2;lia,q _ H1 R1 k1 (fun i z=>by cases z) (Cz ?_)⟩;have:=hj.2;show j.toNat<=2 ^ 24;lia
   .cases h
  .cases h
 .cases h
end
section
variable {K:Fg} {F F' I I' F0:Zq} {H H' ZO:Hp} {env tR:En} {Y Z':St} {ga:Nat->V} {gd:List Qq}
theorem gR.carry (h:gR K F0 ZO I env Y H (.Oj d) (.ref p)) (S:Rel K (fun b=>F0 b\/b=p) H (IA env Y) tR Y H') (k:OD env tR):gR K F0 ZO I tR Y H' (.Oj d) (.ref p):=by
 obtain ⟨a,ea,R,t,w,nF,hi,hr⟩:=h;cases ea;have Th:¬IA env Y p:=fun z=>by
  obtain ⟨i,⟨c,e | e⟩,s⟩:=z
  .exact nF (.inr ⟨i,c,e,s⟩)
  .exact hi i c e s
 have R':=R.bj S;have hk:∀ b o,H b=some o->¬IA env Y b->H' b=some o:=S.fg;have pF:Pr (fun b=>FF F0 env Y b\/b=p) H H':=by have:=R.q0 hk;rwa [iZ] at this
 have hf:∀ b,(FF F0 tR Y b\/b=p)->(FF F0 env Y b\/b=p):=fun b z=>z.imp (fun z=>k.ff z) id;refine ⟨p,rfl,R',t.pr pF hf fun o e=>hk p o e Th,w,fun z=>nF (k.ff z),fun i c e s=>Th ⟨i,k.mu ⟨c,.inr e⟩,s⟩,fun i c e=>?_⟩;obtain ⟨s,e0,ev⟩:=k.back e;have es:s=.ro c:=by
  cases s with
  | un=>cases ev
  | dat _=>cases ev
  | own _=>rcases ev with ⟨_,v⟩ | ⟨_,v⟩ | v <;> cases v
  | GG _=>obtain ⟨_,v⟩:=ev;cases v
  | ro d'=>cases ev;rfl
 subst es;obtain ⟨b,q,t'⟩:=hr i c e0;exact ⟨b,q,t'.pr pF hf (fun b z=>z.imp (fun z=>k.ia z) id) fun b o e n=>hk b o e fun z=>n (.inl z)⟩
theorem gR.put (h:gR K F0 ZO I env Y H (.Oj d) (.ref p)) (ht:Top K (fun b=>FF F0 env Y b\/b=p) (upd H p o) d' p):gR K F0 ZO I env Y (upd H p o) (.Oj d') (.ref p):=by
 obtain ⟨a,ea,R,t,w,nF,hi,hr⟩:=h;cases ea;have Th:¬IA env Y p:=fun z=>by
  obtain ⟨i,⟨c,e | e⟩,s⟩:=z
  .exact nF (.inr ⟨i,c,e,s⟩)
  .exact hi i c e s
 have pF:Pr (fun b=>FF F0 env Y b\/b=p) H (upd H p o):=fun b u e n=>by
  by_cases z:b=p
  .subst z;rcases n with n | n
   .exact absurd (.inr rfl) n
   .obtain ⟨o',h',w'⟩:=t.wr;rw [e] at h';cases h';rw [n] at w';cases w'
  .rw [aj z];exact e
 have eF:FF (fun b=>F0 b\/b=p) env Y=fun b=>FF F0 env Y b\/b=p:=iZ;have χ:∀ i b,mu env i->Y[i]?=some (some (.ref b))->b≠p:=fun i b m s z=>Th (z▸⟨i,m,s⟩);have W5:∀ (i:Nat) (d':Qq),env[i]?=some (.ro d')->∃ b,Y[i]?=some (some (.ref b))/\iq K (fun b=>FF F0 env Y b\/b=p) (fun b=>IA env Y b\/b=p) (upd H p o) d' b:=fun i c e=>by obtain ⟨b,q,t'⟩:=hr i c e;exact ⟨b,q,t'.pr pF (fun _ z=>z) (fun _ z=>z) fun b u e n=>by rw [aj (fun z=>n (.inr z))];exact e⟩
 refine ⟨p,rfl,⟨R.len,fun i c e=>?_,fun i c e=>?_,fun i c e=>?_,fun i c e=>?_,R.sep,fun b hb=>?_,fun b u e n=>?_⟩,ht,w,nF,hi,W5⟩
 .obtain ⟨v,s,r⟩:=R.dat i c e;rw [eF] at r ⊢;exact ⟨v,s,r.pr pF fun _ z=>z⟩
 .obtain ⟨b,s,n,w',t'⟩:=R.own i c e;rw [eF] at t' ⊢;exact ⟨b,s,n,w',t'.pr pF (fun _ z=>z) fun u e'=>by rw [aj (χ i b ⟨c,.inl e⟩ s)];exact e'⟩
 .obtain ⟨b,s,n,w',t'⟩:=R.GG i c e;rw [eF] at t' ⊢;exact ⟨b,s,n,w',t'.pr pF (fun _ z=>z) fun u e'=>by rw [aj (χ i b ⟨c,.inr e⟩ s)];exact e'⟩
 .obtain ⟨b,s,t'⟩:=W5 i c e;rw [eF];exact ⟨b,s,t'.pr Pr.refl (fun _ z=>z) (fun _ z=>.inl z) fun _ _ z _=>z⟩
 .by_cases z:b=p
  .subst z;rw [ak];exact nofun
  .rw [aj z];exact R.dom b hb
 .have:=R.fg b u e n;by_cases z:b=p
  .subst z;rcases w with w | w
   .rw [e] at w;cases w
   .exact absurd w n
  .rw [aj z];exact this
theorem zm (a b:Key):PyData.eqv (kD a) (kD b)=decide (a=b):=by
 cases a with
 | inl i=>cases b with
  | inl j=>by_cases z:i=j <;> simp [kD,PyData.eqv,z]
  | inr y=>simp [kD,PyData.eqv]
 | inr x=>cases b with
  | inl j=>simp [kD,PyData.eqv]
  | inr y=>by_cases z:x=y <;> simp [kD,PyData.eqv,z]
theorem zi:∀ {ds:List (Qq×Qq)} {xs:List (Qq×V×V)},ON K F H ds xs->(ds.any fun kv=>PyData.eqv kv.1 k)=xs.any fun x=>PyData.eqv x.1 k
 | [],xs,h=>by rw [show xs=[] from h];rfl
 | (k',d) :: ds,xs,h=>by obtain ⟨j,v,r,rfl,_,_,_,h2⟩:=h;rw [List.any_cons,List.any_cons,zi h2]
theorem tN (hd:Dm K F H d v):∀ {ds:List (Qq×Qq)} {xs:List (Qq×V×V)},ON K F H ds xs->ON K F H (ds.map fun kv=>if PyData.eqv kv.1 k=true then (kv.1,d) else kv) (xs.map fun x=>if PyData.eqv x.1 k=true then (x.1,x.2.1,v) else x)
 | [],xs,h=>by rw [show xs=[] from h];rfl
 | (k',d') :: ds,xs,h=>by
  obtain ⟨j,w,r,rfl,e,h0,h1,h2⟩:=h;rw [List.map_cons,List.map_cons];by_cases z:PyData.eqv k' k=true
  .rw [Lz z,Lz z];exact ⟨j,v,_,rfl,e,h0,hd,tN hd h2⟩
  .rw [Lw z,Lw z];exact ⟨j,w,_,rfl,e,h0,h1,tN hd h2⟩
theorem zo (hk:QY k=true) (hj:Dm K F H k j) (hd:Dm K F H d v):∀ {ds:List (Qq×Qq)} {xs:List (Qq×V×V)},ON K F H ds xs->ON K F H (ds++[(k,d)]) (xs++[(k,j,v)])
 | [],xs,h=>by rw [show xs=[] from h];exact ⟨j,v,[],rfl,hk,hj,hd,rfl⟩
 | (k',d') :: ds,xs,h=>by obtain ⟨i,w,r,rfl,e,h0,h1,h2⟩:=h;exact ⟨i,w,_,rfl,e,h0,h1,zo hk hj hd h2⟩
theorem yQ (h:ON K F H ds xs) (hk:QY k=true) (hj:Dm K F H k j) (hd:Dm K F H d v):ON K F H (putD ds k d) (mZ xs k j v):=by
 unfold putD mZ;rw [zi h];split
 .exact tN hd h
 .exact zo hk hj hd h
theorem CY:(putK kvs k v).map Ry=mZ (kvs.map Ry) (kD k) (kV k) v:=by
 unfold putK mZ;have e:((kvs.map Ry).any fun x=>PyData.eqv x.1 (kD k))=kvs.any fun kv=>decide (kv.1=k):=by rw [List.any_map];congr 1;funext kv;exact zm _ _
 rw [e];split
 .rw [Na,Na];refine List.map_congr_left fun kv _=>?_;show Ry (if kv.1=k then (kv.1,v) else kv)=if PyData.eqv (kD kv.1) (kD k)=true then _ else _
  rw [zm];by_cases z:kv.1=k
  .rw [Lz z,Lz (LH z)];rfl
  .rw [Lw z,Lw (by simp [z])]
 .rw [Mw];rfl
theorem wM {kvs:List (Key×V)} {k:Key} {v:V}:(putK kvs k v).length<=kvs.length+1:=by
 unfold putK;split
 .rw [Lo];exact Nat.le_succ _
 .rw [Ln];exact LA _
theorem Cn (k:Key):QY (kD k)=true:=by cases k <;> rfl
theorem pe:∀ {kvs:List (Key×Qq)} {vs:List (Key×V)} {ds:List (Qq×Qq)} {xs:List (Key×V)},DS K F H kvs vs->ON K F H ds (xs.map Ry)->ON K F H (kvs.foldl (fun acc kv=>putD acc (kD kv.1) kv.2) ds) ((cP xs vs).map Ry)/\(cP xs vs).length<=xs.length+vs.length
 | [],vs,ds,xs,h,q=>by rw [show vs=[] from h];exact ⟨q,LA _⟩
 | (k,d) :: kvs,vs,ds,xs,h,q=>by obtain ⟨v,r,rfl,h0,h1,h2⟩:=h;have:=pe h2 (xs:=putK xs k v) (by rw [CY];exact yQ q (Cn k) h0 h1);refine ⟨this.1,LG this.2 ?_⟩;have:=wM (kvs:=xs) (k:=k) (v:=v);rw [LN];lia
theorem DS.len:∀ {kvs:List (Key×Qq)} {vs:List (Key×V)},DS K F H kvs vs->vs.length=kvs.length
 | [],vs,h=>by rw [show vs=[] from h];rfl
 | (k,d) :: kvs,vs,h=>by obtain ⟨v,r,rfl,h0,h1,h2⟩:=h;rw [LN,LN,h2.len]
theorem Ja:VT K ga gd .nil:=by intro env kvs tR h F0 ZO I Y H Q R q;simp only [dP] at h;cases h;exact q [] H R (OD.refl _) rfl
theorem Ej (ik:SE K ga gd k) (ie:SE K ga gd e) (ir:VT K ga gd r):VT K ga gd (.cons k e r):=by
 intro env kvs tR h F0 ZO I Y H Q R q;simp only [dP] at h;split at h
 .rename_i rk e1 h1;split at h
  .rename_i rv e2 h2;split at h
   .rename_i Yo e3 h3;split at h
    .rename_i dk d hk hd;split at h
     .rename_i key RA;cases h;refine ik _ _ _ h1 F0 ZO I Y H _ R fun v H1 R1 k1 r1=>?_;refine ie _ _ _ h2 F0 _ _ Y H1 _ R1.rebase fun u H2 S2 k2 r2=>?_;have R2:=R1.bj S2;refine ir _ _ _ h3 F0 _ _ Y H2 _ R2.rebase fun vs H3 S3 k3 r3=>?_;have a1:=r1.av;rw [hk] at a1;have a2:=r2.av;rw [hd] at a2;have ev:v=kV key:=by
       cases dk with
       | int i=>cases RA;exact (show v=.int i from a1)
       | str x=>cases RA;exact (show v=.str x/\_ from a1).1
       | _=>cases RA
      have dd:Dm K (FF F0 tR Y) H3 d u:=R2.oQ S3 k3 a2;have dk':Dm K (FF F0 tR Y) H3 (kD key) (kV key):=by
       cases dk with
       | int i=>cases RA;rfl
       | str x=>cases RA;exact ⟨rfl,(show v=.str x/\_ from a1).2⟩
       | _=>cases RA
      rw [ev];exact q ((key,u) :: vs) H3 (R2.bj S3) ((k1.trans k2).trans k3) ⟨u,vs,rfl,dk',dd,r3⟩
     .cases h
    .cases h
   .cases h
  .cases h
 .cases h
theorem Iv (ih:VT K ga gd as):SE K ga gd (.VR as):=by
 intro env rv tR h F0 ZO I Y H Q R q;simp only [dE] at h;split at h
 .rename_i kvs e1 h1;split at h
  .rename_i hl;cases h;intro p hp;have s:=ax.nw (.dD 0 []) hp;have r0:gR K F0 ZO I env Y (upd H p (.dD 0 [])) (.Oj (.dict [])) (.ref p):=R.qd (pr:=.Oj (.dict [])) s ⟨p,rfl,hp,0,[],ak,by decide,rfl⟩;have R0:=r0;obtain ⟨a,ea,R0,_,_,nF,hi,_⟩:=R0;cases ea;have Th:¬IA env Y p:=fun z=>by
    obtain ⟨i,⟨c,e | e⟩,s⟩:=z
    .exact nF (.inr ⟨i,c,e,s⟩)
    .exact hi i c e s
   refine ih _ _ _ h1 _ _ _ Y _ _ R0.rebase fun vs H2 S2 k2 ps=>?_;have r2:=r0.carry S2 k2;rw [iZ] at ps;have hm:=pe ps (xs:=[]) (show ON K (fun b=>FF F0 tR Y b\/b=p) H2 [] [] from rfl);have hlen:(cP [] vs).length<=15:=by have:=hm.2;rw [ps.len] at this;simp only [MV] at this;lia
   refine ⟨S2.fg p _ ak Th,vs,rfl,by rw [ps.len];exact hl,fun ep=>?_⟩;have r3:gR K F0 ZO I tR Y (upd H2 p (.dD ep ((cP [] vs).map Ry))) (.Oj (.dict (kvs.foldl (fun acc kv=>putD acc (kD kv.1) kv.2) []))) (.ref p):=by
    refine r2.put ⟨ep,(cP [] vs).map Ry,ak,by rw [Lo];exact LG hlen (by decide),hm.1.pr ?_ fun _ z=>z⟩;intro b u e n;by_cases z:b=p
    .subst z;rcases n with n | n
     .exact absurd (.inr rfl) n
     .have:=S2.fg b _ ak Th;rw [e] at this;cases this;cases n
    .rw [aj z];exact e
   exact q _ _ r3.rel k2 r3
  .cases h
 .cases h
end
section
variable {K:Fg} {F F' I I' F0:Zq} {H H' ZO:Hp} {env tR:En} {Y Z':St} {ga:Nat->V} {gd:List Qq}
theorem lX {W:Type}:∀ {l:List W} {i j:Nat} {x:W},l.Nodup->l[i]?=some x->l[j]?=some x->i=j
 | [],_,_,_,_,h,_=>by simp at h
 | y :: l,0,0,_,_,_,_=>rfl
 | y :: l,0,j+1,x,nd,h1,h2=>by simp at h1 h2;subst h1;exact absurd (LP h2) (MA.mp nd).1
 | y :: l,i+1,0,x,nd,h1,h2=>by simp at h1 h2;subst h2;exact absurd (LP h1) (MA.mp nd).1
 | y :: l,i+1,j+1,x,nd,h1,h2=>by simp at h1 h2;rw [lX (MA.mp nd).2 h1 h2]
def noOwn (env:En):Prop:=∀ (i:Nat) (d:Qq),env[i]?≠some (.own d)
theorem eU (h:noOwn env):FF F0 env Y=F0:=by
 funext b;apply propext;constructor
 .rintro (q | ⟨i,d,e,_⟩)
  .exact q
  .exact absurd e (h i d)
 .exact .inl
theorem noOwn.kp (h:noOwn env) (k:OD env tR):noOwn tR:=fun i d e=>by obtain ⟨d',e'⟩:=k.own e;exact h i d' e'
def tL:Sl->Prop | .dat _=>True | .un=>True | _=>False
theorem k7 (hp:∀ s∈pre,tL s) (hl:pre.length=ps.length):FF F0 (pre++env) (ps++Y)=FF F0 env Y:=by
 funext b;apply propext;constructor
 .rintro (q | ⟨i,d,e,s⟩)
  .exact .inl q
  .by_cases hi:i < pre.length
   .rw [LL hi] at e;have:=hp _ (LP e);exact absurd this id
   .rw [Lr (by lia)] at e;rw [Lr (by lia),<-hl] at s;exact .inr ⟨_,d,e,s⟩
 .rintro (q | ⟨i,d,e,s⟩)
  .exact .inl q
  .refine .inr ⟨pre.length+i,d,?_,?_⟩
   .rw [Lr (by lia)];simpa using e
   .rw [Lr (by lia),hl];simpa using s
theorem kO (hp:∀ s∈pre,tL s) (h:mu (pre++env) i):pre.length<=i/\mu env (i - pre.length):=by
 obtain ⟨d,h⟩:=h;by_cases hi:i < pre.length
 .rw [LL hi] at h;rcases h with h | h <;> exact absurd (hp _ (LP h)) id
 .rw [Lr (by lia)] at h;exact ⟨by lia,d,h⟩
theorem pV (hp:∀ s∈pre,tL s) (hl:pre.length=ps.length):IA (pre++env) (ps++Y)=IA env Y:=by
 funext b;apply propext;constructor
 .rintro ⟨i,m,s⟩;obtain ⟨hi,m'⟩:=kO hp m;rw [Lr (by lia),<-hl] at s;exact ⟨_,m',s⟩
 .rintro ⟨i,⟨d,m⟩,s⟩;refine ⟨pre.length+i,⟨d,?_⟩,?_⟩
  .rw [Lr (by lia)];simpa using m
  .rw [Lr (by lia),hl];simpa using s
theorem Rel.front (R:Rel K F0 ZO I env Y H) (h:Ot K (FF F0 env Y) H ds vs):Rel K F0 ZO I (ds.map .dat++env) (vs.map some++Y) H:=by
 have hp:∀ s∈(ds.map Sl.dat),tL s:=fun s hs=>by obtain ⟨d,_,rfl⟩:=Mh.mp hs;trivial
 have hl:(ds.map Sl.dat).length=(vs.map some).length:=by rw [Lo,Lo,h.len]
 have Yw:(ds.map Sl.dat).length=ds.length:=Lo _;have eF:=k7 (F0:=F0) (env:=env) (Y:=Y) hp hl;have eI:=pV (env:=env) (Y:=Y) hp hl;have back:∀ {i:Nat} {s:Sl},(ds.map Sl.dat++env)[i]?=some s->(∀ d,s≠.dat d)->(ds.map Sl.dat).length<=i/\env[i - (ds.map Sl.dat).length]?=some s:=fun {i s} e n=>by
  by_cases hi:i < (ds.map Sl.dat).length
  .rw [LL hi] at e;obtain ⟨d,_,z⟩:=Mh.mp (LP e);exact absurd z.symm (n d)
  .rw [Lr (by lia)] at e;exact ⟨by lia,e⟩
 have fs:∀ {i:Nat} {x:Option V},(ds.map Sl.dat).length<=i->Y[i - (ds.map Sl.dat).length]?=some x->(vs.map some++Y)[i]?=some x:=fun {i x} hi e=>by rw [Lr (by lia),<-hl];exact e
 refine ⟨by rw [Ln,Ln,hl,R.len],fun i d e=>?_,fun i d e=>?_,fun i d e=>?_,fun i d e=>?_,fun i j a h1 h2 h3 h4=>?_,R.dom,R.fg⟩
 .rw [eF];by_cases hi:i < (ds.map Sl.dat).length
  .rw [LL hi,LO] at e;cases e2:ds[i]? with
   | none=>rw [e2] at e;cases e
   | some d' =>
    rw [e2] at e;cases e;obtain ⟨v,q,r⟩:=h.get e2;refine ⟨v,?_,r⟩;rw [LL (by lia),LO,q];rfl
  .rw [Lr (by lia)] at e;obtain ⟨v,s,r⟩:=R.dat _ d e;exact ⟨v,fs (by lia) s,r⟩
 .rw [eF];obtain ⟨hi,e⟩:=back e (fun _=>nofun);obtain ⟨a,s,q⟩:=R.own _ d e;exact ⟨a,fs hi s,q⟩
 .rw [eF];obtain ⟨hi,e⟩:=back e (fun _=>nofun);obtain ⟨a,s,q⟩:=R.GG _ d e;exact ⟨a,fs hi s,q⟩
 .rw [eF,eI];obtain ⟨hi,e⟩:=back e (fun _=>nofun);obtain ⟨a,s,q⟩:=R.ro _ d e;exact ⟨a,fs hi s,q⟩
 .obtain ⟨i1,m1⟩:=kO hp h1;obtain ⟨i2,m2⟩:=kO hp h2;rw [Lr (by lia),<-hl] at h3 h4;have:=R.sep _ _ a m1 m2 h3 h4;lia
theorem Rel.behind (R:Rel K F0 ZO I (pre++env) (ps++Y) H) (hp:∀ s∈pre,tL s) (hl:pre.length=ps.length):Rel K F0 ZO I env Y H:=by
 have eF:=k7 (F0:=F0) (env:=env) (Y:=Y) hp hl;have eI:=pV (env:=env) (Y:=Y) hp hl;have up:∀ {i:Nat} {s:Sl},env[i]?=some s->(pre++env)[pre.length+i]?=some s:=fun {i s} e=>by rw [Lr (by lia)];simpa using e
 have dn:∀ {i:Nat} {x:Option V},(ps++Y)[pre.length+i]?=some x->Y[i]?=some x:=fun {i x} e=>by rw [Lr (by lia),hl] at e;simpa using e
 have us:∀ {i:Nat} {x:Option V},Y[i]?=some x->(ps++Y)[pre.length+i]?=some x:=fun {i x} e=>by rw [Lr (by lia),hl];simpa using e
 refine ⟨by have:=R.len;rw [Ln,Ln,hl] at this;lia,fun i d e=>?_,fun i d e=>?_,fun i d e=>?_,fun i d e=>?_,fun i j a h1 h2 h3 h4=>?_,R.dom,R.fg⟩
 .obtain ⟨v,s,r⟩:=R.dat _ d (up e);rw [eF] at r;exact ⟨v,dn s,r⟩
 .obtain ⟨v,s,r⟩:=R.own _ d (up e);rw [eF] at r;exact ⟨v,dn s,r⟩
 .obtain ⟨v,s,r⟩:=R.GG _ d (up e);rw [eF] at r;exact ⟨v,dn s,r⟩
 .obtain ⟨v,s,r⟩:=R.ro _ d (up e);rw [eF,eI] at r;exact ⟨v,dn s,r⟩
 .obtain ⟨d1,m1⟩:=h1;obtain ⟨d2,m2⟩:=h2;have:=R.sep (pre.length+i) (pre.length+j) a ⟨d1,m1.imp up up⟩ ⟨d2,m2.imp up up⟩ (us h3) (us h4);lia
theorem OD.front {ds:List Qq} {e':En} (k:OD (ds.map .dat++env) e'):∃ tR,e'=ds.map .dat++tR/\OD env tR:=by
 have hlen:=k.1;rw [Ln,Lo] at hlen;refine ⟨e'.drop ds.length,?_,?_,fun i s e=>?_⟩
 .apply List.ext_getElem?;intro i;by_cases hi:i < ds.length
  .have hm:(ds.map Sl.dat++env)[i]?=some (.dat ds[i]):=by rw [LL (by rw [Lo];exact hi),LO,Lp hi];rfl
   obtain ⟨s',h',ev⟩:=k.2 i _ hm;have ev:s'=.dat ds[i]:=ev;rw [h',ev,LL (by rw [Lo];exact hi),LO,Lp hi];rfl
  .rw [Lr (by rw [Lo];lia),List.getElem?_drop,Lo];congr 1;lia
 .rw [ME];lia
 .obtain ⟨s',h',ev⟩:=k.2 (ds.length+i) s (by rw [Lr (by rw [Lo];lia),Lo];simpa using e);exact ⟨s',by rw [List.getElem?_drop];exact h',ev⟩
theorem fF {lock:Option Nat} {js:List Nat} {k:Nat} {s:Sl} (h:(eO env lock js)[k]?=some s):∃ j,js[k]?=some j/\s=nU (decide (lock=some j)) (env[j]?.getD .un):=by
 unfold eO at h;rw [LO] at h;cases e:js[k]? with
 | none=>rw [e] at h;cases h
 | some j=>rw [e] at h;cases h;exact ⟨j,rfl,rfl⟩
theorem pK {js:List Nat} {k j:Nat} (h:js[k]?=some j):(bL js Y)[k]?=some ((Y[j]?).getD none):=by unfold bL;rw [LO,h];rfl
theorem cf {lock:Option Nat} {js:List Nat}:noOwn (eO env lock js):=fun k d e=>by
 obtain ⟨j,_,e'⟩:=fF e;cases h:env[j]?.getD .un with
 | un=>rw [h] at e';cases e'
 | dat _=>rw [h] at e';cases e'
 | own c=>rw [h] at e';unfold nU at e';simp only at e';split at e' <;> cases e'
 | GG c=>rw [h] at e';unfold nU at e';simp only at e';split at e' <;> cases e'
 | ro _=>rw [h] at e';cases e'
theorem getD_some {j:Nat} {s:Sl} (h:env[j]?.getD .un=s) (n:s≠.un):env[j]?=some s:=by
 cases e:env[j]? with
 | none=>rw [e] at h;exact absurd h.symm n
 | some t=>rw [e] at h;cases h;rfl
theorem ot {lock:Option Nat} {js:List Nat} {k:Nat} {d:Qq} (h:(eO env lock js)[k]?=some (.GG d)):∃ j,js[k]?=some j/\lock≠some j/\(env[j]?=some (.own d)\/env[j]?=some (.GG d)):=by
 obtain ⟨j,hj,e'⟩:=fF h;refine ⟨j,hj,?_⟩;cases h:env[j]?.getD .un with
 | un=>rw [h] at e';cases e'
 | dat _=>rw [h] at e';cases e'
 | own c =>
  rw [h] at e';unfold nU at e';simp only at e';split at e'
  .cases e'
  .rename_i n;cases e';exact ⟨by simpa using n,.inl (getD_some h nofun)⟩
 | GG c =>
  rw [h] at e';unfold nU at e';simp only at e';split at e'
  .cases e'
  .rename_i n;cases e';exact ⟨by simpa using n,.inr (getD_some h nofun)⟩
 | ro _=>rw [h] at e';cases e'
theorem cV {lock:Option Nat} {js:List Nat} {k:Nat} (h:mu (eO env lock js) k):∃ j,js[k]?=some j/\lock≠some j/\mu env j:=by
 obtain ⟨d,h | h⟩:=h
 .exact absurd h (cf k d)
 .obtain ⟨j,h1,h2,h3⟩:=ot h;exact ⟨j,h1,h2,d,h3⟩
theorem br {js:List Nat} {k j:Nat} {a:Qz} (h:js[k]?=some j) (e:(bL js Y)[k]?=some (some (.ref a))):Y[j]?=some (some (.ref a)):=by
 rw [pK h] at e;cases q:Y[j]? with
 | none=>rw [q] at e;cases e
 | some x=>rw [q] at e;cases e;rfl
theorem b5 {js:List Nat} {k j:Nat} {v:V} (h:js[k]?=some j) (e:Y[j]?=some (some v)):(bL js Y)[k]?=some (some v):=by rw [pK h,e];rfl
theorem Rel.bL (R:Rel K F0 ZO I env Y H) {lock:Option Nat} {js:List Nat} (nd:js.Nodup):Rel K (FF F0 env Y) H (IA (eO env lock js) (L2.bL js Y)) (eO env lock js) (L2.bL js Y) H:=by
 have eF:FF (FF F0 env Y) (eO env lock js) (L2.bL js Y)=FF F0 env Y:=eU cf;have sub:∀ b,IA (eO env lock js) (L2.bL js Y) b->IA env Y b:=fun b ⟨k,m,s⟩=>by obtain ⟨j,hj,_,mj⟩:=cV m;exact ⟨j,mj,br hj s⟩
 refine ⟨by unfold eO L2.bL;rw [Lo,Lo],fun k d e=>?_,fun k d e=>absurd e (cf k d),fun k d e=>?_,fun k d e=>?_,fun k l a h1 h2 h3 h4=>?_,fun b h=>R.fC h,fun _ _ h _=>h⟩
 .rw [eF];obtain ⟨j,hj,e'⟩:=fF e;have ej:env[j]?=some (.dat d):=by
   cases h:env[j]?.getD .un with
   | un=>rw [h] at e';cases e'
   | dat c=>rw [h] at e';cases e';exact getD_some h nofun
   | own c=>rw [h] at e';unfold nU at e';simp only at e';split at e' <;> cases e'
   | GG c=>rw [h] at e';unfold nU at e';simp only at e';split at e' <;> cases e'
   | ro _=>rw [h] at e';cases e'
  obtain ⟨v,s,r⟩:=R.dat j d ej;exact ⟨v,b5 hj s,r⟩
 .rw [eF];obtain ⟨j,hj,_,ej⟩:=ot e;have:∃ a,Y[j]?=some (some (.ref a))/\FF F0 env Y a/\Top K (FF F0 env Y) H d a:=by
   rcases ej with ej | ej
   .obtain ⟨a,s,_,_,t⟩:=R.own j d ej;exact ⟨a,s,.inr ⟨j,d,ej,s⟩,t⟩
   .obtain ⟨a,s,f,_,t⟩:=R.GG j d ej;exact ⟨a,s,.inl f,t⟩
  obtain ⟨a,s,f,t⟩:=this;exact ⟨a,b5 hj s,f,⟨k,⟨d,.inr e⟩,b5 hj s⟩,t⟩
 .rw [eF];obtain ⟨j,hj,e'⟩:=fF e;have lk:∀ a,lock=some j->mu env j->Y[j]?=some (some (.ref a))->¬IA (eO env lock js) (L2.bL js Y) a:=fun a hl m s ⟨k',m',s'⟩=>by obtain ⟨j',TZ,hn,VX⟩:=cV m';have:=R.sep j' j a VX m (br TZ s') s;subst this;exact hn hl
  cases h:env[j]?.getD .un with
  | un=>rw [h] at e';cases e'
  | dat c=>rw [h] at e';cases e'
  | own c =>
   rw [h] at e';unfold nU at e';simp only at e';split at e'
   .rename_i n;cases e';have ej:=getD_some h nofun;obtain ⟨a,s,_,_,t⟩:=R.own j d ej;exact ⟨a,b5 hj s,t.ro (lk a (by simpa using n) ⟨d,.inl ej⟩ s)⟩
   .cases e'
  | GG c =>
   rw [h] at e';unfold nU at e';simp only at e';split at e'
   .rename_i n;cases e';have ej:=getD_some h nofun;obtain ⟨a,s,_,_,t⟩:=R.GG j d ej;exact ⟨a,b5 hj s,t.ro (lk a (by simpa using n) ⟨d,.inr ej⟩ s)⟩
   .cases e'
  | ro c =>
   rw [h] at e';cases e';obtain ⟨a,s,t⟩:=R.ro j d (getD_some h nofun);exact ⟨a,b5 hj s,t.pr Pr.refl (fun _ z=>z) sub fun _ _ z _=>z⟩
 .obtain ⟨j1,e1,_,m1⟩:=cV h1;obtain ⟨j2,e2,_,m2⟩:=cV h2;have:=R.sep j1 j2 a m1 m2 (br e1 h3) (br e2 h4);subst this;exact lX nd e1 e2
theorem bg:∀ (env:En) (js:List Nat) (es:En),Ph env (aK env js es)
 | env,[],es=>by unfold aK;exact Ph.refl _
 | env,j :: js,[]=>by unfold aK;exact Ph.refl _
 | env,j :: js,s :: es=>by
  cases s with
  | GG d=>unfold aK;exact (dG env j d).trans (bg _ js es)
  | un=>unfold aK;exact bg _ js es
  | dat _=>unfold aK;exact bg _ js es
  | own _=>unfold aK;exact bg _ js es
  | ro _=>unfold aK;exact bg _ js es
theorem aT:∀ (env:En) (js:List Nat) (es:En) (i:Nat),i ∉ js->(aK env js es)[i]?=env[i]?
 | env,[],es,i,_=>by unfold aK;rfl
 | env,j :: js,[],i,_=>by unfold aK;rfl
 | env,j :: js,s :: es,i,h=>by
  have n:i≠j:=fun z=>h (by rw [z];exact Lq);have n':i ∉ js:=fun z=>h (Ly _ z);cases s with
  | GG d=>unfold aK;rw [aT _ js es i n',kK n]
  | un=>unfold aK;exact aT _ js es i n'
  | dat _=>unfold aK;exact aT _ js es i n'
  | own _=>unfold aK;exact aT _ js es i n'
  | ro _=>unfold aK;exact aT _ js es i n'
theorem dJ:∀ (env:En) (js:List Nat) (es:En) (k i:Nat) (s:Sl),js.Nodup->js[k]?=some i->es[k]?=some s->(∀ d,s=.GG d->mu env i->aP (aK env js es) i=some d)/\((∀ d,s≠.GG d)->(aK env js es)[i]?=env[i]?)
 | env,[],es,k,i,s,_,h,_=>by simp at h
 | env,j :: js,[],k,i,s,_,_,h=>by simp at h
 | env,j :: js,t :: es,0,i,s,nd,h,h'=>by
  obtain ⟨n1,Rz⟩:=MA.mp nd;simp at h h';subst h h';constructor
  .rintro d rfl m;unfold aK;have:=aT (gO env j d) js es j n1;unfold aP;rw [this];exact kG m
  .intro hn;cases t with
   | GG d=>exact absurd rfl (hn d)
   | un=>unfold aK;exact aT _ js es j n1
   | dat _=>unfold aK;exact aT _ js es j n1
   | own _=>unfold aK;exact aT _ js es j n1
   | ro _=>unfold aK;exact aT _ js es j n1
 | env,j :: js,t :: es,k+1,i,s,nd,h,h'=>by
  obtain ⟨n1,Rz⟩:=MA.mp nd;simp at h h';have hi:i∈js:=LP h;have ne:i≠j:=fun z=>n1 (z▸hi);cases t with
  | GG d =>
   unfold aK;have ih:=dJ (gO env j d) js es k i s Rz h h';refine ⟨fun d' e m=>ih.1 d' e ((dG env j d).symm.kp.mu m),fun hn=>?_⟩;rw [ih.2 hn,kK ne]
  | un=>unfold aK;exact dJ env js es k i s Rz h h'
  | dat _=>unfold aK;exact dJ env js es k i s Rz h h'
  | own _=>unfold aK;exact dJ env js es k i s Rz h h'
  | ro _=>unfold aK;exact dJ env js es k i s Rz h h'
theorem OD.Jd (k:OD env tR) {i:Nat} {d:Qq} (e:env[i]?=some (.GG d)):∃ d',tR[i]?=some (.GG d'):=by obtain ⟨s',h,ev⟩:=k.2 i _ e;obtain ⟨d',rfl⟩:=ev;exact ⟨d',h⟩
theorem Rel.back (R:Rel K F0 ZO I env Y H) {lock:Option Nat} {js:List Nat} {ec:En} (nd:js.Nodup) (S:Rel K (FF F0 env Y) H (IA (eO env lock js) (L2.bL js Y)) ec (L2.bL js Y) H') (k:OD (eO env lock js) ec):Rel K F0 ZO I (aK env js ec) Y H':=by
 have sub:∀ b,IA (eO env lock js) (L2.bL js Y) b->IA env Y b:=fun b ⟨k,m,s⟩=>by obtain ⟨j,hj,_,mj⟩:=cV m;exact ⟨j,mj,br hj s⟩
 have hk:∀ b o,H b=some o->¬IA env Y b->H' b=some o:=fun b o e n=>S.fg b o e fun z=>n (sub b z);have eFc:FF (FF F0 env Y) ec (L2.bL js Y)=FF F0 env Y:=eU (cf.kp k);refine R.chg (bg env js ec) hk fun i d a hm hs=>?_;have sm:=bg env js ec;have mi:mu env i:=sm.kp.mu ((o5 hm).elim (fun e=>⟨d,.inl e⟩) fun e=>⟨d,.inr e⟩);have jf:(aK env js ec)[i]?=env[i]?->¬IA (eO env lock js) (L2.bL js Y) a->Top K (FF F0 env Y) H' d a:=fun e n=>by
  have TY:aP env i=some d:=by unfold aP at hm ⊢;rwa [e] at hm
  obtain ⟨_,a',s',_,t⟩:=R.de TY;rw [hs] at s';cases s';exact t.pr (R.q0 hk) (fun _ z=>z) fun o e=>S.fg a o e n
 by_cases hi:i∈js
 .obtain ⟨p,hp⟩:=Ni.mp hi;have hlen:ec.length=js.length:=by rw [k.1];unfold eO;rw [Lo]
  have QU:p < js.length:=(Ls.mp hp).1;have he:ec[p]?=some (ec[p]'(by lia)):=Lp _;obtain ⟨b1,b2⟩:=dJ env js ec p i _ nd hp he;by_cases hl:lock=some i
  ·-- locked
   refine jf (b2 fun d' z=>?_) ?_
   .rw [z] at he;obtain ⟨s,e0,ev⟩:=k.back he;obtain ⟨j,hj,e'⟩:=fF e0;rw [hp] at hj;cases hj;obtain ⟨c,hc | hc⟩:=mi
    .rw [hc] at e';simp only [Option.getD_some,nU,hl,decide_true,NP] at e';subst e';cases ev
    .rw [hc] at e';simp only [Option.getD_some,nU,hl,decide_true,NP] at e';subst e';cases ev
   .rintro ⟨q,mq,sq⟩;obtain ⟨j',TZ,hn,VX⟩:=cV mq;have:=R.sep j' i a VX mi (br TZ sq) hs;subst this;exact hn hl
  .have:∃ c,(eO env lock js)[p]?=some (.GG c):=by
    unfold eO;rw [LO,hp];obtain ⟨c,hc | hc⟩:=mi
    .exact ⟨c,by rw [NM,hc];simp [nU,hl]⟩
    .exact ⟨c,by rw [NM,hc];simp [nU,hl]⟩
   obtain ⟨c,hc⟩:=this;obtain ⟨d',Ue⟩:=k.Jd hc;rw [he] at Ue;have ed:=b1 d' (Mp Ue) mi;rw [hm] at ed;cases ed;obtain ⟨a',s',_,_,t⟩:=S.GG p d (by rw [he];exact Ue);have:=br hp s';rw [hs] at this;cases this;rwa [eFc] at t
 .refine jf (aT env js ec i hi) ?_;rintro ⟨q,mq,sq⟩;obtain ⟨j',TZ,hn,VX⟩:=cV mq;have:=R.sep j' i a VX mi (br TZ sq) hs;subst this;exact hi (LP TZ)
end
section
variable {K:Fg} {F F' I I' F0:Zq} {H H' ZO H1:Hp} {env tR e1:En} {Y Z':St} {ga:Nat->V} {gd:List Qq}
def HA (K:Fg) (F:Zq) (H:Hp) (acc:List V):Option Qq->List V->Prop
 | none,OI=>OI=acc
 | some d,OI=>∃ v,OI=acc++[v]/\Dm K F H d v
theorem BG {step:Qq->En->Option (Option Qq×En)} {ds ys:List Qq} {ec:En} {lock:Option Nat} {js:List Nat} {J:It} {Q:VK} {G:Type} {TI:G->Prop} {t0:G} {body:G->List V->V->Hp->(G->List V->Hp->Prop)->Prop} (ht0:TI t0)
  (R1:Rel K F0 ZO I e1 Y H1) (nd:js.Nodup) (hit:yN K (FF F0 e1 Y) (fun b=>IA e1 Y b/\∀ i,lock=some i->mu e1 i->Y[i]?≠some (some (.ref b))) H1 J ds) (h2:wo step ds (eO e1 lock js)=some (ys,ec))
  (turn:∀ t acc d O8 y Pz x H',TI t->step d O8=some (y,Pz)->Rel K (FF F0 e1 Y) H1 (IA (eO e1 lock js) (bL js Y)) O8 (bL js Y) H'->noOwn O8->Dm K (FF F0 e1 Y) H' d x->∀ N:G->List V->Hp->Prop,
   (∀ t' OI H2,TI t'->Rel K (FF F0 e1 Y) H1 (IA (eO e1 lock js) (bL js Y)) Pz (bL js Y) H2->OD O8 Pz->Pr (FF F0 e1 Y) H' H2->HA K (FF F0 e1 Y) H2 acc y OI->N t' OI H2)->body t acc x H' N)
  (fin:∀ acc H',Rel K F0 ZO I (aK e1 js ec) Y H'->Ot K (FF F0 e1 Y) H' ys acc->acc.length<=sizeLine->∀ p,H' p=none->Q (.ref p) (upd H' p (.lst acc))) :
  ∃ W:Nat->Nat->G->List V->Hp->Prop,(∃ m,W 0 m t0 [] H1)/\∀ i m t acc H,W i m t acc H ->
   (J.stop i H/\acc.length<=sizeLine/\∀ p,H p=none->Q (.ref p) (upd H p (.lst acc)))\/(J.go i H/\acc.length < sizeLine/\∀ x H',J.RM i H x H'->body t acc x H' fun t' OI H2=>∃ m',m' < m/\W (i+1) m' t' OI H2):=by
 obtain ⟨ψ,Qs⟩:=hit;have sub:∀ b,IA (eO e1 lock js) (bL js Y) b->IA e1 Y b/\∀ i,lock=some i->mu e1 i->Y[i]?≠some (some (.ref b)):=fun b ⟨k,m,s⟩=>by obtain ⟨j,hj,hn,mj⟩:=cV m;refine ⟨⟨j,mj,br hj s⟩,fun i hl mi si=>?_⟩;have:=R1.sep j i b mj mi (br hj s) si;subst this;exact hn hl
 have Rc0:=R1.bL (lock:=lock) nd
 refine ⟨fun i m t acc H'=>TI t/\m=ds.length - i/\i<=ds.length/\acc.length<=i/\∃ O8 done rest,wo step (ds.drop i) O8=some (rest,ec)/\ys=done++rest/\Rel K (FF F0 e1 Y) H1 (IA (eO e1 lock js) (bL js Y)) O8 (bL js Y) H'/\OD (eO e1 lock js) O8/\Ot K (FF F0 e1 Y) H' done acc,
  ⟨ds.length,ht0,rfl,Mk _,LA _,eO e1 lock js,[],ys,h2,rfl,Rc0,OD.refl _,rfl⟩,?_⟩
 rintro i m t acc H' ⟨hti,rfl,hi,Yx,O8,done,rest,hc,hy,Rc,kc,OV⟩;have PB:∀ b o,H1 b=some o->¬(IA e1 Y b/\∀ i,lock=some i->mu e1 i->Y[i]?≠some (some (.ref b)))->H' b=some o:=fun b o e n=>Rc.fg b o e fun z=>n (sub b z);by_cases O7:i < ds.length
 .right;obtain ⟨go,RM⟩:=(Qs H' PB i).1 (by lia);refine ⟨go,by lia,fun x O3 hx=>?_⟩;obtain ⟨d,hd,Yy⟩:=RM x O3 hx;obtain ⟨sm,Qt⟩:=Yy.dm (F2:=FF F0 e1 Y) fun d v h=>h.pr (R1.q0 fun b o e n=>PB b o e fun z=>n z.1) fun _ z=>z;have Rc:=Rc.same sm;have OV:=OV.pr (fun b o e _=>sm b o e) fun _ z=>z;have ed:ds.drop i=d :: ds.drop (i+1):=by rw [MN O7];obtain ⟨_,q⟩:=Ls.mp hd;rw [q]
  rw [ed] at hc;unfold wo at hc;split at hc
  .rename_i y Pz hs;split at hc
   .rename_i ys' e2 hr;cases hc;refine turn t acc d O8 y Pz x O3 hti hs Rc (cf.kp kc) Qt _ fun t' OI H2 ht' R2 k2 p2 ha=>⟨_,by lia,ht',rfl,by lia,?_,Pz,done++y.toList,ys',hr,by rw [hy,LC],R2,kc.trans k2,?_⟩
    .cases y with
     | none=>rw [show OI=acc from ha];lia
     | some dy=>obtain ⟨v,rfl,_⟩:=ha;rw [Ln];simp;lia
    .have T1:=OV.pr p2 fun _ z=>z;cases y with
     | none=>rw [show OI=acc from ha];simpa using T1
     | some dy=>obtain ⟨v,rfl,hv⟩:=ha;exact T1.snoc hv
   .cases hc
  .cases hc
 .left;have e:i=ds.length:=by lia
  subst e;have hz:acc.length<=sizeLine:=by lia
  rw [List.drop_length] at hc;unfold wo at hc;cases hc;rw [L7] at hy;subst hy;exact ⟨(Qs H' PB _).2 (by lia),hz,fin acc H' (R1.back nd Rc kc) OV hz⟩
theorem ID {js:List Nat} {it:XI} {c:XT} {e:XE} (ii:SI K ga gd it) (ic:ST K ga gd c) (ie:SE K ga gd e):SE K ga gd (.cmp js it c e):=by
 intro env rv tR h F0 ZO I Y H Q R q;simp only [dE] at h;split at h
 .rename_i ds lock e1 h1;split at h
  .rename_i nd;split at h
   .rename_i ys ec h2;cases h;refine ii _ _ _ _ h1 F0 ZO I Y H _ R fun J H1 R1 k1 _ hit=>?_;refine Exists.elim (BG (Q:=Q) (G:=Unit) (TI:=fun _=>True) (t0:=()) (body:=fun _ acc x H' N=>rT K ga c (some x :: bL js Y) H' fun b H2=>if b=true then rE K ga e (some x :: bL js Y) H2 fun y H3=>N () (acc++[y]) H3 else N () acc H2) trivial R1 nd hit h2 ?_ ?_) fun W hw=>?_
    rotate_right 1
    .obtain ⟨w0,hW⟩:=hw;exact ⟨fun i m acc H=>W i m () acc H,w0,fun i m acc H w=>hW i m () acc H w⟩
    .intro _ acc d O8 y Pz x H' _ hs Rc no hd N hN;have eF:FF (FF F0 e1 Y) O8 (bL js Y)=FF F0 e1 Y:=eU no;have Rx:Rel K (FF F0 e1 Y) H1 (IA (eO e1 lock js) (bL js Y)) (.dat d :: O8) (some x :: bL js Y) H':=Rc.front (ds:=[d]) (vs:=[x]) ⟨x,[],rfl,by rw [eF];exact hd,rfl⟩;have P7:∀ {e2:En},OD O8 e2->FF (FF F0 e1 Y) (.dat d :: e2) (some x :: bL js Y)=FF F0 e1 Y:=fun {e2} k=>by have:=k7 (F0:=FF F0 e1 Y) (env:=e2) (Y:=bL js Y) (pre:=[.dat d]) (ps:=[some x]) (fun s hs=>by rw [LF.mp hs];trivial) rfl;exact this.trans (eU (no.kp k))
     unfold fW at hs;split at hs
     .rename_i e2 hT;split at hs
      .rename_i rv e3 hE;split at hs
       .rename_i dy hv;cases hs;refine ic _ _ _ hT _ _ _ _ H' _ Rx.rebase fun H2 S2 k2=>?_;rw [Lz rfl];have R2:=Rx.bj S2;refine ie _ _ _ hE _ _ _ _ H2 _ R2.rebase fun v H3 S3 k3 r3=>?_;have R3:=R2.bj S3;obtain ⟨ex,Δ,kx⟩:=(k2.trans k3).front (ds:=[d]);have k23:=k2.trans k3;subst Δ;have ht:(([d].map Sl.dat)++ex).tail=ex:=rfl;obtain ⟨e2x,Ru,k2x⟩:=k2.front (ds:=[d]);have Uy:Pr (FF F0 e1 Y) H' H2:=by have:=Rx.q0 S2.fg;rwa [P7 (OD.refl _)] at this
        have p23:Pr (FF F0 e1 Y) H2 H3:=by have:=R2.q0 S3.fg;rw [Ru] at this;rwa [show FF (FF F0 e1 Y) ([d].map Sl.dat++e2x) (some x :: bL js Y)=FF F0 e1 Y from P7 k2x] at this
        have a3:=r3.av;rw [hv] at a3;have dv:Dm K (FF F0 e1 Y) H3 dy v:=by have:Dm K (FF (FF F0 e1 Y) ([d].map Sl.dat++ex) (some x :: bL js Y)) H3 dy v:=a3;rwa [show FF (FF F0 e1 Y) ([d].map Sl.dat++ex) (some x :: bL js Y)=FF F0 e1 Y from P7 kx] at this
        exact hN () _ H3 trivial (R3.behind (pre:=[.dat d]) (ps:=[some x]) (fun s hs=>by rw [LF.mp hs];trivial) rfl) kx (Uy.trans p23 fun _ z=>z) ⟨v,rfl,dv⟩
       .cases hs
      .cases hs
     .rename_i e2 hT;cases hs;refine ic _ _ _ hT _ _ _ _ H' _ Rx.rebase fun H2 S2 k2=>?_;rw [Lw (by decide)];have R2:=Rx.bj S2;obtain ⟨ex,Ru,kx⟩:=k2.front (ds:=[d]);subst Ru;have Uy:Pr (FF F0 e1 Y) H' H2:=by have:=Rx.q0 S2.fg;rwa [P7 (OD.refl _)] at this
      exact hN () _ H2 trivial (R2.behind (pre:=[.dat d]) (ps:=[some x]) (fun s hs=>by rw [LF.mp hs];trivial) rfl) kx Uy rfl
     .cases hs
    .intro acc H' R' hd hz p hp;have eF:=(bg e1 js ec).ff (F0:=F0) (Y:=Y);have s:=ax.nw (.lst acc) hp;exact q _ _ (R'.same s) (k1.trans (bg e1 js ec).kp) (R'.qd (pr:=.Oj (.list ys)) s ⟨p,rfl,hp,acc,ak,hz,by rw [eF];exact (hd.fresh hp).pr (Pr.of_same s) fun _ z=>z⟩)
   .cases h
  .cases h
 .cases h
mutual
theorem sE (hg:∀ g d,gd[g]?=some d->∀ F H,Dm K F H d (ga g)):(e:XE)->SE K ga gd e
 | .var i=>Ij i | .U3 i=>IQ i | .cst c=>Jq c | .W0 g=>Hv hg g
 | .Si p as=>GV (sA hg as) | .met m o as=>HL (sE hg o) (sA hg as) | .Uw m i as=>HY (sA hg as) | .call f as=>s_call (sA hg as)
 | .tup as=>HV (sA hg as) | .lst as=>HJ (sA hg as) | .VR as=>Iv (Θ hg as)
 | .Sj c a b=>Ib (sT hg c) (sE hg a) (sE hg b) | .qk a b=>Cb (sE hg a) (sE hg b) | .TR a b=>Gp (sE hg a) (sE hg b) | .Bj a=>Em (sE hg a)
 | .SR p q a b c=>IE (sE hg a) (sE hg b) (sE hg c)
 | .cmp js it c e=>ID (sI hg it) (sT hg c) (sE hg e)
theorem sA (hg:∀ g d,gd[g]?=some d->∀ F H,Dm K F H d (ga g)):(e:XA)->SA K ga gd e
 | .nil=>Ip | .cons e r=>CJ (sE hg e) (sA hg r)
theorem Θ (hg:∀ g d,gd[g]?=some d->∀ F H,Dm K F H d (ga g)):(e:XP)->VT K ga gd e
 | .nil=>Ja | .cons k e r=>Ej (sE hg k) (sE hg e) (Θ hg r)
theorem sT (hg:∀ g d,gd[g]?=some d->∀ F H,Dm K F H d (ga g)):(e:XT)->ST K ga gd e
 | .OB e=>Ig (sE hg e) | .TU e=>GF (sE hg e) | .or a b=>Kz (sT hg a) (sT hg b) | .not a=>Iq (sT hg a) | .yes=>IM
theorem sI (hg:∀ g d,gd[g]?=some d->∀ F H,Dm K F H d (ga g)):(e:XI)->SI K ga gd e
 | .lst e=>Aj (sE hg e) | .tup e=>Fw (sE hg e) | .str e=>Hd (sE hg e) | .Pl as=>CK (sA hg as) | .sq e=>KC (sE hg e) | .U4 e=>Hc (sE hg e)
end
end
section
variable {K:Fg} {F F' I I' F0:Zq} {H H' ZO H1:Hp} {env tR e1:En} {Y Z':St} {ga:Nat->V} {gd:List Qq}
theorem Sh.bZ (h:Sh K F H a xs):Sh K (fun b=>F b\/H b=none) H a xs:=by
 rcases h with ⟨n,h⟩ | h
 .refine .inl ⟨fun z=>z.elim n fun e=>?_,h⟩;rcases h with h | ⟨o,h⟩ <;> (rw [e] at h;cases h)
 .exact .inr h
mutual
theorem Dm.bZ:∀ {d:Qq} {v:V},Dm K F H d v->Dm K (fun b=>F b\/H b=none) H d v
 | .none,v,h=>h
 | .bool b,v,h=>h
 | .int i,v,h=>h
 | .str x,v,h=>h
 | .list ds,v,h=>by obtain ⟨a,xs,e,l,z,r⟩:=h;exact ⟨a,xs,e,l.bZ,z,Ot.bZ r⟩
 | .tuple ds,v,h=>by obtain ⟨a,xs,e,l,z,r⟩:=h;exact ⟨a,xs,e,l,z,Ot.bZ r⟩
 | .dict kvs,v,h=>by obtain ⟨a,ep,xs,e,n,l,z,r⟩:=h;exact ⟨a,ep,xs,e,fun q=>q.elim n fun q=>(by rw [q] at l;cases l),l,z,ON.bZ r⟩
theorem Ot.bZ:∀ {ds:List Qq} {vs:List V},Ot K F H ds vs->Ot K (fun b=>F b\/H b=none) H ds vs
 | [],vs,h=>h
 | d :: ds,vs,h=>by obtain ⟨v,r,e,h1,h2⟩:=h;exact ⟨v,r,e,Dm.bZ h1,Ot.bZ h2⟩
theorem ON.bZ:∀ {ds:List (Qq×Qq)} {vs:List (Qq×V×V)},ON K F H ds vs->ON K (fun b=>F b\/H b=none) H ds vs
 | [],vs,h=>h
 | (k,d) :: ds,vs,h=>by obtain ⟨j,v,r,e,e2,h0,h1,h2⟩:=h;exact ⟨j,v,r,e,e2,Dm.bZ h0,Dm.bZ h1,ON.bZ h2⟩
end
theorem Pr.KG (p:Pr F H H') (h:∀ b,F b->F' b):Pr F' H H':=fun b o e n=>p b o e (n.imp (fun z q=>z (h _ q)) id)
def QH:Sl->Sl->Prop
 | .GG _,s=>∃ d,s=.GG d
 | .ro d,s=>s=.ro d
 | _,s=>(∀ d,s≠.GG d)/\∀ d,s≠.ro d
def E8:Sl->Prop | .GG _=>True | .ro _=>True | _=>False
def Pk (env:En) (Y:St) (tR:En) (Z':St):Prop:=tR.length=env.length/\∀ (i:Nat) (s:Sl),env[i]?=some s->∃ s',tR[i]?=some s'/\QH s s'/\(E8 s->Z'[i]?=Y[i]?)
theorem QH.refl:∀ s,QH s s
 | .un=>⟨fun _=>nofun,fun _=>nofun⟩
 | .dat _=>⟨fun _=>nofun,fun _=>nofun⟩
 | .own d=>⟨fun _=>nofun,fun _=>nofun⟩
 | .GG d=>⟨d,rfl⟩
 | .ro _=>rfl
def soft (s:Sl):Prop:=(∀ d,s≠.GG d)/\∀ d,s≠.ro d
theorem QH.soft (h:QH s s') (q:L2.soft s):L2.soft s':=by
 cases s with
 | GG d=>exact absurd rfl (q.1 d)
 | ro d=>exact absurd rfl (q.2 d)
 | _=>exact h
theorem QH.of (q:L2.soft s) (q':L2.soft s'):QH s s':=by
 cases s with
 | GG d=>exact absurd rfl (q.1 d)
 | ro d=>exact absurd rfl (q.2 d)
 | _=>exact q'
theorem QH.trans (h:QH a b) (q:QH b c):QH a c:=by
 cases a with
 | GG d=>obtain ⟨d',rfl⟩:=h;exact q
 | ro d=>rw [show b=.ro d from h] at q;exact q
 | un=>exact QH.of ⟨fun _=>nofun,fun _=>nofun⟩ (q.soft h)
 | dat _=>exact QH.of ⟨fun _=>nofun,fun _=>nofun⟩ (q.soft h)
 | own _=>exact QH.of ⟨fun _=>nofun,fun _=>nofun⟩ (q.soft h)
theorem QH.E8 (h:QH a b) (q:L2.E8 a):L2.E8 b:=by
 cases a with
 | GG d=>obtain ⟨d',rfl⟩:=h;trivial
 | ro d=>rw [show b=.ro d from h];trivial
 | _=>exact absurd q id
theorem Pk.refl (env:En) (Y:St):Pk env Y env Y:=⟨rfl,fun i s e=>⟨s,e,.refl s,fun _=>rfl⟩⟩
theorem Pk.trans (h:Pk a x b y) (q:Pk b y c z):Pk a x c z:=⟨q.1.trans h.1,fun i s e=>by
 obtain ⟨s1,e1,v1,w1⟩:=h.2 i s e;obtain ⟨s2,e2,v2,w2⟩:=q.2 i s1 e1
 exact ⟨s2,e2,v1.trans v2,fun t=>(w2 (v1.E8 t)).trans (w1 t)⟩⟩
theorem OD.s (k:OD env tR):Pk env Y tR Y:=⟨k.1,fun i s e=>by
 obtain ⟨s',e',v⟩:=k.2 i s e;refine ⟨s',e',?_,fun _=>rfl⟩;cases s with
 | un=>rw [show s'=.un from v];exact .refl _
 | dat d=>rw [show s'=.dat d from v];exact .refl _
 | own d=>rcases v with ⟨d',rfl⟩ | ⟨d',rfl⟩ | rfl <;> exact ⟨fun _=>nofun,fun _=>nofun⟩
 | GG d=>exact v
 | ro d=>exact v⟩
theorem iS (h:free env i=true):∃ s,env[i]?=some s/\L2.soft s:=by
 unfold free at h;split at h
 .rename_i e;exact ⟨_,e,fun _=>nofun,fun _=>nofun⟩
 .rename_i e;exact ⟨_,e,fun _=>nofun,fun _=>nofun⟩
 .rename_i e;exact ⟨_,e,fun _=>nofun,fun _=>nofun⟩
 .cases h
theorem uG (e:env[i]?=some s) (q:L2.soft s) (q':L2.soft s'):Pk env Y (env.set i s') (Y.set i x):=by
 have hi:i < env.length:=(Ls.mp e).1;refine ⟨Md,fun j t h=>?_⟩;by_cases z:i=j
 .subst z;rw [e] at h;cases h;refine ⟨s',LR hi,.of q q',fun t=>?_⟩;cases s with
  | GG d=>exact absurd rfl (q.1 d)
  | ro d=>exact absurd rfl (q.2 d)
  | _=>exact absurd t id
 .exact ⟨t,by rw [Lv z];exact h,.refl t,fun _=>by rw [Lv z]⟩
def iJ (K:Fg) (F0:Zq) (ZO:Hp) (I:Zq) (env:En) (Y:St) (D:Ends):Out->Prop
 | .nx e=>∀ Z' H',Rel K F0 ZO I e Z' H'->Pk env Y e Z'->D.nx Z' H'
 | .bk e=>∀ Z' H',Rel K F0 ZO I e Z' H'->Pk env Y e Z'->D.bk Z' H'
 | .ct e=>∀ Z' H',Rel K F0 ZO I e Z' H'->Pk env Y e Z'->D.ct Z' H'
 | .rt rv e=>∀ v Z' H',Rel K F0 ZO I e Z' H'->Pk env Y e Z'->gR K F0 ZO I e Z' H' rv v->D.rt v H'
def SS (K:Fg) (ga:Nat->V) (gd:List Qq) (s:XS):Prop:=∀ (env:En) (out:Out),dS gd s env=some out->∀ (F0:Zq) (ZO:Hp) (I:Zq) (Y:St) (H:Hp) (D:Ends),Rel K F0 ZO I env Y H->iJ K F0 ZO I env Y D out->rS K ga s D Y H
theorem iJ.from (k:Pk env Y tR Z') (h:iJ K F0 ZO I env Y D out):iJ K F0 ZO I tR Z' D out:=by
 cases out with
 | nx e=>exact fun s h1 r q=>h s h1 r (k.trans q)
 | bk e=>exact fun s h1 r q=>h s h1 r (k.trans q)
 | ct e=>exact fun s h1 r q=>h s h1 r (k.trans q)
 | rt rv e=>exact fun v s h1 r q w=>h v s h1 r (k.trans q) w
theorem Ed (ia:SS K ga gd a) (ib:SS K ga gd b):SS K ga gd (.seq a b):=by
 intro env out h F0 ZO I Y H D R q;simp only [dS] at h;split at h
 .rename_i e h1;refine ia _ _ h1 F0 ZO I Y H _ R fun Z' H' R' k'=>?_;exact ib _ _ h F0 ZO I Z' H' D R' (q.from k')
 .rename_i hn;refine ia _ _ h F0 ZO I Y H _ R ?_;cases out with
  | nx e=>exact absurd h (hn e)
  | bk e=>exact q
  | ct e=>exact q
  | rt rv e=>exact q
theorem Rel.Gu (R:Rel K F0 ZO I env Y H) (hf:free env i=true) (h:Dm K (FF F0 env Y) H d v):Rel K F0 ZO I (env.set i (.dat d)) (Y.set i (some v)) H/\Pk env Y (env.set i (.dat d)) (Y.set i (some v)):=by obtain ⟨s,e,q⟩:=iS hf;have hi:i < env.length:=(Ls.mp e).1;have R1:=R.forget i (some v);have:=R1.putD (i:=i) (d:=d) (v:=v) (LR hi) (h.mono (R.sub i _).1);rw [Ob,Ob] at this;exact ⟨this,uG e q ⟨fun _=>nofun,fun _=>nofun⟩⟩
theorem Ap (ie:SE K ga gd e):SS K ga gd (.bu i e):=by
 intro env out h F0 ZO I Y H D R q;simp only [dS] at h;split at h
 .rename_i rv e1 h1;split at h
  .rename_i d hv;split at h
   .rename_i hf;cases h;refine ie _ _ _ h1 F0 ZO I Y H _ R fun v H1 R1 k1 r1=>?_;have a1:=r1.av;rw [hv] at a1;obtain ⟨R2,k2⟩:=R1.Gu hf (show Dm K _ H1 d v from a1);exact q _ H1 R2 (k1.s.trans k2)
   .cases h
  .cases h
 .cases h
theorem gR.forget (h:gR K F0 ZO I env Y H (.Oj d) v) (i:Nat) (x:Option V) (hs:∀ s,env[i]?=some s->L2.soft s):gR K F0 ZO I (env.set i .un) (Y.set i x) H (.Oj d) v:=by
 obtain ⟨a,ea,R,t,w,nF,hi,hr⟩:=h;have R0:=R.less hi;obtain ⟨hf,W6⟩:=R0.sub i x;have Ξ:∀ b,(FF F0 (env.set i .un) (Y.set i x) b\/b=a)->(FF F0 env Y b\/b=a):=fun b z=>z.imp (hf b) id;refine ⟨a,ea,R.forget i x,t.pr Pr.refl Ξ fun _ z=>z,w,fun z=>nF (hf _ z),fun j c e s=>?_,fun j c e=>?_⟩
 .rcases get_set e with ⟨_,z⟩ | ⟨n,e⟩
  .cases z
  .rw [Lv n] at s;exact hi j c e s
 .rcases get_set e with ⟨_,z⟩ | ⟨n,e⟩
  .cases z
  .obtain ⟨b,s,r⟩:=hr j c e;exact ⟨b,by rw [Lv n];exact s,r.pr Pr.refl Ξ (fun b z=>z.imp (W6 b) id) fun _ _ z _=>z⟩
theorem Bv (ie:SE K ga gd e):SS K ga gd (.vX i e):=by
 intro env out h F0 ZO I Y H D R q;simp only [dS] at h;split at h
 .rename_i d e1 h1;split at h
  .rename_i hf;cases h;refine ie _ _ _ h1 F0 ZO I Y H _ R fun v H1 R1 k1 r1=>?_;obtain ⟨s,e,qs⟩:=iS hf;have hi:i < e1.length:=(Ls.mp e).1;have ev:∃ a,v=.ref a:=let ⟨a,e,_⟩:=r1;⟨a,e⟩
   obtain ⟨a,rfl⟩:=ev;have r2:=r1.forget i (some (.ref a)) (fun s' h=>by rw [e] at h;cases h;exact qs);have R2:=Rel.Lh (i:=i) (LR hi) r2;rw [Ob,Ob] at R2;exact q _ H1 R2 (k1.s.trans (uG e qs ⟨fun _=>nofun,fun _=>nofun⟩))
  .cases h
 .cases h
theorem nh:∀ {is:List Nat} {ds:List Qq} {vs:List V} {env tR:En} {Y:St} {Q:St->Hp->Prop},fv env is ds=some tR->Rel K F0 ZO I env Y H->Ot K (FF F0 env Y) H ds vs->(∀ Z',Rel K F0 ZO I tR Z' H->Pk env Y tR Z'->Q Z' H)->Yt is vs Y H Q
 | [],[],vs,env,tR,Y,Q,h,R,hd,q=>by cases h;exact ⟨hd,q Y R (Pk.refl _ _)⟩
 | [],d :: ds,vs,env,tR,Y,Q,h,R,hd,q=>by cases h
 | i :: is,[],vs,env,tR,Y,Q,h,R,hd,q=>by cases h
 | i :: is,d :: ds,vs,env,tR,Y,Q,h,R,hd,q=>by
  unfold fv at h;split at h
  .rename_i hf;obtain ⟨v,r,rfl,h1,h2⟩:=hd;obtain ⟨R1,k1⟩:=R.Gu hf h1;obtain ⟨s,e,qs⟩:=iS hf;refine ⟨v,r,rfl,?_⟩;refine nh h R1 (h2.mono fun b z=>?_) fun Z' R' k'=>q Z' R' (k1.trans k');rcases z with z | ⟨j,c,e',s'⟩
   .exact .inl z
   .rcases get_set e' with ⟨_,y⟩ | ⟨n,e'⟩
    .cases y
    .rw [Lv n] at s';exact .inr ⟨j,c,e',s'⟩
  .cases h
theorem AZ (ie:SE K ga gd e):SS K ga gd (.BP is e):=by
 intro env out h F0 ZO I Y H D R q;simp only [dS] at h;split at h
 .rename_i rv e1 h1;split at h
  .rename_i ds hv;split at h
   .rename_i e2 Sm;cases h;refine ie _ _ _ h1 F0 ZO I Y H _ R fun v H1 R1 k1 r1=>?_;have a1:=r1.av;rw [hv] at a1;obtain ⟨a,xs,rfl,l,z,r⟩:=(show Dm K (FF F0 e1 Y) H1 (.tuple ds) v from a1);have hlen:∀ {is:List Nat} {ds:List Qq} {e e':En},fv e is ds=some e'->is.length=ds.length:=by
     intro is;induction is with
     | nil=>intro ds e e' h;cases ds with
      | nil=>rfl
      | cons _ _=>cases h
     | cons i is ih=>intro ds e e' h;cases ds with
      | nil=>cases h
      | cons d ds =>
       unfold fv at h;split at h
       .rw [LN,LN,ih h]
       .cases h
    exact ⟨a,xs,rfl,l,by rw [r.len,hlen Sm],nh Sm R1 r fun Z' R' k'=>q Z' H1 R' (k1.s.trans k')⟩
   .cases h
  .cases h
 .cases h
theorem zP (ie:SE K ga gd e):SS K ga gd (.drop e):=by
 intro env out h F0 ZO I Y H D R q;simp only [dS] at h;split at h
 .rename_i rv e1 h1;cases h;exact ie _ _ _ h1 F0 ZO I Y H _ R fun v H1 R1 k1 r1=>q Y H1 R1 k1.s
 .cases h
theorem CM (ie:SE K ga gd e):SS K ga gd (.ret e):=by
 intro env out h F0 ZO I Y H D R q;simp only [dS] at h;split at h
 .rename_i rv e1 h1;cases h;exact ie _ _ _ h1 F0 ZO I Y H _ R fun v H1 R1 k1 r1=>q v Y H1 R1 k1.s r1
 .cases h
theorem Dk (ic:ST K ga gd c) (ia:SS K ga gd a) (ib:SS K ga gd b):SS K ga gd (.ifs c a b):=by
 intro env out h F0 ZO I Y H D R q;simp only [dS] at h;split at h
 .rename_i e1 h1;refine ic _ _ _ h1 F0 ZO I Y H _ R fun H1 R1 k1=>?_;rw [Lz rfl];exact ia _ _ h F0 ZO I Y H1 D R1 (q.from k1.s)
 .rename_i e1 h1;refine ic _ _ _ h1 F0 ZO I Y H _ R fun H1 R1 k1=>?_;rw [Lw (by decide)];exact ib _ _ h F0 ZO I Y H1 D R1 (q.from k1.s)
 .cases h
theorem Ft (ik:SE K ga gd k) (ie:SE K ga gd e):SS K ga gd (.Sk m i k e):=by
 intro env out h F0 ZO I Y H D R q;simp only [dS] at h;split at h
 .rename_i rv e1 h1;split at h
  .rename_i x hv;split at h
   .rename_i d0 hm0;split at h
    .rename_i rk e2 h2;split at h
     .rename_i dk d hvk hm;split at h
      .rename_i d' hf;cases h;refine ie _ _ _ h1 F0 ZO I Y H _ R fun v H1 R1 k1 r1=>?_;obtain ⟨_,a,s,_⟩:=R1.de hm0;refine ⟨.ref a,s,?_⟩;refine ik _ _ _ h2 F0 _ _ Y H1 _ R1.rebase fun u H2 S2 k2 r2=>?_;have R2:=R1.bj S2;have a1:=r1.av;rw [hv] at a1;have dx:=R1.oQ S2 k2 (show Dm K _ H1 x v from a1);obtain ⟨m2,a',s',f2,t2⟩:=R2.de hm;rw [s] at s';cases s';refine m.ok K _ H2 d a dk x u v d' _ hf f2 t2 (r2.av.vw R2 hvk) dx fun H3 hk ht=>?_;exact q Y H3 (R2.Jz hm s hk ht) ((k1.trans k2).trans (tP _ _ _)).s
      .cases h
     .cases h
    .cases h
   .cases h
  .cases h
 .cases h
theorem GN (ic:ST K ga gd c) (ib:SS K ga gd b):SS K ga gd (.wh n c b):=by
 intro env out h F0 ZO I Y H D R q;simp only [dS] at h;refine ⟨fun m Z' H'=>∃ tR,TV (dT gd c) (dS gd b) m tR=some out/\Rel K F0 ZO I tR Z' H'/\Pk env Y tR Z',⟨n,env,h,R,Pk.refl _ _⟩,?_⟩;rintro m Z' H' ⟨tR,hw,R',k'⟩;cases m with
 | zero=>cases hw
 | succ m =>
  unfold TV at hw;split at hw
  .rename_i e1 h1;refine ic _ _ _ h1 F0 ZO I Z' H' _ R' fun H2 R2 k2=>?_;rw [Lz rfl];refine ⟨fun Z3 H3=>∃ Uz,TV (dT gd c) (dS gd b) m Uz=some out/\Rel K F0 ZO I Uz Z3 H3/\Pk env Y Uz Z3,fun Z3 H3 z=>⟨m,MH _,z⟩,?_⟩;split at hw
   .rename_i e hb;exact ib _ _ hb F0 ZO I Z' H2 _ R2 fun Z3 H3 R3 k3=>⟨e,hw,R3,(k'.trans k2.s).trans k3⟩
   .rename_i e hb;exact ib _ _ hb F0 ZO I Z' H2 _ R2 fun Z3 H3 R3 k3=>⟨e,hw,R3,(k'.trans k2.s).trans k3⟩
   .rename_i e hb;cases hw;exact ib _ _ hb F0 ZO I Z' H2 _ R2 fun Z3 H3 R3 k3=>q Z3 H3 R3 ((k'.trans k2.s).trans k3)
   .rename_i r e hb;cases hw;exact ib _ _ hb F0 ZO I Z' H2 _ R2 fun v Z3 H3 R3 k3 r3=>q v Z3 H3 R3 ((k'.trans k2.s).trans k3) r3
   .cases hw
  .rename_i e1 h1;cases hw;refine ic _ _ _ h1 F0 ZO I Z' H' _ R' fun H2 R2 k2=>?_;rw [Lw (by decide)];exact q Z' H2 R2 (k'.trans k2.s)
  .cases hw
end
section
variable {K:Fg} {F F' I I' F0:Zq} {H H' ZO H1:Hp} {env tR e1:En} {Y Z':St} {ga:Nat->V} {gd:List Qq}
theorem uV {b:Qq->En->Option Out} {ds:List Qq} {out:Out} {J:It} {F1 I1:Zq} {el:En} {g:TG} {tb:TS} {D:Ends} (R:Rel K F1 H1 I1 el Y H1) (hI:I1=IA el Y) (hit:yN K (FF F1 el Y) I1 H1 J ds) (h:forL b ds el=some out)
  (turn:∀ d o tR Z' H' x,b d tR=some o->Rel K F1 H1 I1 tR Z' H'->Pk el Y tR Z'->Dm K (FF F1 tR Z') H' d x->(D':Ends)->iJ K F1 H1 I1 tR Z' D' o->g x Z' H' fun Z2 H2=>tb D' Z2 H2)
  (q:iJ K F1 H1 I1 el Y D out) :
  ∃ W:Nat->Nat->St->Hp->Prop,(∃ m,W 0 m Y H1)/\∀ i m Y H,W i m Y H ->
   (J.stop i H/\D.nx Y H)\/(J.go i H/\∃ N:St->Hp->Prop,(∀ Z' H',N Z' H'->∃ m',m' < m/\W (i+1) m' Z' H')/\∀ x H',J.RM i H x H'->g x Y H' fun Z2 H2=>tb { D with nx:=N,ct:=N,bk:=D.nx } Z2 H2):=by
 subst hI;obtain ⟨ψ,Qs⟩:=hit;refine ⟨fun i m Z' H'=>m=ds.length - i/\i<=ds.length/\∃ tR,forL b (ds.drop i) tR=some out/\Rel K F1 H1 (IA el Y) tR Z' H'/\Pk el Y tR Z',⟨ds.length,rfl,Mk _,el,h,R,Pk.refl _ _⟩,?_⟩;rintro i m Z' H' ⟨rfl,hi,tR,hf,R',k'⟩;have PB:∀ b o,H1 b=some o->¬IA el Y b->H' b=some o:=R'.fg;by_cases O7:i < ds.length
 .right;obtain ⟨go,RM⟩:=(Qs H' PB i).1 (by lia);refine ⟨go,fun Z3 H3=>(ds.length - (i+1))=ds.length - (i+1)/\i+1<=ds.length/\∃ tR,forL b (ds.drop (i+1)) tR=some out/\Rel K F1 H1 (IA el Y) tR Z3 H3/\Pk el Y tR Z3,fun Z3 H3 z=>⟨ds.length - (i+1),by lia,z⟩,fun x O3 hx=>?_⟩;obtain ⟨d,hd,Yy⟩:=RM x O3 hx;have Yz:∀ b,FF F1 tR Z' b->(FF F1 el Y b\/H1 b=none):=fun b z=>by
   rcases z with z | ⟨j,c,e',s'⟩
   .exact .inl (.inl z)
   .obtain ⟨b',q',_,w,_⟩:=R'.own j c e';rw [s'] at q';cases q';exact w.elim .inr fun w=>.inl (R.ia w)
  obtain ⟨sm,Qt⟩:=Yy.dm (F2:=FF F1 tR Z') fun d v h=>h.bZ.pr ((R.q0 PB).KG fun b z=>.inl z) Yz;have R':=R'.same sm;have ed:ds.drop i=d :: ds.drop (i+1):=by rw [MN O7];obtain ⟨_,z⟩:=Ls.mp hd;rw [z]
  rw [ed] at hf;unfold forL at hf;split at hf
  .rename_i e hb;exact turn d _ tR Z' O3 x hb R' k' Qt _ fun Z3 H3 R3 k3=>⟨rfl,by lia,e,hf,R3,k'.trans k3⟩
  .rename_i e hb;exact turn d _ tR Z' O3 x hb R' k' Qt _ fun Z3 H3 R3 k3=>⟨rfl,by lia,e,hf,R3,k'.trans k3⟩
  .rename_i e hb;cases hf;exact turn d _ tR Z' O3 x hb R' k' Qt _ fun Z3 H3 R3 k3=>q Z3 H3 R3 (k'.trans k3)
  .rename_i r e hb;cases hf;exact turn d _ tR Z' O3 x hb R' k' Qt _ fun v Z3 H3 R3 k3 r3=>q v Z3 H3 R3 (k'.trans k3) r3
  .cases hf
 .left;have e:i=ds.length:=by lia
  subst e;rw [List.drop_length] at hf;unfold forL at hf;cases hf;exact ⟨(Qs H' PB _).2 (by lia),q Z' H' R' k'⟩
theorem gR.bj (R:Rel K F0 ZO I env Y H) (h:gR K F0 H (IA env Y) tR Z' H' rv v):gR K F0 ZO I tR Z' H' rv v:=by
 cases rv with
 | dat d=>exact h
 | bor i=>exact h
 | Oj d =>
  obtain ⟨a,ea,S,t,w,nF,hi,hr⟩:=h;have S0:=R.bj (S.less hi);refine ⟨a,ea,⟨S.len,S.dat,fun i c e=>?_,fun i c e=>?_,S.ro,S.sep,S.dom,S0.fg⟩,t,R.oi w,nF,hi,hr⟩
  .obtain ⟨b,s,n,w',t'⟩:=S.own i c e;exact ⟨b,s,n,R.oi w',t'⟩
  .obtain ⟨b,s,n,w',t'⟩:=S.GG i c e;obtain ⟨b2,s2,_,i2,_⟩:=S0.GG i c e;rw [s] at s2;cases s2;exact ⟨b,s,n,i2,t'⟩
theorem iJ.rebase (R1:Rel K F0 ZO I e1 Y H1) (q:iJ K F0 ZO I e1 Y D out):iJ K F0 H1 (IA e1 Y) e1 Y D out:=by
 cases out with
 | nx e=>exact fun Z' H' R' k'=>q Z' H' (R1.bj R') k'
 | bk e=>exact fun Z' H' R' k'=>q Z' H' (R1.bj R') k'
 | ct e=>exact fun Z' H' R' k'=>q Z' H' (R1.bj R') k'
 | rt rv e=>exact fun v Z' H' R' k' r=>q v Z' H' (R1.bj R') k' (r.bj R1)
theorem Ju (ii:SI K ga gd it) (ib:SS K ga gd b):SS K ga gd (.fr i it b):=by
 intro env out h F0 ZO I Y H D R q;simp only [dS] at h;split at h
 .rename_i ds e1 h1
  .refine ii _ _ _ _ h1 F0 ZO I Y H _ R fun J H1 R1 k1 _ hit=>?_;refine uV R1.rebase rfl ?_ h ?_ (iJ.rebase R1 (q.from k1.s))
   .obtain ⟨a2,a3⟩:=hit;exact ⟨a2,fun H' hk=>a3 H' fun b o e n=>hk b o e fun z=>n ⟨z,fun i y=>nomatch y⟩⟩
   .intro d o tR Z' H' x hb R' k' hd D' hD;unfold lj at hb;split at hb
    .rename_i hf;obtain ⟨R2,k2⟩:=R'.Gu hf hd;exact ib _ _ hb _ _ _ _ H' D' R2 (hD.from k2)
    .cases hb
 .cases h
theorem B0 (ii:SI K ga gd it) (ib:SS K ga gd b):SS K ga gd (.U5 is it b):=by
 intro env out h F0 ZO I Y H D R q;simp only [dS] at h;split at h
 .rename_i ds e1 h1
  .refine ii _ _ _ _ h1 F0 ZO I Y H _ R fun J H1 R1 k1 _ hit=>?_;refine uV R1.rebase rfl ?_ h ?_ (iJ.rebase R1 (q.from k1.s))
   .obtain ⟨a2,a3⟩:=hit;exact ⟨a2,fun H' hk=>a3 H' fun b o e n=>hk b o e fun z=>n ⟨z,fun i y=>nomatch y⟩⟩
   .intro d o tR Z' H' x hb R' k' hd D' hD;unfold hG at hb;split at hb
    .rename_i xs;split at hb
     .rename_i e2 Sm;obtain ⟨a,vs,rfl,l,z,r⟩:=hd;have hlen:∀ {is:List Nat} {ds:List Qq} {e e':En},fv e is ds=some e'->is.length=ds.length:=by
       intro is;induction is with
       | nil=>intro ds e e' h;cases ds with
        | nil=>rfl
        | cons _ _=>cases h
       | cons i is ih=>intro ds e e' h;cases ds with
        | nil=>cases h
        | cons d ds =>
         unfold fv at h;split at h
         .rw [LN,LN,ih h]
         .cases h
      exact ⟨a,vs,rfl,l,by rw [r.len,hlen Sm],nh Sm R' r fun Z2 R2 k2=>ib _ _ hb _ _ _ _ H' D' R2 (hD.from k2)⟩
     .cases hb
    .cases hb
 .cases h
theorem sS (hg:∀ g d,gd[g]?=some d->∀ F H,Dm K F H d (ga g)):(s:XS)->SS K ga gd s
 | .skip=>fun env out h F0 ZO I Y H D R q=>by cases h;exact q Y H R (Pk.refl _ _)
 | .seq a b=>Ed (sS hg a) (sS hg b)
 | .bu i e=>Ap (sE hg e) | .vX i e=>Bv (sE hg e) | .BP is e=>AZ (sE hg e) | .drop e=>zP (sE hg e) | .ret e=>CM (sE hg e)

 | .ifs c a b=>Dk (sT hg c) (sS hg a) (sS hg b)
 | .fr i it b=>Ju (sI hg it) (sS hg b) | .U5 is it b=>B0 (sI hg it) (sS hg b) | .wh n c b=>GN (sT hg c) (sS hg b)
 | .VS=>fun env out h F0 ZO I Y H D R q=>by cases h
 | .Sk m i k e=>Ft (sE hg k) (sE hg e)
end
section
variable {K:Fg} {F F' G I I' F0:Zq} {H H' ZO H1:Hp} {env tR e1:En} {Y Z':St} {ga:Nat->V} {gd:List Qq}
theorem b7:∀ {ms:List PM} {ds:List Qq} {n:Nat},ds.length=ms.length->ms.length<=n->(aq ms ds n).length=n
 | [],[],n,_,_=>by simp [aq]
 | [],_ :: _,n,h,_=>by cases h
 | _ :: _,[],n,h,_=>by cases h
 | m :: ms,d :: ds,n,h,hn=>by have ih:=b7 (ms:=ms) (ds:=ds) (n:=n - 1) (by simpa using h) (by simp at hn;lia);simp at hn;cases m <;> (simp only [aq,LN,ih];lia)
theorem bA.len:∀ {ms:List PM} {ds:List Qq} {vs:List V} {is:List Qz},bA K G I H ms ds vs is->ds.length=ms.length/\vs.length=ms.length
 | [],[],[],_,_=>⟨rfl,rfl⟩
 | [],[],_ :: _,_,h=>by exact absurd h id
 | [],_ :: _,_,_,h=>by exact absurd h id
 | m :: ms,[],_,_,h=>by cases m <;> exact absurd h id
 | m :: ms,d :: ds,[],_,h=>by cases m <;> exact absurd h id
 | .dat :: ms,d :: ds,v :: vs,is,h=>by obtain ⟨a,b⟩:=bA.len h.2;exact ⟨by simp [a],by simp [b]⟩
 | .bor :: ms,d :: ds,v :: vs,is,h=>by obtain ⟨a,b⟩:=bA.len h.2;exact ⟨by simp [a],by simp [b]⟩
 | .GG :: ms,d :: ds,v :: vs,is,h=>by obtain ⟨_,_,_,_,_,_,_,h⟩:=h;obtain ⟨a,b⟩:=bA.len h;exact ⟨by simp [a],by simp [b]⟩
def At (K:Fg) (G I:Zq) (H:Hp) (is:List Qz) (s:Sl) (x:Option V):Prop:=match s with
 | .un=>True
 | .dat d=>∃ v,x=some v/\Dm K G H d v
 | .GG d=>∃ a,x=some (.ref a)/\a∈is/\G a/\Top K G H d a
 | .ro d=>∃ a,x=some (.ref a)/\iq K G I H d a
 | .own _=>False
theorem At.more (h:At K G I H is s x) (q:∀ a∈is,a∈is'):At K G I H is' s x:=by
 cases s with
 | GG d=>obtain ⟨a,e,m,r⟩:=h;exact ⟨a,e,q a m,r⟩
 | _=>exact h
theorem bH:∀ {ms:List PM} {ds:List Qq} {vs:List V} {is:List Qz} {n:Nat} {tl:St},bA K G I H ms ds vs is->∀ {i:Nat} {s:Sl},(aq ms ds n)[i]?=some s->∀ {x:Option V},(vs.map some++tl)[i]?=some x->At K G I H is s x
 | [],[],[],is,n,tl,h,i,s,e,x,_=>by
  simp only [aq,List.getElem?_replicate] at e;split at e
  .cases e;trivial
  .cases e
 | [],[],_ :: _,_,_,_,h,_,_,_,_,_=>by exact absurd h id
 | [],_ :: _,_,_,_,_,h,_,_,_,_,_=>by exact absurd h id
 | m :: ms,[],_,_,_,_,h,_,_,_,_,_=>by cases m <;> exact absurd h id
 | m :: ms,d :: ds,[],_,_,_,h,_,_,_,_,_=>by cases m <;> exact absurd h id
 | .dat :: ms,d :: ds,v :: vs,is,n,tl,h,0,s,e,x,ex=>by simp [aq] at e ex;subst e ex;exact ⟨v,rfl,h.1⟩
 | .dat :: ms,d :: ds,v :: vs,is,n,tl,h,i+1,s,e,x,ex=>by simp [aq] at e;exact bH h.2 e (by simpa using ex)
 | .bor :: ms,d :: ds,v :: vs,is,n,tl,h,0,s,e,x,ex=>by simp [aq] at e ex;subst e ex;have h1:z7 K G I H d v:=h.1;cases d <;> first | exact h1 | exact ⟨v,rfl,h1⟩ | (obtain ⟨a,rfl,r⟩:=h1;exact ⟨a,rfl,r⟩)
 | .bor :: ms,d :: ds,v :: vs,is,n,tl,h,i+1,s,e,x,ex=>by simp [aq] at e;exact bH h.2 e (by simpa using ex)
 | .GG :: ms,d :: ds,v :: vs,is,n,tl,h,0,s,e,x,ex=>by simp [aq] at e ex;subst e ex;obtain ⟨a,r,rfl,rfl,g,t,_,_⟩:=h;exact ⟨a,rfl,Lq,g,t⟩
 | .GG :: ms,d :: ds,v :: vs,is,n,tl,h,i+1,s,e,x,ex=>by simp [aq] at e;obtain ⟨a,r,rfl,rfl,g,t,_,h⟩:=h;exact (bH h e (by simpa using ex)).more fun b hb=>Ly _ hb
theorem jJ:∀ {ms:List PM} {ds:List Qq} {vs:List V} {is:List Qz} {n:Nat} {tl:St},bA K G I H ms ds vs is->∀ {i j:Nat} {c c':Qq} {a:Qz},(aq ms ds n)[i]?=some (.GG c)->(aq ms ds n)[j]?=some (.GG c') ->
  (vs.map some++tl)[i]?=some (some (.ref a))->(vs.map some++tl)[j]?=some (some (.ref a))->i=j
 | [],[],[],is,n,tl,h,i,j,c,c',a,e,_,_,_=>by simp only [aq,List.getElem?_replicate] at e;split at e <;> cases e
 | [],[],_ :: _,_,_,_,h,_,_,_,_,_,_,_,_,_=>by exact absurd h id
 | [],_ :: _,_,_,_,_,h,_,_,_,_,_,_,_,_,_=>by exact absurd h id
 | m :: ms,[],_,_,_,_,h,_,_,_,_,_,_,_,_,_=>by cases m <;> exact absurd h id
 | m :: ms,d :: ds,[],_,_,_,h,_,_,_,_,_,_,_,_,_=>by cases m <;> exact absurd h id
 | m :: ms,d :: ds,v :: vs,is,n,tl,h,0,0,c,c',a,e,e',s,s'=>rfl
 | m :: ms,d :: ds,v :: vs,is,n,tl,h,i+1,j+1,c,c',a,e,e',s,s'=>by
  have hr:∃ r,bA K G I H ms ds vs r:=by
   cases m with
   | dat=>exact ⟨is,h.2⟩
   | bor=>exact ⟨is,h.2⟩
   | GG=>obtain ⟨_,r,_,_,_,_,_,h⟩:=h;exact ⟨r,h⟩
  obtain ⟨r,hr⟩:=hr;have:i=j:=jJ (n:=n - 1) (tl:=tl) hr (by cases m <;> simpa [aq] using e) (by cases m <;> simpa [aq] using e') (by simpa using s) (by simpa using s');rw [this]
 | m :: ms,d :: ds,v :: vs,is,n,tl,h,0,j+1,c,c',a,e,e',s,s'=>by
  cases m with
  | dat=>simp [aq] at e
  | bor=>cases d <;> simp [aq,zR] at e
  | GG =>
   obtain ⟨b,r,rfl,rfl,g,t,nr,h⟩:=h;simp [aq] at e' s;subst s;obtain ⟨a',ea,m',_⟩:=bH (tl:=tl) h e' (by simpa using s');cases ea;exact absurd m' nr
 | m :: ms,d :: ds,v :: vs,is,n,tl,h,i+1,0,c,c',a,e,e',s,s'=>by
  cases m with
  | dat=>simp [aq] at e'
  | bor=>cases d <;> simp [aq,zR] at e'
  | GG =>
   obtain ⟨b,r,rfl,rfl,g,t,nr,h⟩:=h;simp [aq] at e s';subst s';obtain ⟨a',ea,m',_⟩:=bH (tl:=tl) h e (by simpa using s);cases ea;exact absurd m' nr
theorem fU:∀ {ms:List PM} {ds:List Qq} {vs:List V} {is:List Qz} {n:Nat} {tl:St} {tR:En} {Z':St} {outs:List Qq},bA K G I H ms ds vs is->ms.length<=tR.length ->
  (∀ (i:Nat) (c:Qq),(aq ms ds n)[i]?=some (.GG c)->∃ c',tR[i]?=some (.GG c')/\Z'[i]?=(vs.map some++tl)[i]?)->(∀ (i:Nat) (c:Qq) (a:Qz),tR[i]?=some (.GG c)->Z'[i]?=some (some (.ref a))->Top K G' H' c a) ->
  iU ms tR=some outs->ix K G' H' outs is
 | [],[],[],is,n,tl,tR,Z',outs,h,_,_,_,e=>by rw [show is=[] from h];cases tR <;> (simp only [iU] at e;cases e;trivial)
 | [],[],_ :: _,_,_,_,_,_,_,h,_,_,_,_=>by exact absurd h id
 | [],_ :: _,_,_,_,_,_,_,_,h,_,_,_,_=>by exact absurd h id
 | m :: ms,[],_,_,_,_,_,_,_,h,_,_,_,_=>by cases m <;> exact absurd h id
 | m :: ms,d :: ds,[],_,_,_,_,_,_,h,_,_,_,_=>by cases m <;> exact absurd h id
 | m :: ms,d :: ds,v :: vs,is,n,tl,[],Z',outs,h,hl,h1,h2,e=>by simp at hl
 | m :: ms,d :: ds,v :: vs,is,n,tl,s :: es,Z',outs,h,hl,h1,h2,e=>by
  have Qh:ms.length<=es.length:=by simpa using hl
  have t1:∀ (i:Nat) (c:Qq),(aq ms ds (n - 1))[i]?=some (.GG c)->∃ c',es[i]?=some (.GG c')/\Z'.tail[i]?=(vs.map some++tl)[i]?:=fun i c z=>by obtain ⟨c',e',q⟩:=h1 (i+1) c (by cases m <;> simpa [aq] using z);exact ⟨c',by simpa using e',by simpa using q⟩
  have t2:∀ (i:Nat) (c:Qq) (a:Qz),es[i]?=some (.GG c)->Z'.tail[i]?=some (some (.ref a))->Top K G' H' c a:=fun i c a z q=>h2 (i+1) c a (by simpa using z) (by simpa using q);cases m with
  | dat=>exact fU h.2 Qh t1 t2 (by simpa [iU] using e)
  | bor=>exact fU h.2 Qh t1 t2 (by simpa [iU] using e)
  | GG =>
   obtain ⟨b,r,rfl,rfl,g,t,nr,h⟩:=h;obtain ⟨c',e',q⟩:=h1 0 d (by simp [aq]);simp at e' q;subst e';simp only [iU] at e;split at e
   .rename_i os ho;cases e;exact ⟨h2 0 c' b (by simp) (by simpa using q),fU h Qh t1 t2 ho⟩
   .cases e
theorem mV (hg:∀ g d,gd[g]?=some d->∀ F H,Dm K F H d (ga g)) (h:gT (bV gd ms N.length b) K vs H Q E) (hn:ms.length<=N.length) :
  rS K ga b { nx:=fun _ H'=>Q .non H',rt:=Q } (start N vs) H:=by
 obtain ⟨G,ds,is,pr,outs,hF,ha,hd,post⟩:=h;have ha:bA K G (·∈is) H ms ds vs is:=ha;obtain ⟨VY,Yw⟩:=ha.len;have Sn:start N vs=vs.map some++List.replicate (N.length - vs.length) none:=rfl;have no:noOwn (aq ms ds N.length):=fun i d e=>by have hi:i < (aq ms ds N.length).length:=(Ls.mp e).1;rw [b7 VY hn] at hi;have hx:(vs.map some++List.replicate (N.length - vs.length) none)[i]?=some ((vs.map some++List.replicate (N.length - vs.length) none)[i]'(by rw [Ln,Lo,Og];lia)):=Lp _;exact (bH ha e hx:False)
 have at':∀ {i:Nat} {s:Sl},(aq ms ds N.length)[i]?=some s->∃ x,(start N vs)[i]?=some x/\At K G (·∈is) H is s x:=fun {i s} e=>by have hi:i < (aq ms ds N.length).length:=(Ls.mp e).1;rw [b7 VY hn] at hi;have hx:(start N vs)[i]?=some ((start N vs)[i]'(by rw [Sn,Ln,Lo,Og];lia)):=Lp _;exact ⟨_,hx,bH ha e hx⟩
 have eF:FF G (aq ms ds N.length) (start N vs)=G:=eU no;have YA:∀ i,mu (aq ms ds N.length) i->∃ c,(aq ms ds N.length)[i]?=some (.GG c):=fun i ⟨c,m⟩=>m.elim (fun z=>absurd z (no i c)) fun z=>⟨c,z⟩;have R:Rel K G H (·∈is) (aq ms ds N.length) (start N vs) H:=by
  refine ⟨by rw [b7 VY hn,Sn,Ln,Lo,Og];lia,fun i d e=>?_,fun i d e=>absurd e (no i d),fun i d e=>?_,fun i d e=>?_,fun i j a h1 h2 h3 h4=>?_,hd,fun _ _ h _=>h⟩
  .rw [eF];obtain ⟨x,hx,v,rfl,r⟩:=at' e;exact ⟨v,hx,r⟩
  .rw [eF];obtain ⟨x,hx,a,rfl,m,g,t⟩:=at' e;exact ⟨a,hx,g,m,t⟩
  .rw [eF];obtain ⟨x,hx,a,rfl,r⟩:=at' e;refine ⟨a,hx,r.pr Pr.refl (fun _ z=>z) (fun b hb=>?_) fun _ _ z _=>z⟩;obtain ⟨j,m,s⟩:=hb;obtain ⟨c,m⟩:=YA j m;obtain ⟨x,hx,a,rfl,m,g,t⟩:=at' m;rw [s] at hx;cases hx;exact m
  .obtain ⟨c,m1⟩:=YA i h1;obtain ⟨c',m2⟩:=YA j h2;exact jJ ha m1 m2 h3 h4
 simp only [bV] at hF;rw [Lz VY] at hF
 .have Ti:∀ {tR:En} {Z':St},Pk (aq ms ds N.length) (start N vs) tR Z'->∀ (i:Nat) (c:Qq),(aq ms ds N.length)[i]?=some (.GG c)->∃ c',tR[i]?=some (.GG c')/\Z'[i]?=(vs.map some++List.replicate (N.length - vs.length) none)[i]?:=fun {tR Z'} k i c e=>by obtain ⟨s',e',v,w⟩:=k.2 i _ e;obtain ⟨c',rfl⟩:=v;exact ⟨c',e',w trivial⟩
  have YB:∀ {tR:En} {Z':St},Pk (aq ms ds N.length) (start N vs) tR Z'->ms.length<=tR.length:=fun {tR Z'} k=>by rw [k.1,b7 VY hn];exact hn
  split at hF
  .rename_i rv tR hS;split at hF
   .rename_i pr' VZ YC Rh;cases hF;refine sS hg b _ _ hS G H (·∈is) _ H _ R fun v Z' H' R' k' r'=>?_;have mono:∀ b,G b->FF G tR Z' b:=fun b z=>.inl z;cases rv with
    | bor i=>cases YC
    | dat d =>
     cases YC
     exact post v H' (fun b o e n=>R'.fg b o e n) ⟨Dm.mono mono r',fU ha (YB k') (Ti k') (fun i c a e s=>by
      obtain ⟨a',s',_,_,t⟩:=R'.GG i c e;rw [s] at s';cases s'
      exact t.pr Pr.refl mono fun _ z=>z) Rh⟩
    | Oj d =>
     cases YC;obtain ⟨a,rfl,Ra,t,w,nF,Tg,_⟩:=r';have V0:∀ b,(G b\/b=a)->FF (fun b=>G b\/b=a) tR Z' b:=fun b z=>.inl z
     refine post _ H' (fun b o e n=>R'.fg b o e n) ⟨a,rfl,?_,t.pr Pr.refl (fun b z=>z.imp (mono b) id) (fun _ z=>z),fU ha (YB k') (Ti k') (fun i c a' e s=>by
      obtain ⟨a2,s',_,_,t'⟩:=Ra.GG i c e;rw [s] at s';cases s'
      exact t'.pr Pr.refl V0 fun _ z=>z) Rh⟩
     rcases w with w | w
     .exact w
     ·-- it would be one that was handed in to be changed
      exfalso;have key:∀ {ms:List PM} {ds:List Qq} {vs:List V} {is:List Qz} {I:Zq} {n:Nat} {tl:St},bA K G I H ms ds vs is->a∈is->∃ (i:Nat) (c:Qq),(aq ms ds n)[i]?=some (.GG c)/\(vs.map some++tl)[i]?=some (some (.ref a)):=by
       intro ms;induction ms with
       | nil =>
        intro ds vs is I n tl h m;cases ds with
        | cons _ _=>exact absurd h id
        | nil=>cases vs with
         | cons _ _=>exact absurd h id
         | nil=>rw [show is=[] from h] at m;cases m
       | cons p ms ih =>
        intro ds vs is I n tl h m;cases ds with
        | nil=>cases p <;> exact absurd h id
        | cons d ds =>
         cases vs with
         | nil=>cases p <;> exact absurd h id
         | cons v vs =>
          cases p with
          | dat=>obtain ⟨i,c,e,s⟩:=ih (n:=n - 1) (tl:=tl) h.2 m;exact ⟨i+1,c,by simpa [aq] using e,by simpa using s⟩
          | bor=>obtain ⟨i,c,e,s⟩:=ih (n:=n - 1) (tl:=tl) h.2 m;exact ⟨i+1,c,by simpa [aq] using e,by simpa using s⟩
          | GG =>
           obtain ⟨b,r,rfl,rfl,g,t,nr,h⟩:=h;rcases LJ.mp m with rfl | m
           .exact ⟨0,d,by simp [aq],by simp⟩
           .obtain ⟨i,c,e,s⟩:=ih (n:=n - 1) (tl:=tl) h m;exact ⟨i+1,c,by simpa [aq] using e,by simpa using s⟩
      obtain ⟨i,c,e,s⟩:=key (n:=N.length) (tl:=List.replicate (N.length - vs.length) none) ha w;obtain ⟨c',e',s'⟩:=Ti k' i c e;exact Tg i c' e' (s'.trans s)
   .cases hF
  .rename_i tR hS;split at hF
   .rename_i VZ Rh;cases hF;refine sS hg b _ _ hS G H (·∈is) _ H _ R fun Z' H' R' k'=>?_;have mono:∀ b,G b->FF G tR Z' b:=fun b z=>.inl z
    exact post .non H' (fun b o e n=>R'.fg b o e n) ⟨rfl,fU ha (YB k') (Ti k') (fun i c a e s=>by
      obtain ⟨a',s',_,_,t⟩:=R'.GG i c e;rw [s] at s';cases s'
      exact t.pr Pr.refl mono fun _ z=>z) Rh⟩
   .cases hF
  .cases hF
theorem j6 (h:gT f K vs H Q E):vs.length=f.ms.length:=by obtain ⟨G,ds,is,pr,outs,_,ha,_⟩:=h;exact ha.len.2
end
end L2
namespace L2
open PySem PySem.Spec PyProof.Rows
def Oo.two (r:Fg->R2) (f:Qq->Qq->Option PR) (ok:∀ (K:Fg) (F:Zq) (H:Hp) (x y:Qq) (u v:V) (pr:PR) (Q:VK),f x y=some pr->Vw K F H x u->Vw K F H y v->(∀ b,F b->H b≠none)->(∀ w H',ax H H'->xZ K F H H' pr w->Q w H')->r K u v H Q):Oo where
 r:=fun K vs H Q=>match vs with | [u,v]=>r K u v H Q | _=>False
 f:=fun ds=>match ds with | [x,y]=>f x y | _=>none
 ok:=fun K F H ds vs pr Q hf hv hd q=>by
  match ds,hf with
  | [x,y],hf =>
   obtain ⟨u,r1,rfl,h1,v,r2,rfl,h2,rfl⟩:=hv;exact ok K F H x y u v pr Q hf h1 h2 hd q
def Oo.one (r:Fg->V->Hp->VK->Prop) (f:Qq->Option PR) (ok:∀ (K:Fg) (F:Zq) (H:Hp) (x:Qq) (u:V) (pr:PR) (Q:VK),f x=some pr->Vw K F H x u->(∀ b,F b->H b≠none)->(∀ w H',ax H H'->xZ K F H H' pr w->Q w H')->r K u H Q):Oo where
 r:=fun K vs H Q=>match vs with | [u]=>r K u H Q | _=>False
 f:=fun ds=>match ds with | [x]=>f x | _=>none
 ok:=fun K F H ds vs pr Q hf hv hd q=>by
  match ds,hf with
  | [x],hf =>
   obtain ⟨u,r1,rfl,h1,rfl⟩:=hv;exact ok K F H x u pr Q hf h1 hd q
section
variable {K:Fg} {F F':Zq} {H:Hp}
theorem vInt {i:Int} {v:V} (h:Vw K F H (.int i) v):v=.int i:=h
theorem U8 (h:Vw K F H (.bool b) v):v=.bl b:=h
theorem Ab (h:Vw K F H .none v):v=.non:=h
theorem vStr {x:Str} {v:V} (h:Vw K F H (.str x) v):v=.str x/\x.length<=sizeLine/\PyData.strOk x=true:=h
theorem mT {ds:List Qq} {v:V} (h:Vw K F H (.list ds) v):∃ a xs,v=.ref a/\OO K H a xs/\xs.length<=sizeLine/\Ot K F H ds xs:=let ⟨a,e,xs,r⟩:=h;⟨a,xs,e,r⟩
theorem pP {ds:List Qq} {v:V} (h:Vw K F H (.tuple ds) v):∃ a xs,v=.ref a/\OU K H a xs/\xs.length<=sizeLine/\Ot K F H ds xs:=h
theorem yM (hp:H p=none) (hz:xs.length<=sizeLine) (h:Ot K F H ds xs):xZ K F H (upd H p (.lst xs)) (.Oj (.list ds)) (.ref p) :=
 ⟨p,rfl,hp,xs,ak,hz,(h.fresh hp).pr (Pr.of_same (ax.nw _ hp)) fun _ z=>z⟩
theorem Iz (hp:H p=none) (hz:xs.length<=sizeLine) (h:Ot K F H ds xs):xZ K F H (upd H p (.tup xs)) (.dat (.tuple ds)) (.ref p) :=
 ⟨p,xs,rfl,.inl (.inl ak),hz,h.pr (Pr.of_same (ax.nw _ hp)) fun _ z=>z⟩
end
def JF:Qq->Qq->Option PR
 | .int i,.int j=>some (.dat (.int (i+j)))
 | .str x,.str y=>if x.length+y.length<=sizeLine then some (.dat (.str (x++y))) else none
 | .list xs,.list ys=>if xs.length+ys.length<=sizeLine then some (.Oj (.list (xs++ys))) else none
 | .tuple (x :: xs),.tuple ys=>if (x :: xs).length+ys.length<=sizeLine then some (.dat (.tuple ((x :: xs)++ys))) else none
 | _,_=>none
def Jp (K:Fg):R2:=TN (Q5 fun i j=>.int (i+j)) (TN Cc (TN (Ep K) (Er K)))
theorem cz (x y:Str):(x++y).length=x.length+y.length:=by show (x.cps++y.cps).size=_;rw [Array.size_append];rfl
def bh:Oo:=Oo.two Jp JF fun K F H x y u v pr Q hf hx hy hd q=>by
 unfold JF at hf;split at hf
 .cases hf;rw [vInt hx,vInt hy];exact .inl ⟨_,_,rfl,rfl,q _ H (ax.rf H) rfl⟩
 .split at hf
  .rename_i x y hl;cases hf;obtain ⟨rfl,l1,o1⟩:=vStr hx;obtain ⟨rfl,l2,o2⟩:=vStr hy;exact .inr (.inl ⟨_,_,rfl,rfl,hl,q _ H (ax.rf H) ⟨rfl,by rw [cz];exact hl,tW o1 o2⟩⟩)
  .cases hf
 .split at hf
  .rename_i xs ys hl;cases hf;obtain ⟨a,us,rfl,s1,z1,d1⟩:=mT hx;obtain ⟨b,ws,rfl,s2,z2,d2⟩:=mT hy;have Qh:us.length+ws.length<=sizeLine:=by rw [d1.len,d2.len];exact hl
   exact .inr (.inr (.inl ⟨a,b,us,ws,rfl,rfl,s1,s2,Qh,fun p hp=>q _ _ (ax.nw _ hp) (yM hp (by rw [Ln];exact Qh) (d1.app d2))⟩))
  .cases hf
 .split at hf
  .rename_i x xs ys hl;cases hf;obtain ⟨a,us,rfl,s1,z1,d1⟩:=pP hx;obtain ⟨b,ws,rfl,s2,z2,d2⟩:=pP hy;have Qh:us.length+ws.length<=sizeLine:=by rw [d1.len,d2.len];exact hl
   have O2:us≠[]:=fun z=>by rw [z] at d1;obtain ⟨v,r,e,_⟩:=d1;cases e
   refine .inr (.inr (.inr ⟨a,b,us,ws,rfl,rfl,s1,s2,O2,Qh,fun z=>?_,fun z p hp=>q _ _ (ax.nw _ hp) (Iz hp (by rw [Ln];exact Qh) (d1.app d2))⟩));subst z;have hys:ys=[]:=by
    cases ys with
    | nil=>rfl
    | cons y ys=>obtain ⟨v,r,e,_⟩:=d2;cases e
   subst hys;exact q _ H (ax.rf H) ⟨a,us,rfl,s1,z1,by rw [L7];exact d1⟩
  .cases hf
 .cases hf
theorem af:Oy X (binaryOp .Add) (fun x y=>bh.r X.K [x,y]):=UU Ew (UU A4 (UU Aa zI))
noncomputable def BO (c:Int->Int->Bool) (g:Int->Int->Qq):Qq->Qq->Option PR
 | .int i,.int j=>if c i j=true then some (.dat (g i j)) else none
 | _,_=>none
def Oo.ints (C:Int->Int->Prop) (c:Int->Int->Bool) (hc:∀ i j,c i j=true->C i j) (g:Int->Int->Int):Oo:=Oo.two (fun _=>rI C fun i j=>.int (g i j)) (BO c fun i j=>.int (g i j)) fun K F H x y u v pr Q hf hx hy hd q=>by
 unfold BO at hf;split at hf
 .split at hf
  .rename_i h;cases hf;rw [vInt hx,vInt hy];exact ⟨_,_,rfl,rfl,hc _ _ h,q _ H (ax.rf H) rfl⟩
  .cases hf
 .cases hf
def Oo.C8 (g:Int->Int->Bool):Oo:=Oo.two (fun _=>Q5 fun i j=>.bl (g i j)) (BO (fun _ _=>true) fun i j=>.bool (g i j)) fun K F H x y u v pr Q hf hx hy hd q=>by
 unfold BO at hf;split at hf
 .rw [Lz rfl] at hf;cases hf;rw [vInt hx,vInt hy];exact ⟨_,_,rfl,rfl,q _ H (ax.rf H) rfl⟩
 .cases hf
def BR:Oo:=Oo.two (fun _=>Q5 fun i j=>.int (i - j)) (BO (fun _ _=>true) fun i j=>.int (i - j)) fun K F H x y u v pr Q hf hx hy hd q=>by
 unfold BO at hf;split at hf
 .rw [Lz rfl] at hf;cases hf;rw [vInt hx,vInt hy];exact ⟨_,_,rfl,rfl,q _ H (ax.rf H) rfl⟩
 .cases hf
theorem j0:Oy X (binaryOp .Sub) (fun x y=>BR.r X.K [x,y]):=CW
noncomputable def mulC (i j:Int):Bool:=(decide (-(2 ^ 64) < i)&&decide (i < 2 ^ 64))||(decide (-(2 ^ 64) < j)&&decide (j < 2 ^ 64))
def wI:Oo:=Oo.ints CH mulC (fun i j h=>by simpa [mulC,CH,Bool.or_eq_true,Mj,Nk] using h) (fun i j=>i*j)
theorem c7:Oy X (binaryOp .Mult) (fun x y=>wI.r X.K [x,y]):=Dp
def qY:Oo:=Oo.ints (fun _ j=>0 < j) (fun _ j=>decide (0 < j)) (fun i j h=>by simpa using h) (fun i j=>i % j)
theorem bI:Oy X (binaryOp .Mod) (fun x y=>qY.r X.K [x,y]):=Dd
def uW:Oo:=Oo.ints (fun _ j=>0 < j/\j.natAbs.log2 < 9000) (fun _ j=>decide (0 < j)&&decide (j < 2 ^ 200)) (fun i j h=>by
 simp only [Mj,Nk] at h;refine ⟨h.1,?_⟩;have hz:j.natAbs≠0:=by lia
 have:j.natAbs < 2 ^ 200:=by lia
 exact LQ ((Nat.log2_lt hz).mpr this) (by decide)) (fun i j=>i / j)
theorem gP:Oy X (binaryOp .FloorDiv) (fun x y=>uW.r X.K [x,y]):=xu
def Gb:Oo:=Oo.ints JV (fun i j=>decide (0<=j)&&decide (j<=1000000)&&decide (i.natAbs < 2 ^ 64)) (fun i j h=>by simp only [Mj,Nk] at h;exact ⟨h.1.1,h.1.2,h.2⟩) (fun i j=>i ^ j.toNat)
theorem mW:Oy X (binaryOp .Pow) (fun x y=>Gb.r X.K [x,y]):=ES
def GD:Oo:=Oo.one (fun _=>rU fun i=>.int (-i)) (fun x=>match x with | .int i=>some (.dat (.int (-i))) | _=>none) fun K F H x u pr Q hf hx hd q=>by
 split at hf
 .cases hf;rw [vInt hx];exact ⟨_,rfl,q _ H (ax.rf H) rfl⟩
 .cases hf
noncomputable def CO (g:Int->Int->Bool) (h:Str->Str->Bool):Qq->Qq->Option PR
 | .int i,.int j=>some (.dat (.bool (g i j)))
 | .str x,.str y=>some (.dat (.bool (h x y)))
 | _,_=>none
noncomputable def Φ (x y:Str):Bool:=decide (x.cps.toList < y.cps.toList)
noncomputable def RB (x y:Str):Bool:=!decide (y.cps.toList < x.cps.toList)
def V1:Oo:=Oo.two (fun _=>TN (Q5 fun i j=>.bl (decide (i < j))) GU) (CO (fun i j=>decide (i < j)) Φ) fun K F H x y u v pr Q hf hx hy hd q=>by
 unfold CO at hf;split at hf
 .cases hf;rw [vInt hx,vInt hy];exact .inl ⟨_,_,rfl,rfl,q _ H (ax.rf H) rfl⟩
 .cases hf;rw [(vStr hx).1,(vStr hy).1];exact .inr ⟨_,_,rfl,rfl,q _ H (ax.rf H) rfl⟩
 .cases hf
theorem oH:Oy X (compareOp .Lt) (fun x y=>V1.r X.K [x,y]):=UU Jt BW
def SV:Oo:=Oo.two (fun _=>TN (Q5 fun i j=>.bl (decide (i<=j))) Kp) (CO (fun i j=>decide (i<=j)) RB) fun K F H x y u v pr Q hf hx hy hd q=>by
 unfold CO at hf;split at hf
 .cases hf;rw [vInt hx,vInt hy];exact .inl ⟨_,_,rfl,rfl,q _ H (ax.rf H) rfl⟩
 .cases hf;rw [(vStr hx).1,(vStr hy).1];exact .inr ⟨_,_,rfl,rfl,q _ H (ax.rf H) rfl⟩
 .cases hf
theorem eZ:Oy X (compareOp .LtE) (fun x y=>SV.r X.K [x,y]):=UU GC CA
def U9:Oo:=Oo.C8 fun i j=>decide (i > j)
theorem mS:Oy X (compareOp .Gt) (fun x y=>U9.r X.K [x,y]):=Gq
def Ψ:Oo:=Oo.C8 fun i j=>decide (i>=j)
theorem EK:Oy X (compareOp .GtE) (fun x y=>Ψ.r X.K [x,y]):=Hs
mutual
noncomputable def O1:Qq->Bool
 | .dict _=>false
 | .list xs=>jB xs
 | .tuple xs=>jB xs
 | _=>true
noncomputable def jB:List Qq->Bool
 | []=>true
 | x :: xs=>O1 x&&jB xs
end
section
variable {K:Fg} {F:Zq} {H:Hp}
mutual
theorem Dm.lay:∀ {d:Qq} {v:V},Dm K F H d v->O1 d=true->d.canLay0=true
 | .none,v,h,_=>by simp [PyData.canLay0]
 | .bool b,v,h,_=>by simp [PyData.canLay0]
 | .int i,v,h,_=>by simp [PyData.canLay0]
 | .str x,v,h,_=>by simpa [PyData.canLay0] using h.2.2
 | .list ds,v,h,n=>by obtain ⟨a,xs,e,l,z,r⟩:=h;simpa [PyData.canLay0] using Ot.lay r (by simpa [O1] using n)
 | .tuple ds,v,h,n=>by obtain ⟨a,xs,e,l,z,r⟩:=h;simpa [PyData.canLay0] using Ot.lay r (by simpa [O1] using n)
 | .dict kvs,v,h,n=>by simp [O1] at n
theorem Ot.lay:∀ {ds:List Qq} {vs:List V},Ot K F H ds vs->jB ds=true->PyData.canLayAll0 ds=true
 | [],vs,h,_=>by simp [PyData.canLayAll0]
 | d :: ds,vs,h,n=>by
  obtain ⟨v,r,e,h1,h2⟩:=h;have n':O1 d=true/\jB ds=true:=by simpa [jB] using n
  simp [PyData.canLayAll0,Dm.lay h1 n'.1,Ot.lay h2 n'.2]
end
theorem Vw.lay (h:Vw K F H d v) (n:O1 d=true):d.canLay0=true:=by
 cases d with
 | list ds=>obtain ⟨a,xs,e,l,z,r⟩:=mT h;simpa [PyData.canLay0] using Ot.lay r (by simpa [O1] using n)
 | dict ds=>simp [O1] at n
 | _=>exact Dm.lay (K:=K) (F:=F) (H:=H) h n
variable {X:Cx} {ti:Qw} {Y:St} {s:Qx}
mutual
theorem Dm.reads (I:Inv X ti Y H s):∀ {d:Qq} {v:V} {u:Qj},Dm X.K F H d v->O1 d=true->RelV v u->∃ as,Reads s.heap u d as
 | .none,v,u,hd,_,r=>by have e:v=.non:=hd;subst e;cases (show u=Value.none from r);exact ⟨_,.none⟩
 | .bool b,v,u,hd,_,r=>by have e:v=.bl b:=hd;subst e;cases (show u=Value.bool b from r);exact ⟨_,.bool b⟩
 | .int i,v,u,hd,_,r=>by have e:v=.int i:=hd;subst e;obtain ⟨t,e⟩:=(show ∃ t,u=Value.int i t from r);subst e;exact ⟨_,.int i t⟩
 | .str y,v,u,hd,_,r=>by have e:v=.str y:=hd.1;subst e;obtain ⟨t,e⟩:=(show ∃ t,u=Value.str y t from r);subst e;exact ⟨_,.str y t⟩
 | .list ds,v,u,hd,n,r=>by obtain ⟨a,xs,e,l,z,rs⟩:=hd;subst e;cases (show u=Value.ref a from r);obtain ⟨its,rv,⟨o,k,h1,h2,h3,h4⟩,_⟩:=I.list (l.elim (fun q=>.inl q.2) .inr);obtain ⟨as,ra⟩:=Ot.reads I rs (by simpa [O1] using n) rv;exact ⟨_,.list h1 h2 h4 (by simpa using ra)⟩
 | .tuple ds,v,u,hd,n,r=>by obtain ⟨a,xs,e,l,z,rs⟩:=hd;subst e;cases (show u=Value.ref a from r);obtain ⟨its,rv,⟨o,h1,h2,k,h4⟩,_⟩:=I.tuple l;obtain ⟨as,ra⟩:=Ot.reads I rs (by simpa [O1] using n) rv;exact ⟨_,.tuple h1 h2 h4 (by simpa using ra)⟩
 | .dict kvs,v,u,hd,n,r=>by simp [O1] at n
theorem Ot.reads (I:Inv X ti Y H s):∀ {ds:List Qq} {vs:List V} {us:List Qj},Ot X.K F H ds vs->jB ds=true->Vals vs us->∃ as,ReadsAll s.heap us ds as
 | [],vs,us,hd,_,r=>by have e:vs=[]:=hd;subst e;cases r;exact ⟨_,.nil⟩
 | d :: ds,vs,us,hd,n,r=>by
  obtain ⟨v,rr,e,h1,h2⟩:=hd;have n':O1 d=true/\jB ds=true:=by simpa [jB] using n
  subst e;cases r with
  | cons r1 r2 =>
   obtain ⟨as,q1⟩:=Dm.reads I h1 n'.1 r1;obtain ⟨bs,q2⟩:=Ot.reads I h2 n'.2 r2;exact ⟨_,.cons q1 q2⟩
end
theorem Vw.reads (I:Inv X ti Y H s) (h:Vw X.K F H d v) (n:O1 d=true) (r:RelV v u):∃ as,Reads s.heap u d as:=by
 cases d with
 | list ds =>
  obtain ⟨a,xs,rfl,l,z,rs⟩:=mT h;cases (show u=Value.ref a from r);obtain ⟨its,rv,⟨o,k,h1,h2,h3,h4⟩,_⟩:=I.list l;obtain ⟨as,ra⟩:=Ot.reads I rs (by simpa [O1] using n) rv;exact ⟨_,.list h1 h2 h4 (by simpa using ra)⟩
 | dict ds=>simp [O1] at n
 | _=>exact Dm.reads (F:=F) I h n r
end
def ij (d:Qq):Bool:=O1 d&&decide (d.depth<=64)
def Lf (neg:Bool) (K:Fg):R2:=fun x y H Q=>∃ F d e,Vw K F H d x/\Vw K F H e y/\ij d=true/\ij e=true/\Q (.bl (if neg then !PyData.eqv d e else PyData.eqv d e)) H
def Ω (neg:Bool) (d e:Qq):Option PR:=if ij d=true/\ij e=true then some (.dat (.bool (if neg then !PyData.eqv d e else PyData.eqv d e))) else none
def IV (neg:Bool):Oo:=Oo.two (Lf neg) (Ω neg) fun K F H x y u v pr Q hf hx hy hd q=>by
 unfold Ω at hf;split at hf
 .rename_i h;cases hf;exact ⟨F,x,y,hx,hy,h.1,h.2,q _ H (ax.rf H) rfl⟩
 .cases hf
abbrev P8:Oo:=IV false
abbrev Tj:Oo:=IV true
theorem fe {K:Fg} {F:Zq} {H:Hp} {d:Qq} {v:V} (h:Vw K F H d v) (o:ij d=true):SeqAt.shaped d=true:=by
 have o':O1 d=true/\d.depth<=64:=by simpa [ij] using o
 simp [SeqAt.shaped,h.lay o'.1,o'.2]
theorem bx {X:Cx} (hu:X.A.units+64 < cLine):Oy X (compareOp .Eq) (fun x y=>P8.r X.K [x,y]):=by intro ti s Y H x y v u Q I rx ry h;obtain ⟨F,d,e,h1,h2,o1,o2,hq⟩:=h;obtain ⟨as,r1⟩:=h1.reads I (by have:=o1;simp [ij] at this;exact this.1) rx;obtain ⟨bs,r2⟩:=h2.reads I (by have:=o2;simp [ij] at this;exact this.1) ry;exact SeqAt.compareEq_shaped r1 r2 (fe h1 o1) (fe h2 o2) hu ⟨.bl _,H,I,rfl,hq⟩
theorem iW {X:Cx} (hu:X.A.units+64 < cLine):Oy X (compareOp .NotEq) (fun x y=>Tj.r X.K [x,y]):=by intro ti s Y H x y v u Q I rx ry h;obtain ⟨F,d,e,h1,h2,o1,o2,hq⟩:=h;obtain ⟨as,r1⟩:=h1.reads I (by have:=o1;simp [ij] at this;exact this.1) rx;obtain ⟨bs,r2⟩:=h2.reads I (by have:=o2;simp [ij] at this;exact this.1) ry;exact SeqAt.compareNe_shaped r1 r2 (fe h1 o1) (fe h2 o2) hu ⟨.bl _,H,I,rfl,hq⟩
noncomputable def t7:Qq->Bool | .none=>true | _=>false
theorem xU {K:Fg} {F:Zq} {H:Hp} {d:Qq} {v:V} (h:Vw K F H d v):decide (v=.non)=t7 d:=by
 cases d with
 | none=>rw [Ab h];rfl
 | bool b=>rw [U8 h];rfl
 | int i=>rw [vInt h];rfl
 | str x=>rw [(vStr h).1];rfl
 | list ds=>obtain ⟨a,xs,rfl,_⟩:=mT h;rfl
 | tuple ds=>obtain ⟨a,xs,rfl,_⟩:=pP h;rfl
 | dict ds=>obtain ⟨a,rfl,_⟩:=h;rfl
def zf:Oo:=Oo.two (fun _=>Dy) (fun x y=>match y with | .none=>some (.dat (.bool (!t7 x))) | _=>none) fun K F H x y u v pr Q hf hx hy hd q=>by
 split at hf
 .cases hf;exact ⟨Ab hy,q _ H (ax.rf H) (by rw [xU hx];rfl)⟩
 .cases hf
theorem tZ:Oy X (compareOp .IsNot) (fun x y=>zf.r X.K [x,y]):=xw
def ixD:Qq->Qq->Option PR
 | .list xs,.int i=>(Po xs i).map .dat
 | .tuple xs,.int i=>(Po xs i).map .dat
 | .str x,.int i=>(Po x.cps.toList i).map fun c=>.dat (.str ⟨#[c]⟩)
 | _,_=>none
theorem yT {K:Fg} {F:Zq} {H:Hp} {ds:List Qq} {xs:List V} {i:Int} {d:Qq} (h:Ot K F H ds xs) (e:Po ds i=some d):∃ v,Po xs i=some v/\Dm K F H d v:=by
 unfold Po at e ⊢;rw [h.len];cases q:TM ds.length i with
 | none=>rw [q] at e;cases e
 | some j =>
  rw [q] at e;have e:ds[j]?=some d:=e;exact h.get e
theorem Bf {W:Type} {xs:List W} {i:Int} {x:W} (e:Po xs i=some x):x∈xs:=by
 unfold Po at e;cases q:TM xs.length i with
 | none=>rw [q] at e;cases e
 | some j=>rw [q] at e;exact LP (show xs[j]?=some x from e)
def OC:Oo:=Oo.two ZT ixD fun K F H x y u v pr Q hf hx hy hd q=>by
 unfold ixD at hf;split at hf
 .obtain ⟨d,e,rfl⟩:=LZ.mp hf;obtain ⟨a,us,rfl,s1,z1,d1⟩:=mT hx;rw [vInt hy];obtain ⟨v,ev,dv⟩:=yT d1 e;exact .inl ⟨a,us,_,v,rfl,rfl,s1,ev,q _ H (ax.rf H) dv⟩
 .obtain ⟨d,e,rfl⟩:=LZ.mp hf;obtain ⟨a,us,rfl,s1,z1,d1⟩:=pP hx;rw [vInt hy];obtain ⟨v,ev,dv⟩:=yT d1 e;exact .inr (.inl ⟨a,us,_,v,rfl,rfl,s1,ev,q _ H (ax.rf H) dv⟩)
 .rename_i x i;obtain ⟨c,e,rfl⟩:=LZ.mp hf;obtain ⟨rfl,l1,o1⟩:=vStr hx;rw [vInt hy];have hc:=e8 o1 c (Bf e);exact .inr (.inr ⟨_,_,c,rfl,rfl,l1,e,q _ H (ax.rf H) ⟨rfl,by show 1<=sizeLine;decide,by simp [PyData.strOk,hc]⟩⟩)
 .cases hf
theorem Ff {X:Cx}:R9 X (fun x y=>OC.r X.K [x,y]):=Ey
def cutD {W:Type} (xs:List W) (lo hi:Option Int):List W:=(xs.drop (HT.Ov xs.length 0 lo)).take (HT.Ov xs.length xs.length hi - HT.Ov xs.length 0 lo)
def W7 (lo hi:Option Int):Qq->Option PR
 | .list xs=>some (.Oj (.list (cutD xs lo hi)))
 | .tuple xs=>if HT.Ov xs.length 0 lo=0/\HT.Ov xs.length xs.length hi=xs.length then none else some (.dat (.tuple (cutD xs lo hi)))
 | .str x=>some (.dat (.str (lB x lo hi)))
 | _=>none
def Jv (K:Fg) (lo hi:Option Int):V->Hp->VK->Prop:=fun x H Q=>Jm JK (Jm (Km K) (JQ K)) x lo hi H Q
section
variable {K:Fg} {F:Zq} {H:Hp}
theorem Ot.drop:∀ {ds:List Qq} {xs:List V} (n:Nat),Ot K F H ds xs->Ot K F H (ds.drop n) (xs.drop n)
 | ds,xs,0,h=>h
 | [],xs,n+1,h=>by rw [show xs=[] from h];rfl
 | d :: ds,xs,n+1,h=>by obtain ⟨v,r,rfl,_,h2⟩:=h;exact Ot.drop n h2
theorem Ot.take:∀ {ds:List Qq} {xs:List V} (n:Nat),Ot K F H ds xs->Ot K F H (ds.take n) (xs.take n)
 | ds,xs,0,h=>by rw [List.take_zero,List.take_zero];rfl
 | [],xs,n+1,h=>by rw [show xs=[] from h];rfl
 | d :: ds,xs,n+1,h=>by obtain ⟨v,r,rfl,h1,h2⟩:=h;exact ⟨v,_,rfl,h1,Ot.take n h2⟩
theorem Ot.cut (lo hi:Option Int) (h:Ot K F H ds xs):Ot K F H (cutD ds lo hi) (vV xs lo hi):=by unfold cutD vV;rw [h.len];exact (h.drop _).take _
theorem pj (xs:List V) (lo hi:Option Int):(vV xs lo hi).length<=xs.length:=by unfold vV;rw [Mi,ME];lia
theorem tw (lo hi:Option Int) (h:PyData.strOk x=true):PyData.strOk (lB x lo hi)=true:=by
 have hm:=e8 h;unfold PyData.strOk lB;rw [NY];intro c hc;have:c∈(x.cps.toList.drop (HT.Ov x.length 0 lo)).take (HT.Ov x.length x.length hi - HT.Ov x.length 0 lo):=by simpa using hc
 have:=hm c (List.mem_of_mem_drop (Nn this));simpa using this
theorem Et {lo hi:Option Int} {x:Qq} {u:V} {pr:PR} {Q:VK} (hf:W7 lo hi x=some pr) (hx:Vw K F H x u) (q:∀ w H',ax H H'->xZ K F H H' pr w->Q w H'):Jv K lo hi u H Q:=by
 unfold W7 at hf;split at hf
 .cases hf;obtain ⟨a,us,rfl,s1,z1,d1⟩:=mT hx;exact .inr (.inl ⟨a,us,rfl,s1,fun p hp=>q _ _ (ax.nw _ hp) (yM hp (LG (pj _ _ _) z1) (d1.cut lo hi))⟩)
 .split at hf
  .cases hf
  rename_i hn;cases hf;obtain ⟨a,us,rfl,s1,z1,d1⟩:=pP hx;exact .inr (.inr ⟨a,us,rfl,s1,by rw [d1.len];exact hn,fun p hp=>q _ _ (ax.nw _ hp) (Iz hp (LG (pj _ _ _) z1) (d1.cut lo hi))⟩)
 .cases hf;obtain ⟨rfl,l1,o1⟩:=vStr hx;exact .inl ⟨_,rfl,l1,q _ H (ax.rf H) ⟨rfl,LG (iG _ _ _) l1,tw lo hi o1⟩⟩
 .cases hf
end
def Gd:Oo:=Oo.two (fun K x y H Q=>∃ i,y=.int i/\Jv K (some i) none x H Q) (fun x y=>match y with | .int i=>W7 (some i) none x | _=>none) fun K F H x y u v pr Q hf hx hy hd q=>by
 split at hf
 .exact ⟨_,vInt hy,Et hf hx q⟩
 .cases hf
def Am:Oo:=Oo.two (fun K x y H Q=>∃ i,y=.int i/\Jv K none (some i) x H Q) (fun x y=>match y with | .int i=>W7 none (some i) x | _=>none) fun K F H x y u v pr Q hf hx hy hd q=>by
 split at hf
 .exact ⟨_,vInt hy,Et hf hx q⟩
 .cases hf
noncomputable def JU:Qq->Option PR
 | .str x=>some (.dat (.int x.length))
 | .list xs=>some (.dat (.int xs.length))
 | .tuple xs=>some (.dat (.int xs.length))
 | _=>none
def i5:Oo:=Oo.one (fun K x=>DF K [x]) JU fun K F H x u pr Q hf hx hd q=>by
 unfold JU at hf;split at hf
 .cases hf;obtain ⟨rfl,l1,o1⟩:=vStr hx;exact EN l1 (q _ H (ax.rf H) rfl)
 .cases hf;obtain ⟨a,us,rfl,s1,z1,d1⟩:=mT hx;exact CN s1 (q _ H (ax.rf H) (by rw [d1.len];rfl))
 .cases hf;obtain ⟨a,us,rfl,s1,z1,d1⟩:=pP hx;exact El s1 (q _ H (ax.rf H) (by rw [d1.len];rfl))
 .cases hf
theorem gz {X:Cx} {f:Qj} {r:List V->Hp->VK->Prop} {r':V->Hp->VK->Prop} (h:aH X f r) (e:∀ x H Q,r' x H Q->r [x] H Q):aH X f (fun vs H Q=>match vs with | [u]=>r' u H Q | _=>False):=by
 intro ti s Y H xs us Q I rv q
 match xs,q with
 | [x],q=>exact h ti s Y H [x] us Q I rv (e x H Q q)
theorem aR:aH X (.builtin "len") (i5.r X.K):=gz rM fun _ _ _ h=>h
def Cr:Oo:=Oo.one (fun _ x=>Im [x]) (fun x=>match x with | .int i=>some (.dat (.int (if i < 0 then -i else i))) | _=>none) fun K F H x u pr Q hf hx hd q=>by
 split at hf
 .cases hf;rw [vInt hx];exact Hx (q _ H (ax.rf H) rfl)
 .cases hf
theorem kZ:aH X (.builtin "abs") (Cr.r X.K):=gz rQ fun _ _ _ h=>h
def HX:Oo:=Oo.one (fun _ x=>AB [x]) (fun x=>match x with | .int i=>some (.dat (.int i)) | .bool k=>some (.dat (.int (if k then 1 else 0))) | _=>none) fun K F H x u pr Q hf hx hd q=>by
 split at hf
 .cases hf;rw [vInt hx];exact .inl ⟨_,rfl,q _ H (ax.rf H) rfl⟩
 .cases hf;rw [U8 hx];exact .inr ⟨_,rfl,q _ H (ax.rf H) rfl⟩
 .cases hf
theorem z5:aH X (.type "int") (HX.r X.K):=gz uJ fun _ _ _ h=>h
def BH (T:String) (x:Qq):Option PR:=match T with
 | "str" => some (.dat (.bool (UW x)))
 | "int" => some (.dat (.bool (ζ x)))
 | "bool" => some (.dat (.bool (η x)))
 | "tuple" => some (.dat (.bool (TQ x)))
 | "list" => some (.dat (.bool (SM x)))
 | _=>none
def HQ (T:String) (K:Fg):V->Hp->VK->Prop:=fun x H Q=>∃ F d b,Vw K F H d x/\BH T d=some (.dat (.bool b))/\Q (.bl b) H
theorem Jo (h:BH T d=some pr):∃ b,pr=.dat (.bool b):=by unfold BH at h;split at h <;> first | (cases h;exact ⟨_,rfl⟩) | cases h
def jD (T:String):Oo:=Oo.one (HQ T) (BH T) fun K F H x u pr Q hf hx hd q=>by obtain ⟨b,rfl⟩:=Jo hf;exact ⟨F,x,b,hx,hf,q _ H (ax.rf H) rfl⟩
theorem Bx {K:Fg} {T:String} {d:Qq} {b:Bool} (h:BH T d=some (.dat (.bool b))):PySem.W.kitOne K (.type (Ur d)) (.type T)=some b:=by
 unfold BH at h;split at h
 .cases h;exact HF d
 .cases h;exact HR d
 .cases h;exact IW d
 .cases h;exact Dg d
 .cases h;exact C5 d
 .cases h
def KA (K:Fg):List V->Hp->VK->Prop:=fun vs H Q=>match vs with | [x,.ty T]=>(jD T).r K [x] H Q | _=>False
theorem AF {X:Cx}:aH X (.builtin "isinstance") (KA X.K):=by
 intro ti s Y H xs us Q I r h
 match xs,h with
 | [x,.ty T'],h =>
  obtain ⟨F,d,b,hv,hb,q⟩:=h;obtain ⟨u,w',rfl,r1,r2⟩:=vals2 r;cases (show w'=Value.type T' from r2);have e:=Bx (K:=X.K) hb;have fin:∀ tk,EP X ti Y Q (.bool b) { s with toks:=tk }:=fun tk=>⟨.bl b,H,I.tok _,rfl,q⟩;cases d with
  | none=>rw [Ab hv] at r1;cases (show u=Value.none from r1);exact Nc PySem.W.kitx_none I.OL True.intro e (fun z=>nomatch z) fin
  | bool y=>rw [U8 hv] at r1;cases (show u=Value.bool y from r1);exact Nc PySem.W.kitx_bool I.OL True.intro e (fun z=>nomatch z) fin
  | int i=>rw [vInt hv] at r1;obtain ⟨t,q⟩:=(show ∃ t,u=Value.int i t from r1);cases q;exact Nc PySem.W.kitx_int I.OL True.intro e (fun z=>nomatch z) fin
  | str y=>rw [(vStr hv).1] at r1;obtain ⟨t,q⟩:=(show ∃ t,u=Value.str y t from r1);cases q;exact Nc PySem.W.kitx_str I.OL True.intro e (fun z=>nomatch z) fin
  | list ds =>
   obtain ⟨a,xs,rfl,l,z,rs⟩:=mT hv;cases (show u=Value.ref a from r1);obtain ⟨its,rv,⟨o,k,h1,h2,h3,h4⟩,_⟩:=I.list l;exact Nc PySem.W.kitx_list I.OL ⟨o,h1,h2⟩ e (fun z=>nomatch z) fin
  | tuple ds =>
   obtain ⟨a,xs,rfl,l,z,rs⟩:=pP hv;cases (show u=Value.ref a from r1);obtain ⟨its,rv,⟨o,h1,h2,k,h4⟩,_⟩:=I.tuple l;exact Nc PySem.W.kitx_tuple I.OL ⟨o,h1,h2⟩ e (fun z=>nomatch z) fin
  | dict ds =>
   obtain ⟨a,rfl,ep,xs,ea,_⟩:=hv;cases (show u=Value.ref a from r1);obtain ⟨_,_,_,o,es,h1,h2,_⟩:=(show aI X.prog X.w H s.heap a (.dD ep xs) from I.IT a _ ea);exact Nc PySem.W.kitx_dict I.OL ⟨o,h1,h2.1⟩ e (fun z=>nomatch z) fin
noncomputable def chars (x:Str):List Qq:=x.cps.toList.map fun c=>.str ⟨#[c]⟩
noncomputable def eV (x:Str):List V:=x.cps.toList.map fun c=>.str ⟨#[c]⟩
def B6 (K:Fg):V->Hp->VK->Prop:=fun x H Q=>ER K [x] H Q\/∃ z,x=.str z/\z.length<=sizeLine/\∀ p,H p=none->Q (.ref p) (upd H p (.lst (eV z)))
def DD:Qq->Option PR
 | .list xs=>some (.Oj (.list xs))
 | .tuple xs=>some (.Oj (.list xs))
 | .str x=>some (.Oj (.list (chars x)))
 | _=>none
def CB:Oo:=Oo.one B6 DD fun K F H x u pr Q hf hx hd q=>by
 unfold DD at hf;split at hf
 .cases hf;obtain ⟨a,us,rfl,s1,z1,d1⟩:=mT hx;exact .inl ⟨a,us,rfl,.inl s1,fun p hp=>q _ _ (ax.nw _ hp) (yM hp z1 d1)⟩
 .cases hf;obtain ⟨a,us,rfl,s1,z1,d1⟩:=pP hx;exact .inl ⟨a,us,rfl,.inr s1,fun p hp=>q _ _ (ax.nw _ hp) (yM hp z1 d1)⟩
 .cases hf;obtain ⟨rfl,l1,o1⟩:=vStr hx;refine .inr ⟨_,rfl,l1,fun p hp=>q _ _ (ax.nw _ hp) (yM hp ?_ (zY (e8 o1)))⟩;rw [show (eV _).length=_ from Lo _];simpa [Str.length] using l1
 .cases hf
theorem pR:∀ {xs:List V} {us:List Qj},xs.length=us.length->(∀ (i:Nat) (x:V) (u:Qj),xs[i]?=some x->us[i]?=some u->RelV x u)->Vals xs us
 | [],[],_,_=>.nil
 | [],_ :: _,h,_=>by cases h
 | _ :: _,[],h,_=>by cases h
 | x :: xs,u :: us,h,q=>.cons (q 0 x u rfl rfl) (pR (by simpa using h) fun i y w h1 h2=>q (i+1) y w (by simpa using h1) (by simpa using h2))
theorem qr (h:ItemsOf (SignAt z) acc z.cps.size):Vals (eV z) acc.toList:=by
 refine pR ?_ fun i x u h1 h2=>?_
 .rw [show (eV z).length=_ from Lo _];simp [h.1]
 .obtain ⟨c,t,hc,rfl⟩:=h.2 i u (by simpa using h2);unfold eV at h1;rw [LO] at h1;have:z.cps.toList[i]?=some c:=by rw [<- hc];simp
  rw [this] at h1;cases h1;exact ⟨t,rfl⟩
theorem l4 (hc:X.calm=true):aH X (.type "list") (fun xs H Q=>∃ z,xs=[.str z]/\z.length<=sizeLine/\∀ p,H p=none->Q (.ref p) (upd H p (.lst (eV z)))):=by
 intro ti s Y H xs us Q I r h;obtain ⟨z,rfl,hl,q⟩:=h;obtain ⟨u,rfl,r1⟩:=vals1 r;obtain ⟨t,rfl⟩:=r1;have hz:(eV z).length<=sizeLine:=by rw [show (eV z).length=_ from Lo _];simpa [Str.length] using hl
 refine call_list_str (I.ok.hd hc) z t (fun h' tk OI c' hk hS OV=>?_) hl;refine ⟨.ref s.heap.objs.size,_,I.laid (t':=tk) hk (LA _) (show aI X.prog X.w _ h' _ (.lst (eV z)) from ⟨hz,OI.toList,c',?_,by rw [Array.toArray_toList];exact hS⟩),rfl,q _ (I.IT.fresh (LA _))⟩;exact qr OV
theorem yk (h:aH X f r) (h':aH X f r'):aH X f (fun xs H Q=>r xs H Q\/r' xs H Q):=by
 intro ti s Y H xs us Q I rv q;rcases q with q | q
 .exact h ti s Y H xs us Q I rv q
 .exact h' ti s Y H xs us Q I rv q
theorem xX (hc:X.calm=true):aH X (.type "list") (CB.r X.K):=gz (yk qK (l4 hc)) fun x H Q h=>h.imp id fun ⟨z,e,r⟩=>⟨z,by rw [e],r⟩
noncomputable def zy:Qq->Option PR
 | .list xs=>some (.dat (.tuple xs))
 | .tuple xs=>some (.dat (.tuple xs))
 | _=>none
def yt:Oo:=Oo.one (fun K x=>za K [x]) zy fun K F H x u pr Q hf hx hd q=>by
 unfold zy at hf;split at hf
 .cases hf;obtain ⟨a,us,rfl,s1,z1,d1⟩:=mT hx;exact ⟨a,us,rfl,.inl ⟨s1,fun p hp=>q _ _ (ax.nw _ hp) (Iz hp z1 d1)⟩⟩
 .cases hf;obtain ⟨a,us,rfl,s1,z1,d1⟩:=pP hx;exact ⟨a,us,rfl,.inr ⟨s1,q _ H (ax.rf H) ⟨a,us,rfl,s1,z1,d1⟩⟩⟩
 .cases hf
theorem rB:aH X (.type "tuple") (yt.r X.K):=gz oa fun _ _ _ h=>h
noncomputable def bF (i:Int):Str:=Str.ofString (toString i)
theorem qJ (hk:0 < k) (h:i.natAbs < 10 ^ k):(bF i).length<=k+1:=by unfold bF;rw [PySem.ofString_length];exact int_text_length_le10 hk h
theorem dR (s:String):PyData.strOk (Str.ofString s)=true:=by
 rw [Str.ofString_eq_toList];unfold PyData.strOk;rw [NY];intro c hc;have:c∈s.toList.map Char.toNat:=by simpa using hc
 obtain ⟨ch,_,rfl⟩:=Mh.mp this;have:=ch.valid;simp only [Nk];rcases this with h | ⟨_,h⟩
 .show ch.val.toNat < _;have:ch.val.toNat < 0xD800:=h;lia
 .exact h
def J0:Qq->Option PR
 | .int i=>if i.natAbs < 10 ^ 400 then some (.dat (.str (bF i))) else none
 | .str x=>some (.dat (.str x))
 | .none=>some (.dat (.str "None"))
 | _=>none
def FZ:Oo:=Oo.one (fun _ x=>E4 [x]) J0 fun K F H x u pr Q hf hx hd q=>by
 unfold J0 at hf;split at hf
 .split at hf
  .rename_i i hi;cases hf;rw [vInt hx];have YD:i.natAbs.log2 < 1920:=by
    by_cases e:i.natAbs=0
    .rw [e];decide
    .exact LQ ((Nat.log2_lt e).mpr (Nat.lt_trans hi (by decide +kernel:(10:Nat) ^ 400 < 2 ^ 1900))) (by decide)
   exact .inl ⟨i,rfl,YD,q _ H (ax.rf H) ⟨rfl,LG (qJ (k:=400) (by decide) hi) (by decide),dR _⟩⟩
  .cases hf
 .cases hf;obtain ⟨rfl,l1,o1⟩:=vStr hx;exact .inr (.inr ⟨_,rfl,q _ H (ax.rf H) ⟨rfl,l1,o1⟩⟩)
 .cases hf;rw [Ab hx];exact .inr (.inl ⟨rfl,q _ H (ax.rf H) ⟨rfl,by decide,dR _⟩⟩)
 .cases hf
theorem sd:aH X (.type "str") (FZ.r X.K):=gz ri fun _ _ _ h=>h
noncomputable def g8:List Qq->Option (List Bool)
 | []=>some []
 | .bool b :: r=>match g8 r with | some bs=>some (b :: bs) | none=>none
 | _ :: _=>none
theorem sJ {K:Fg} {F:Zq} {H:Hp}:∀ {ds:List Qq} {xs:List V} {bs:List Bool},g8 ds=some bs->Ot K F H ds xs->xs=bs.map V.bl
 | [],xs,bs,h,q=>by cases h;exact q
 | .bool b :: r,xs,bs,h,q=>by
  unfold g8 at h;split at h
  .rename_i W8 h';cases h;obtain ⟨v,vr,rfl,h1,h2⟩:=q;rw [sJ h' h2,show v=.bl b from h1];rfl
  .cases h
 | .none :: r,xs,bs,h,q=>by cases h
 | .int _ :: r,xs,bs,h,q=>by cases h
 | .str _ :: r,xs,bs,h,q=>by cases h
 | .list _ :: r,xs,bs,h,q=>by cases h
 | .tuple _ :: r,xs,bs,h,q=>by cases h
 | .dict _ :: r,xs,bs,h,q=>by cases h
def BN:Oo:=Oo.one (fun K x=>J2 K [x]) (fun x=>match x with | .list ds=>(g8 ds).map fun bs=>.dat (.bool (bs.all id)) | _=>none) fun K F H x u pr Q hf hx hd q=>by
 split at hf
 .obtain ⟨bs,e,rfl⟩:=LZ.mp hf;obtain ⟨a,us,rfl,s1,z1,d1⟩:=mT hx;rw [sJ e d1] at s1;exact ⟨a,bs,rfl,s1,q _ H (ax.rf H) rfl⟩
 .cases hf
theorem ko (hc:X.calm=true):aH X (.builtin "all") (BN.r X.K):=gz (rJ hc) fun _ _ _ h=>h
theorem yz {K:Fg} {F:Zq} {H:Hp} {k:Qq}:∀ {ds:List (Qq×Qq)} {xs:List (Qq×V×V)},ON K F H ds xs->(∀ d,getD ds k=some d->∃ v,yy xs k=some v/\Dm K F H d v)/\(getD ds k=none->yy xs k=none)
 | [],xs,h=>by rw [show xs=[] from h];exact ⟨fun d e=>(nomatch e),fun _=>rfl⟩
 | (k',d') :: ds,xs,h=>by
  obtain ⟨j,v,r,rfl,e,_,h1,h2⟩:=h;have ih:=yz (k:=k) h2;unfold getD yy at ih ⊢;rw [List.find?_cons,List.find?_cons];cases PyData.eqv k' k with
  | true=>exact ⟨fun d e=>(by cases e;exact ⟨v,rfl,h1⟩),fun e=>(nomatch e)⟩
  | false=>exact ih
mutual
theorem jO:(d:Qq)->RS d=true->O1 d=true
 | .int _,_=>rfl
 | .str _,_=>rfl
 | .tuple ds,h=>by rw [O1];exact sW ds h
 | .none,h=>by cases h
 | .bool _,h=>by cases h
 | .list _,h=>by cases h
 | .dict _,h=>by cases h
theorem sW:(ds:List Qq)->vY ds=true->jB ds=true
 | [],_=>rfl
 | d :: ds,h=>by simp only [vY,Mj] at h;rw [jB,jO d h.1,sW ds h.2];rfl
end
theorem iy:QY d=true↔RS d=true/\d.depth<=6:=by simp [QY]
theorem wd {K:Fg} {F:Zq} {H:Hp} {d:Qq} {v:V} (h:Vw K F H d v) (hk:QY d=true):PY d=true:=by rw [iy] at hk;exact aA.mpr ⟨hk.1,h.lay (jO d hk.1),hk.2⟩
theorem x9 (I:Inv X ti Y H s):∀ {ds:List (Qq×Qq)} {xs:List (Qq×V×V)},ON X.K F H ds xs->i8 s.heap xs
 | [],xs,h=>by rw [show xs=[] from h];intro x hx;cases hx
 | (k,d) :: ds,xs,h=>by
  obtain ⟨j,v,r,rfl,hk,h0,_,h2⟩:=h;intro x hx;rcases LJ.mp hx with rfl | hx
  .exact ⟨wd h0.vw hk,fun u ru=>h0.reads I (jO _ (iy.mp hk).1) ru⟩
  .exact x9 I h2 x hx
def JN (K:Fg) (H:Hp) (x y:V) (k:Qq) (a:Qz) (ep:Nat) (xs:List (Qq×V×V)):Prop:=∃ (F:Zq) (kvs:List (Qq×Qq)),x=.ref a/\H a=some (.dD ep xs)/\ON K F H kvs xs/\Vw K F H k y/\QY k=true
def Ei:Qq->Qq->Option PR
 | .dict kvs,k=>if QY k=true then (getD kvs k).map .dat else none
 | _,_=>none
def De (K:Fg):R2:=fun x y H Q=>∃ k a ep xs v,JN K H x y k a ep xs/\yy xs k=some v/\Q v H
def kE:Oo:=Oo.two De Ei fun K F H x y u v pr Q hf hx hy hd q=>by
 unfold Ei at hf;split at hf
 .split at hf
  .rename_i kvs _ hk;obtain ⟨d,e,rfl⟩:=LZ.mp hf;obtain ⟨a,rfl,ep,xs,ea,_,r⟩:=hx;obtain ⟨w,ew,dw⟩:=(yz r).1 d e;exact ⟨_,a,ep,xs,w,⟨F,_,rfl,ea,r,hy,hk⟩,ew,q _ H (ax.rf H) dw⟩
  .cases hf
 .cases hf
section
variable {X:Cx} {a b o i e value:Expr} {pos pos':Pos} {ta tb td ty tv:TE}
theorem lu (hu:X.A.units+64 < cLine) (ho:JE X a ta) (hi:JE X b tb) (hs:J1 b):JE X (.Subscript a b pos) (RZ (fun x y=>kE.r X.K [x,y]) ta tb):=⟨by
 intro ti s Y H Q I h;refine AG PySem.F.slot_dict_getitem.lookup hs (Oq (ho.h ti s Y H _ I h) fun u s1 ⟨x,H1,I1,rx,q1⟩=>Oq (hi.h ti s1 Y H1 _ I1 q1) fun iv s2 ⟨y,H2,I2,ry,k,p,ep,xs,v,⟨F,kvs,ex,ea,r,hk,Qu⟩,gv,q2⟩=>?_);subst ex;obtain rfl:u=Value.ref p:=rx;obtain ⟨as,rk⟩:=hk.reads I2 (jO _ (iy.mp Qu).1) ry
 exact ⟨(kW I2 ea).1,DY (by lia) I2 ea (x9 I2 r) rk (wd hk Qu) gv fun t w' Vy=>⟨v,H2,I2.tok t,Vy,q2⟩⟩⟩
theorem xx:JE X (.Dict [] [] pos) y8:=⟨wt⟩
theorem Cm (h:JP X pos keys values RP) (Pg:keys.all (·.isSome)=true) (hl:keys.length=values.length) (h0:keys≠[]) (VM:keys.length<=15):JE X (.Dict keys values pos) (sy RP):=⟨ym h.h Pg hl h0 VM⟩
end
theorem yo {K:Fg} {F:Zq} {H:Hp}:∀ {ds:List (Qq×Qq)} {xs:List (Qq×V×V)},ON K F H ds xs->xs.length=ds.length
 | [],xs,h=>by rw [show xs=[] from h];rfl
 | (k,d) :: ds,xs,h=>by obtain ⟨j,v,r,rfl,_,_,_,h2⟩:=h;rw [LN,LN,yo h2]
theorem HM {K:Fg} {F:Zq} {H:Hp} {d:Qq} {v:V} (h:Vw K F H d v) (hk:QY d=true):Dm K F H d v:=by
 cases d with
 | list ds=>cases hk
 | dict ds=>cases hk
 | _=>exact h
def kB:F4 where
 r:=fun K o y x H Q=>∃ k a ep xs,JN K H o y k a ep xs/\xs.length < sizeLine/\∀ Qm,Q (upd H a (.dD Qm (mZ xs k y x)))
 f:=fun d k x=>match d with
  | .dict kvs=>if QY k=true/\kvs.length < sizeLine then some (.dict (putD kvs k x)) else none
  | _=>none
 ok:=fun K F H d a k x vk vx d' Q hf ha ht hk hx q=>by
  split at hf
  .split at hf
   .rename_i kvs h;cases hf;obtain ⟨ep,xs,ea,z,r⟩:=ht;have hlen:xs.length < sizeLine:=by rw [yo r];exact h.2
    refine ⟨k,a,ep,xs,⟨F,kvs,rfl,ea,r,hk,h.1⟩,hlen,fun Qm=>q _ (fun b o n e=>by rw [aj n];exact e) ?_⟩;have p:Pr F H (upd H a (.dD Qm (mZ xs k vk vx))):=fun b o e n=>by
     by_cases y:b=a
     .subst y;rcases n with n | n
      .exact absurd ha n
      .rw [ea] at e;cases e;cases n
     .rw [aj y];exact e
    exact ⟨_,_,ak,by have:=pY (xs:=xs) (k:=k) (j:=vk) (v:=vx);lia,(yQ r h.1 (HM hk h.1) hx).pr p fun _ z=>z⟩
   .cases hf
  .cases hf
def Al (K:Fg) (td ty tv:TE):TS:=fun D Y H=>tv Y H fun v H1=>td Y H1 fun x H2=>ty Y H2 fun y H3=>kB.r K x y v H3 (D.nx Y)
theorem uQ {X:Cx} {o i value:Expr} {pos pos':Pos} {td ty tv:TE} (hu:X.A.units+64 < cLine) (ho:JE X o td) (hi:JE X i ty) (hv:JE X value tv) (hs:swapsWith value (some (.Subscript o i pos')) pos.line X.env=pure false) :
  JS X (.Assign [.Subscript o i pos'] value pos) (Al X.K td ty tv):=⟨by
 intro ti s Y H D I h;refine wpAny_Assign_Subscript (Oq (hv.h ti s Y H _ I h) fun r s1 ⟨v,H1,I1,rv,q1⟩=>Oq (ho.h ti s1 Y H1 _ I1 q1) fun u s2 ⟨x,H2,I2,rx,q2⟩=>Oq (hi.h ti s2 Y H2 _ I2 q2) fun iv s3 ⟨y,H3,I3,ry,k,p,ep,xs,⟨F,kvs,ex,ea,r,hk,Qu⟩,hl,q3⟩=>?_) hs;subst ex;obtain rfl:u=Value.ref p:=rx;obtain ⟨as,rk⟩:=hk.reads I3 (jO _ (iy.mp Qu).1) ry
 exact FU (by lia) I3 ea (x9 I3 r) rk (wd hk Qu) ry rv hl fun Qm s4 I4=>⟨Y,_,I4,q3 Qm⟩⟩
theorem D0 (ha:F a) (e:H a=some o') (w:Wr o'=true):Pr F H (upd H a o):=fun b u q n=>by
 by_cases y:b=a
 .subst y;rcases n with n | n
  .exact absurd ha n
  .rw [e] at q;cases q;rw [n] at w;cases w
 .rw [aj y];exact q
theorem D8 {K:Fg} {F:Zq} {H:Hp} {d:Qq} {a:Qz} (h:SM d=true) (t:Top K F H d a):UT K "list" (.ref a) H:=by
 cases d with
 | list ds=>obtain ⟨xs,e,_⟩:=t;exact .inl ⟨rfl,xs,.inl (.inl e)⟩
 | _=>cases h
def HP:Ys where
 T := "list"
 r:=fun _=>uv
 ty:=SM
 f:=fun d as=>match d,as with
  | .list xs,[(true,x)]=>if xs.length < sizeLine then some (.list (xs++[x]),.none) else none
  | _,_=>none
 zV:=fun K F H d a h t=>D8 h t
 ok:=fun K F H d a as vs d' x Q hf ha ht hv q=>by
  split at hf
  .split at hf
   .rename_i hl;cases hf;obtain ⟨v,r,rfl,hv,rfl⟩:=hv;obtain ⟨xs,ea,z,rx⟩:=ht;refine ⟨a,xs,v,rfl,rfl,ea,by rw [rx.len];exact hl,q _ _ (fun b o n e=>by rw [aj n];exact e) ⟨_,ak,by rw [Ln,rx.len];simp;lia,(rx.snoc hv).pr (D0 ha ea rfl) fun _ z=>z⟩ rfl⟩
   .cases hf
  .cases hf
theorem Ot.rev {K:Fg} {F:Zq} {H:Hp}:∀ {ds:List Qq} {xs:List V},Ot K F H ds xs->Ot K F H ds.reverse xs.reverse
 | [],xs,h=>by rw [show xs=[] from h];rfl
 | d :: ds,xs,h=>by obtain ⟨v,r,rfl,h1,h2⟩:=h;rw [List.reverse_cons,List.reverse_cons];exact (Ot.rev h2).snoc h1
noncomputable def strsOf:List Qq->Option (List Str)
 | []=>some []
 | .str x :: r=>match strsOf r with | some xs=>some (x :: xs) | none=>none
 | _ :: _=>none
theorem vD {K:Fg} {F:Zq} {H:Hp}:∀ {ds:List Qq} {xs:List V} {ss:List Str},strsOf ds=some ss->Ot K F H ds xs->xs=ss.map V.str/\∀ s∈ss,PyData.strOk s=true
 | [],xs,bs,h,q=>by cases h;exact ⟨q,fun s z=>by cases z⟩
 | .str b :: r,xs,bs,h,q=>by
  unfold strsOf at h;split at h
  .rename_i W8 h';cases h;obtain ⟨v,vr,rfl,h1,h2⟩:=q;obtain ⟨i1,i2⟩:=vD h' h2;refine ⟨by rw [i1,show v=.str b from h1.1];rfl,fun s z=>?_⟩;rcases LJ.mp z with rfl | z
   .exact h1.2.2
   .exact i2 s z
  .cases h
 | .none :: r,xs,bs,h,q=>by cases h
 | .int _ :: r,xs,bs,h,q=>by cases h
 | .bool _ :: r,xs,bs,h,q=>by cases h
 | .list _ :: r,xs,bs,h,q=>by cases h
 | .tuple _ :: r,xs,bs,h,q=>by cases h
 | .dict _ :: r,xs,bs,h,q=>by cases h
theorem mx (g:Array Nat):∀ (ps:List Str) (acc:Array Nat),(ps.foldl (fun acc p=>acc++g++p.cps) acc).size=acc.size+(ps.map fun p=>p.length).sum+ps.length*g.size
 | [],acc=>by simp
 | p :: ps,acc=>by rw [List.foldl_cons,mx g ps];simp only [List.map_cons,List.sum_cons,LN,Array.size_append,Nat.succ_mul];show acc.size+g.size+p.cps.size+_+_=acc.size+(p.cps.size+_)+_;lia
theorem gU (z:Str) (ss:List Str):(Txt.join z ss).length<=(ss.map (·.length)).sum+ss.length*z.length:=by
 cases ss with
 | nil =>
  have:(Txt.join z []).length=0:=rfl;rw [this];exact Mk _
 | cons x r =>
  show ((r.foldl (fun acc p=>acc++z.cps++p.cps) x.cps)).size<=_;rw [mx];simp only [List.map_cons,List.sum_cons,LN,Nat.succ_mul];show x.cps.size+_+r.length*z.cps.size<=x.cps.size+_+(r.length*z.cps.size+z.cps.size);lia
theorem oK (hg:g.all (· < 0x110000)=true):∀ (ps:List Str) (acc:Array Nat),(∀ p∈ps,PyData.strOk p=true)->acc.all (· < 0x110000)=true->(ps.foldl (fun acc p=>acc++g++p.cps) acc).all (· < 0x110000)=true
 | [],acc,_,h=>h
 | p :: ps,acc,hp,h=>by rw [List.foldl_cons];refine oK hg ps _ (fun q hq=>hp q (Ly _ hq)) ?_;rw [Array.all_append,Array.all_append,h,hg,show p.cps.all (· < 0x110000)=true from hp p Lq];rfl
theorem vT (hz:PyData.strOk z=true) (hs:∀ s∈ss,PyData.strOk s=true):PyData.strOk (Txt.join z ss)=true:=by
 cases ss with
 | nil=>exact dR ""
 | cons x r=>exact oK hz r _ (fun q hq=>hs q (Ly _ hq)) (hs x Lq)
noncomputable def iu (z:Str) (ss:List Str):Bool:=decide ((ss.map (·.length)).sum+ss.length*z.length<=16777216)
def Eh:Qq->List Qq->Option PR
 | .str z,[.list ds]=>match strsOf ds with | some ss=>if iu z ss=true then some (.dat (.str (Txt.join z ss))) else none | none=>none
 | .str z,[.tuple ds]=>match strsOf ds with | some ss=>if iu z ss=true then some (.dat (.str (Txt.join z ss))) else none | none=>none
 | _,_=>none
theorem ty_str {K:Fg} {F:Zq} {H:Hp} {d:Qq} {v:V} (h:UW d=true) (t:Vw K F H d v):UT K "str" v H:=by
 cases d with
 | str x=>rw [(vStr t).1];rfl
 | _=>cases h
def joinM:U0 where
 T := "str"
 r:=yF
 ty:=UW
 f:=Eh
 zV:=fun K F H d v h t=>ty_str h t
 ok:=fun K F H d v ds vs pr Q hf hx hv hd q=>by
  unfold Eh at hf;split at hf
  .rename_i z ds;split at hf
   .rename_i ss YE;split at hf
    .rename_i IT;cases hf;obtain ⟨rfl,l1,o1⟩:=vStr hx;obtain ⟨w,r,rfl,hw,rfl⟩:=hv;obtain ⟨a,us,rfl,s1,z1,d1⟩:=mT hw;obtain ⟨e,os⟩:=vD YE d1;rw [e] at s1;have QW:(ss.map (·.length)).sum+ss.length*z.length<=16777216:=by simpa [iu] using IT
     exact ⟨z,a,ss,rfl,rfl,.inl s1,QW,q _ H (ax.rf H) ⟨rfl,LG (gU z ss) QW,vT o1 os⟩⟩
    .cases hf
   .cases hf
  .rename_i z ds;split at hf
   .rename_i ss YE;split at hf
    .rename_i IT;cases hf;obtain ⟨rfl,l1,o1⟩:=vStr hx;obtain ⟨w,r,rfl,hw,rfl⟩:=hv;obtain ⟨a,us,rfl,s1,z1,d1⟩:=pP hw;obtain ⟨e,os⟩:=vD YE d1;rw [e] at s1;have QW:(ss.map (·.length)).sum+ss.length*z.length<=16777216:=by simpa [iu] using IT
     exact ⟨z,a,ss,rfl,rfl,.inr s1,QW,q _ H (ax.rf H) ⟨rfl,LG (gU z ss) QW,vT o1 os⟩⟩
    .cases hf
   .cases hf
  .cases hf
theorem y7 {K:Fg} {F:Zq} {H:Hp}:∀ {ns:List Int},Ot K F H (ns.map .int) (ns.map .int)
 | []=>rfl
 | n :: ns=>⟨_,_,rfl,rfl,y7⟩
theorem Ds {f:Fn} {K:Fg} {H:Hp} {a:Qz} {ns:List Int} (hm:f.ms=[.dat]) (hl:ns.length<=63) (hS:OO K H a (ns.map V.int)) (hF:f.F [.list (ns.map .int)]=some (.dat (.bool true),[])):gT f K [.ref a] H (fun v _=>v=.bl true) fun _ _ _=>False:=by
 refine ⟨fun _=>False,[.list (ns.map .int)],[],.dat (.bool true),[],hF,?_,fun _ h=>absurd h id,fun v' H' _ r=>r.1⟩;rw [hm];refine ⟨⟨a,ns.map .int,rfl,?_,?_,y7⟩,rfl⟩
 .rcases hS with hS | hS
  .exact .inl ⟨id,hS⟩
  .exact .inr hS
 .rw [Lo];exact LG hl (by decide)
section
variable {X:Cx} {pos:Pos} {s:Stmt}
theorem yV:JS X s yp:=⟨fun _ _ _ _ _ _ h=>absurd h id⟩
end
end L2
namespace L2
open PySem
structure Kn where
 nx:En->Prop
 rt:RV->En->Prop
 bk:En->Prop
 ct:En->Prop
def Kn.at (E:Kn):Out->Prop | .nx e=>E.nx e | .rt r e=>E.rt r e | .bk e=>E.bk e | .ct e=>E.ct e
def WS (gd:List Qq) (s:XS) (env:En) (E:Kn):Prop:=∃ o,dS gd s env=some o/\E.at o
def WE (gd:List Qq) (e:XE) (env:En) (Q:RV->En->Prop):Prop:=∃ r e',dE gd e env=some (r,e')/\Q r e'
def WA (gd:List Qq) (e:XA) (env:En) (Q:List AV->En->Prop):Prop:=∃ r e',dA gd e env=some (r,e')/\Q r e'
def WT (gd:List Qq) (e:XT) (env:En) (Q:Bool->En->Prop):Prop:=∃ r e',dT gd e env=some (r,e')/\Q r e'
def WI (gd:List Qq) (e:XI) (env:En) (Q:List Qq->Option Nat->En->Prop):Prop:=∃ ds lk e',dI gd e env=some (ds,lk,e')/\Q ds lk e'
def WF (f:Fn) (ds:List Qq) (Q:PR->List Qq->Prop):Prop:=∃ pr outs,f.F ds=some (pr,outs)/\Q pr outs
def QJ (p:Oo) (Ou:List AV) (e:En) (Q:RV->En->Prop):Prop:=∃ ds pr,aW e Ou=some ds/\p.f ds=some pr/\Q pr.rv e
def DW (i:Nat) (r:RV) (e:En) (N:En->Prop):Prop:=∃ d,r.av=.dat d/\free e i=true/\N (e.set i (.dat d))
def uZ (i:Nat) (r:RV) (e:En) (N:En->Prop):Prop:=∃ d,r=.Oj d/\free e i=true/\N (e.set i (.own d))
def HB (b:Qq->En->Option Out) (ds:List Qq) (lk:Option Nat) (e1:En) (E:Kn):Prop:=∃ o,lk=none/\forL b ds e1=some o/\E.at o
def yd (f:Fn) (Ou:List AV) (e:En) (Q:RV->En->Prop):Prop:=∃ rv e',xJ f Ou e=some (rv,e')/\Q rv e'
def F9 (ms:List PM) (QF:PR->List Qq->Prop) (r:RV) (e:En):Prop:=∃ pr outs,r.pr=some pr/\iU ms e=some outs/\QF pr outs
def EJ (ms:List PM) (QF:PR->List Qq->Prop) (e:En):Prop:=∃ outs,iU ms e=some outs/\QF (.dat .none) outs
def IC (m:F4) (i:Nat) (v:Qq) (rk:RV) (e2:En) (N:En->Prop):Prop:=∃ dk d d',rk.view e2=some dk/\aP e2 i=some d/\m.f d dk v=some d'/\N (gO e2 i d')
def Kl (gd:List Qq) (m:F4) (i:Nat) (a:XE) (r:RV) (e:En) (N:En->Prop):Prop:=∃ v,r.av=.dat v/\(aP e i).isSome=true/\WE gd a e fun rk e2=>IC m i v rk e2 N
def Dj (m:U0) (r:RV) (Ou:List AV) (e2:En) (Q:RV->En->Prop):Prop:=∃ d ds pr,r.view e2=some d/\aW e2 Ou=some ds/\m.f d ds=some pr/\Q pr.rv e2
def JM (gd:List Qq) (m:U0) (as:XA) (r:RV) (e:En) (Q:RV->En->Prop):Prop:=∃ d0,r.view e=some d0/\m.ty d0=true/\WA gd as e fun Ou e2=>Dj m r Ou e2 Q
def YF (m:Ys) (i:Nat) (Ou:List AV) (e2:En) (Q:RV->En->Prop):Prop:=∃ d ds d' x,aP e2 i=some d/\d6 e2 Ou=some ds/\m.f d ds=some (d',x)/\Q (.dat x) (gO e2 i d')
def YG (mk:List Qq->RV) (Ou:List AV) (e:En) (Q:RV->En->Prop):Prop:=∃ ds,ml Ou=some ds/\ds.length<=sizeLine/\Q (mk ds) e
def JX (is:List Nat) (r:RV) (e:En) (N:En->Prop):Prop:=∃ ds e2,r.av=.dat (.tuple ds)/\fv e is ds=some e2/\N e2
section
variable {gd:List Qq} {env e1:En} {E:Kn} {Q:RV->En->Prop} {QA:List AV->En->Prop} {QT:Bool->En->Prop} {QI:List Qq->Option Nat->En->Prop} {i:Nat} {d:Qq} {a b c:XE} {as:XA} {s t:XS} {p:Oo} {f:Fn} {x y:XT}
theorem cM (hl:ds.length=ms.length) (h:WS gd s (aq ms ds n) ⟨EJ ms QF,F9 ms QF,fun _=>False,fun _=>False⟩):WF (bV gd ms n s) ds QF:=by
 obtain ⟨o,ho,q⟩:=h;unfold WF bV;simp only;rw [Lz hl,ho];cases o with
 | nx e=>obtain ⟨outs,h1,h2⟩:=q;simp only [h1];exact ⟨_,_,rfl,h2⟩
 | rt r e=>obtain ⟨pr,outs,h1,h2,h3⟩:=q;simp only [h1,h2];exact ⟨_,_,rfl,h3⟩
 | bk e=>exact absurd q id
 | ct e=>exact absurd q id
theorem z6 (h:WS gd s env { E with nx:=fun e=>WS gd t e E }):WS gd (.seq s t) env E:=by
 obtain ⟨o,ho,q⟩:=h;unfold WS;simp only [dS,ho];cases o with
 | nx e=>exact q
 | rt r e=>exact ⟨_,rfl,q⟩
 | bk e=>exact ⟨_,rfl,q⟩
 | ct e=>exact ⟨_,rfl,q⟩
theorem rK (h:∀ N:En->Prop,N=(fun e=>WS gd t e E)->WS gd s env { E with nx:=N }):WS gd (.seq s t) env E:=z6 (h _ rfl)
theorem nM {e:En} {x y:AV} {i:Int} {xs:List Qq} (h1:aW e [x,y]=some [.list xs,.int i]) (h:Po xs i=some d) (q:Q (.dat d) e):QJ OC [x,y] e Q:=⟨_,.dat d,h1,by show (Po xs i).map PR.dat=_;rw [h];rfl,q⟩
theorem rl {e:En} {x y:AV} {i:Int} {z:Str} {c:Nat} (h1:aW e [x,y]=some [.str z,.int i]) (h:Po z.cps.toList i=some c) (q:Q (.dat (.str ⟨#[c]⟩)) e):QJ OC [x,y] e Q:=⟨_,.dat (.str ⟨#[c]⟩),h1,by show (Po z.cps.toList i).map _=_;rw [h];rfl,q⟩
theorem C6 (h:E.nx env):WS gd .skip env E:=⟨_,rfl,h⟩
theorem EY (h:WE gd a env fun r e=>DW i r e E.nx):WS gd (.bu i a) env E:=by obtain ⟨r,e',h1,d,h2,h3,h4⟩:=h;unfold WS;simp only [dS,h1,h2];rw [Lz h3];exact ⟨_,rfl,h4⟩
theorem Co (h:WE gd a env fun r e=>uZ i r e E.nx):WS gd (.vX i a) env E:=by obtain ⟨r,e',h1,d,rfl,h3,h4⟩:=h;unfold WS;simp only [dS,h1];rw [Lz h3];exact ⟨_,rfl,h4⟩
theorem BU (h:WE gd a env fun r e=>JX is r e E.nx):WS gd (.BP is a) env E:=by obtain ⟨r,e',h1,ds,e2,h2,h3,h4⟩:=h;unfold WS;simp only [dS,h1,h2,h3];exact ⟨_,rfl,h4⟩
theorem BZ (h:WE gd a env fun _ e=>E.nx e):WS gd (.drop a) env E:=by obtain ⟨r,e',h1,h2⟩:=h;unfold WS;simp only [dS,h1];exact ⟨_,rfl,h2⟩
theorem Gy (h:WE gd a env E.rt):WS gd (.ret a) env E:=by obtain ⟨r,e',h1,h2⟩:=h;unfold WS;simp only [dS,h1];exact ⟨_,rfl,h2⟩
theorem GP (h:WT gd x env fun b e=>if b=true then WS gd s e E else WS gd t e E):WS gd (.ifs x s t) env E:=by
 obtain ⟨b,e',h1,h2⟩:=h;unfold WS;simp only [dS,h1];cases b with
 | true=>exact h2
 | false=>exact h2
theorem KU (h:WI gd it env fun ds lk e=>HB (lj i (dS gd s)) ds lk e E):WS gd (.fr i it s) env E:=by obtain ⟨ds,lk,e',h1,o,rfl,h2,h3⟩:=h;unfold WS;simp only [dS,h1,h2];exact ⟨_,rfl,h3⟩
theorem GL (h:WI gd it env fun ds lk e=>HB (hG is (dS gd s)) ds lk e E):WS gd (.U5 is it s) env E:=by obtain ⟨ds,lk,e',h1,o,rfl,h2,h3⟩:=h;unfold WS;simp only [dS,h1,h2];exact ⟨_,rfl,h3⟩
theorem IF (h:WE gd b env fun r e=>Kl gd m i a r e E.nx):WS gd (.Sk m i a b) env E:=by obtain ⟨r,e',h1,v,h2,h3,rk,e2,h4,dk,d,d',h5,h6,h7,h8⟩:=h;obtain ⟨d0,ξ⟩:=Option.isSome_iff_exists.mp h3;unfold WS;simp only [dS,h1,h2,ξ,h4,h5,h6,h7];exact ⟨_,rfl,h8⟩
theorem Kd (Inv:Nat->En->Prop) (m:Nat) (hm:m < n) (h0:Inv m env) (hs:∀ k e,k<=m->Inv k e->WT gd x e fun b e1=>if b=true then WS gd s e1 ⟨fun e2=>∃ j,j < k/\Inv j e2,E.rt,E.nx,fun e2=>∃ j,j < k/\Inv j e2⟩ else E.nx e1):WS gd (.wh n x s) env E:=by
 unfold WS;simp only [dS];induction n generalizing m env with
 | zero=>lia
 | succ n ih =>
  unfold TV;obtain ⟨b,e1,h1,h2⟩:=hs m env (LA _) h0;rw [h1];cases b with
  | false=>exact ⟨_,rfl,h2⟩
  | true =>
   rw [Lz rfl] at h2;obtain ⟨o,h3,h4⟩:=h2;simp only [h3];have step:∀ e2,(∃ j,j < m/\Inv j e2)->∃ o,TV (dT gd x) (dS gd s) n e2=some o/\E.at o:=fun e2 ⟨j,hj,hi⟩=>ih j (by lia) hi fun k e hk=>hs k e (by lia);cases o with
   | nx e=>exact step e h4
   | ct e=>exact step e h4
   | bk e=>exact ⟨_,rfl,h4⟩
   | rt r e=>exact ⟨_,rfl,h4⟩
theorem w_var (h:env[i]?=some (.dat d)) (q:Q (.dat d) env):WE gd (.var i) env Q:=⟨_,_,by simp only [dE,h],q⟩
theorem DO (h:env[i]?=some (.own d)) (q:Q (.bor i) env):WE gd (.var i) env Q:=⟨_,_,by simp only [dE,h],q⟩
theorem EI (h:env[i]?=some (.GG d)) (q:Q (.bor i) env):WE gd (.var i) env Q:=⟨_,_,by simp only [dE,h],q⟩
theorem Js (h:env[i]?=some (.own d)) (q:Q (.Oj d) (env.set i .un)):WE gd (.U3 i) env Q:=⟨_,_,by simp only [dE,h],q⟩
theorem Iu {c:QZ} (q:Q (.dat c.d) env):WE gd (.cst c) env Q:=⟨_,_,rfl,q⟩
theorem IJ (h:WA gd as env fun Ou e=>QJ p Ou e Q):WE gd (.Si p as) env Q:=by obtain ⟨Ou,e',h1,ds,pr,h2,h3,h4⟩:=h;exact ⟨_,_,by simp only [dE,h1,h2,h3],h4⟩
theorem DM (h:WA gd as env fun Ou e=>yd f Ou e Q):WE gd (.call f as) env Q:=by obtain ⟨Ou,e',h1,rv,e2,h2,h3⟩:=h;exact ⟨_,_,by simp only [dE,h1];exact h2,h3⟩
theorem ae (h1:ja e1 f.ms Ou=some ds) (h2:cj f.ms Ou=is) (h:WF f ds fun pr outs=>W4 is (tm f.ms Ou) outs.length=true/\Q pr.rv (cJ e1 is outs)):yd f Ou e1 Q:=by obtain ⟨pr,outs,h3,h4,h5⟩:=h;subst h2;unfold yd xJ;simp only [h1,h3];rw [Lz h4];exact ⟨_,_,rfl,h5⟩
theorem GK (h:WE gd o env fun r e=>JM gd m as r e Q):WE gd (.met m o as) env Q:=by obtain ⟨r,e',h1,d0,h2,h3,Ou,e2,h4,d,ds,pr,h5,h6,h7,h8⟩:=h;exact ⟨_,_,by simp only [dE,h1,h2];rw [Lz h3];simp only [h4,h5,h6,h7],h8⟩
theorem Hk (h0:aP env i=some d) (h1:m.ty d=true) (h:WA gd as env fun Ou e2=>YF m i Ou e2 Q):WE gd (.Uw m i as) env Q:=by obtain ⟨Ou,e2,h4,d,ds,d',x,h5,h6,h7,h8⟩:=h;exact ⟨_,_,by simp only [dE,h0];rw [Lz h1];simp only [h4,h5,h6,h7],h8⟩
theorem DI (h:WA gd as env fun Ou e=>YG (fun ds=>.dat (.tuple ds)) Ou e Q):WE gd (.tup as) env Q:=by obtain ⟨Ou,e2,h4,ds,h5,h6,h7⟩:=h;exact ⟨_,_,by simp only [dE,h4,h5];rw [Lz h6],h7⟩
theorem CP (h:WA gd as env fun Ou e=>YG (fun ds=>.Oj (.list ds)) Ou e Q):WE gd (.lst as) env Q:=by obtain ⟨Ou,e2,h4,ds,h5,h6,h7⟩:=h;exact ⟨_,_,by simp only [dE,h4,h5];rw [Lz h6],h7⟩
theorem Ji (h:WT gd x env fun k e=>if k=true then WE gd a e Q else WE gd b e Q):WE gd (.Sj x a b) env Q:=by
 obtain ⟨k,e',h1,h2⟩:=h;unfold WE;simp only [dE,h1];cases k with
 | true=>exact h2
 | false=>exact h2
theorem DB (h:WE gd a env fun r e=>∃ k,r=.dat (.bool k)/\if k=true then WE gd b e Q else Q (.dat (.bool false)) e):WE gd (.qk a b) env Q:=by
 obtain ⟨r,e',h1,k,rfl,h2⟩:=h;unfold WE;cases k with
 | true=>simp only [dE,h1];exact h2
 | false=>simp only [dE,h1];exact ⟨_,_,rfl,h2⟩
theorem Jf (h:WE gd a env fun r e=>∃ k,r=.dat (.bool k)/\if k=true then Q (.dat (.bool true)) e else WE gd b e Q):WE gd (.TR a b) env Q:=by
 obtain ⟨r,e',h1,k,rfl,h2⟩:=h;unfold WE;cases k with
 | true=>simp only [dE,h1];exact ⟨_,_,rfl,h2⟩
 | false=>simp only [dE,h1];exact h2
theorem D7 (h:WE gd a env fun r e=>∃ k,r=.dat (.bool k)/\Q (.dat (.bool (!k))) e):WE gd (.Bj a) env Q:=by obtain ⟨r,e',h1,k,rfl,h2⟩:=h;exact ⟨_,_,by simp only [dE,h1],h2⟩
theorem Ht (h:WE gd a env fun r e=>WE gd b e fun r2 e2=>∃ x y k,r.av=.dat x/\r2.av=.dat y/\p.f [x,y]=some (.dat (.bool k))/\if k=true then WE gd c e2 fun r3 e3=>∃ z pr,r3.av=.dat z/\p'.f [y,z]=some pr/\Q pr.rv e3 else Q (.dat (.bool false)) e2):WE gd (.SR p p' a b c) env Q:=by
 obtain ⟨r,e',h1,r2,e2,h2,x,y,k,h3,h4,h5,h6⟩:=h;unfold WE;cases k with
 | true =>
  rw [Lz rfl] at h6;obtain ⟨r3,e3,h7,z,pr,h8,h9,YH⟩:=h6;simp only [dE,h1,h2,h3,h4,h5,h7,h8,h9];exact ⟨_,_,rfl,YH⟩
 | false =>
  rw [Lw (by decide)] at h6;simp only [dE,h1,h2,h3,h4,h5];exact ⟨_,_,rfl,h6⟩
def GI (st:Qq->En->Option (Option Qq×En)) (js:List Nat) (ds:List Qq) (lk:Option Nat) (e1:En) (Q:RV->En->Prop):Prop :=
 ∃ ys ec,wo st ds (eO e1 lk js)=some (ys,ec)/\Q (.Oj (.list ys)) (aK e1 js ec)
theorem Jl (hn:BJ js=true) (h:WI gd it env fun ds lk e1=>GI (fW (dT gd x) (dE gd a)) js ds lk e1 Q):WE gd (.cmp js it x a) env Q:=by obtain ⟨ds,lk,e1,h1,ys,ec,h2,h3⟩:=h;refine ⟨_,_,?_,h3⟩;simp only [dE,h1];rw [Lz (kg hn),h2]
def zG (st:Qq->En->Option (Option Qq×En)) (d:Qq) (ec:En) (Q:Option Qq->En->Prop):Prop:=∃ y e,st d ec=some (y,e)/\Q y e
theorem eR (h:WT gd x (.dat d :: ec) fun k e2=>if k=true then WE gd a e2 fun r e3=>∃ y,r.av=.dat y/\QS (some y) e3.tail else QS none e2.tail):zG (fW (dT gd x) (dE gd a)) d ec QS:=by
 obtain ⟨k,e2,h1,h2⟩:=h;unfold zG fW;rw [h1];cases k with
 | true =>
  rw [Lz rfl] at h2;obtain ⟨r,e3,h3,y,h4,h5⟩:=h2;simp only [h3,h4];exact ⟨_,_,rfl,h5⟩
 | false =>
  rw [Lw (by decide)] at h2;exact ⟨_,_,rfl,h2⟩
theorem cp {st:Qq->En->Option (Option Qq×En)} (Inv:Nat->List Qq->En->Prop) (h0:Inv 0 [] (eO e1 lk js))
  (hs:∀ i d ys ec,ds[i]?=some d->Inv i ys ec->zG st d ec fun y e=>Inv (i+1) (ys++y.toList) e)
  (hq:∀ ys ec,Inv ds.length ys ec->Q (.Oj (.list ys)) (aK e1 js ec)):GI st js ds lk e1 Q:=by
 have key:∀ (rest:List Qq) (i:Nat) (ys:List Qq) (ec:En),ds.drop i=rest->i<=ds.length->Inv i ys ec->∃ zs Td,wo st rest ec=some (zs,Td)/\Inv ds.length (ys++zs) Td:=by
  intro rest;induction rest with
  | nil =>
   intro i ys ec hd hi hI;have:ds.length<=i:=List.drop_eq_nil_iff.mp hd;have:i=ds.length:=by lia
   subst this;exact ⟨[],ec,rfl,by rw [L7];exact hI⟩
  | cons d rest ih =>
   intro i ys ec hd hi hI;have O7:i < ds.length:=by apply Nt;intro h;rw [List.drop_eq_nil_iff.mpr (by lia)] at hd;cases hd
   rw [MN O7] at hd;injection hd with QB hd2;obtain ⟨y,e,h1,h2⟩:=hs i d ys ec (by rw [Lp O7,QB]) hI;obtain ⟨zs,Td,h3,h4⟩:=ih (i+1) _ e hd2 O7 h2;refine ⟨y.toList++zs,Td,?_,by rw [<- LC];exact h4⟩;unfold wo;simp only [h1,h3]
 obtain ⟨zs,ec,h1,h2⟩:=key ds 0 [] _ rfl (Mk _) h0;exact ⟨zs,ec,h1,hq zs ec h2⟩
def WB (b:Qq->En->Option Out) (d:Qq) (e:En) (E:Kn):Prop:=∃ o,b d e=some o/\E.at o
theorem Hz (hf:free e i=true) (h:WS gd s (e.set i (.dat d)) E):WB (lj i (dS gd s)) d e E:=by obtain ⟨o,h1,h2⟩:=h;exact ⟨o,by unfold lj;rw [Lz hf];exact h1,h2⟩
theorem Dl (hf:fv e is xs=some e2) (h:WS gd s e2 E):WB (hG is (dS gd s)) (.tuple xs) e E:=by obtain ⟨o,h1,h2⟩:=h;exact ⟨o,by unfold hG;simp only [hf];exact h1,h2⟩
theorem eK {b:Qq->En->Option Out} {ds:List Qq} (Inv:Nat->En->Prop) (h0:Inv 0 e1)
  (hs:∀ i d e,ds[i]?=some d->Inv i e->WB b d e ⟨Inv (i+1),E.rt,E.nx,Inv (i+1)⟩)
  (hq:∀ e,Inv ds.length e->E.nx e):HB b ds none e1 E:=by
 have key:∀ (rest:List Qq) (i:Nat) (e:En),ds.drop i=rest->i<=ds.length->Inv i e->∃ o,forL b rest e=some o/\E.at o:=by
  intro rest;induction rest with
  | nil =>
   intro i e hd hi hI;have:ds.length<=i:=List.drop_eq_nil_iff.mp hd;have:i=ds.length:=by lia
   subst this;exact ⟨_,rfl,hq e hI⟩
  | cons d rest ih =>
   intro i e hd hi hI;have O7:i < ds.length:=by apply Nt;intro h;rw [List.drop_eq_nil_iff.mpr (by lia)] at hd;cases hd
   rw [MN O7] at hd;injection hd with QB hd2;obtain ⟨o,h1,h2⟩:=hs i d e (by rw [Lp O7,QB]) hI;unfold forL;simp only [h1];cases o with
   | nx e'=>exact ih (i+1) e' hd2 O7 h2
   | ct e'=>exact ih (i+1) e' hd2 O7 h2
   | bk e'=>exact ⟨_,rfl,h2⟩
   | rt r e'=>exact ⟨_,rfl,h2⟩
 obtain ⟨o,h1,h2⟩:=key ds 0 _ rfl (Mk _) h0;exact ⟨o,rfl,h1,h2⟩
theorem GH (q:QA [] env):WA gd .nil env QA:=⟨_,_,rfl,q⟩
theorem D2 (h:WE gd a env fun r e=>WA gd as e fun Ou e2=>QA (r.av :: Ou) e2):WA gd (.cons a as) env QA:=by obtain ⟨r,e',h1,Ou,e2,h2,h3⟩:=h;exact ⟨_,_,by simp only [dA,h1,h2],h3⟩
theorem HZ (h:WE gd a env fun r e=>∃ k,r=.dat (.bool k)/\QT k e):WT gd (.OB a) env QT:=by obtain ⟨r,e',h1,k,rfl,h2⟩:=h;exact ⟨_,_,by simp only [dT,h1],h2⟩
theorem Hj (h:WE gd a env fun r e=>∃ d,r.view e=some d/\Hw d=false/\QT (Ik d) e):WT gd (.TU a) env QT:=by obtain ⟨r,e',h1,d,h2,h4,h3⟩:=h;exact ⟨_,e',by simp only [dT,h1,h2,h4];rfl,h3⟩
theorem w_or (h:WT gd x env fun k e=>if k=true then QT true e else WT gd y e QT):WT gd (.or x y) env QT:=by
 obtain ⟨k,e',h1,h2⟩:=h;unfold WT;cases k with
 | true=>simp only [dT,h1];exact ⟨_,_,rfl,h2⟩
 | false=>simp only [dT,h1];exact h2
theorem w_not (h:WT gd x env fun k e=>QT (!k) e):WT gd (.not x) env QT:=by obtain ⟨k,e',h1,h2⟩:=h;exact ⟨_,_,by simp only [dT,h1],h2⟩
theorem HU (h:QT true env):WT gd .yes env QT:=⟨_,_,rfl,h⟩
def IK (r:RV) (e:En) (QI:List Qq->Option Nat->En->Prop):Prop:=(∃ ds,r.av=.dat (.list ds)/\QI ds none e)\/∃ i ds,r.av=.bor i/\cont e i=some (.list ds)/\QI ds (some i) e
theorem Kr (h:WE gd a env fun r e=>IK r e QI):WI gd (.lst a) env QI:=by
 obtain ⟨r,e',h1,⟨ds,h2,h3⟩ | ⟨i,ds,h2,h3,h4⟩⟩:=h
 .exact ⟨_,_,_,by simp only [dI,h1,h2],h3⟩
 .exact ⟨_,_,_,by simp only [dI,h1,h2,h3],h4⟩
theorem qN (h:r.av=.dat (.list ds)) (q:QI ds none e):IK r e QI:=.inl ⟨ds,h,q⟩
theorem KN (h:WE gd a env fun r e=>∃ ds,r.av=.dat (.tuple ds)/\QI ds none e):WI gd (.tup a) env QI:=by obtain ⟨r,e',h1,ds,h2,h3⟩:=h;exact ⟨_,_,_,by simp only [dI,h1,h2],h3⟩
def WSq (r:RV) (e:En) (QI:List Qq->Option Nat->En->Prop):Prop:=IK r e QI\/∃ ds,r.av=.dat (.tuple ds)/\QI ds none e
theorem KL (h:WE gd a env fun r e=>WSq r e QI):WI gd (.sq a) env QI:=by
 obtain ⟨r,e',h1,(⟨ds,h2,h3⟩ | ⟨i,ds,h2,h3,h4⟩) | ⟨ds,h2,h3⟩⟩:=h
 .exact ⟨_,_,_,by simp only [dI,h1,h2],h3⟩
 .exact ⟨_,_,_,by simp only [dI,h1,h2,h3],h4⟩
 .exact ⟨_,_,_,by simp only [dI,h1,h2],h3⟩
theorem Lg (h:WE gd a env fun r e=>∃ z,r.av=.dat (.str z)/\QI (z.cps.toList.map fun c=>.str ⟨#[c]⟩) none e):WI gd (.str a) env QI:=by obtain ⟨r,e',h1,ds,h2,h3⟩:=h;exact ⟨_,_,_,by simp only [dI,h1,h2],h3⟩
theorem Lc (h:WA gd as env fun Ou e=>∃ j:Int,Ou=[.dat (.int j)]/\(-(2 ^ 62)<=j/\j<=2 ^ 24)/\QI ((List.range j.toNat).map fun (k:Nat)=>.int ((0:Int)+(k:Int))) none e):WI gd (.Pl as) env QI:=by obtain ⟨r,e',h1,j,rfl,h2,h3⟩:=h;exact ⟨_,_,_,by simp only [dI,h1];rw [Lz h2],h3⟩
end
theorem wx (h:e[i]?=some s) (q:soft s):free e i=true:=by
 unfold free;rw [h];cases s with
 | GG d=>exact absurd rfl (q.1 d)
 | ro d=>exact absurd rfl (q.2 d)
 | _=>rfl
theorem Gr:soft .un:=⟨fun _=>nofun,fun _=>nofun⟩
theorem Gm:soft (.dat d):=⟨fun _=>nofun,fun _=>nofun⟩
theorem Je:soft (.own d):=⟨fun _=>nofun,fun _=>nofun⟩
theorem FR (h1:aP e i=some (.list xs)) (h2:xs.length < sizeLine) (h3:d6 e Ou=some [(true,d)]) (q:Q (.dat .none) (gO e i (.list (xs++[d])))):YF HP i Ou e Q :=
 ⟨_,_,.list (xs++[d]),.none,h1,h3,by show (if xs.length < sizeLine then _ else _)=_;rw [Lz h2],q⟩
theorem g7:(ss:List Str)->strsOf (ss.map .str)=some ss
 | []=>rfl
 | s :: ss=>by simp only [List.map_cons,strsOf,g7 ss]
theorem BX (h1:r.view e=some (.str z)) (h2:aW e Ou=some [.list (ss.map .str)]) (h3:iu z ss=true) (q:Q (.dat (.str (Txt.join z ss))) e):Dj joinM r Ou e Q:=by refine ⟨_,_,.dat (.str (Txt.join z ss)),h1,h2,?_,q⟩;show (match strsOf (ss.map .str) with | some ss=>if iu z ss=true then some (PR.dat (.str (Txt.join z ss))) else none | none=>none)=_;rw [g7];simp only;rw [Lz h3]
theorem uH (h1:aW e [x,y]=some [.list xs,.list ys]) (h2:xs.length+ys.length<=sizeLine) (q:Q (.Oj (.list (xs++ys))) e):QJ bh [x,y] e Q :=
 ⟨_,.Oj (.list (xs++ys)),h1,by show (if xs.length+ys.length<=sizeLine then _ else _)=_;rw [Lz h2],q⟩
theorem bt (h1:aW e [x,y]=some [.str xs,.str ys]) (h2:xs.length+ys.length<=sizeLine) (q:Q (.dat (.str (xs++ys))) e):QJ bh [x,y] e Q :=
 ⟨_,.dat (.str (xs++ys)),h1,by show (if xs.length+ys.length<=sizeLine then _ else _)=_;rw [Lz h2],q⟩
theorem w_eq (h1:aW e [x,y]=some [d,d']) (h2:ij d=true) (h3:ij d'=true) (q:Q (.dat (.bool (PyData.eqv d d'))) e):QJ P8 [x,y] e Q :=
 ⟨_,.dat (.bool (PyData.eqv d d')),h1,by show (if ij d=true/\ij d'=true then _ else _)=_;rw [Lz ⟨h2,h3⟩];rfl,q⟩
theorem F8 (h1:aW e [x,y]=some [d,d']) (h2:ij d=true) (h3:ij d'=true) (q:Q (.dat (.bool (!PyData.eqv d d'))) e):QJ Tj [x,y] e Q :=
 ⟨_,.dat (.bool (!PyData.eqv d d')),h1,by show (if ij d=true/\ij d'=true then _ else _)=_;rw [Lz ⟨h2,h3⟩];rfl,q⟩
theorem eG (h:((List.range n).map fun (k:Nat)=>PyData.int ((0:Int)+(k:Int)))[i]?=some d):d=.int i/\i < n:=by
 rw [LO] at h;cases q:(List.range n)[i]? with
 | none=>rw [q] at h;cases h
 | some j =>
  rw [q] at h;obtain ⟨hi,e⟩:=Ls.mp q;rw [MS] at hi;have:j=i:=by rw [<- e];simp
  subst this;cases h;exact ⟨by simp,hi⟩
theorem kC:((List.range n).map fun (k:Nat)=>PyData.int ((0:Int)+(k:Int))).length=n:=by rw [Lo,MS]
theorem Tn {W:Type} {xs:List W} {r:Int} (h0:0<=r) (h1:r < xs.length):∃ v,v∈xs/\Po xs r=some v:=by
 have hj:r.toNat < xs.length:=by lia
 have ej:r=((r.toNat:Nat):Int):=by lia
 refine ⟨xs[r.toNat],List.getElem_mem hj,?_⟩;have:=c5 (xs:=xs) (j:=r.toNat) (v:=xs[r.toNat]) (Lp hj);rw [<- ej] at this;exact this
theorem pG {W:Type} {xs:List W} {k:Int} (h:0<=k):cutD xs none (some k)=xs.take k.toNat:=by
 unfold cutD;simp only [HT.Ov,List.drop_zero,Nat.sub_zero];rw [Lw (by lia)];by_cases z:k.toNat<=xs.length
 .congr 1;lia
 .rw [Mu (by lia),Mu (by lia)]
theorem aE (x:Str):x.cps.toList.length=x.length:=by simp [Str.length]
mutual
theorem eqv_refl:(d:Qq)->O1 d=true->PyData.eqv d d=true
 | .none,_=>by simp [PyData.eqv]
 | .bool b,_=>by simp [PyData.eqv]
 | .int i,_=>by simp [PyData.eqv]
 | .str x,_=>by simp [PyData.eqv]
 | .list xs,h=>by simpa [PyData.eqv] using eqvAll_refl xs (by simpa [O1] using h)
 | .tuple xs,h=>by simpa [PyData.eqv] using eqvAll_refl xs (by simpa [O1] using h)
 | .dict _,h=>by simp [O1] at h
theorem eqvAll_refl:(ds:List Qq)->jB ds=true->PyData.eqvAll ds ds=true
 | [],_=>by simp [PyData.eqvAll]
 | d :: ds,h=>by
  have h':O1 d=true/\jB ds=true:=by simpa [jB] using h
  simp [PyData.eqvAll,eqv_refl d h'.1,eqvAll_refl ds h'.2]
end
theorem kQ:∀ {ds:List Qq},jB ds=true↔∀ d∈ds,O1 d=true
 | []=>by simp [jB]
 | d :: ds=>by simp [jB,kQ (ds:=ds)]
theorem eE:∀ {ds:List Qq},(∀ d∈ds,d.depth<=k)->PyData.depthAll ds<=k
 | [],_=>by simp [PyData.depthAll]
 | d :: ds,h=>by have h1:=h d Lq;have h2:=eE fun x hx=>h x (Ly _ hx);simp only [PyData.depthAll];lia
theorem jU (h:∀ d∈ds,d.depth<=k):(PyData.list ds).depth<=k+1:=by simp only [PyData.depth];have:=eE h;lia
theorem ip (h:∀ d∈ds,d.depth<=k):(PyData.tuple ds).depth<=k+1:=by simp only [PyData.depth];have:=eE h;lia
theorem tq (h1:O1 d=true) (h2:d.depth<=64):ij d=true:=by simp [ij,h1,h2]
section
variable {gd:List Qq} {env e1:En} {Q:RV->En->Prop} {a:XE} {as:XA}
theorem yE (h1:aW e1 [x]=some [.int i]) (h2:i.natAbs < 10 ^ 400) (q:Q (.dat (.str (bF i))) e1):QJ FZ [x] e1 Q :=
 ⟨_,.dat (.str (bF i)),h1,by show (if i.natAbs < 10 ^ 400 then _ else _)=_;rw [Lz h2],q⟩
end
end L2
namespace L2
open PySem PySem.Spec PyProof.Rows
section
variable {X:Cx} {ti:Qw} {Y:St} {H:Hp} {s:Qx}
theorem Ho (h:sc.names.lookup g=none):¬Qi sc g:=fun z=>by rcases z with z | z | z <;> (rw [h] at z;cases z)
end
theorem jE:(bs:List Bool)->g8 (bs.map .bool)=some bs
 | []=>rfl
 | b :: bs=>by rw [List.map_cons];unfold g8;rw [jE bs]
noncomputable def rG:Qq->List Qq->Option PR
 | .str z,[.str y]=>some (.dat (.bool (decide (y.length<=z.length)&&Builtin.Str.subAt z y 0)))
 | _,_=>none
def rD:U0 where
 T := "str"
 r:=fun _=>sv
 ty:=UW
 f:=rG
 zV:=fun K F H d v h t=>ty_str h t
 ok:=fun K F H d v ds vs pr Q hf hx hv hd q=>by
  unfold rG at hf;split at hf
  .cases hf;obtain ⟨rfl,_⟩:=vStr hx;obtain ⟨w,r,rfl,hw,rfl⟩:=hv;obtain ⟨rfl,_⟩:=vStr hw;exact ⟨_,_,rfl,rfl,q _ H (ax.rf H) rfl⟩
  .cases hf
def wD:Oo where
 r:=fun _ vs H Q=>match vs with | []=>∀ p,H p=none->Q (.ref p) (upd H p (.dD 0 [])) | _=>False
 f:=fun ds=>match ds with | []=>some (.Oj (.dict [])) | _=>none
 ok:=fun K F H ds vs pr Q hf hv hd q=>by
  match ds,hf with
  | [],hf =>
   cases hf;rw [show vs=[] from hv];exact fun p hp=>q _ _ (ax.nw _ hp) ⟨p,rfl,hp,0,[],ak,Mk _,rfl⟩
def oX:List (Option Sl)->En->Prop
 | [],e=>e=[]
 | some s :: r,e=>∃ e',oX r e'/\e=s :: e'
 | none :: r,e=>∃ x e',soft x/\oX r e'/\e=x :: e'
def xH:List (Option Sl)->(En->Prop)->Prop
 | [],P=>P []
 | some s :: ts,P=>xH ts fun e=>P (s :: e)
 | none :: ts,P=>∀ s,soft s->xH ts fun e=>P (s :: e)
theorem oX.out:∀ {ts:List (Option Sl)} {e:En} {P:En->Prop},oX ts e->xH ts P->P e
 | [],_,_,h,q=>by cases (show _=_ from h);exact q
 | some s :: ts,e,P,h,q=>by obtain ⟨r,hr,rfl⟩:=h;exact hr.out (P:=fun e=>P (s :: e)) q
 | none :: ts,e,P,h,q=>by obtain ⟨s,r,hs,hr,rfl⟩:=h;exact hr.out (P:=fun e=>P (s :: e)) (q s hs)
section
variable {gd:List Qq} {e e':En} {E:Kn} {Q:RV->En->Prop} {QA:List AV->En->Prop} {QT:Bool->En->Prop} {QI:List Qq->Option Nat->En->Prop} {N:En->Prop} {i:Nat} {r:RV}
theorem FO (h:e=e') (q:DW i r e' N):DW i r e N:=h▸q
theorem AL (h:e=e') (q:uZ i r e' N):uZ i r e N:=h▸q
theorem KD (h:e=e') (q:WA gd as e' QA):WA gd as e QA:=h▸q
theorem Lb (h:e=e') (q:WS gd s e' E):WS gd s e E:=h▸q
theorem EO (h:e=e') (q:F9 ms QF r e'):F9 ms QF r e:=h▸q
end
theorem qI (h:free env i=true) (q:fv (env.set i (.dat d)) is ds=some e2):fv env (i :: is) (d :: ds)=some e2:=by simp only [fv];rw [Lz h];exact q
theorem cR:PyData.eqv (.str x) (.str y)=decide (x=y):=by simp only [PyData.eqv];rfl
def Kf (p:Oo) (r r2:RV) (k:Qq->Bool->Prop):Prop:=∃ x y b,r.av=.dat x/\r2.av=.dat y/\p.f [x,y]=some (.dat (.bool b))/\k y b
def J5 (p:Oo) (y:Qq) (r:RV) (e:En) (Q:RV->En->Prop):Prop:=∃ z pr,r.av=.dat z/\p.f [y,z]=some pr/\Q pr.rv e
theorem BY (h:WE gd a env fun r e=>WE gd b e fun r2 e2=>Kf p r r2 fun y k=>if k=true then WE gd c e2 fun r3 e3=>J5 p' y r3 e3 Q else Q (.dat (.bool false)) e2):WE gd (.SR p p' a b c) env Q:=by refine Ht ?_;obtain ⟨r,e,h1,r2,e2,h2,x,y,k,h3,h4,h5,h6⟩:=h;exact ⟨r,e,h1,r2,e2,h2,x,y,k,h3,h4,h5,h6⟩
theorem w_all {e:En} {x:AV} {bs:List Bool} {Q:RV->En->Prop} (h1:aW e [x]=some [.list (bs.map .bool)]) (q:Q (.dat (.bool (bs.all id))) e):QJ BN [x] e Q:=by refine ⟨_,.dat (.bool (bs.all id)),h1,?_,q⟩;show (g8 (bs.map .bool)).map _=_;rw [jE];rfl
theorem N3 {W:Type} {xs:List W} {i:Nat} {x:W} (h:xs[i]?=some x):xs.take i++[x]=xs.take (i+1):=by rw [List.take_add_one,h];rfl
theorem fm {W:Type} {P:W->Prop} {xs:List W} {y:W} (h:∀ x∈xs,P x) (hy:P y):∀ x∈xs++[y],P x:=fun x hm=>by
 rcases Mc.mp hm with hm | hm
 .exact h x hm
 .rw [LF.mp hm];exact hy
theorem Lj (hg:Gl X "isinstance") (hm:X.mg "isinstance" = none) (ha:JE X e te) (hs:PySem.W.isStarred e=false) (hb:JE X (.Name (Str.ofString T) p2) (tC (.ty T))):JE X (.Call (.Name "isinstance" p) [e,.Name (Str.ofString T) p2] [] pos) (PN ((jD T).r X.K) (aL te dX)) :=
 ⟨(eB AF hg hm (by decide +kernel) (eA ha (eA hb ai rfl) hs) hs rfl (by decide) rfl).h⟩
noncomputable def xr (x:Str) (n:Nat):Str:=⟨(List.replicate n x.cps.toList).flatten.toArray⟩
theorem wz (x:Str) (n:Nat):(xr x n).length=n*x.length:=by show ((List.replicate n x.cps.toList).flatten.toArray).size=n*x.cps.size;simp
theorem lM:∀ (l:List (Array Nat)) (a:Array Nat),(l.foldl (·++·) a).toList=a.toList++(l.map (·.toList)).flatten
 | [],a=>by simp
 | x :: l,a=>by rw [List.foldl_cons,lM l];simp
theorem BE (x:Str) (n:Nat):Txt.mul x n=xr x n:=by
 have ext:∀ {a b:Str},a.cps.toList=b.cps.toList->a=b:=by intro a b h;cases a;cases b;congr 1;exact N6.mp h
 unfold Txt.mul;by_cases h1:(n:Int) < 1
 .rw [Lz h1];have:n=0:=by lia
  subst this;exact ext rfl
 .rw [Lw h1];by_cases h2:((n:Int)==1||x.length==0)=true
  .rw [Lz h2];simp only [Bool.or_eq_true,Ma] at h2;refine ext ?_;rcases h2 with h2 | h2
   .have:n=1:=by lia
    subst this;simp [xr]
   .have:x.cps.toList=[]:=by
     have:x.cps.toList.length=0:=by simpa [Str.length] using h2
     exact List.length_eq_zero_iff.mp this
    simp [xr,this]
  .rw [Lw h2];refine ext ?_;show ((List.replicate (n:Int).toNat x.cps).foldl (·++·) #[]).toList=_;rw [lM];simp [xr]
def Dx:R2:=fun x y H Q=>∃ (z:Str) (n:Nat),x=.str z/\y=.int n/\n<=1000/\z.length<=1000/\Q (.str (xr z n)) H
theorem Bi:Oy X (binaryOp .Mult) Dx:=by
 intro ti s Y H x y v u Q I rx ry h;obtain ⟨z,n,rfl,rfl,h1,h2,q⟩:=h;obtain ⟨t,rfl⟩:=rx;obtain ⟨t',rfl⟩:=ry;refine SB.mul ⟨by simp;lia,fun a b=>?_,fun a b=>?_⟩ fun Yk k=>⟨.str _,H,I.tok k,⟨Yk,by rw [BE]⟩,q⟩
 .have hn:(0:Int) < n:=by lia
  rw [Int.not_lt];refine Int.le_ediv_of_mul_le hn ?_;have:(z.length:Int)*n<=1000*1000:=Int.mul_le_mul (by lia) (by lia) (by lia) (by lia);lia
 .have:z.length*(n:Int).toNat<=1000*1000:=Nat.mul_le_mul h2 (by lia);have hs:sizeLine=16777216:=MF;simp only [Builtin.Str.tooLong];simp;rw [Int.toNat_natCast] at this;lia
theorem qw (h:PyData.strOk x=true):PyData.strOk (xr x n)=true:=by
 unfold PyData.strOk at h ⊢;rw [NY] at h ⊢;intro c hc;have:c∈(List.replicate n x.cps.toList).flatten:=by simpa [xr] using hc
 obtain ⟨l,hl,QX⟩:=List.mem_flatten.mp this;rw [(List.mem_replicate.mp hl).2] at QX;exact h c (by simpa using QX)
def DC:Oo:=Oo.two (fun _=>Dx) (fun x y=>match x,y with | .str z,.int n=>if 0<=n/\n<=1000/\z.length<=1000 then some (.dat (.str (xr z n.toNat))) else none | _,_=>none) fun K F H x y u v pr Q hf hx hy hd q=>by
 split at hf
 .rename_i z n;split at hf
  .rename_i h;cases hf;obtain ⟨ex,hl,ho⟩:=vStr hx;have ey:=vInt hy;have e1:((n.toNat:Nat):Int)=n:=Int.toNat_of_nonneg h.1;refine ⟨z,n.toNat,ex,by rw [e1];exact ey,by lia,h.2.2,q _ H (ax.rf H) ⟨rfl,?_,qw ho⟩⟩;rw [wz];have:n.toNat*z.length<=1000*1000:=Nat.mul_le_mul (by lia) h.2.2;have hs:sizeLine=16777216:=MF;lia
  .cases hf
 .cases hf
theorem wm:Oy X (binaryOp .Mult) (fun x y=>DC.r X.K [x,y]):=Bi
theorem pz (h1:rk.view e2=some k) (h2:aP e2 i=some (.dict kvs)) (h3:QY k=true) (h4:kvs.length < sizeLine) (q:N (gO e2 i (.dict (putD kvs k v)))):IC kB i v rk e2 N :=
 ⟨_,_,_,h1,h2,by show (if QY k=true/\kvs.length < sizeLine then some (PyData.dict (putD kvs k v)) else none)=_;rw [Lz ⟨h3,h4⟩],q⟩
end L2
namespace L2
open PySem PySem.Spec PyProof.Rows PySem.W
structure Ord (lt:Nat->Nat->Bool) (n:Nat):Prop where
 T2:∀ i,lt i i=false
 tr:∀ i j k,lt i j=true->lt j k=true->lt i k=true
 Om:∀ i j,i < n->j < n->i≠j->lt i j=false->lt j i=true
def at_ (p:Array Nat) (i:Nat):Nat:=p.getD i 0
def Up (lt:Nat->Nat->Bool) (p:Array Nat) (m:Nat):Prop:=∀ i,i+1 < m->lt (at_ p i) (at_ p (i+1))=true
section
variable {lt:Nat->Nat->Bool} {n:Nat} {p:Array Nat}
def Pm (n:Nat) (p:Array Nat):Prop:=p.Perm (List.range n).toArray
theorem Pm.size (h:Pm n p):p.size=n:=by have:=Array.Perm.size_eq h;simpa using this
theorem Up.all (O:Ord lt n) (h:Up lt p m) (RT:i < j) (hj:j < m):lt (at_ p i) (at_ p j)=true:=by
 induction j with
 | zero=>lia
 | succ j ih =>
  by_cases e:i=j
  .subst e;exact h i hj
  .exact O.tr _ _ _ (ih (by lia) (by lia)) (h j hj)
end
section
variable {P:Program} {w:World} {A:Around} {E:Qy} {s:Qx} {d:Qz} {es:Array DictEntry} {ep:Nat}
def Va (d:Qz) (es:Array DictEntry) (ep:Nat) (h:Heap):Prop:=∃ od,h.get? d=some od/\od.ExactDict/\od.data=.dict es ep
def Ha (es:Array DictEntry) (i:Nat) (v:Qj):Prop:=∃ e,es[i]?=some e/\v=e.key
theorem E2 (hh:A.handled=none) (I:Qz) (O2:d≠I):Walks P w A I [I,d] [I] es.size (Ha es) (fun i h=>h.IsKeyIter I d i es.size ep/\Va d es ep h) where
 sub:=fun b hb=>by simp at hb;simp [hb]
 frame:=fun _ _ _ st hk=>⟨st.1.at fun o e=>hk I (by simp) o e,let ⟨od,g,r⟩:=st.2;⟨od,hk d (by simp) _ g,r⟩⟩
 item:=fun i s Q E hi st hQ=>by obtain ⟨it,od,g1,g2,g3⟩:=st;refine Fz it g1 g3 (Ms hi) fun h' it' sb=>?_;exact hQ _ h' s.toks ⟨_,Ms hi,rfl⟩ ⟨it',od,(sb.2 d O2).trans g1,g2,g3⟩ fun b o hb e=>(sb.2 b (fun z=>hb (by simp [z]))).trans e
 done:=fun s Q E st hQ=>by obtain ⟨it,od,g1,g2,g3⟩:=st;exact IU hh it g1 g3 (LA _) fun h' eb=>hQ h' s.toks fun b o hb e=>eb b o (fun z=>hb (by simp [z])) e
 self:=fun _ _ _ _ st hQ=>wpAny_pyIter_keyiter st.1 hQ
theorem Kg (lo:(d==sysModules)=false):KdlSrc P w "dict" d d es.size (Ha es) (Va d es ep) where
 type:=fun _ ⟨od,g1,g2,_⟩=>⟨od,g1,g2.1⟩
 there:=fun _ ⟨od,g1,_⟩=>⟨LM g1,LM g1⟩
 keep:=fun _ _ ⟨od,g1,r⟩ hk=>⟨od,hk d (.inl rfl) _ g1,r⟩
 notList:=by decide
 notTuple:=by decide
 hint:=fun _ _ _ _ ⟨od,g1,g2,_⟩ hq=>kdl_hint_dict ⟨od,g1,g2.1⟩ hq
 iter:=fun _ s hh ⟨od,g1,g2,g3⟩=>⟨_,_,(fun _ _ hq=>CV lo g1 g2 g3 hq),E2 hh _ (L9 (LM g1)),⟨⟨_,L0 _ rfl,rfl,rfl⟩,od,LB _ g1,g2,g3⟩⟩
theorem HE (hh:A.handled=none) (lo:(d==sysModules)=false) (ok:Va d es ep s.heap) (hz:es.size<=sizeLine) (ne:S≠d) (gS:s.heap.get? S=some { cls:=.type "list", data:=.seq #[] })
  (h:∀ h' tk OI c',(∀ b o,b≠S->s.heap.get? b=some o->h'.get? b=some o)->h'.get? S=some { cls:=.type "list", dict:=none,data:=.seq OI c',slots:=#[] }->ItemsOf (Ha es) OI es.size->R (.ok (.ret (.ref S))) { s with heap:=h',toks:=tk }) :
  codeAny (model P w) A (.builtin "list.__iadd__" ⟨[.ref S,.ref d],[]⟩) R s:=by refine codeAny_builtin F.entry_list_iadd ?_;rw [Around.under_plainId F.plain_list_iadd _];show wpAny _ A.in1 (Builtin.List.listExtendWith (.ref S) (.ref d) (.ref S)) _ _ _;exact kdl_extend (Kg lo) hh ok S ne ne (.ref S) 0 gS h hz
theorem Hl (hh:A.handled=none) (lo:(d==sysModules)=false) (ok:Va d es ep s.heap) (hz:es.size<=sizeLine)
  (h:∀ vs h' tk,vs=(es.toList.map (·.key))->s.heap.objs.size < h'.objs.size->(∀ b o,s.heap.get? b=some o->h'.get? b=some o)->Q vs { s with heap:=h',toks:=tk }) :
  wMX P w A (collect (.ref d)) Q E s:=by
 obtain ⟨od,ho,g2,g3⟩:=id ok;unfold collect;refine Lm (wpAny_runValue (codeAny_builtin F.entry_proto_collect ?_));rw [Around.under_plainId F.plain_proto_collect _];show wpAny _ A.in1 (newList []>>=fun l=>again (.builtin "list.__iadd__" ⟨[l,.ref d],[]⟩)) _ _ s;refine Lm (MJ ?_);have O7:d < s.heap.objs.size:=LM ho;have ne:s.heap.objs.size≠d:=Nr O7;have g1:Va d es ep (s.heap.push { cls:=.type "list", data:=.seq ([]:List Qj).toArray }):=⟨od,LB _ ho,g2,g3⟩;have gS:(s.heap.push { cls:=.type "list", data:=.seq ([]:List Qj).toArray }).get? s.heap.objs.size=some { cls:=.type "list", data:=.seq ([]:List Qj).toArray }:=L0 _ rfl;refine Lu ⟨plainId_quiet F.plain_list_iadd _,HE (s:={ s with heap:=s.heap.push { cls:=.type "list", data:=.seq ([]:List Qj).toArray } }) hh lo g1 hz ne gS fun h' tk OI c' hk W9 OV=>?_⟩;show wpAny _ A (load s.heap.objs.size>>=_) _ _ _;refine Lm (wpAny_load W9 ?_);refine Lu ?_;show Q OI.toList _;refine h _ h' tk ?_ (LM W9) fun b o e=>hk b o (L9 (LM e)) (LB _ e);apply List.ext_getElem?;intro j;rw [Oh,LO,Oh];rcases Nat.lt_or_ge j es.size with z | z
 .have zj:j < OI.size:=by rw [OV.1];exact z
  obtain ⟨e,h1,h2⟩:=OV.2 j _ (Ms zj);rw [Ms zj,h1,h2];rfl
 .rw [Oe (by rw [OV.1];exact z),Oe z];rfl
end
noncomputable def d8:Bool->Keyed->Array Keyed->Nat->Nat->Nat->StateT SortSt Sem (Option Nat):=sortPriv% PySem.Builtin.gallop
noncomputable def Xa (left:Bool) (key:Keyed) (arr:Array Keyed) (base i:Nat):StateT SortSt Sem (Option Bool) :=
 elem' arr (base+i)>>=fun x=>if left=true then lt' x key else lt' key x>>=fun r=>pure (r.map fun b=>!b)
def hfB (left:Bool) (key:Keyed) (arr:Array Keyed) (base:Nat) (c:Option (Option Nat)×Nat×Nat):StateT SortSt Sem (ForInStep (Option (Option Nat)×Nat×Nat)) :=
 if c.2.1>=c.2.2 then pure (.done (none,c.2.1,c.2.2)) else
  Xa left key arr base (c.2.1+(c.2.2 - c.2.1) / 2)>>=fun r=>match r with
   | some b=>if b=true then pure (.yield (none,c.2.1+(c.2.2 - c.2.1) / 2+1,c.2.2)) else pure (.yield (none,c.2.1,c.2.1+(c.2.2 - c.2.1) / 2))
   | _=>pure (.done (some none,c.2.1,c.2.2))
theorem bindC {W B:Type} {m m':StateT SortSt Sem W} {f f':W->StateT SortSt Sem B} (h:m=m') (k:∀ a,f a=f' a):(m>>=f)=(m'>>=f'):=by subst h;exact Nl k
section
variable {M:Model} {A:Around} {E:Qy} {s:Qx}
theorem yL {W:Type} {m m':StateT SortSt Sem W} {Q:W->SortSt->Prop} {st:SortSt} (e:m=m') (h:wpS M A E s m' Q st):wpS M A E s m Q st:=e▸h
theorem zC {left:Bool} {key:Keyed} {arr:Array Keyed} {base n lo hi:Nat} {P:Nat->Bool} {st:SortSt} {Q:Option Nat->SortSt->Prop}
  (hb:∀ i (C:Option Bool->SortSt->Prop),i < n->C (some (P i)) st->wpS M A E s (Xa left key arr base i) C st) (hm:∀ i j,i<=j->j < n->P j=true->P i=true)
  (h0:hi<=n) (hl:lo<=hi) (h1:∀ i,i < lo->P i=true) (h2:∀ i,hi<=i->i < n->P i=false)
  (h:∀ k,k<=n->(∀ i,i < k->P i=true)->(∀ i,k<=i->i < n->P i=false)->Q (some k) st) :
  wpS M A E s (forIn [0:n] ((none,lo,hi):Option (Option Nat)×Nat×Nat) (fun _ c=>hfB left key arr base c)>>=fun c=>match c.1 with
   | some r=>pure r
   | none=>pure (some c.2.2)) Q st:=by
 refine LW (MC (I:=fun i c O0=>O0=st/\c.1=none/\c.2.1<=c.2.2/\c.2.2<=n/\c.2.2 - c.2.1<=n - i/\(∀ i,i < c.2.1->P i=true)/\(∀ i,c.2.2<=i->i < n->P i=false)) ?_ ?_ ⟨rfl,rfl,hl,h0,by dsimp only;lia,h1,h2⟩)
 .rintro i ⟨r,lo,hi⟩ _ _ RQ ⟨rfl,e,a1,a2,a3,a4,a5⟩;dsimp only at e a1 a2 a3 a4 a5 ⊢;subst e;unfold hfB;dsimp only;by_cases c:lo>=hi
  .rw [Lz c];exact LS (LS (h hi a2 (fun i z=>a4 i (by lia)) a5))
  .rw [Lw c];refine LW (hb _ _ (by lia) ?_);dsimp only;cases e:P (lo+(hi - lo) / 2) with
   | true =>
    rw [Lz rfl];exact LS ⟨rfl,rfl,by dsimp only;lia,a2,by dsimp only;lia,fun i z=>hm _ _ (by dsimp only at z;lia) (by lia) e,a5⟩
   | false =>
    rw [Lw LU];refine LS ⟨rfl,rfl,by dsimp only;lia,by dsimp only;lia,by dsimp only;lia,a4,fun i z y=>?_⟩;cases e':P i with
    | false=>rfl
    | true=>rw [hm _ _ z y e'] at e;exact absurd e (by decide)
 .rintro ⟨r,lo,hi⟩ _ ⟨rfl,e,a1,a2,a3,a4,a5⟩;dsimp only at e a1 a2 a3 a4 a5 ⊢;subst e;exact LS (h hi a2 (fun i z=>a4 i (by lia)) a5)
theorem xS {left:Bool} {key:Keyed} {arr:Array Keyed} {base n hint:Nat} {P:Nat->Bool} {st:SortSt} {Q:Option Nat->SortSt->Prop}
  (hb:∀ i (C:Option Bool->SortSt->Prop),i < n->C (some (P i)) st->wpS M A E s (Xa left key arr base i) C st) (hm:∀ i j,i<=j->j < n->P j=true->P i=true)
  (hn:hint < n)
  (h:∀ k,k<=n->(∀ i,i < k->P i=true)->(∀ i,k<=i->i < n->P i=false)->Q (some k) st) :
  wpS M A E s (d8 left key arr base n hint) Q st:=by
 have Ri:∀ i j,i<=j->j < n->P i=false->P j=false:=fun i j RT hj e=>by
  cases e':P j with
  | false=>rfl
  | true=>rw [hm _ _ RT hj e'] at e;exact absurd e (by decide)
 unfold d8;refine LW (hb _ _ hn ?_);dsimp only;cases e:P hint with
 | true =>
  rw [Lz rfl];refine LW (MW (MC (I:=fun i (c:Option (Option Nat)×Nat×Nat) O0=>O0=st/\c.1=none/\c.2.1 < c.2.2/\i+1<=c.2.2/\hint+c.2.1 < n/\P (hint+c.2.1)=true) (Q:=fun (c:Option (Option Nat)×Nat×Nat) O0=>O0=st/\c.1=none/\c.2.1 < c.2.2/\hint+c.2.1 < n/\P (hint+c.2.1)=true/\∀ i,hint+min c.2.2 (n - hint)<=i->i < n->P i=false) ?_ ?_ ⟨rfl,rfl,MH _,LA _,hn,e⟩) ?_)
  .rintro i ⟨r,lo,hi⟩ _ _ RQ ⟨rfl,e,a1,a2,a3,a4⟩;dsimp only at e a1 a2 a3 a4 ⊢;subst e;by_cases c:hi>=n - hint
   .rw [Lz c];exact LS ⟨rfl,rfl,a1,a3,a4,fun i z y=>by dsimp only at z;lia⟩
   .rw [Lw c];refine LW (hb _ _ (by lia) ?_);dsimp only;cases e:P (hint+hi) with
    | true =>
     rw [Lw (by decide)];exact LS ⟨rfl,rfl,by dsimp only;lia,by dsimp only;lia,by dsimp only;lia,e⟩
    | false =>
     rw [Lz (by decide)];exact LS ⟨rfl,rfl,a1,a3,a4,fun i z y=>Ri _ _ (by dsimp only at z;lia) y e⟩
  .rintro ⟨r,lo,hi⟩ _ ⟨rfl,e,a1,a2,a3,a4⟩;exact ⟨rfl,e,a1,a3,a4,fun i z y=>by dsimp only at z a2;lia⟩
  .rintro ⟨r,lo,hi⟩ _ ⟨rfl,e,a1,a2,a3,a4⟩;dsimp only at e a1 a2 a3 a4 ⊢;subst e;refine yL ?_ (zC (lo:=hint+lo+1) (hi:=hint+min hi (n - hint)) hb hm (by lia) (by lia) (fun i z=>hm _ _ (by lia) a2 a3) a4 h);exact bindC (by congr 1) fun c=>by cases c.1 <;> rfl
 | false =>
  rw [Lw LU];refine LW (MW (MC (I:=fun i (c:Option (Option Nat)×Nat×Nat) O0=>O0=st/\c.1=none/\c.2.1 < c.2.2/\i+1<=c.2.2/\c.2.1<=hint/\P (hint - c.2.1)=false) (Q:=fun (c:Option (Option Nat)×Nat×Nat) O0=>O0=st/\c.1=none/\c.2.1 < c.2.2/\c.2.1<=hint/\P (hint - c.2.1)=false/\∀ i,i < hint+1 - min c.2.2 (hint+1)->P i=true) ?_ ?_ ⟨rfl,rfl,MH _,LA _,Mk _,e⟩) ?_)
  .rintro i ⟨r,lo,hi⟩ _ _ RQ ⟨rfl,e,a1,a2,a3,a4⟩;dsimp only at e a1 a2 a3 a4 ⊢;subst e;by_cases c:hi>=hint+1
   .rw [Lz c];exact LS ⟨rfl,rfl,a1,a3,a4,fun i z=>by dsimp only at z;lia⟩
   .rw [Lw c];refine LW (hb _ _ (by lia) ?_);dsimp only;cases e:P (hint - hi) with
    | true =>
     rw [Lz rfl];exact LS ⟨rfl,rfl,a1,a3,a4,fun i z=>hm _ _ (by dsimp only at z;lia) (by lia) e⟩
    | false =>
     rw [Lw LU];exact LS ⟨rfl,rfl,by dsimp only;lia,by dsimp only;lia,by dsimp only;lia,e⟩
  .rintro ⟨r,lo,hi⟩ _ ⟨rfl,e,a1,a2,a3,a4⟩;exact ⟨rfl,e,a1,a3,a4,fun i z=>by dsimp only at z a2;lia⟩
  .rintro ⟨r,lo,hi⟩ _ ⟨rfl,e,a1,a2,a3,a4⟩;dsimp only at e a1 a2 a3 a4 ⊢;subst e;refine yL ?_ (zC hb hm (by lia) (by lia) a4 (fun i z y=>Ri _ _ z y a3) h);exact bindC (by congr 1) fun c=>by cases c.1 <;> rfl
end
noncomputable def Oi (F:Nat->Keyed) (l:List Nat):Array Keyed:=(l.map F).toArray
section
variable {F:Nat->Keyed} {l m:List Nat}
theorem a7:(Oi F l).size=l.length:=by simp [Oi]
theorem dq:(Oi F l).push (F x)=Oi F (l++[x]):=by simp [Oi]
theorem cG:Oi F l++Oi F m=Oi F (l++m):=by simp [Oi]
theorem sV:(Oi F l).reverse=Oi F l.reverse:=by simp [Oi]
theorem qj:(Oi F l).extract i j=Oi F ((l.drop i).take (j - i)):=by simp [Oi,List.extract_eq_drop_take,List.map_drop,List.map_take]
theorem pB:(Oi F l).extract i l.length=Oi F (l.drop i):=by rw [qj,Mu (by simp)]
theorem pX:(Oi F l).extract 0 j=Oi F (l.take j):=by rw [qj,List.drop_zero,Nat.sub_zero]
theorem E3 {i x:Nat} (h:l[i]?=some x):(Oi F l)[i]?=some (F x):=by simp [Oi,h]
theorem bo (h:l[i]?=some x):l.drop i=x :: l.drop (i+1):=by obtain ⟨hi,e⟩:=Ls.mp h;rw [MN hi,e]
end
structure Mg (lt:Nat->Nat->Bool) (Om o A B:List Nat):Prop where
 sa:(o++A).Pairwise fun x y=>lt x y=true
 sb:(o++B).Pairwise fun x y=>lt x y=true
 pm:(o++(A++B)).Perm Om
section
variable {lt:Nat->Nat->Bool} {Om o A B A1 A2 B1 B2:List Nat} {x y:Nat}
theorem Mg.symm (h:Mg lt Om o A B):Mg lt Om o B A:=⟨h.sb,h.sa,(Nj o List.perm_append_comm).trans h.pm⟩
theorem Mg.left (h:Mg lt Om o (A1++A2) B) (q:∀ x∈A1,∀ y∈B,lt x y=true):Mg lt Om (o++A1) A2 B:=by
 refine ⟨by rw [LC];exact h.sa,?_,by have:=h.pm;simp only [LC] at this ⊢;exact this⟩;have h1:=LX.mp h.sa;have h2:=LX.mp h.sb;have h3:=LX.mp h1.2.1;rw [LC,LX];refine ⟨h1.1,LX.mpr ⟨h3.1,h2.2.1,q⟩,fun a ha b hb=>?_⟩;rcases Mc.mp hb with z | z
 .exact h1.2.2 a ha b (LY _ z)
 .exact h2.2.2 a ha b z
theorem Mg.right (h:Mg lt Om o A (B1++B2)) (q:∀ x∈B1,∀ y∈A,lt x y=true):Mg lt Om (o++B1) A B2:=(h.symm.left q).symm
theorem Mg.len (h:Mg lt Om o A B):o.length+(A.length+B.length)=Om.length:=by simpa using h.pm.length_eq
theorem Mg.wu (O:Ord lt N) (h:Mg lt Om o (x :: A) (y :: B)) (q:lt y x=true):∀ z∈[y],∀ w∈x :: A,lt z w=true:=by
 intro z hz w hw;rw [LF] at hz;subst hz;rcases LJ.mp hw with rfl | hw
 .exact q
 .exact O.tr _ _ _ q ((M9.mp (LX.mp h.sa).2.1).1 _ hw)
theorem Mg.ne (h:Mg lt Om o A B) (nd:Om.Nodup) (hx:x∈A) (hy:y∈B):x≠y:=by have h1:=(Mf.mp (h.pm.nodup_iff.mpr nd)).2.1;exact (Mf.mp h1).2.2 x hx y hy
theorem Mg.T4 (h:Mg lt Om o A B) (hx:x∈A):x∈Om:=h.pm.mem_iff.mp (Lx _ (LY _ hx))
theorem Mg.RC (h:Mg lt Om o A B) (hx:x∈B):x∈Om:=h.symm.T4 hx
theorem Mg.Vb (O:Ord lt N) (nd:Om.Nodup) (bd:∀ x∈Om,x < N) (h:Mg lt Om o A B) (hx:x∈A) (hy:y∈B) (e:lt y x=false):lt x y=true :=
 O.Om y x (bd _ (h.RC hy)) (bd _ (h.T4 hx)) (Ne.symm (h.ne nd hx hy)) e
theorem Mg.low (O:Ord lt N) (h:Mg lt Om o A (y :: B)) (q:∀ x∈A1,lt x y=true):∀ x∈A1,∀ w∈y :: B,lt x w=true:=by
 intro x hx w hw;rcases LJ.mp hw with rfl | hw
 .exact q x hx
 .exact O.tr _ _ _ (q x hx) ((M9.mp (LX.mp h.sb).2.1).1 _ hw)
end
section
variable {M:Model} {E:Qy} {Ar:Around} {s:Qx} {F:Nat->Keyed} {lt:Nat->Nat->Bool} {N:Nat} {κ:SortKind}
theorem aX {W:Type} {l:List Nat} {i x:Nat} {st:SortSt} {f:Keyed->StateT SortSt Sem W} {Q:W->SortSt->Prop} (h:l[i]?=some x) (q:wpS M Ar E s (f (F x)) Q st):wpS M Ar E s (elem' (Oi F l) i>>=f) Q st:=by rw [elem'_eq,E3 h];exact LW (LS q)
def So (M:Model) (Ar:Around) (E:Qy) (s:Qx) (F:Nat->Keyed) (lt:Nat->Nat->Bool) (N:Nat) (κ:SortKind):Prop :=
 ∀ i j (C:Option Bool->SortSt->Prop) st,PyProof.Rows.kindOf st=κ->i < N->j < N->C (some (lt i j)) st->wpS M Ar E s (lt' (F i) (F j)) C st
theorem pN {P:Nat->Bool} {S:List Nat} {k:Nat} (hk:k<=S.length) (h1:∀ i,i < k->∀ x,S[i]?=some x->P x=true) (h2:∀ i,k<=i->i < S.length->∀ x,S[i]?=some x->P x=false) :
  ∃ S1 S2,S=S1++S2/\S1.length=k/\(∀ x∈S1,P x=true)/\∀ x∈S2,P x=false:=by
 refine ⟨S.take k,S.drop k,(List.take_append_drop k S).symm,by rw [Mi];lia,fun x hx=>?_,fun x hx=>?_⟩
 .obtain ⟨i,hi,e⟩:=List.mem_iff_getElem.mp hx;rw [Mi] at hi;exact h1 i (by lia) x (by rw [List.getElem_take] at e;rw [Lp (by lia),e])
 .obtain ⟨i,hi,e⟩:=List.mem_iff_getElem.mp hx;rw [ME] at hi;exact h2 (k+i) (by lia) (by lia) x (by rw [List.getElem_drop] at e;rw [Lp (by lia),e])
theorem qR {left:Bool} {y base n hint:Nat} {l S:List Nat} {st:SortSt} {Q:Option Nat->SortSt->Prop} (O:Ord lt N) (hc:So M Ar E s F lt N κ) (hk:PyProof.Rows.kindOf st=κ)
  (hS:(l.drop base).take n=S) (hl:S.length=n) (hp:S.Pairwise fun x y=>lt x y=true) (hb:∀ x∈S,x < N) (hy:y < N) (hn:hint < n)
  (h:∀ S1 S2,S=S1++S2->(∀ x∈S1,(if left then lt x y else !lt y x)=true)->(∀ x∈S2,(if left then lt x y else !lt y x)=false)->Q (some S1.length) st) :
  wpS M Ar E s (d8 left (F y) (Oi F l) base n hint) Q st:=by
 have hx:∀ i,i < n->∃ x,S[i]?=some x/\l[base+i]?=some x/\x < N:=fun i hi=>by
  refine ⟨S[i]'(by lia),Lp _,?_,hb _ (List.getElem_mem _)⟩;have:((l.drop base).take n)[i]?=S[i]?:=by rw [hS]
  rw [N2 hi,List.getElem?_drop] at this;rw [this,Lp]
 refine xS (P:=fun i=>if left then lt (S.getD i 0) y else !lt y (S.getD i 0)) (fun i C hi hC=>?_) (fun i j RT hj e=>?_) hn fun k hk1 a1 a2=>?_
 .obtain ⟨x,e1,e2,e3⟩:=hx i hi;unfold Xa;refine aX e2 ?_;have eg:S.getD i 0=x:=by rw [Mb,e1];rfl
  rw [eg] at hC;cases left with
  | true =>
   rw [Lz rfl] at hC ⊢;exact hc _ _ _ _ hk e3 hy hC
  | false =>
   rw [Lw LU] at hC ⊢;exact LW (hc _ _ _ _ hk hy e3 (LS hC))
 .rcases Nat.lt_or_eq_of_le RT with z | rfl
  .obtain ⟨x,e1,e2,e3⟩:=hx i (by lia);obtain ⟨x',WO,Ru,Δ⟩:=hx j hj;have eg:S.getD i 0=x:=by rw [Mb,e1];rfl
   have eg':S.getD j 0=x':=by rw [Mb,WO];rfl
   have O7:lt x x'=true:=by obtain ⟨u1,u2⟩:=Ls.mp e1;obtain ⟨u3,u4⟩:=Ls.mp WO;have:=MM.mp hp i j u1 u3 z;rwa [u2,u4] at this
   try dsimp only at e ⊢
   rw [eg'] at e;rw [eg];cases left with
   | true =>
    rw [Lz rfl] at e ⊢;exact O.tr _ _ _ O7 e
   | false =>
    rw [Lw LU] at e ⊢;cases e2:lt y x with
    | false=>rfl
    | true=>rw [O.tr _ _ _ e2 O7] at e;exact e
  .exact e
 .obtain ⟨S1,S2,rfl,e,b1,b2⟩:=pN (S:=S) (P:=fun x=>if left then lt x y else !lt y x) (k:=k) (by lia)
   (fun i hi x e=>by have:=a1 i hi;rwa [Mb,e] at this)
   (fun i hi RQ x e=>by have:=a2 i hi (by lia);rwa [Mb,e] at this)
  rw [<- e];exact h S1 S2 rfl b1 b2
end
noncomputable def jZ:Array Keyed->Array Keyed->StateT SortSt Sem (Array Keyed):=sortPriv% PySem.Builtin.mergeLo
noncomputable def uy:Nat->StateT SortSt Sem Unit:=sortPriv% PySem.Builtin.setMinGallop
theorem gX (g:Nat):uy g=modify fun s=>SortSt.mk' (PyProof.Rows.kindOf s) (arrOf s) (pendingOf s) g (failedOf s):=rfl
abbrev CL:=Option (Array Keyed)×Array Keyed×Nat×Nat×Nat×Nat
abbrev CG:=Option (Array Keyed)×Array Keyed×Nat×Nat×Nat×Nat×Nat
abbrev fA (a b out:Array Keyed) (ia ib:Nat):=out++a.extract ia a.size++b.extract ib b.size
abbrev fL (a b out:Array Keyed) (ia ib:Nat):=out++b.extract ib b.size++a.extract ia a.size
noncomputable def lo1 (a b:Array Keyed) (mg:Nat) (c:CL):StateT SortSt Sem (ForInStep CL):=do
 let some V2<-lt' (<- elem' b c.2.2.2.1) (<- elem' a c.2.2.1) | return .done (some (fA a b c.2.1 c.2.2.1 c.2.2.2.1),c.2)
 if V2 then
  let x<-elem' b c.2.2.2.1
  if c.2.2.2.1+1==b.size then return .done (some (fA a b (c.2.1.push x) c.2.2.1 (c.2.2.2.1+1)),c.2.1.push x,c.2.2.1,c.2.2.2.1+1,0,c.2.2.2.2.2+1)
  if c.2.2.2.2.2+1>=mg then return .done (none,c.2.1.push x,c.2.2.1,c.2.2.2.1+1,0,c.2.2.2.2.2+1)
  return .yield (none,c.2.1.push x,c.2.2.1,c.2.2.2.1+1,0,c.2.2.2.2.2+1)
 else
  let x<-elem' a c.2.2.1
  if c.2.2.1+1+1==a.size then return .done (some (fL a b (c.2.1.push x) (c.2.2.1+1) c.2.2.2.1),c.2.1.push x,c.2.2.1+1,c.2.2.2.1,c.2.2.2.2.1+1,0)
  if c.2.2.2.2.1+1>=mg then return .done (none,c.2.1.push x,c.2.2.1+1,c.2.2.2.1,c.2.2.2.2.1+1,0)
  return .yield (none,c.2.1.push x,c.2.2.1+1,c.2.2.2.1,c.2.2.2.2.1+1,0)
noncomputable def Xb (a b out:Array Keyed) (ia ib mg k k1:Nat):StateT SortSt Sem (ForInStep CG):=do
 let x<-elem' a ia
 if ia+1+1==a.size then return .done (some (fL a b (out.push x) (ia+1) ib),out.push x,ia+1,ib,mg,k,k1)
 if k < 7&&k1 < 7 then return .done (none,out.push x,ia+1,ib,mg,k,k1)
 return .yield (none,out.push x,ia+1,ib,mg,k,k1)
def Xc (a b out:Array Keyed) (ia ib mg k bc:Nat):StateT SortSt Sem (ForInStep CG):=do
 let x<-elem' b ib
 if ib+1==b.size then return .done (some (fA a b (out.push x) ia (ib+1)),out.push x,ia,ib+1,mg,k,bc)
 let some k1<-d8 true (<- elem' a ia) b (ib+1) (b.size - (ib+1)) 0 | return .done (some (fA a b (out.push x) ia (ib+1)),out.push x,ia,ib+1,mg,k,bc)
 if k1 > 0 then
  if ib+1+k1==b.size then return .done (some (fA a b (out.push x++b.extract (ib+1) (ib+1+k1)) ia (ib+1+k1)),out.push x++b.extract (ib+1) (ib+1+k1),ia,ib+1+k1,mg,k,k1)
  else Xb a b (out.push x++b.extract (ib+1) (ib+1+k1)) ia (ib+1+k1) mg k k1
 else Xb a b (out.push x) ia (ib+1) mg k k1
def Xd (a b out:Array Keyed) (ia ib mg ac bc:Nat):StateT SortSt Sem (ForInStep CG):=do
 uy mg
 let some k<-d8 false (<- elem' b ib) a ia (a.size - ia) 0 | return .done (some (fA a b out ia ib),out,ia,ib,mg,ac,bc)
 if k > 0 then
  if ia+k+1==a.size then return .done (some (fL a b (out++a.extract ia (ia+k)) (ia+k) ib),out++a.extract ia (ia+k),ia+k,ib,mg,k,bc)
  else
   if ia+k==a.size then return .done (some (fA a b (out++a.extract ia (ia+k)) (ia+k) ib),out++a.extract ia (ia+k),ia+k,ib,mg,k,bc)
   else Xc a b (out++a.extract ia (ia+k)) (ia+k) ib mg k bc
 else Xc a b out ia ib mg k bc
theorem nV (a b:Array Keyed):jZ a b=(do
 rule "list.sort.merge-lo"
 let x<-elem' b 0
 if 1==b.size then return fA a b #[x] 0 1
 if 0+1==a.size then return fL a b #[x] 0 1
 let st<-get
 let r<-forIn [0:a.size+b.size] ((none,#[x],0,1,gallopOf st):Option (Array Keyed)×Array Keyed×Nat×Nat×Nat) fun _ c=>do
  let d<-forIn [0:a.size+b.size] ((none,c.2.1,c.2.2.1,c.2.2.2.1,0,0):CL) fun _ c'=>lo1 a b c.2.2.2.2 c'
  match d.1 with
  | some r=>pure (.done (some r,d.2.1,d.2.2.1,d.2.2.2.1,c.2.2.2.2))
  | none=>do
   rule "list.sort.gallop"
   let e<-forIn [0:a.size+b.size] ((none,d.2.1,d.2.2.1,d.2.2.2.1,c.2.2.2.2+1,d.2.2.2.2.1,d.2.2.2.2.2):CG) fun _ c' =>
    if c'.2.2.2.2.1 > 1 then Xd a b c'.2.1 c'.2.2.1 c'.2.2.2.1 (c'.2.2.2.2.1 - 1) c'.2.2.2.2.2.1 c'.2.2.2.2.2.2
    else Xd a b c'.2.1 c'.2.2.1 c'.2.2.2.1 c'.2.2.2.2.1 c'.2.2.2.2.2.1 c'.2.2.2.2.2.2
   match e.1 with
   | some r=>pure (.done (some r,e.2.1,e.2.2.1,e.2.2.2.1,e.2.2.2.2.1))
   | none=>do
    uy (e.2.2.2.2.1+1)
    pure (.yield (none,e.2.1,e.2.2.1,e.2.2.2.1,e.2.2.2.2.1+1))
 match r.1 with
 | some r=>pure r
 | none=>unsupported "internal:list.sort.merge-bound"):=by
 unfold jZ;refine bindC rfl fun _=>?_;dsimp only;refine Nl fun x=>?_;congr 1;congr 1;refine Nl fun st=>?_;have:∀ {W B:Type} {m m':StateT SortSt Sem W} {f f':W->StateT SortSt Sem B},m=m'->f=f'->(m>>=f)=(m'>>=f'):=by rintro _ _ _ _ _ _ rfl rfl;rfl
 refine this ?_ ?_
 .congr 1;funext _ c;refine this ?_ ?_
  .congr 1
  .funext d;cases d.1 with
   | some=>rfl
   | none =>
    dsimp only;refine Nl fun _=>?_;refine this ?_ ?_
    .congr 1
    .funext d;cases d.1 <;> rfl
 .funext r;cases r.1 <;> rfl
section
variable {M:Model} {E:Qy} {Ar:Around} {s:Qx} {F:Nat->Keyed} {lt:Nat->Nat->Bool} {N:Nat} {κ:SortKind} {X:Array Keyed} {pd:Array (Nat×Nat×Nat)} {la lb Om:List Nat}
def FI (F:Nat->Keyed) (lt:Nat->Nat->Bool) (κ:SortKind) (X:Array Keyed) (pd:Array (Nat×Nat×Nat)) (Om:List Nat) (r:Array Keyed) (st:SortSt):Prop:=∃ o g,r=Oi F o/\st=SortSt.mk' κ X pd g none/\o.Pairwise (fun x y=>lt x y=true)/\o.Perm Om
def LI (F:Nat->Keyed) (lt:Nat->Nat->Bool) (κ:SortKind) (X:Array Keyed) (pd:Array (Nat×Nat×Nat)) (Om la lb:List Nat) (L:Nat) (out:Array Keyed) (ia ib:Nat) (st:SortSt):Prop :=
 ∃ o g,out=Oi F o/\st=SortSt.mk' κ X pd g none/\L<=o.length/\Mg lt Om o (la.drop ia) (lb.drop ib)/\ia+1 < la.length/\ib < lb.length
def RD (F:Nat->Keyed) (lt:Nat->Nat->Bool) (κ:SortKind) (X:Array Keyed) (pd:Array (Nat×Nat×Nat)) (Om la lb:List Nat) (L:Nat) (c:Option (Array Keyed)) (out:Array Keyed) (ia ib:Nat) (st:SortSt):Prop :=
 (∃ r,c=some r/\FI F lt κ X pd Om r st)\/(c=none/\LI F lt κ X pd Om la lb L out ia ib st)
def RG (F:Nat->Keyed) (lt:Nat->Nat->Bool) (κ:SortKind) (X:Array Keyed) (pd:Array (Nat×Nat×Nat)) (Om la lb:List Nat) (L:Nat):ForInStep CG->SortSt->Prop
 | .done c,st=>RD F lt κ X pd Om la lb L c.1 c.2.1 c.2.2.1 c.2.2.2.1 st
 | .yield c,st=>c.1=none/\LI F lt κ X pd Om la lb L c.2.1 c.2.2.1 c.2.2.2.1 st
theorem EA (h:Mg lt Om o (la.drop ia) (lb.drop ib)) (e:la.length<=ia\/lb.length<=ib):FI F lt κ X pd Om (fA (Oi F la) (Oi F lb) (Oi F o) ia ib) (SortSt.mk' κ X pd g none):=by
 refine ⟨o++la.drop ia++lb.drop ib,g,by unfold fA;rw [a7,a7,pB,pB,cG,cG],rfl,?_,by rw [LC];exact h.pm⟩;rcases e with e | e
 .rw [List.drop_eq_nil_of_le e,L7];exact h.sb
 .rw [List.drop_eq_nil_of_le e,L7];exact h.sa
theorem Gg (hz:la[la.length - 1]?=some z) (Py:∀ y∈lb,lt y z=true) (h:Mg lt Om o (la.drop ia) (lb.drop ib)) (e:ia+1=la.length):FI F lt κ X pd Om (fL (Oi F la) (Oi F lb) (Oi F o) ia ib) (SortSt.mk' κ X pd g none):=by
 have ez:la.drop ia=[z]:=by rw [bo (x:=z) (by rw [<- hz];congr 1;lia),List.drop_eq_nil_of_le (by lia)]
 refine ⟨o++lb.drop ib++la.drop ia,g,by unfold fL;rw [a7,a7,pB,pB,cG,cG],rfl,?_,by rw [LC];exact h.symm.pm⟩;have h2:=h.symm;rw [<- L7 (lb.drop ib)] at h2;refine (h2.left fun y hy w hw=>?_).symm.sa;rw [ez,LF] at hw;subst hw;exact Py y (List.mem_of_mem_drop hy)
theorem gQ {l S1 S2:List Nat} {i:Nat} (h:l.drop i=S1++S2):l.drop (i+S1.length)=S2:=by rw [<- List.drop_drop,h,NV]
theorem pA {l S1 S2:List Nat} {i:Nat} (h:l.drop i=S1++S2):l.length - i=S1.length+S2.length:=by rw [<- ME,h,Ln]
theorem yD (h:l.drop i=S1++S2):(Oi F l).extract i (i+S1.length)=Oi F S1:=by rw [qj,h,M6,List.take_left]
theorem yw (hz:la[la.length - 1]?=some z) (Py:∀ y∈lb,lt y z=true) (h:Mg lt Om o (la.drop ia) (lb.drop ib)) (ha:ia+1 < la.length) (hb:ib < lb.length) (hx:la[ia]?=some x) (q:∀ y∈lb.drop ib,lt x y=true) (hL:L<=o.length+1) :
  wpS M Ar E s (Xb (Oi F la) (Oi F lb) (Oi F o) ia ib mg k k1) (RG F lt κ X pd Om la lb L) (SortSt.mk' κ X pd g none):=by
 unfold Xb;refine aX hx ?_;rw [dq,a7];have h':Mg lt Om (o++[x]) (la.drop (ia+1)) (lb.drop ib):=by rw [bo hx] at h;exact Mg.left (A1:=[x]) h fun w hw y hy=>by rw [LF] at hw;subst hw;exact q y hy
 have P9:L<=(o++[x]).length:=by rw [Ln];exact hL
 by_cases c:ia+1+1=la.length
 .rw [Lz (by rw [c];exact Mo _)];exact LS (.inl ⟨_,rfl,Gg hz Py h' c⟩)
 .rw [Lw (by rw [Ma];exact c)];split
  .exact LS (.inr ⟨rfl,_,_,rfl,rfl,P9,h',by dsimp only;lia,hb⟩)
  .exact LS ⟨rfl,_,_,rfl,rfl,P9,h',by dsimp only;lia,hb⟩
variable (O:Ord lt N) (nd:Om.Nodup) (bd:∀ x∈Om,x < N) (hc:So M Ar E s F lt N κ)
include O nd bd hc
theorem zb {o:List Nat} {ia ib mg k bc y g z L:Nat} (hz:la[la.length - 1]?=some z) (Py:∀ y∈lb,lt y z=true) (h:Mg lt Om o (la.drop ia) (lb.drop ib)) (ha:ia+1 < la.length) (hb:ib < lb.length) (hy:lb[ib]?=some y) (q:∀ x∈la.drop ia,lt y x=true) (hL:L<=o.length+1) :
  wpS M Ar E s (Xc (Oi F la) (Oi F lb) (Oi F o) ia ib mg k bc) (RG F lt κ X pd Om la lb L) (SortSt.mk' κ X pd g none):=by
 unfold Xc;refine aX hy ?_;rw [dq,a7];have h':Mg lt Om (o++[y]) (la.drop ia) (lb.drop (ib+1)):=by rw [bo hy] at h;exact Mg.right (B1:=[y]) h fun w hw v hv=>by rw [LF] at hw;subst hw;exact q v hv
 have P9:L<=(o++[y]).length:=by rw [Ln];exact hL
 by_cases c:ib+1=lb.length
 .rw [Lz (by rw [c];exact Mo _)];exact LS (.inl ⟨_,rfl,EA h' (.inr (by lia))⟩)
 .rw [Lw (by rw [Ma];exact c)];obtain ⟨x,hx⟩:∃ x,la[ia]?=some x:=⟨_,Lp (by lia)⟩;refine aX hx ?_;have Sq:x∈la.drop ia:=by rw [bo hx];exact Lq ..
  refine LW (qR (S:=lb.drop (ib+1)) O hc rfl (Mu (by simp)) (by simp) (LX.mp h'.sb).2.1 (fun w hw=>bd _ (h'.RC hw)) (bd _ (h'.T4 Sq)) (by lia) fun S1 S2 eS q1 q2=>?_);dsimp only;have RE:∀ w∈S2,lt x w=true:=fun w hw=>by have:=q2 w hw;rw [Lz rfl] at this;exact h'.Vb O nd bd Sq (by rw [eS];exact Lx _ hw) this
  have h2:Mg lt Om (o++[y]++S1) (la.drop ia) (lb.drop (ib+1+S1.length)):=by rw [gQ eS];rw [eS] at h';refine h'.right ?_;rw [bo hx] at h' ⊢;exact h'.symm.low O fun w hw=>q1 w hw
  by_cases c2:S1.length > 0
  .rw [Lz c2,yD eS,cG];by_cases c3:ib+1+S1.length=lb.length
   .rw [Lz (by rw [c3];exact Mo _)];exact LS (.inl ⟨_,rfl,EA h2 (.inr (by lia))⟩)
   .rw [Lw (by rw [Ma];exact c3)];refine yw hz Py h2 ha ?_ hx (by rw [gQ eS];exact RE) (by rw [Ln];lia);have:=pA eS;lia
  .rw [Lw c2];have e0:S1=[]:=L5 (by lia);subst e0;exact yw hz Py h' ha (by lia) hx (by rw [eS];exact RE) (by lia)
theorem Fe {o:List Nat} {ia ib mg ac bc g z L:Nat} (hz:la[la.length - 1]?=some z) (Py:∀ y∈lb,lt y z=true) (h:Mg lt Om o (la.drop ia) (lb.drop ib)) (ha:ia+1 < la.length) (hb:ib < lb.length) (hL:L<=o.length+1) :
  wpS M Ar E s (Xd (Oi F la) (Oi F lb) (Oi F o) ia ib mg ac bc) (RG F lt κ X pd Om la lb L) (SortSt.mk' κ X pd g none):=by
 unfold Xd;rw [gX];refine LW (Nx ?_);obtain ⟨y,hy⟩:∃ y,lb[ib]?=some y:=⟨_,Lp hb⟩;refine aX hy ?_;have Sr:y∈lb.drop ib:=by rw [bo hy];exact Lq ..
 rw [a7];refine LW (qR (S:=la.drop ia) O hc rfl (Mu (by simp)) (by simp) (LX.mp h.sa).2.1 (fun w hw=>bd _ (h.T4 hw)) (bd _ (h.RC Sr)) (by lia) fun S1 S2 eS q1 q2=>?_);dsimp only;have RF:∀ w∈S1,lt w y=true:=fun w hw=>by have:=q1 w hw;rw [Lw LU,Bool.not_eq_true'] at this;exact h.Vb O nd bd (by rw [eS];exact LY _ hw) Sr this
 have RE:∀ w∈S2,lt y w=true:=fun w hw=>by have:=q2 w hw;rwa [Lw LU,Bool.not_eq_false'] at this
 have h2:Mg lt Om (o++S1) (la.drop (ia+S1.length)) (lb.drop ib):=by rw [gQ eS];rw [eS] at h;refine h.left ?_;rw [bo hy] at h ⊢;exact h.low O RF
 have hl:=pA eS;by_cases c2:S1.length > 0
 .rw [Lz c2,yD eS,cG];by_cases c3:ia+S1.length+1=la.length
  .rw [Lz (by rw [c3];exact Mo _)];exact LS (.inl ⟨_,rfl,Gg hz Py h2 c3⟩)
  .rw [Lw (by rw [Ma];exact c3)];by_cases c4:ia+S1.length=la.length
   .rw [Lz (by rw [c4];exact Mo _)];exact LS (.inl ⟨_,rfl,EA h2 (.inl (by lia))⟩)
   .rw [Lw (by rw [Ma];exact c4)];exact zb O nd bd hc hz Py h2 (by lia) hb hy (by rw [gQ eS];exact RE) (by rw [Ln];lia)
 .rw [Lw c2];have e0:S1=[]:=L5 (by lia);subst e0;exact zb O nd bd hc hz Py h ha hb hy (by rw [eS];exact RE) hL
theorem Eu (hz:la[la.length - 1]?=some z) (Py:∀ y∈lb,lt y z=true) (h:Mg lt Om o (la.drop ia) (lb.drop ib)) (ha:ia+1 < la.length) (hb:ib < lb.length) (hL:L<=o.length+1) :
  wpS M Ar E s (lo1 (Oi F la) (Oi F lb) mg (none,Oi F o,ia,ib,ac,bc)) (fun r st=>(∃ c,r=.done c/\RD F lt κ X pd Om la lb L c.1 c.2.1 c.2.2.1 c.2.2.2.1 st)\/∃ c,r=.yield c/\c.1=none/\LI F lt κ X pd Om la lb L c.2.1 c.2.2.1 c.2.2.2.1 st) (SortSt.mk' κ X pd g none):=by
 unfold lo1;obtain ⟨y,hy⟩:∃ y,lb[ib]?=some y:=⟨_,Lp hb⟩;obtain ⟨x,hx⟩:∃ x,la[ia]?=some x:=⟨_,Lp (by lia)⟩;have Sq:x∈la.drop ia:=by rw [bo hx];exact Lq ..
 have Sr:y∈lb.drop ib:=by rw [bo hy];exact Lq ..
 dsimp only;refine aX hy (aX hx (LW (hc _ _ _ _ rfl (bd _ (h.RC Sr)) (bd _ (h.T4 Sq)) ?_)));dsimp only;cases e:lt y x with
 | true =>
  rw [Lz rfl];refine aX hy ?_;rw [dq,a7];have h':Mg lt Om (o++[y]) (la.drop ia) (lb.drop (ib+1)):=by rw [bo hy] at h;refine Mg.right (B1:=[y]) h ?_;rw [bo hx] at h ⊢;exact h.wu O e
  have P9:L<=(o++[y]).length:=by rw [Ln];exact hL
  by_cases c:ib+1=lb.length
  .rw [Lz (by rw [c];exact Mo _)];exact LS (.inl ⟨_,rfl,.inl ⟨_,rfl,EA h' (.inr (by lia))⟩⟩)
  .rw [Lw (by rw [Ma];exact c)];split
   .exact LS (.inl ⟨_,rfl,.inr ⟨rfl,_,_,rfl,rfl,P9,h',ha,by dsimp only;lia⟩⟩)
   .exact LS (.inr ⟨_,rfl,rfl,_,_,rfl,rfl,P9,h',ha,by dsimp only;lia⟩)
 | false =>
  rw [Lw LU];refine aX hx ?_;rw [dq,a7];have e':=h.Vb O nd bd Sq Sr e;have h':Mg lt Om (o++[x]) (la.drop (ia+1)) (lb.drop ib):=by rw [bo hx] at h;refine Mg.left (A1:=[x]) h ?_;rw [bo hy] at h ⊢;exact h.symm.wu O e'
  have P9:L<=(o++[x]).length:=by rw [Ln];exact hL
  by_cases c:ia+1+1=la.length
  .rw [Lz (by rw [c];exact Mo _)];exact LS (.inl ⟨_,rfl,.inl ⟨_,rfl,Gg hz Py h' c⟩⟩)
  .rw [Lw (by rw [Ma];exact c)];split
   .exact LS (.inl ⟨_,rfl,.inr ⟨rfl,_,_,rfl,rfl,P9,h',by dsimp only;lia,hb⟩⟩)
   .exact LS (.inr ⟨_,rfl,rfl,_,_,rfl,rfl,P9,h',by dsimp only;lia,hb⟩)
theorem tS (hz:la[la.length - 1]?=some z) (Py:∀ y∈lb,lt y z=true) (hy:lb=y :: B) (Qa:∀ x∈la,lt y x=true) (sa:la.Pairwise fun x y=>lt x y=true) (sb:lb.Pairwise fun x y=>lt x y=true) (et:Om=la++lb)
  (h:∀ r st,FI F lt κ X pd Om r st->Q r st):wpS M Ar E s (jZ (Oi F la) (Oi F lb)) Q (SortSt.mk' κ X pd g none):=by
 have Yx:1<=la.length:=by
  rcases Nat.eq_zero_or_pos la.length with e | e
  .rw [L5 e] at hz;cases hz
  .exact e
 have hbl:lb.length=B.length+1:=by rw [hy];rfl
 have hl:Om.length=la.length+lb.length:=by rw [et,Ln]
 have h0:Mg lt Om [y] (la.drop 0) (lb.drop 1):=by have m0:Mg lt Om [] la (y :: B):=⟨sa,by rw [<- hy];exact sb,by rw [<- hy,<-et];exact M8 _⟩;rw [hy];exact Mg.right (B1:=[y]) m0 fun w hw x hx=>by rw [LF] at hw;subst hw;exact Qa x hx
 rw [nV];refine LW (wpS_lift (MT ⟨rfl,?_⟩));refine aX (x:=y) (by rw [hy];rfl) ?_;rw [show (#[F y]:Array Keyed)=Oi F [y] from rfl,a7,a7];by_cases c:1=lb.length
 .rw [Lz (by rw [<- c];rfl)];exact LS (h _ _ (EA h0 (.inr (by lia))))
 rw [Lw (by rw [Ma];exact c)];by_cases c:0+1=la.length
 .rw [Lz (by rw [<- c];rfl)];exact LS (h _ _ (Gg hz Py h0 c))
 rw [Lw (by rw [Ma];exact c)];refine LW (N7 ?_);refine LW (MW (MC (I:=fun i (c:Option (Array Keyed)×Array Keyed×Nat×Nat×Nat) st=>c.1=none/\LI F lt κ X pd Om la lb (i+1) c.2.1 c.2.2.1 c.2.2.2.1 st) (Q:=fun (c:Option (Array Keyed)×Array Keyed×Nat×Nat×Nat) st=>∃ r,c.1=some r/\FI F lt κ X pd Om r st) ?_ ?_ ⟨rfl,[y],_,rfl,rfl,LA _,h0,by dsimp only;lia,by dsimp only;lia⟩) ?_)
 .rintro i ⟨r,out,ia,ib,mg⟩ st _ hi ⟨e,o,g,e1,rfl,hL,hM,ha,hb⟩;dsimp only at e e1 hM ha hb ⊢;subst e e1;refine LW (MW (MC (I:=fun j (c:CL) st=>c.1=none/\LI F lt κ X pd Om la lb (i+1+min j 1) c.2.1 c.2.2.1 c.2.2.2.1 st) (Q:=fun (c:CL) st=>RD F lt κ X pd Om la lb (i+2) c.1 c.2.1 c.2.2.1 c.2.2.2.1 st) ?_ ?_ ⟨rfl,o,_,rfl,rfl,hL,hM,ha,hb⟩) ?_)
  .rintro j ⟨r,out,ia,ib,ac,bc⟩ st _ hj ⟨e,o,g,e1,rfl,hL,hM,ha,hb⟩;dsimp only at e e1 hM ha hb hL ⊢;subst e e1;refine MW (Eu O nd bd hc (L:=i+2) hz Py hM ha hb (by lia)) ?_;rintro r st (⟨c,rfl,q⟩ | ⟨c,rfl,e,o,g,q1,q2,q3,q4⟩)
   .exact q
   .exact ⟨e,o,g,q1,q2,by lia,q4⟩
  .rintro ⟨r,out,ia,ib,ac,bc⟩ st ⟨e,o,g,q1,q2,q3,q4⟩;exact .inr ⟨e,o,g,q1,q2,by lia,q4⟩
  .rintro ⟨r,out,ia,ib,ac,bc⟩ st (⟨r,e,q⟩ | ⟨e,o,g,e1,rfl,hL,hM,ha,hb⟩)
   .dsimp only at e ⊢;subst e;exact LS ⟨r,rfl,q⟩
   dsimp only at e e1 hM ha hb hL ⊢;subst e e1;refine LW (wpS_lift (MT ⟨rfl,?_⟩));refine LW (MW (MC (I:=fun j (c:CG) st=>c.1=none/\LI F lt κ X pd Om la lb (i+2) c.2.1 c.2.2.1 c.2.2.2.1 st) (Q:=fun (c:CG) st=>RD F lt κ X pd Om la lb (i+2) c.1 c.2.1 c.2.2.1 c.2.2.2.1 st) ?_ ?_ ⟨rfl,o,_,rfl,rfl,hL,hM,ha,hb⟩) ?_)
   .rintro j ⟨r,out,ia,ib,mg,ac,bc⟩ st _ hj ⟨e,o,g,e1,rfl,hL,hM,ha,hb⟩;dsimp only at e e1 hM ha hb hL ⊢;subst e e1;split
    all_goals
     refine MW (Fe O nd bd hc (L:=i+2) hz Py hM ha hb (by lia)) ?_;rintro (c | c) st q
     .exact q
     .exact q
   .rintro ⟨r,out,ia,ib,mg,ac,bc⟩ st ⟨e,q⟩;exact .inr ⟨e,q⟩
   .rintro ⟨r,out,ia,ib,mg,ac,bc⟩ st (⟨r,e,q⟩ | ⟨e,o,g,e1,rfl,hL,hM,ha,hb⟩)
    .dsimp only at e ⊢;subst e;exact LS ⟨r,rfl,q⟩
    dsimp only at e e1 hM ha hb hL ⊢;subst e e1;rw [gX];exact LW (Nx (LS ⟨rfl,o,_,rfl,rfl,hL,hM,ha,hb⟩))
 .rintro ⟨r,out,ia,ib,mg⟩ st ⟨e,o,g,e1,rfl,hL,hM,ha,hb⟩;exfalso;have:=hM.len;rw [ME,ME] at this;dsimp only at this ha hb;lia
 .rintro ⟨r,out,ia,ib,mg⟩ st ⟨r,e,q⟩;dsimp only at e ⊢;subst e;exact LS (h _ _ q)
end
noncomputable def kJ:Array Keyed->Array Keyed->StateT SortSt Sem (Array Keyed):=sortPriv% PySem.Builtin.mergeHi
abbrev DL:=Option (Array Keyed)×Nat×Nat×Array Keyed×Nat×Nat
abbrev DG:=Option (Array Keyed)×Nat×Nat×Array Keyed×Nat×Nat×Nat
abbrev gA (a b out:Array Keyed) (na nb:Nat):=a.extract 0 na++b.extract 0 nb++out.reverse
abbrev gB (a b out:Array Keyed) (na nb:Nat):=b.extract 0 nb++a.extract 0 na++out.reverse
noncomputable def V3 (a b:Array Keyed) (mg:Nat) (c:DL):StateT SortSt Sem (ForInStep DL):=do
 let some V4<-lt' (<- elem' b (c.2.2.1 - 1)) (<- elem' a (c.2.1 - 1)) | return .done (some (gA a b c.2.2.2.1 c.2.1 c.2.2.1),c.2)
 if V4 then
  let x<-elem' a (c.2.1 - 1)
  if c.2.1 - 1==0 then return .done (some (gA a b (c.2.2.2.1.push x) (c.2.1 - 1) c.2.2.1),c.2.1 - 1,c.2.2.1,c.2.2.2.1.push x,c.2.2.2.2.1+1,0)
  if c.2.2.2.2.1+1>=mg then return .done (none,c.2.1 - 1,c.2.2.1,c.2.2.2.1.push x,c.2.2.2.2.1+1,0)
  return .yield (none,c.2.1 - 1,c.2.2.1,c.2.2.2.1.push x,c.2.2.2.2.1+1,0)
 else
  let x<-elem' b (c.2.2.1 - 1)
  if c.2.2.1 - 1==1 then return .done (some (gB a b (c.2.2.2.1.push x) c.2.1 (c.2.2.1 - 1)),c.2.1,c.2.2.1 - 1,c.2.2.2.1.push x,0,c.2.2.2.2.2+1)
  if c.2.2.2.2.2+1>=mg then return .done (none,c.2.1,c.2.2.1 - 1,c.2.2.2.1.push x,0,c.2.2.2.2.2+1)
  return .yield (none,c.2.1,c.2.2.1 - 1,c.2.2.2.1.push x,0,c.2.2.2.2.2+1)
noncomputable def Xe (a b out:Array Keyed) (na nb mg k k1:Nat):StateT SortSt Sem (ForInStep DG):=do
 let x<-elem' a (na - 1)
 if na - 1==0 then return .done (some (gA a b (out.push x) (na - 1) nb),na - 1,nb,out.push x,mg,k,k1)
 if k < 7&&k1 < 7 then return .done (none,na - 1,nb,out.push x,mg,k,k1)
 return .yield (none,na - 1,nb,out.push x,mg,k,k1)
def Xf (a b out:Array Keyed) (na nb mg k bc:Nat):StateT SortSt Sem (ForInStep DG):=do
 let x<-elem' b (nb - 1)
 if nb - 1==1 then return .done (some (gB a b (out.push x) na (nb - 1)),na,nb - 1,out.push x,mg,k,bc)
 let some k1<-d8 true (<- elem' a (na - 1)) b 0 (nb - 1) (nb - 1 - 1) | return .done (some (gA a b (out.push x) na (nb - 1)),na,nb - 1,out.push x,mg,k,bc)
 if nb - 1 - k1 > 0 then
  if k1==1 then return .done (some (gB a b (out.push x++(b.extract k1 (nb - 1)).reverse) na k1),na,k1,out.push x++(b.extract k1 (nb - 1)).reverse,mg,k,nb - 1 - k1)
  else
   if k1==0 then return .done (some (gA a b (out.push x++(b.extract k1 (nb - 1)).reverse) na k1),na,k1,out.push x++(b.extract k1 (nb - 1)).reverse,mg,k,nb - 1 - k1)
   else Xe a b (out.push x++(b.extract k1 (nb - 1)).reverse) na k1 mg k (nb - 1 - k1)
 else Xe a b (out.push x) na (nb - 1) mg k (nb - 1 - k1)
def Rj (a b out:Array Keyed) (na nb mg ac bc:Nat):StateT SortSt Sem (ForInStep DG):=do
 uy mg
 let some k<-d8 false (<- elem' b (nb - 1)) a 0 na (na - 1) | return .done (some (gA a b out na nb),na,nb,out,mg,ac,bc)
 if na - k > 0 then
  if k==0 then return .done (some (gA a b (out++(a.extract k na).reverse) k nb),k,nb,out++(a.extract k na).reverse,mg,na - k,bc)
  else Xf a b (out++(a.extract k na).reverse) k nb mg (na - k) bc
 else Xf a b out na nb mg (na - k) bc
theorem om (a b:Array Keyed):kJ a b=(do
 rule "list.sort.merge-hi"
 let x<-elem' a (a.size - 1)
 if a.size - 1==0 then return gA a b #[x] (a.size - 1) b.size
 if b.size==1 then return gB a b #[x] (a.size - 1) b.size
 let st<-get
 let r<-forIn [0:a.size+b.size] ((none,a.size - 1,b.size,#[x],gallopOf st):Option (Array Keyed)×Nat×Nat×Array Keyed×Nat) fun _ c=>do
  let d<-forIn [0:a.size+b.size] ((none,c.2.1,c.2.2.1,c.2.2.2.1,0,0):DL) fun _ c'=>V3 a b c.2.2.2.2 c'
  match d.1 with
  | some r=>pure (.done (some r,d.2.1,d.2.2.1,d.2.2.2.1,c.2.2.2.2))
  | none=>do
   rule "list.sort.gallop"
   let e<-forIn [0:a.size+b.size] ((none,d.2.1,d.2.2.1,d.2.2.2.1,c.2.2.2.2+1,d.2.2.2.2.1,d.2.2.2.2.2):DG) fun _ c' =>
    if c'.2.2.2.2.1 > 1 then Rj a b c'.2.2.2.1 c'.2.1 c'.2.2.1 (c'.2.2.2.2.1 - 1) c'.2.2.2.2.2.1 c'.2.2.2.2.2.2
    else Rj a b c'.2.2.2.1 c'.2.1 c'.2.2.1 c'.2.2.2.2.1 c'.2.2.2.2.2.1 c'.2.2.2.2.2.2
   match e.1 with
   | some r=>pure (.done (some r,e.2.1,e.2.2.1,e.2.2.2.1,e.2.2.2.2.1))
   | none=>do
    uy (e.2.2.2.2.1+1)
    pure (.yield (none,e.2.1,e.2.2.1,e.2.2.2.1,e.2.2.2.2.1+1))
 match r.1 with
 | some r=>pure r
 | none=>unsupported "internal:list.sort.merge-bound"):=by
 unfold kJ;refine bindC rfl fun _=>?_;dsimp only;refine Nl fun x=>?_;congr 1;congr 1;refine Nl fun st=>?_;have:∀ {W B:Type} {m m':StateT SortSt Sem W} {f f':W->StateT SortSt Sem B},m=m'->f=f'->(m>>=f)=(m'>>=f'):=by rintro _ _ _ _ _ _ rfl rfl;rfl
 refine this ?_ ?_
 .congr 1;funext _ c;refine this ?_ ?_
  .congr 1
  .funext d;cases d.1 with
   | some=>rfl
   | none =>
    dsimp only;refine Nl fun _=>?_;refine this ?_ ?_
    .congr 1
    .funext d;cases d.1 <;> rfl
 .funext r;cases r.1 <;> rfl
section
variable {M:Model} {E:Qy} {Ar:Around} {s:Qx} {F:Nat->Keyed} {lt:Nat->Nat->Bool} {N:Nat} {κ:SortKind} {X:Array Keyed} {pd:Array (Nat×Nat×Nat)} {la lb Om:List Nat}
theorem Ord.flip (O:Ord lt N):Ord (fun x y=>lt y x) N:=⟨O.T2,fun i j k a b=>O.tr _ _ _ b a,fun i j hi hj hn e=>O.Om j i hj hi (Ne.symm hn) e⟩
abbrev OE (l:List Nat) (n:Nat):List Nat:=(l.take n).reverse
theorem gH (hn:0 < n) (h:l[n - 1]?=some x):OE l n=x :: OE l (n - 1):=by obtain ⟨m,rfl⟩:∃ m,n=m+1:=⟨n - 1,by lia⟩;rw [Nat.add_sub_cancel] at h ⊢;obtain ⟨hi,e⟩:=Ls.mp h;unfold OE;rw [List.take_add_one,h,List.reverse_append];rfl
theorem uD (h:n<=l.length):(OE l n).length=n:=by rw [MX,Mi];lia
theorem jY {l S1 S2:List Nat} {n:Nat} (h:l.take n=S1++S2):l.take S1.length=S1:=by
 have:(l.take n).take S1.length=S1:=by rw [h,List.take_left]
 rw [List.take_take] at this;have e:S1.length<=n:=by have h2:=congrArg List.length h;rw [Mi,Ln] at h2;lia
 rwa [Nat.min_eq_left e] at this
theorem og {l S1 S2:List Nat} {n:Nat} (h:l.take n=S1++S2):OE l n=S2.reverse++OE l S1.length:=by unfold OE;rw [jY h,h,List.reverse_append]
theorem yH (h:l.take n=S1++S2):((Oi F l).extract S1.length n).reverse=Oi F S2.reverse:=by rw [qj,<-List.drop_take,h,NV,sV]
def HI (F:Nat->Keyed) (lt:Nat->Nat->Bool) (κ:SortKind) (X:Array Keyed) (pd:Array (Nat×Nat×Nat)) (Om la lb:List Nat) (L:Nat) (out:Array Keyed) (na nb:Nat) (st:SortSt):Prop :=
 ∃ o g,out=Oi F o/\st=SortSt.mk' κ X pd g none/\L<=o.length/\Mg (fun x y=>lt y x) Om o (OE la na) (OE lb nb)/\(0 < na/\na<=la.length)/\1 < nb/\nb<=lb.length
def HD (F:Nat->Keyed) (lt:Nat->Nat->Bool) (κ:SortKind) (X:Array Keyed) (pd:Array (Nat×Nat×Nat)) (Om la lb:List Nat) (L:Nat) (c:Option (Array Keyed)) (out:Array Keyed) (na nb:Nat) (st:SortSt):Prop :=
 (∃ r,c=some r/\FI F lt κ X pd Om r st)\/(c=none/\HI F lt κ X pd Om la lb L out na nb st)
def HG (F:Nat->Keyed) (lt:Nat->Nat->Bool) (κ:SortKind) (X:Array Keyed) (pd:Array (Nat×Nat×Nat)) (Om la lb:List Nat) (L:Nat):ForInStep DG->SortSt->Prop
 | .done c,st=>HD F lt κ X pd Om la lb L c.1 c.2.2.2.1 c.2.1 c.2.2.1 st
 | .yield c,st=>c.1=none/\HI F lt κ X pd Om la lb L c.2.2.2.1 c.2.1 c.2.2.1 st
theorem y9 {o A B:List Nat}:(A++B++o.reverse).Perm (o++(A.reverse++B.reverse)) :=
 List.perm_append_comm.trans (List.Perm.append (ND _) (List.Perm.append (ND _).symm (ND _).symm))
theorem zr {o A:List Nat} (h:(o++A.reverse).Pairwise fun x y=>lt y x=true):(A++o.reverse).Pairwise fun x y=>lt x y=true:=by have:=MZ.mpr h;rwa [List.reverse_append,List.reverse_reverse] at this
theorem sh {o:List Nat} {na nb g:Nat} (h:Mg (fun x y=>lt y x) Om o (OE la na) (OE lb nb)) (e:na=0\/nb=0):FI F lt κ X pd Om (gA (Oi F la) (Oi F lb) (Oi F o) na nb) (SortSt.mk' κ X pd g none):=by
 refine ⟨la.take na++lb.take nb++o.reverse,g,by unfold gA;rw [pX,pX,sV,cG,cG],rfl,?_,y9.trans h.pm⟩;rcases e with rfl | rfl
 .rw [List.take_zero,Mv];exact zr h.sb
 .rw [List.take_zero,L7];exact zr h.sa
theorem wH {o:List Nat} {na nb g y:Nat} (hy:lb[0]?=some y) (Qa:∀ x∈la,lt y x=true) (h:Mg (fun x y=>lt y x) Om o (OE la na) (OE lb nb)) (e:nb=1):FI F lt κ X pd Om (gB (Oi F la) (Oi F lb) (Oi F o) na nb) (SortSt.mk' κ X pd g none):=by
 subst e;have ey:OE lb 1=[y]:=by rw [gH Nat.one_pos hy];unfold OE;rfl
 refine ⟨lb.take 1++la.take na++o.reverse,g,by unfold gB;rw [pX,pX,sV,cG,cG],rfl,?_,y9.trans h.symm.pm⟩;rw [<- L7 (OE la na)] at h
 have h2:=(h.left fun x hx w hw=>by
  rw [ey,LF] at hw;subst hw
  exact Qa x (Nn (MR.mp hx))).sb
 have:=MZ.mpr h2;unfold OE at this;simpa only [List.reverse_append,List.reverse_reverse,LC] using this
theorem zh (h:Mg (fun x y=>lt y x) Om o (OE la na) (OE lb nb)) (ha:0 < na/\na<=la.length) (hb:1 < nb/\nb<=lb.length) (hx:la[na - 1]?=some x) (q:∀ y∈OE lb nb,lt y x=true) (hL:L<=o.length+1) :
  wpS M Ar E s (Xe (Oi F la) (Oi F lb) (Oi F o) na nb mg k k1) (HG F lt κ X pd Om la lb L) (SortSt.mk' κ X pd g none):=by
 unfold Xe;refine aX hx ?_;rw [dq];have h':Mg (fun x y=>lt y x) Om (o++[x]) (OE la (na - 1)) (OE lb nb):=by rw [gH ha.1 hx] at h;exact Mg.left (A1:=[x]) h fun w hw y hy=>by rw [LF] at hw;subst hw;exact q y hy
 have P9:L<=(o++[x]).length:=by rw [Ln];exact hL
 by_cases c:na - 1=0
 .rw [Lz (by rw [c];rfl)];exact LS (.inl ⟨_,rfl,sh h' (.inl c)⟩)
 .rw [Lw (by rw [Ma];exact c)];split
  .exact LS (.inr ⟨rfl,_,_,rfl,rfl,P9,h',by dsimp only;lia,hb⟩)
  .exact LS ⟨rfl,_,_,rfl,rfl,P9,h',by dsimp only;lia,hb⟩
variable (O:Ord lt N) (nd:Om.Nodup) (bd:∀ x∈Om,x < N) (hc:So M Ar E s F lt N κ)
include O nd bd hc
theorem yG {o:List Nat} {na nb mg k bc y y0 g L:Nat} (Q0:lb[0]?=some y0) (PC:∀ x∈la,lt y0 x=true) (h:Mg (fun x y=>lt y x) Om o (OE la na) (OE lb nb)) (ha:0 < na/\na<=la.length) (hb:1 < nb/\nb<=lb.length) (hy:lb[nb - 1]?=some y) (q:∀ x∈OE la na,lt x y=true) (hL:L<=o.length+1) :
  wpS M Ar E s (Xf (Oi F la) (Oi F lb) (Oi F o) na nb mg k bc) (HG F lt κ X pd Om la lb L) (SortSt.mk' κ X pd g none):=by
 unfold Xf;refine aX hy ?_;rw [dq];have h':Mg (fun x y=>lt y x) Om (o++[y]) (OE la na) (OE lb (nb - 1)):=by rw [gH (by lia) hy] at h;exact Mg.right (B1:=[y]) h fun w hw v hv=>by rw [LF] at hw;subst hw;exact q v hv
 have P9:L<=(o++[y]).length:=by rw [Ln];exact hL
 by_cases c:nb - 1=1
 .rw [Lz (by rw [c];rfl)];exact LS (.inl ⟨_,rfl,wH Q0 PC h' c⟩)
 .rw [Lw (by rw [Ma];exact c)];obtain ⟨x,hx⟩:∃ x,la[na - 1]?=some x:=⟨_,Lp (by lia)⟩;refine aX hx ?_;have ex:=gH ha.1 hx;have Sq:x∈OE la na:=by rw [ex];exact Lq ..
  have sb:=(LX.mp h'.sb).2.1;refine LW (qR (S:=lb.take (nb - 1)) O hc rfl (by rw [List.drop_zero]) (by rw [Mi];lia) (by have:=MZ.mpr sb;unfold OE at this;rwa [List.reverse_reverse] at this) (fun w hw=>bd _ (h'.RC (MR.mpr hw))) (bd _ (h'.T4 Sq)) (by lia) fun S1 S2 eS q1 q2=>?_);dsimp only;have hl:S1.length+S2.length=nb - 1:=by rw [<- Ln,<-eS,Mi];lia
  have RE:∀ w∈S2.reverse,lt x w=true:=fun w hw=>by have:=q2 w (MR.mp hw);rw [Lz rfl] at this;exact Mg.Vb (lt:=fun x y=>lt y x) O.flip nd bd h'.symm (by rw [og eS];exact LY _ hw) Sq this
  have h2:Mg (fun x y=>lt y x) Om (o++[y]++S2.reverse) (OE la na) (OE lb S1.length):=by rw [og eS] at h';refine h'.right ?_;rw [ex] at h' ⊢;exact h'.symm.low O.flip fun w hw=>RE w hw
  have RF:∀ w∈OE lb S1.length,lt w x=true:=fun w hw=>by unfold OE at hw;rw [jY eS,MR] at hw;exact q1 w hw
  by_cases c2:nb - 1 - S1.length > 0
  .rw [Lz c2,yH eS,cG];by_cases c3:S1.length=1
   .rw [Lz (by rw [c3];rfl)];exact LS (.inl ⟨_,rfl,wH Q0 PC h2 c3⟩)
   .rw [Lw (by rw [Ma];exact c3)];by_cases c4:S1.length=0
    .rw [Lz (by rw [c4];rfl)];exact LS (.inl ⟨_,rfl,sh h2 (.inr c4)⟩)
    .rw [Lw (by rw [Ma];exact c4)];exact zh h2 ha (by lia) hx RF (by rw [Ln];lia)
  .rw [Lw c2];have e0:S1.length=nb - 1:=by lia
   rw [e0] at RF;exact zh h' ha (by lia) hx RF (by lia)
theorem EX {o:List Nat} {na nb mg ac bc y0 g L:Nat} (Q0:lb[0]?=some y0) (PC:∀ x∈la,lt y0 x=true) (h:Mg (fun x y=>lt y x) Om o (OE la na) (OE lb nb)) (ha:0 < na/\na<=la.length) (hb:1 < nb/\nb<=lb.length) (hL:L<=o.length+1) :
  wpS M Ar E s (Rj (Oi F la) (Oi F lb) (Oi F o) na nb mg ac bc) (HG F lt κ X pd Om la lb L) (SortSt.mk' κ X pd g none):=by
 unfold Rj;rw [gX];refine LW (Nx ?_);obtain ⟨y,hy⟩:∃ y,lb[nb - 1]?=some y:=⟨_,Lp (by lia)⟩;refine aX hy ?_;have ey:=gH (by lia) hy;have Sr:y∈OE lb nb:=by rw [ey];exact Lq ..
 have sa:=(LX.mp h.sa).2.1;refine LW (qR (S:=la.take na) O hc rfl (by rw [List.drop_zero]) (by rw [Mi];lia) (by have:=MZ.mpr sa;unfold OE at this;rwa [List.reverse_reverse] at this) (fun w hw=>bd _ (h.T4 (MR.mpr hw))) (bd _ (h.RC Sr)) (by lia) fun S1 S2 eS q1 q2=>?_);dsimp only;have hl:S1.length+S2.length=na:=by rw [<- Ln,<-eS,Mi];lia
 have RF:∀ w∈OE la S1.length,lt w y=true:=fun w hw=>by unfold OE at hw;rw [jY eS,MR] at hw;have:=q1 w hw;rw [Lw LU,Bool.not_eq_true'] at this;exact Mg.Vb (lt:=fun x y=>lt y x) O.flip nd bd h.symm Sr (by rw [MR,eS];exact LY _ hw) this
 have RE:∀ w∈S2.reverse,lt y w=true:=fun w hw=>by have:=q2 w (MR.mp hw);rwa [Lw LU,Bool.not_eq_false'] at this
 have h2:Mg (fun x y=>lt y x) Om (o++S2.reverse) (OE la S1.length) (OE lb nb):=by rw [og eS] at h;refine h.left ?_;rw [ey] at h ⊢;exact h.low O.flip RE
 by_cases c2:na - S1.length > 0
 .rw [Lz c2,yH eS,cG];by_cases c3:S1.length=0
  .rw [Lz (by rw [c3];rfl)];exact LS (.inl ⟨_,rfl,sh h2 (.inl c3)⟩)
  .rw [Lw (by rw [Ma];exact c3)];exact yG O nd bd hc Q0 PC h2 (by lia) hb hy RF (by rw [Ln];lia)
 .rw [Lw c2];have e0:S1.length=na:=by lia
  rw [e0] at RF;exact yG O nd bd hc Q0 PC h ha hb hy RF hL
theorem EC (Q0:lb[0]?=some y0) (PC:∀ x∈la,lt y0 x=true) (h:Mg (fun x y=>lt y x) Om o (OE la na) (OE lb nb)) (ha:0 < na/\na<=la.length) (hb:1 < nb/\nb<=lb.length) (hL:L<=o.length+1) :
  wpS M Ar E s (V3 (Oi F la) (Oi F lb) mg (none,na,nb,Oi F o,ac,bc)) (fun r st=>(∃ c,r=.done c/\HD F lt κ X pd Om la lb L c.1 c.2.2.2.1 c.2.1 c.2.2.1 st)\/∃ c,r=.yield c/\c.1=none/\HI F lt κ X pd Om la lb L c.2.2.2.1 c.2.1 c.2.2.1 st) (SortSt.mk' κ X pd g none):=by
 unfold V3;obtain ⟨y,hy⟩:∃ y,lb[nb - 1]?=some y:=⟨_,Lp (by lia)⟩;obtain ⟨x,hx⟩:∃ x,la[na - 1]?=some x:=⟨_,Lp (by lia)⟩;have ex:=gH ha.1 hx;have ey:=gH (by lia) hy;have Sq:x∈OE la na:=by rw [ex];exact Lq ..
 have Sr:y∈OE lb nb:=by rw [ey];exact Lq ..
 dsimp only;refine aX hy (aX hx (LW (hc _ _ _ _ rfl (bd _ (h.RC Sr)) (bd _ (h.T4 Sq)) ?_)));dsimp only;cases e:lt y x with
 | true =>
  rw [Lz rfl];refine aX hx ?_;rw [dq];have h':Mg (fun x y=>lt y x) Om (o++[x]) (OE la (na - 1)) (OE lb nb):=by rw [ex] at h;refine Mg.left (A1:=[x]) h ?_;rw [ey] at h ⊢;exact h.symm.wu O.flip e
  have P9:L<=(o++[x]).length:=by rw [Ln];exact hL
  by_cases c:na - 1=0
  .rw [Lz (by rw [c];rfl)];exact LS (.inl ⟨_,rfl,.inl ⟨_,rfl,sh h' (.inl c)⟩⟩)
  .rw [Lw (by rw [Ma];exact c)];split
   .exact LS (.inl ⟨_,rfl,.inr ⟨rfl,_,_,rfl,rfl,P9,h',by dsimp only;lia,hb⟩⟩)
   .exact LS (.inr ⟨_,rfl,rfl,_,_,rfl,rfl,P9,h',by dsimp only;lia,hb⟩)
 | false =>
  rw [Lw LU];refine aX hy ?_;rw [dq];have e':=Mg.Vb (lt:=fun x y=>lt y x) O.flip nd bd h.symm Sr Sq e;have h':Mg (fun x y=>lt y x) Om (o++[y]) (OE la na) (OE lb (nb - 1)):=by rw [ey] at h;refine Mg.right (B1:=[y]) h ?_;rw [ex] at h ⊢;exact h.wu O.flip e'
  have P9:L<=(o++[y]).length:=by rw [Ln];exact hL
  by_cases c:nb - 1=1
  .rw [Lz (by rw [c];rfl)];exact LS (.inl ⟨_,rfl,.inl ⟨_,rfl,wH Q0 PC h' c⟩⟩)
  .rw [Lw (by rw [Ma];exact c)];split
   .exact LS (.inl ⟨_,rfl,.inr ⟨rfl,_,_,rfl,rfl,P9,h',ha,by dsimp only;lia⟩⟩)
   .exact LS (.inr ⟨_,rfl,rfl,_,_,rfl,rfl,P9,h',ha,by dsimp only;lia⟩)
theorem vK (hz:la[la.length - 1]?=some z) (Py:∀ y∈lb,lt y z=true) (Q0:lb[0]?=some y0) (PC:∀ x∈la,lt y0 x=true) (sa:la.Pairwise fun x y=>lt x y=true) (sb:lb.Pairwise fun x y=>lt x y=true) (et:Om=la++lb)
  (h:∀ r st,FI F lt κ X pd Om r st->Q r st):wpS M Ar E s (kJ (Oi F la) (Oi F lb)) Q (SortSt.mk' κ X pd g none):=by
 have Yx:1<=la.length:=by
  rcases Nat.eq_zero_or_pos la.length with e | e
  .rw [L5 e] at hz;cases hz
  .exact e
 have hbl:1<=lb.length:=by
  rcases Nat.eq_zero_or_pos lb.length with e | e
  .rw [L5 e] at Q0;cases Q0
  .exact e
 have hl:Om.length=la.length+lb.length:=by rw [et,Ln]
 have h0:Mg (fun x y=>lt y x) Om [z] (OE la (la.length - 1)) (OE lb lb.length):=by
  have m0:Mg (fun x y=>lt y x) Om [] (OE la la.length) (OE lb lb.length):=by unfold OE;rw [Mx,Mx];exact ⟨MZ.mpr sa,MZ.mpr sb,by rw [et,Mv];exact List.Perm.append (ND _) (ND _)⟩
  rw [gH Yx hz] at m0;refine Mg.left (A1:=[z]) m0 fun w hw x hx=>?_;rw [LF] at hw;subst hw;unfold OE at hx;rw [Mx,MR] at hx;exact Py x hx
 rw [om];refine LW (wpS_lift (MT ⟨rfl,?_⟩));rw [a7,a7];refine aX hz ?_;rw [show (#[F z]:Array Keyed)=Oi F [z] from rfl];by_cases c:la.length - 1=0
 .rw [Lz (by rw [c];rfl)];exact LS (h _ _ (sh h0 (.inl c)))
 rw [Lw (by rw [Ma];exact c)];by_cases c:lb.length=1
 .rw [Lz (by rw [c];rfl)];exact LS (h _ _ (wH Q0 PC h0 c))
 rw [Lw (by rw [Ma];exact c)];refine LW (N7 ?_);refine LW (MW (MC (I:=fun i (c:Option (Array Keyed)×Nat×Nat×Array Keyed×Nat) st=>c.1=none/\HI F lt κ X pd Om la lb (i+1) c.2.2.2.1 c.2.1 c.2.2.1 st) (Q:=fun (c:Option (Array Keyed)×Nat×Nat×Array Keyed×Nat) st=>∃ r,c.1=some r/\FI F lt κ X pd Om r st) ?_ ?_ ⟨rfl,[z],_,rfl,rfl,LA _,h0,by dsimp only;lia,by dsimp only;lia⟩) ?_)
 .rintro i ⟨r,na,nb,out,mg⟩ st _ hi ⟨e,o,g,e1,rfl,hL,hM,ha,hb⟩;dsimp only at e e1 hM ha hb ⊢;subst e e1;refine LW (MW (MC (I:=fun j (c:DL) st=>c.1=none/\HI F lt κ X pd Om la lb (i+1+min j 1) c.2.2.2.1 c.2.1 c.2.2.1 st) (Q:=fun (c:DL) st=>HD F lt κ X pd Om la lb (i+2) c.1 c.2.2.2.1 c.2.1 c.2.2.1 st) ?_ ?_ ⟨rfl,o,_,rfl,rfl,hL,hM,ha,hb⟩) ?_)
  .rintro j ⟨r,na,nb,out,ac,bc⟩ st _ hj ⟨e,o,g,e1,rfl,hL,hM,ha,hb⟩;dsimp only at e e1 hM ha hb hL ⊢;subst e e1;refine MW (EC O nd bd hc (L:=i+2) Q0 PC hM ha hb (by lia)) ?_;rintro r st (⟨c,rfl,q⟩ | ⟨c,rfl,e,o,g,q1,q2,q3,q4⟩)
   .exact q
   .exact ⟨e,o,g,q1,q2,by lia,q4⟩
  .rintro ⟨r,na,nb,out,ac,bc⟩ st ⟨e,o,g,q1,q2,q3,q4⟩;exact .inr ⟨e,o,g,q1,q2,by lia,q4⟩
  .rintro ⟨r,na,nb,out,ac,bc⟩ st (⟨r,e,q⟩ | ⟨e,o,g,e1,rfl,hL,hM,ha,hb⟩)
   .dsimp only at e ⊢;subst e;exact LS ⟨r,rfl,q⟩
   dsimp only at e e1 hM ha hb hL ⊢;subst e e1;refine LW (wpS_lift (MT ⟨rfl,?_⟩));refine LW (MW (MC (I:=fun j (c:DG) st=>c.1=none/\HI F lt κ X pd Om la lb (i+2) c.2.2.2.1 c.2.1 c.2.2.1 st) (Q:=fun (c:DG) st=>HD F lt κ X pd Om la lb (i+2) c.1 c.2.2.2.1 c.2.1 c.2.2.1 st) ?_ ?_ ⟨rfl,o,_,rfl,rfl,hL,hM,ha,hb⟩) ?_)
   .rintro j ⟨r,na,nb,out,mg,ac,bc⟩ st _ hj ⟨e,o,g,e1,rfl,hL,hM,ha,hb⟩;dsimp only at e e1 hM ha hb hL ⊢;subst e e1;split
    all_goals
     refine MW (EX O nd bd hc (L:=i+2) Q0 PC hM ha hb (by lia)) ?_;rintro (c | c) st q
     .exact q
     .exact q
   .rintro ⟨r,na,nb,out,mg,ac,bc⟩ st ⟨e,q⟩;exact .inr ⟨e,q⟩
   .rintro ⟨r,na,nb,out,mg,ac,bc⟩ st (⟨r,e,q⟩ | ⟨e,o,g,e1,rfl,hL,hM,ha,hb⟩)
    .dsimp only at e ⊢;subst e;exact LS ⟨r,rfl,q⟩
    dsimp only at e e1 hM ha hb hL ⊢;subst e e1;rw [gX];exact LW (Nx (LS ⟨rfl,o,_,rfl,rfl,hL,hM,ha,hb⟩))
 .rintro ⟨r,na,nb,out,mg⟩ st ⟨e,o,g,e1,rfl,hL,hM,ha,hb⟩;exfalso;have:=hM.len;dsimp only at this ha hb;rw [uD ha.2,uD hb.2] at this;lia
 .rintro ⟨r,na,nb,out,mg⟩ st ⟨r,e,q⟩;dsimp only at e ⊢;subst e;exact LS (h _ _ q)
end
noncomputable def putAll (n:Nat) (a:Array Keyed) (m:List (Keyed×Nat)):Array Keyed:=m.foldl (fun a p=>a.setIfInBounds (n+p.2) p.1) a
theorem lN:∀ (m U P T:List Keyed) (k:Nat) (a:Array Keyed),a.toList=P++U++T->P.length=n+k->U.length=m.length->(putAll n a (m.zipIdx k)).toList=P++m++T
 | [],[],P,T,k,a,h,_,_=>h
 | p :: m,u :: U,P,T,k,a,h,e,el=>by rw [List.zipIdx_cons];show (putAll n (a.setIfInBounds (n+k) p) (m.zipIdx (k+1))).toList=_;rw [lN m U (P++[p]) T (k+1) _ (by rw [Array.toList_setIfInBounds,h,<-e];simp) (by rw [Ln,e];rfl) (by simpa using el)];simp
 | [],u :: U,P,T,k,a,h,_,el=>by cases el
 | p :: m,[],P,T,k,a,h,_,el=>by cases el
theorem tT (h:U.length=o.length):putAll P.length (Oi F (P++U++T)) (Oi F o).toList.zipIdx=Oi F (P++o++T):=by apply N6.mp;rw [lN (Oi F o).toList (U.map F) (P.map F) (T.map F) 0 _ (by simp [Oi]) (by simp) (by simp [Oi,h])];simp [Oi]
section
variable {M:Model} {E:Qy} {Ar:Around} {s:Qx} {F:Nat->Keyed} {lt:Nat->Nat->Bool} {N:Nat} {κ:SortKind} {pd:Array (Nat×Nat×Nat)}
theorem zK {Y:Type} {st O0:Y} {Q:PUnit->Y->Prop} (h:Q ⟨⟩ O0):wpS M Ar E s (set O0:StateT Y Sem PUnit) Q st:=by unfold wpS;rw [StateT.run_set];exact Lu ⟨rfl,h⟩
theorem Rk {l:List Nat} {z:Nat} (hp:l.Pairwise fun x y=>lt x y=true) (hz:l[l.length - 1]?=some z) {x:Nat} (hx:x∈l):x=z\/lt x z=true:=by
 obtain ⟨i,hi,e⟩:=List.mem_iff_getElem.mp hx;obtain ⟨h1,e1⟩:=Ls.mp hz;by_cases c:i=l.length - 1
 .subst c;exact .inl (e.symm.trans e1)
 .exact .inr (by have:=MM.mp hp i (l.length - 1) hi h1 (by lia);rwa [e,e1] at this)
theorem uL {pre X Y post:List Nat} {i g pw pw2:Nat} {Q:Bool->SortSt->Prop} (O:Ord lt N) (nd:(X++Y).Nodup) (bd:∀ x∈X++Y,x < N) (hc:So M Ar E s F lt N κ)
  (h1:pd[i]?=some (pre.length,X.length,pw)) (h2:pd[i+1]?=some (pre.length+X.length,Y.length,pw2)) (hX:X≠[]) (hY:Y≠[]) (sX:X.Pairwise fun x y=>lt x y=true) (sY:Y.Pairwise fun x y=>lt x y=true)
  (h:∀ Z g,Z.Pairwise (fun x y=>lt x y=true)->Z.Perm (X++Y)->Q true (SortSt.mk' κ (Oi F (pre++Z++post)) ((pd.setIfInBounds i (pre.length,X.length+Y.length,pw)).eraseIdxIfInBounds (i+1)) g none)) :
  wpS M Ar E s (mergeAt' i) Q (SortSt.mk' κ (Oi F (pre++(X++Y)++post)) pd g none):=by
 obtain ⟨y0,Y',rfl⟩:∃ y0 Y',Y=y0 :: Y':=by cases Y with | nil=>exact absurd rfl hY | cons a b=>exact ⟨a,b,rfl⟩
 have hXl:0 < X.length:=List.length_pos_iff.mpr hX;have dis:∀ x∈X,∀ y∈y0 :: Y',x≠y:=fun x hx y hy=>(Mf.mp nd).2.2 x hx y hy;have bX:∀ x∈X,x < N:=fun x hx=>bd x (LY _ hx);have bY:∀ x∈y0 :: Y',x < N:=fun x hx=>bd x (Lx _ hx);have Q0:∀ y∈y0 :: Y',y0=y\/lt y0 y=true:=fun y hy=>by
  rcases LJ.mp hy with rfl | hy
  .exact .inl rfl
  .exact .inr ((M9.mp sY).1 _ hy)
 have up:∀ {x y:Nat},lt x y0=true->y∈y0 :: Y'->lt x y=true:=fun e hy=>by
  rcases Q0 _ hy with rfl | z
  .exact e
  .exact O.tr _ _ _ e z
 unfold mergeAt';refine LW (N7 ?_);dsimp only [SortSt.mk'];rw [h1,h2];dsimp only;refine LW (zK ?_);refine aX (x:=y0) (by rw [LC,Lr (by lia),LC,Lr (by lia)];simp) ?_;refine LW (qR (S:=X) O hc rfl (by simp) rfl sX bX (bY _ (Lq ..)) hXl fun X1 X2 eX q1 q2=>?_);dsimp only;have RF:∀ x∈X1,lt x y0=true:=fun x hx=>by
  have:=q1 x hx;rw [Lw LU,Bool.not_eq_true'] at this;have P1:x∈X:=by rw [eX];exact LY _ hx
  exact O.Om _ _ (bY _ (Lq ..)) (bX _ P1) (Ne.symm (dis _ P1 _ (Lq ..))) this
 have RE:∀ x∈X2,lt y0 x=true:=fun x hx=>by have:=q2 x hx;rwa [Lw LU,Bool.not_eq_false'] at this
 have hl:X.length=X1.length+X2.length:=by rw [eX,Ln]
 rw [show X.length - X1.length=X2.length by lia];by_cases c:X2.length=0
 .rw [Lz (by rw [c];rfl)];have e0:=L5 c;subst e0;rw [L7] at eX;subst eX;exact LS (h _ _ (LX.mpr ⟨sX,sY,fun x hx y hy=>up (RF x hx) hy⟩) (M8 _))
 rw [Lw (by rw [Ma];exact c)];obtain ⟨z,hz⟩:∃ z,X2[X2.length - 1]?=some z:=⟨_,Lp (by lia)⟩;have hzm:z∈X2:=LP hz;have YI:z∈X:=by rw [eX];exact Lx _ hzm
 have YJ:X2.Pairwise fun x y=>lt x y=true:=by rw [eX] at sX;exact (LX.mp sX).2.1
 refine aX (x:=z) (by rw [eX,show pre.length+X1.length+X2.length - 1=pre.length+(X1.length+(X2.length - 1)) by lia,LC,Lr (by lia),M6,LC,LC,Lr (by lia),M6,LL (by lia)];exact hz) ?_;refine LW (qR (S:=y0 :: Y') O hc rfl (by rw [<- LC,<-Ln,LC,NV,List.take_left]) rfl sY bY (bX _ YI) (by simp) fun Y1 Y2 eY r1 r2=>?_);dsimp only;have YK:∀ y∈Y2,lt z y=true:=fun y hy=>by
  have:=r2 y hy;rw [Lz rfl] at this;have Qa:y∈y0 :: Y':=by rw [eY];exact Lx _ hy
  exact O.Om _ _ (bY _ Qa) (bX _ YI) (Ne.symm (dis _ YI _ Qa)) this
 have zup:∀ x∈X2,∀ y∈Y2,lt x y=true:=fun x hx y hy=>by
  rcases Rk YJ hz hx with rfl | e
  .exact YK y hy
  .exact O.tr _ _ _ e (YK y hy)
 by_cases c1:Y1.length=0
 .exfalso;have e0:=L5 c1;subst e0;rw [Mv] at eY;have a1:=YK y0 (by rw [<- eY];exact Lq ..);have a2:=O.tr _ _ _ a1 (RE z hzm);rw [O.T2] at a2;exact absurd a2 (by decide)
 rw [Lw (by rw [Ma];exact c1)];obtain ⟨B,eB⟩:∃ B,Y1=y0 :: B:=by
  cases Y1 with
  | nil=>exact absurd rfl c1
  | cons a b=>exact ⟨b,by rw [My] at eY;rw [(List.cons.inj eY).1]⟩
 have ex:(Oi F (pre++(X++y0 :: Y')++post)).extract (pre.length+X1.length) (pre.length+X.length)=Oi F X2:=by rw [qj,eX,show pre.length+(X1++X2).length - (pre.length+X1.length)=X2.length by rw [Ln];lia];congr 1;rw [<- Ln,show pre++(X1++X2++y0 :: Y')++post=(pre++X1)++(X2++(y0 :: Y'++post)) by simp,NV,List.take_left]
 have ey:(Oi F (pre++(X++y0 :: Y')++post)).extract (pre.length+X.length) (pre.length+X.length+Y1.length)=Oi F Y1:=by rw [qj,M6,eY];congr 1;rw [<- Ln,show pre++(X++(Y1++Y2))++post=(pre++X)++(Y1++(Y2++post)) by simp,NV,List.take_left]
 rw [ex,ey];have V5:=sY;rw [eY] at V5;have Py:∀ y∈Y1,lt y z=true:=fun y hy=>by have:=r1 y hy;rwa [Lz rfl] at this
 have nd2:(X2++Y1).Nodup:=by rw [eX,eY,LC] at nd;have n2:=(Mf.mp nd).2.1;rw [<- LC] at n2;exact (Mf.mp n2).1
 have bd2:∀ x∈X2++Y1,x < N:=fun x hx=>by
  rcases Mc.mp hx with hx | hx
  .exact bX x (by rw [eX];exact Lx _ hx)
  .exact bY x (by rw [eY];exact LY _ hx)
 have fin:∀ (r:Array Keyed) (st:SortSt),FI F lt κ (Oi F (pre++(X++y0 :: Y')++post)) ((pd.setIfInBounds i (pre.length,X.length+(y0 :: Y').length,pw)).eraseIdxIfInBounds (i+1)) (X2++Y1) r st ->
   wpS M Ar E s (do
    modify fun s=>setArr s (putAll (pre.length+X1.length) (arrOf s) r.toList.zipIdx)
    let st<-get
    pure (failedOf st).isNone) Q st:=by
  rintro _ _ ⟨o,g,rfl,rfl,so,po⟩;refine LW (Nx (LW (N7 (LS ?_))));show Q true (SortSt.mk' κ (putAll (pre.length+X1.length) (Oi F (pre++(X++y0 :: Y')++post)) (Oi F o).toList.zipIdx) _ g none);have e1:putAll (pre.length+X1.length) (Oi F (pre++(X++y0 :: Y')++post)) (Oi F o).toList.zipIdx=Oi F (pre++(X1++o++Y2)++post):=by rw [<- Ln,eX,eY,show pre++(X1++X2++(Y1++Y2))++post=(pre++X1)++(X2++Y1)++(Y2++post) by simp,tT po.length_eq.symm];simp
  rw [e1];refine h _ _ ?_ ?_
  .have YL:=sX;rw [eX] at YL;rw [LC];refine LX.mpr ⟨(LX.mp YL).1,LX.mpr ⟨so,(LX.mp V5).2.1,fun x hx y hy=>?_⟩,fun x hx y hy=>?_⟩
   .rcases Mc.mp (po.mem_iff.mp hx) with hx | hx
    .exact zup x hx y hy
    .exact (LX.mp V5).2.2 x hx y hy
   .rcases Mc.mp hy with hy | hy
    .rcases Mc.mp (po.mem_iff.mp hy) with hy | hy
     .exact (LX.mp YL).2.2 x hx y hy
     .exact up (RF x hx) (by rw [eY];exact LY _ hy)
    .exact up (RF x hx) (by rw [eY];exact Lx _ hy)
  .rw [eX,eY,LC,LC];refine Nj _ ?_;rw [<- LC];exact List.Perm.append_right _ po
 split
 .exact LW (tS O nd2 bd2 hc hz Py eB RE YJ (LX.mp V5).1 rfl fin)
 .exact LW (vK O nd2 bd2 hc hz Py (y0:=y0) (by rw [eB];rfl) RE YJ (LX.mp V5).1 rfl fin)
end
section
variable {F:Nat->Keyed}
theorem eJ {l:List Nat} {k:Nat}:(Oi F l)[k]?=(l[k]?).map F:=by simp [Oi]
theorem tQ {pre S T:List Nat}:mirror (Oi F (pre++(S++T))) pre.length (pre.length+S.length) ((pre.length+S.length - pre.length) / 2)=Oi F (pre++(S.reverse++T)):=by
 apply Array.ext_getElem?;intro k;rw [getElem?_mirror_all (by rw [a7,Ln,Ln];lia),eJ,eJ,eJ];by_cases c1:k < pre.length
 .rw [Lw (by lia),LL c1,LL c1]
 .rw [Lr (l₁:=pre) (i:=k) (by lia),Lr (l₁:=pre) (i:=k) (by lia)];by_cases c2:k < pre.length+S.length
  .rw [Lz (by lia),Lr (by lia),LL (by lia),LL (by rw [MX];lia),List.getElem?_reverse (by lia)];congr 2;lia
  .rw [Lw (by lia),Lr (l₁:=S) (by lia),Lr (l₁:=S.reverse) (by rw [MX];lia),MX]
theorem u6 {pre S1 S2 T:List Nat} {x:Nat}:bubble (Oi F (pre++(S1++S2++x :: T))) (pre.length+(S1++S2).length) (pre.length+(S1++S2).length - (pre.length+S1.length))=Oi F (pre++(S1++x :: S2++T)):=by
 apply Array.ext_getElem?;intro k;have hs:pre.length+(S1++S2).length < (Oi F (pre++(S1++S2++x :: T))).size:=by rw [a7];simp only [Ln,LN];lia
 rw [getElem?_bubble hs _ (by lia),eJ,eJ,eJ,eJ,show pre++(S1++S2++x :: T)=(pre++S1)++(S2++x :: T) by simp,show pre++(S1++x :: S2++T)=(pre++S1)++(x :: (S2++T)) by simp];rw [Ln];have hl:(pre++S1).length=pre.length+S1.length:=Ln;have e0:pre.length+(S1.length+S2.length) - (pre.length+(S1.length+S2.length) - (pre.length+S1.length))=pre.length+S1.length:=by lia
 rw [e0];by_cases c1:k=pre.length+S1.length
 .subst c1;rw [Lz rfl,Lr (by lia),Lr (l₁:=pre++S1) (by lia),hl,show pre.length+(S1.length+S2.length) - (pre.length+S1.length)=S2.length by lia,Lr (by lia),M1,M1];rfl
 .rw [Lw c1];by_cases c2:k < pre.length+S1.length
  .rw [Lw (by lia),LL (l₁:=pre++S1) (by lia),LL (l₁:=pre++S1) (by lia)]
  .by_cases c3:k<=pre.length+(S1.length+S2.length)
   .rw [Lz (by lia),Lr (by lia),Lr (l₁:=pre++S1) (i:=k) (by lia),hl,LL (by lia),show k - (pre.length+S1.length)=(k - 1 - (pre.length+S1.length))+1 by lia,List.getElem?_cons_succ,LL (by lia)]
   .rw [Lw (by lia),Lr (by lia),Lr (l₁:=pre++S1) (i:=k) (by lia),hl,Lr (l₁:=S2) (by lia),show k - (pre.length+S1.length)=(k - (pre.length+S1.length) - 1)+1 by lia,List.getElem?_cons_succ,Lr (l₁:=S2) (by lia),show k - (pre.length+S1.length) - 1+1 - S2.length=(k - (pre.length+S1.length) - 1 - S2.length)+1 by lia,List.getElem?_cons_succ]
end
noncomputable def Kh (lo:Nat) (c:Option (Option Nat)×Nat):StateT SortSt Sem (ForInStep (Option (Option Nat)×Nat)):=do
 let some smaller<-ltAt' (lo+c.2) (lo+c.2 - 1) | return .done (some none,c.2)
 if smaller then return .done (none,c.2)
 return .yield (none,c.2+1)
section
variable {M:Model} {E:Qy} {Ar:Around} {s:Qx} {F:Nat->Keyed} {lt:Nat->Nat->Bool} {N:Nat} {κ:SortKind} {pd:Array (Nat×Nat×Nat)} {g:Nat}
theorem md (hc:So M Ar E s F lt N κ) (bd:∀ x∈l,x < N) (hi:l[i]?=some x) (hj:l[j]?=some y) (q:Q (some (lt x y)) (SortSt.mk' κ (Oi F l) pd g none)):wpS M Ar E s (ltAt' i j) Q (SortSt.mk' κ (Oi F l) pd g none):=by rw [ltAt'_eq];refine LW (N7 ?_);exact aX hi (aX hj (hc _ _ _ _ rfl (bd _ (LP hi)) (bd _ (LP hj)) q))
theorem gJ {pre S T:List Nat} {k x:Nat} (h:(S++T)[k]?=some x):(pre++(S++T))[pre.length+k]?=some x:=by rw [Lr (by lia),M6,h]
theorem vI {S:List Nat} (h:0 < S.length):∃ z,S[S.length - 1]?=some z:=⟨_,Lp (by lia)⟩
theorem Rl (O:Ord lt N) (hp:S.Pairwise fun x y=>lt x y=true) (hz:S[S.length - 1]?=some x) (e:lt x y=true):(S++[y]).Pairwise fun x y=>lt x y=true:=by
 refine LX.mpr ⟨hp,N4 _ _,fun a ha b hb=>?_⟩;rw [LF] at hb;subst hb;rcases Rk hp hz ha with rfl | z
 .exact e
 .exact O.tr _ _ _ z e
theorem EB {pre S T:List Nat} {n PD:Nat} {Q:Option (Option Nat)×Nat->SortSt->Prop} (O:Ord lt N) (hc:So M Ar E s F lt N κ) (bd:∀ x∈pre++(S++T),x < N) (nd:(S++T).Nodup) (hn:S.length=n) (h1:1<=n) (hr:(S++T).length=PD) (sS:S.Pairwise fun x y=>lt x y=true)
  (h:∀ S' T',S'++T'=S++T->S'.Pairwise (fun x y=>lt x y=true)->n<=S'.length->(∀ x y P4,T'=y :: P4->S'[S'.length - 1]?=some x->lt y x=true)->Q (none,S'.length) (SortSt.mk' κ (Oi F (pre++(S++T))) pd g none)) :
  wpS M Ar E s (forIn [n:PD] ((none,n):Option (Option Nat)×Nat) fun _ c=>Kh pre.length c) Q (SortSt.mk' κ (Oi F (pre++(S++T))) pd g none):=by
 refine MC (I:=fun i (c:Option (Option Nat)×Nat) st=>c=(none,i)/\st=SortSt.mk' κ (Oi F (pre++(S++T))) pd g none/\∃ S' T',S'++T'=S++T/\S'.Pairwise (fun x y=>lt x y=true)/\S'.length=i) ?_ ?_ ⟨rfl,rfl,S,T,rfl,sS,hn⟩
 .rintro i _ _ V3 Rj ⟨rfl,rfl,S',T',e,Qb,el⟩;unfold Kh;dsimp only;obtain ⟨x,hx⟩:=vI (S:=S') (by lia);have hl:S'.length+T'.length=PD:=by rw [<- Ln,e,hr]
  obtain ⟨y,P4,rfl⟩:∃ y P4,T'=y :: P4:=by cases T' with | nil=>rw [MV] at hl;lia | cons a b=>exact ⟨a,b,rfl⟩
  rw [<- e] at bd h nd ⊢;refine LW (md hc bd (x:=y) (y:=x) (gJ (by rw [<- el,Lr (LA _),M1];rfl)) (by rw [Nat.add_sub_assoc (by lia)];exact gJ (by rw [<- el,LL (by lia)];exact hx)) ?_);dsimp only;cases c:lt y x with
  | true =>
   rw [Lz rfl];have:=h S' (y :: P4) rfl Qb (by lia) (fun x' y' T3 e1 e2=>by rw [hx] at e2;injection e1 with e1 _;injection e2 with e2;subst e1 e2;exact c);rw [el] at this;exact LS this
  | false =>
   rw [Lw LU];have O2:x≠y:=(Mf.mp nd).2.2 x (LP hx) y (Lq ..);have YM:lt x y=true:=O.Om y x (bd _ (Lx _ (Lx _ (Lq ..)))) (bd _ (Lx _ (LY _ (LP hx)))) (Ne.symm O2) c;exact LS ⟨rfl,rfl,S'++[y],P4,by simp,Rl O Qb hx YM,by rw [Ln,el];rfl⟩
 .rintro _ _ ⟨rfl,rfl,S',T',e,Qb,el⟩;have hl:S'.length+T'.length=PD:=by rw [<- Ln,e,hr]
  have hS:n<=PD:=by rw [<- hr,<-hn,Ln];lia
  have e0:T'=[]:=L5 (by lia);subst e0;rw [<- el];exact h S' [] e Qb (by lia) (fun _ _ _ e1=>by cases e1)
theorem w_count {pre R:List Nat} {PD:Nat} {Q:Option Nat->SortSt->Prop} (O:Ord lt N) (hc:So M Ar E s F lt N κ) (bd:∀ x∈pre++R,x < N) (nd:R.Nodup) (hr:R.length=PD) (h1:1<=PD)
  (h:∀ S T,(S++T).Perm R->S.Pairwise (fun x y=>lt x y=true)->1<=S.length->Q (some S.length) (SortSt.mk' κ (Oi F (pre++(S++T))) pd g none)) :
  wpS M Ar E s (countRun' pre.length PD) Q (SortSt.mk' κ (Oi F (pre++R)) pd g none):=by
 obtain ⟨a,R',rfl⟩:∃ a R',R=a :: R':=by cases R with | nil=>rw [MV] at hr;lia | cons a b=>exact ⟨a,b,rfl⟩
 rw [countRun'_eq];dsimp only;refine LW (EB (S:=[a]) (T:=R') O hc bd nd rfl (LA _) hr (N4 _ _) fun S T e sS hS OW=>?_);dsimp only;by_cases c:S.length=PD
 .rw [Lz (by rw [c];exact Mo _),<-e];exact LS (h S T (by rw [e];exact M8 _) sS hS)
 rw [Lw (by rw [Ma];exact c)];by_cases c2:S.length > 1
 .rw [Lz c2];obtain ⟨z,hz⟩:=vI (S:=S) (by lia);have hSa:S[0]?=some a:=by
   cases S with
   | nil=>exact absurd hS (by decide)
   | cons b S=>rw [My,List.singleton_append] at e;rw [(List.cons.inj e).1];rfl
  have O7:lt a z=true:=by obtain ⟨u1,u2⟩:=Ls.mp hSa;obtain ⟨u3,u4⟩:=Ls.mp hz;have:=MM.mp sS 0 (S.length - 1) u1 u3 (by lia);rwa [u2,u4] at this
  rw [<- e];refine LW (md hc (by rw [e];exact bd) (x:=a) (y:=z) (by rw [<- Nat.add_zero pre.length];exact gJ (by rw [LL (by lia)];exact hSa)) (by rw [Nat.add_sub_assoc (by lia)];exact gJ (by rw [LL (by lia)];exact hz)) ?_);dsimp only;rw [O7,Lz rfl];exact LS (h S T (by rw [e];exact M8 _) sS hS)
 rw [Lw c2];refine LW (wpS_lift (MT ⟨rfl,?_⟩));have hS1:S.length=1:=by lia
 obtain ⟨rfl,rfl⟩:S=[a]/\T=R':=List.append_inj e hS1;rw [MO];obtain ⟨b,R2,rfl⟩:∃ b R2,T=b :: R2:=by cases T with | nil=>exact absurd hr c | cons a b=>exact ⟨a,b,rfl⟩
 have YN:=OW a b R2 rfl rfl
 refine LW (MW (MC (I:=fun i (c:Option (Option Nat)×Nat×Nat) st=>c=(none,i,0)/\st=SortSt.mk' κ (Oi F (pre++([a]++b :: R2))) pd g none/\∃ S' T',S'++T'=[a]++b :: R2/\S'.Pairwise (fun x y=>lt y x=true)/\S'.length=i/\2<=i)
  (Q:=fun (c:Option (Option Nat)×Nat×Nat) st=>∃ n,c=(none,n,0)/\st=SortSt.mk' κ (Oi F (pre++([a]++b :: R2))) pd g none/\∃ S' T',S'++T'=[a]++b :: R2/\S'.Pairwise (fun x y=>lt y x=true)/\S'.length=n/\2<=n)
  ?_ (fun c st z=>⟨_,z⟩) ⟨rfl,rfl,[a,b],R2,rfl,by simpa using YN,rfl,LA _⟩) ?_)
 .rintro i _ _ V3 Rj ⟨rfl,rfl,S',T',e,Qb,el,h2⟩;dsimp only;obtain ⟨x,hx⟩:=vI (S:=S') (by lia);have hl:S'.length+T'.length=PD:=by rw [<- Ln,e,<-hr];rfl
  obtain ⟨y,P4,rfl⟩:∃ y P4,T'=y :: P4:=by cases T' with | nil=>rw [MV] at hl;lia | cons a b=>exact ⟨a,b,rfl⟩
  have Xg:∀ x∈pre++(S'++y :: P4),x < N:=by rw [e];exact bd
  have Rz:(S'++y :: P4).Nodup:=by rw [e];exact nd
  have gy:(pre++(S'++y :: P4))[pre.length+i]?=some y:=gJ (by rw [<- el,Lr (LA _),M1];rfl);have gx:(pre++(S'++y :: P4))[pre.length+i - 1]?=some x:=by rw [Nat.add_sub_assoc (by lia)];exact gJ (by rw [<- el,LL (by lia)];exact hx)
  rw [<- e];refine LW (md hc Xg gy gx ?_);dsimp only;cases c:lt y x with
  | true =>
   rw [Lz rfl,Lw (by decide)];exact LS ⟨rfl,rfl,S'++[y],P4,by simp,Rl (lt:=fun x y=>lt y x) O.flip Qb hx c,by rw [Ln,el];rfl,by lia⟩
  | false =>
   rw [Lw LU];have O2:x≠y:=(Mf.mp Rz).2.2 x (LP hx) y (Lq ..);have YM:lt x y=true:=O.Om y x (Xg _ (Lx _ (Lx _ (Lq ..)))) (Xg _ (Lx _ (LY _ (LP hx)))) (Ne.symm O2) c;refine LW (md hc Xg gx gy ?_);dsimp only;rw [YM,Lz rfl];exact LS ⟨i,rfl,rfl,S',_,rfl,Qb,el,h2⟩
 .rintro _ _ ⟨n,rfl,rfl,S',T',e,Qb,el,h2⟩;dsimp only;rw [Lw (by decide),reverseSlice'_eq,<-e];refine LW (Nx ?_);have em:mirror (Oi F (pre++(S'++T'))) pre.length (pre.length+n) ((pre.length+n - pre.length) / 2)=Oi F (pre++(S'.reverse++T')):=by rw [<- el];exact tQ
  show wpS M Ar E s _ Q (SortSt.mk' κ (mirror (Oi F (pre++(S'++T'))) pre.length (pre.length+n) ((pre.length+n - pre.length) / 2)) pd g none);rw [em];have pr:(S'.reverse++T').Perm ([a]++b :: R2):=by rw [<- e];exact List.Perm.append_right _ (ND _)
  refine LW (EB (S:=S'.reverse) (T:=T') O hc (fun x hx=>?_) (pr.nodup_iff.mpr nd) (by rw [MX];exact el) (by lia) (by rw [pr.length_eq];exact hr) (MZ.mpr Qb) fun S3 T3 e3 s3 l3 _=>?_)
  .rcases Mc.mp hx with hx | hx
   .exact bd x (LY _ hx)
   .exact bd x (Lx _ (pr.mem_iff.mp hx))
  .dsimp only;rw [<- e3] at pr ⊢;exact LS (h S3 T3 pr s3 (by lia))
noncomputable def plB (lo k:Nat) (c:Option Bool×Nat×Nat):StateT SortSt Sem (ForInStep (Option Bool×Nat×Nat)) :=
 if c.2.1>=c.2.2 then pure (.done (none,c.2.1,c.2.2)) else do
  let some less<-ltAt' (lo+k) (lo+(c.2.1+c.2.2) / 2) | return .done (some false,c.2.1,c.2.2)
  if less then return .yield (none,c.2.1,(c.2.1+c.2.2) / 2)
  return .yield (none,(c.2.1+c.2.2) / 2+1,c.2.2)
theorem Br {pre S T:List Nat} {k y:Nat} {Q:Option Bool×Nat×Nat->SortSt->Prop} (O:Ord lt N) (hc:So M Ar E s F lt N κ) (bd:∀ x∈pre++(S++y :: T),x < N) (nd:(S++y :: T).Nodup) (hk:S.length=k) (sS:S.Pairwise fun x y=>lt x y=true)
  (h:∀ S1 S2,S=S1++S2->(∀ x∈S1,lt x y=true)->(∀ x∈S2,lt y x=true)->∀ r,Q (none,S1.length,r) (SortSt.mk' κ (Oi F (pre++(S++y :: T))) pd g none)) :
  wpS M Ar E s (forIn [0:k] ((none,0,k):Option Bool×Nat×Nat) fun _ c=>plB pre.length k c) Q (SortSt.mk' κ (Oi F (pre++(S++y :: T))) pd g none):=by
 have fin:∀ l,l<=k->(∀ i,i < l->∀ x,S[i]?=some x->lt y x=false)->(∀ i,l<=i->i < k->∀ x,S[i]?=some x->lt y x=true)->∀ r,Q (none,l,r) (SortSt.mk' κ (Oi F (pre++(S++y :: T))) pd g none):=fun l hl a1 a2 r=>by
  obtain ⟨S1,S2,e,el,b1,b2⟩:=pN (S:=S) (P:=fun x=>!lt y x) (k:=l) (by lia) (fun i hi x e=>by rw [a1 i hi x e];rfl) (fun i hi RQ x e=>by rw [a2 i hi (by lia) x e];rfl);rw [<- el];refine h S1 S2 e (fun x hx=>?_) (fun x hx=>?_) r
  .have b:=b1 x hx;rw [Bool.not_eq_true'] at b;have P1:x∈S:=by rw [e];exact LY _ hx
   exact O.Om _ _ (bd _ (Lx _ (Lx _ (Lq ..)))) (bd _ (Lx _ (LY _ P1))) (Ne.symm ((Mf.mp nd).2.2 x P1 y (Lq ..))) b
  .have b:=b2 x hx;rwa [Bool.not_eq_false'] at b
 have mono:∀ i j x x',i < j->S[i]?=some x->S[j]?=some x'->lt x x'=true:=fun i j x x' RT e1 e2=>by obtain ⟨u1,u2⟩:=Ls.mp e1;obtain ⟨u3,u4⟩:=Ls.mp e2;have:=MM.mp sS i j u1 u3 RT;rwa [u2,u4] at this
 refine MC (I:=fun i (c:Option Bool×Nat×Nat) st=>st=SortSt.mk' κ (Oi F (pre++(S++y :: T))) pd g none/\c.1=none/\c.2.1<=c.2.2/\c.2.2<=k/\c.2.2 - c.2.1<=k - i/\(∀ i,i < c.2.1->∀ x,S[i]?=some x->lt y x=false)/\(∀ i,c.2.2<=i->i < k->∀ x,S[i]?=some x->lt y x=true)) ?_ ?_ ⟨rfl,rfl,Mk _,LA _,LA _,fun i z=>absurd z (Nat.not_lt_zero _),fun i z z'=>absurd z (by dsimp only;lia)⟩
 .rintro i ⟨r,lo,hi⟩ _ _ RQ ⟨rfl,e,a1,a2,a3,a4,a5⟩;dsimp only at e a1 a2 a3 a4 a5;subst e;unfold plB;dsimp only;by_cases c:lo>=hi
  .rw [Lz c];exact LS (fin lo (by lia) a4 (fun i z z'=>a5 i (by lia) z') hi)
  .rw [Lw c];obtain ⟨x,hx⟩:∃ x,S[(lo+hi) / 2]?=some x:=⟨_,Lp (by lia)⟩;refine LW (md hc bd (x:=y) (y:=x) (gJ (by rw [<- hk,Lr (LA _),M1];rfl)) (gJ (by rw [LL (by lia)];exact hx)) ?_);dsimp only;cases e:lt y x with
   | true =>
    rw [Lz rfl];refine LS ⟨rfl,rfl,by dsimp only;lia,by dsimp only;lia,by dsimp only;lia,a4,fun i z z' x' P1=>?_⟩;dsimp only at z;rcases Nat.lt_or_eq_of_le z with z | z
    .exact O.tr _ _ _ e (mono _ _ _ _ z hx P1)
    .rw [<- z,hx] at P1;injection P1 with P1;rw [<- P1];exact e
   | false =>
    rw [Lw LU];refine LS ⟨rfl,rfl,by dsimp only;lia,by dsimp only;lia,by dsimp only;lia,fun i z x' P1=>?_,a5⟩;dsimp only at z;by_cases z2:i=(lo+hi) / 2
    .rw [z2,hx] at P1;injection P1 with P1;rw [<- P1];exact e
    .cases e2:lt y x' with
     | false=>rfl
     | true=>rw [O.tr _ _ _ e2 (mono _ _ _ _ (by lia) P1 hx)] at e;exact absurd e (by decide)
 .rintro ⟨r,lo,hi⟩ _ ⟨rfl,e,a1,a2,a3,a4,a5⟩;dsimp only at e a1 a2 a3 a4 a5;subst e;exact fin lo (by lia) a4 (fun i z z'=>a5 i (by lia) z') hi
theorem Jw {pre R:List Nat} (O:Ord lt N) (hc:So M Ar E s F lt N κ) (bd:∀ x∈pre++(S++T),x < N) (nd:(S++T).Nodup) (hS:S.length=ok) (h1:1<=ok) (hn:ok<=n) (hr:n<=(S++T).length) (sS:S.Pairwise fun x y=>lt x y=true)
  (h:∀ S' T',(S'++T').Perm (S++T)->S'.Pairwise (fun x y=>lt x y=true)->S'.length=n->Q true (SortSt.mk' κ (Oi F (pre++(S'++T'))) pd g none)) :
  wpS M Ar E s (binarySort' pre.length n ok) Q (SortSt.mk' κ (Oi F (pre++(S++T))) pd g none):=by
 rw [binarySort'_eq,Nat.max_eq_left h1];dsimp only
 refine LW (MW (MC (I:=fun k (c:Option Bool×PUnit) st=>c=(none,⟨⟩)/\∃ S' T',(S'++T').Perm (S++T)/\S'.Pairwise (fun x y=>lt x y=true)/\S'.length=k/\st=SortSt.mk' κ (Oi F (pre++(S'++T'))) pd g none)
  (Q:=fun (c:Option Bool×PUnit) st=>c=(none,⟨⟩)/\∃ S' T',(S'++T').Perm (S++T)/\S'.Pairwise (fun x y=>lt x y=true)/\S'.length=n/\st=SortSt.mk' κ (Oi F (pre++(S'++T'))) pd g none) ?_ ?_ ⟨rfl,S,T,M8 _,sS,hS,rfl⟩) ?_)
 .rintro k _ _ hk1 hk2 ⟨rfl,S',T',pm,Qb,el,rfl⟩;have hl:S'.length+T'.length=(S++T).length:=by rw [<- Ln,pm.length_eq]
  obtain ⟨y,P4,rfl⟩:∃ y P4,T'=y :: P4:=by cases T' with | nil=>rw [MV] at hl;lia | cons a b=>exact ⟨a,b,rfl⟩
  refine LW (Br O hc (fun x hx=>?_) (pm.nodup_iff.mpr nd) el Qb fun S1 S2 e q1 q2 r=>?_)
  .rcases Mc.mp hx with hx | hx
   .exact bd x (LY _ hx)
   .exact bd x (Lx _ (pm.mem_iff.mp hx))
  .dsimp only;rw [moveDown'_eq];refine LW (Nx (LS ⟨rfl,S1++y :: S2,P4,?_,?_,?_,?_⟩))
   .refine List.Perm.trans ?_ pm;rw [e,LC,LC];refine Nj _ ?_;rw [My];exact List.perm_middle.symm
   .rw [e] at Qb;have z:=LX.mp Qb;refine LX.mpr ⟨z.1,M9.mpr ⟨q2,z.2.1⟩,fun a ha b hb=>?_⟩;rcases LJ.mp hb with rfl | hb
    .exact q1 a ha
    .exact z.2.2 a ha b hb
   .rw [<- el,e];simp only [Ln,LN];lia
   .have eb:=u6 (F:=F) (pre:=pre) (S1:=S1) (S2:=S2) (T:=P4) (x:=y);rw [<- e,el] at eb;show SortSt.mk' κ (bubble (Oi F (pre++(S'++y :: P4))) (pre.length+k) (pre.length+k - (pre.length+S1.length))) pd g none=_;rw [eb]
 .rintro _ _ ⟨rfl,S',T',pm,Qb,el,rfl⟩;exact ⟨rfl,S',T',pm,Qb,by lia,rfl⟩
 .rintro _ _ ⟨rfl,S',T',pm,Qb,el,rfl⟩;exact LS (h S' T' pm Qb el)
end
def Mt (lt:Nat->Nat->Bool):List (Nat×Nat×Nat)->Nat->List Nat->Prop
 | [],_,l=>l=[]
 | r :: ps,s,l=>r.1=s/\∃ X l',l=X++l'/\X.length=r.2.1/\X≠[]/\X.Pairwise (fun x y=>lt x y=true)/\Mt lt ps (s+r.2.1) l'
section
variable {lt:Nat->Nat->Bool}
theorem Mt.app:∀ {ps qs:List (Nat×Nat×Nat)} {s:Nat} {l:List Nat},Mt lt (ps++qs) s l->∃ l1 l2,l=l1++l2/\Mt lt ps s l1/\Mt lt qs (s+l1.length) l2
 | [],qs,s,l,h=>⟨[],l,rfl,rfl,h⟩
 | r :: ps,qs,s,l,h=>by obtain ⟨e,X,l',rfl,el,hX,sX,h⟩:=h;obtain ⟨l1,l2,rfl,h1,h2⟩:=Mt.app h;exact ⟨X++l1,l2,(LC ..).symm,⟨e,X,l1,rfl,el,hX,sX,h1⟩,by rw [Ln,el,<-Nat.add_assoc];exact h2⟩
theorem Mt.Iy:∀ {ps qs:List (Nat×Nat×Nat)} {s:Nat} {l1 l2:List Nat},Mt lt ps s l1->Mt lt qs (s+l1.length) l2->Mt lt (ps++qs) s (l1++l2)
 | [],qs,s,l1,l2,h,h2=>by have h:l1=[]:=h;subst h;exact h2
 | r :: ps,qs,s,l1,l2,h,h2=>by obtain ⟨e,X,l',rfl,el,hX,sX,h⟩:=h;exact ⟨e,X,l'++l2,LC ..,el,hX,sX,Mt.Iy h (by rw [Ln,el,<-Nat.add_assoc] at h2;exact h2)⟩
theorem Mt.len:∀ {ps:List (Nat×Nat×Nat)} {s:Nat} {l:List Nat},Mt lt ps s l->ps.length<=l.length
 | [],s,l,h=>Mk _
 | r :: ps,s,l,h=>by obtain ⟨e,X,l',rfl,el,hX,sX,h⟩:=h;have:=List.length_pos_iff.mpr hX;have:=Mt.len h;rw [Ln,LN];lia
theorem Mt.mod (hf:∀ r,(f r).1=r.1/\(f r).2.1=r.2.1):∀ {ps:List (Nat×Nat×Nat)} {i s:Nat} {l:List Nat},Mt lt ps s l->Mt lt (ps.modify i f) s l
 | [],i,s,l,h=>by rw [List.modify_nil];exact h
 | r :: ps,0,s,l,h=>by rw [List.modify_zero_cons];unfold Mt at h ⊢;rw [(hf r).1,(hf r).2];exact h
 | r :: ps,i+1,s,l,h=>by rw [List.modify_succ_cons];obtain ⟨e,X,l',rfl,el,hX,sX,h⟩:=h;exact ⟨e,X,l',rfl,el,hX,sX,Mt.mod hf h⟩
theorem Mt.KQ (h:Mt lt ps s l) (e:ps.length<=1):l.Pairwise fun x y=>lt x y=true:=by
 match ps,h,e with
 | [],h,_ =>
  have h:l=[]:=h;subst h;exact List.Pairwise.nil
 | [r],h,_ =>
  obtain ⟨e,X,l',rfl,el,hX,sX,h⟩:=h;have h:l'=[]:=h;subst h;rw [L7];exact sX
end
section
variable {M:Model} {E:Qy} {Ar:Around} {s:Qx} {F:Nat->Keyed} {lt:Nat->Nat->Bool} {N:Nat} {κ:SortKind} {l0:List Nat}
def Rm (F:Nat->Keyed) (lt:Nat->Nat->Bool) (κ:SortKind) (l0:List Nat) (k:Nat) (ps:List (Nat×Nat×Nat)) (R:List Nat) (st:SortSt):Prop :=
 ∃ l1 g,st=SortSt.mk' κ (Oi F (l1++R)) ps.toArray g none/\Mt lt ps 0 l1/\l1.length=k/\(l1++R).Perm l0
variable (O:Ord lt N) (nd:l0.Nodup) (bd:∀ x∈l0,x < N) (hc:So M Ar E s F lt N κ)
include O nd bd hc
theorem Fm {ps:List (Nat×Nat×Nat)} {R:List Nat} {i k:Nat} {st:SortSt} {Q:Bool->SortSt->Prop} (h:Rm F lt κ l0 k ps R st) (hi:i+1 < ps.length) (q:∀ P5 st,P5.length+1=ps.length->Rm F lt κ l0 k P5 R st->Q true st):wpS M Ar E s (mergeAt' i) Q st:=by
 obtain ⟨l1,g,rfl,hM,hk,pm⟩:=h;obtain ⟨p1,r1,r2,p2,rfl,e1⟩:∃ p1 r1 r2 p2,ps=p1++r1 :: r2 :: p2/\p1.length=i:=by refine ⟨ps.take i,ps[i],ps[i+1],ps.drop (i+2),?_,by rw [Mi];lia⟩;rw [<- MN (by lia),<-MN (by lia),List.take_append_drop]
 obtain ⟨u,v,rfl,m1,m2⟩:=hM.app;rw [Oa] at m2;obtain ⟨a1,X,v1,rfl,xl,hX,sX,a2,Y,v2,rfl,yl,hY,sY,m3⟩:=m2;have ea:Oi F (u++(X++(Y++v2))++R)=Oi F (u++(X++Y)++(v2++R)):=by simp
 rw [ea];have YO:(u++(X++Y)++(v2++R)).Perm l0:=by simpa using pm
 have ndw:(X++Y).Nodup:=by have:=YO.nodup_iff.mpr nd;rw [LC] at this;exact (Mf.mp (Mf.mp this).2.1).1
 refine uL (pw:=r1.2.2) (pw2:=r2.2.2) O ndw (fun x hx=>bd x (YO.mem_iff.mp (LY _ (Lx _ hx)))) hc ?_ ?_ hX hY sX sY fun Z g' sZ pZ=>?_
 .rw [NF,<-e1,Lr (LA _),M1,<-a1,xl];rfl
 .rw [NF,<-e1,Lr (by lia),M6,yl,xl,<-a2];rfl
 .have hl:Z.length=X.length+Y.length:=by rw [pZ.length_eq,Ln]
  refine q (p1++(u.length,X.length+Y.length,r1.2.2) :: p2) _ ?_ ⟨u++(Z++v2),g',?_,?_,?_,?_⟩
  .simp only [Ln,LN];lia
  .have e2:(((p1++r1 :: r2 :: p2).toArray.setIfInBounds i (u.length,X.length+Y.length,r1.2.2)).eraseIdxIfInBounds (i+1))=(p1++(u.length,X.length+Y.length,r1.2.2) :: p2).toArray:=by apply N6.mp;rw [Array.toList_eraseIdxIfInBounds,Array.toList_setIfInBounds,<-e1];simp [List.eraseIdx_append_of_length_le]
   rw [e2];simp
  .refine m1.Iy ⟨by rw [Oa],Z,v2,rfl,hl,fun e=>?_,sZ,?_⟩
   .rw [e,MV] at hl;have:=List.length_pos_iff.mpr hX;lia
   .rw [Oa,xl,yl,<-Nat.add_assoc];exact m3
  .simp only [Ln] at hk ⊢;lia
  .refine List.Perm.trans ?_ YO;rw [show u++(Z++v2)++R=u++Z++(v2++R) by simp];exact List.Perm.append_right _ (Nj _ pZ)
omit O nd bd hc
noncomputable def Vc (size lo n:Nat):StateT SortSt Sem (ForInStep (Option Unit×Nat)):=do
 let st<-get
 match (pendingOf st).back? with
 | some (s1,n1,_)=>do
  let c<-forIn [0:size] ((none,()):Option Unit×Unit) fun _ _=>do
   let st<-get
   match (if (pendingOf st).size > 1 then (pendingOf st)[(pendingOf st).size - 2]? else none) with
   | some (_,_,T5) =>
    if T5<=power' size (2*s1+n1) (2*s1+n1+n1+n) size then pure (.done (none,()))
    else do
     let b<-mergeAt' ((pendingOf st).size - 2)
     if (!b)=true then pure (.done (some (),())) else pure (.yield (none,()))
   | _=>pure (.done (none,()))
  match c.1 with
  | some r=>pure (.done (some r,lo))
  | none=>do
   modify fun s=>setPending s ((pendingOf s).modify ((pendingOf s).size - 1) fun x=>(x.1,x.2.1,power' size (2*s1+n1) (2*s1+n1+n1+n) size))
   modify fun s=>setPending s ((pendingOf s).push (lo,n,0))
   pure (.yield (none,lo+n))
 | _=>do
  modify fun s=>setPending s ((pendingOf s).push (lo,n,0))
  pure (.yield (none,lo+n))
include O nd bd hc
theorem Cy {ps:List (Nat×Nat×Nat)} {S T:List Nat} {lo size:Nat} {st:SortSt} {Q:ForInStep (Option Unit×Nat)->SortSt->Prop} (h:Rm F lt κ l0 lo ps (S++T) st) (sS:S.Pairwise fun x y=>lt x y=true) (hS:1<=S.length)
  (q:∀ P5 st,Rm F lt κ l0 (lo+S.length) P5 T st->Q (.yield (none,lo+S.length)) st):wpS M Ar E s (Vc size lo S.length) Q st:=by
 have push:∀ {ps st},Rm F lt κ l0 lo ps (S++T) st->Rm F lt κ l0 (lo+S.length) (ps++[(lo,S.length,0)]) T (setPending st ((pendingOf st).push (lo,S.length,0))):=by rintro ps _ ⟨l1,g,rfl,hM,hk,pm⟩;refine ⟨l1++S,g,?_,hM.Iy ⟨by rw [Oa,hk],S,[],by rw [L7],rfl,fun e=>by rw [e] at hS;exact absurd hS (by decide),sS,rfl⟩,by rw [Ln,hk],by rw [LC];exact pm⟩;show SortSt.mk' κ (Oi F (l1++(S++T))) (ps.toArray.push _) g none=_;rw [List.push_toArray,LC]
 unfold Vc;refine LW (N7 ?_);cases e:(pendingOf st).back? with
 | none =>
  dsimp only;exact LW (Nx (LS (q _ _ (push h))))
 | some r =>
  obtain ⟨s1,n1,p1⟩:=r;dsimp only;refine LW (MW (MC (I:=fun _ (c:Option Unit×Unit) st=>c.1=none/\∃ ps,Rm F lt κ l0 lo ps (S++T) st) (Q:=fun (c:Option Unit×Unit) st=>c.1=none/\∃ ps,Rm F lt κ l0 lo ps (S++T) st) ?_ (fun _ _ z=>z) ⟨rfl,ps,h⟩) ?_)
  .rintro i ⟨r,⟨⟩⟩ st _ _ ⟨e,ps,h⟩;refine LW (N7 ?_);have ep:(pendingOf st).size=ps.length:=by obtain ⟨l1,g,rfl,hM,hk,pm⟩:=h;exact LK
   split
   .split
    .exact LS ⟨rfl,ps,h⟩
    .rename_i fst aaa T5 hp hold;have h1:(pendingOf st).size > 1:=by
      by_cases c:(pendingOf st).size > 1
      .exact c
      .rw [Lw c] at hp;cases hp
     refine LW (Fm O nd bd hc h (by lia) fun P5 O0 _ h'=>?_);rw [Lw (by decide)];exact LS ⟨rfl,P5,h'⟩
   .exact LS ⟨rfl,ps,h⟩
  .rintro ⟨r,⟨⟩⟩ st ⟨e,ps,h⟩;dsimp only at e ⊢;subst e;refine LW (Nx (LW (Nx (LS (q _ _ (push (ps:=ps.modify (ps.length - 1) fun x=>(x.1,x.2.1,power' size (2*s1+n1) (2*s1+n1+n1+S.length) size)) ?_))))))
   .obtain ⟨l1,g,rfl,hM,hk,pm⟩:=h;refine ⟨l1,g,?_,Mt.mod (f:=fun x=>(x.1,x.2.1,power' size (2*s1+n1) (2*s1+n1+n1+S.length) size)) (fun _=>⟨rfl,rfl⟩) hM,hk,pm⟩;show SortSt.mk' κ (Oi F (l1++(S++T))) (ps.toArray.modify (ps.toArray.size - 1) _) g none=_;congr 1;rw [LK,List.modify_toArray]
theorem Fp (h0:p0.Perm l0) (h:∀ l g ps,l.Perm l0->l.Pairwise (fun x y=>lt x y=true)->Q () (SortSt.mk' κ (Oi F l) ps g none)) :
  wpS M Ar E s sortRuns' Q (SortSt.mk' κ (Oi F p0) #[] g none):=by
 have hl0:=h0.length_eq;rw [sortRuns'_eq];refine LW (N7 ?_);rw [show (arrOf (SortSt.mk' κ (Oi F p0) #[] g none)).size=l0.length by rw [<- hl0];exact a7];dsimp only;generalize minRun' l0.length l0.length 0=mr;refine LW (MW (MC (I:=fun i (c:Option Unit×Nat) st=>c.1=none/\i<=c.2/\∃ ps R,Rm F lt κ l0 c.2 ps R st) (Q:=fun (c:Option Unit×Nat) st=>c.1=none/\∃ ps,Rm F lt κ l0 l0.length ps [] st) ?_ ?_ ⟨rfl,LA _,[],p0,[],g,rfl,rfl,rfl,h0⟩) ?_)
 .rintro i ⟨r,lo⟩ st _ hi ⟨e,h1,ps,R,h2⟩;dsimp only at e h1 h2 ⊢;subst e;by_cases c:lo>=l0.length
  .rw [Lz c];refine LS ⟨rfl,ps,?_⟩;obtain ⟨l1,g,rfl,hM,hk,pm⟩:=h2;have:=pm.length_eq;rw [Ln] at this;have e0:R=[]:=L5 (by lia);subst e0;exact ⟨l1,g,rfl,hM,by rw [MV] at this;lia,pm⟩
  rw [Lw c];obtain ⟨l1,g,rfl,hM,rfl,pm⟩:=h2;have hlen:=pm.length_eq;rw [Ln] at hlen;have nd1:=pm.nodup_iff.mpr nd;refine LW (w_count O hc (fun x hx=>bd x (pm.mem_iff.mp hx)) (Mf.mp nd1).2.1 (by lia) (by lia) fun S T pS sS hS=>?_);dsimp only;have Xi:(l1++(S++T)).Perm l0:=(Nj _ pS).trans pm;have V6:=pS.length_eq;rw [Ln] at V6;have bc:∀ {W B:Type} {m m':StateT SortSt Sem W} {f f':W->StateT SortSt Sem B},m=m'->f=f'->(m>>=f)=(m'>>=f'):=by rintro _ _ _ _ _ _ rfl rfl;rfl
  have use:∀ {m m':StateT SortSt Sem (ForInStep (Option Unit×Nat))} {Q:ForInStep (Option Unit×Nat)->SortSt->Prop} {st:SortSt},m=m'->wpS M Ar E s m' Q st->wpS M Ar E s m Q st:=by rintro _ _ _ _ rfl z;exact z
  by_cases c2:S.length < mr
  .rw [Lz c2];refine LW (wpS_lift (MT ⟨rfl,?_⟩));refine LW (Jw (R:=R) O hc (fun x hx=>bd x (Xi.mem_iff.mp hx)) (Mf.mp (Xi.nodup_iff.mpr nd)).2.1 rfl hS (by lia) (by rw [Ln];lia) sS fun S' T' pS' Qb W9=>?_);rw [Lw (by decide),<-W9];refine use (m':=Vc l0.length l1.length S'.length) ?_ (MW (Cy O nd bd hc (S:=S') (T:=T') (size:=l0.length) ⟨l1,g,rfl,hM,rfl,(Nj _ pS').trans Xi⟩ Qb (by lia) (Q:=fun r st=>∃ P5 n R,1<=n/\r=.yield (none,l1.length+n)/\Rm F lt κ l0 (l1.length+n) P5 R st) fun P5 st hs=>⟨P5,_,T',by lia,rfl,hs⟩) ?_)
   .unfold Vc;refine Nl fun st=>?_;cases (pendingOf st).back? with
    | none=>rfl
    | some r =>
     obtain ⟨s1,n1,p1⟩:=r;dsimp only;refine bc ?_ ?_
     .congr 1;try (funext _ c;refine Nl fun st=>?_;split <;> rfl)
     .funext c;cases c.1 <;> rfl
   .rintro _ st ⟨P5,n,R,hn,rfl,hs⟩;exact ⟨rfl,by dsimp only;lia,P5,R,hs⟩
  .rw [Lw c2];refine use (m':=Vc l0.length l1.length S.length) ?_ (MW (Cy O nd bd hc (S:=S) (T:=T) (size:=l0.length) ⟨l1,g,rfl,hM,rfl,Xi⟩ sS hS (Q:=fun r st=>∃ P5 n R,1<=n/\r=.yield (none,l1.length+n)/\Rm F lt κ l0 (l1.length+n) P5 R st) fun P5 st hs=>⟨P5,_,T,hS,rfl,hs⟩) ?_)
   .unfold Vc;refine Nl fun st=>?_;cases (pendingOf st).back? with
    | none=>rfl
    | some r =>
     obtain ⟨s1,n1,p1⟩:=r;dsimp only;refine bc ?_ ?_
     .congr 1;try (funext _ c;refine Nl fun st=>?_;split <;> rfl)
     .funext c;cases c.1 <;> rfl
   .rintro _ st ⟨P5,n,R,hn,rfl,hs⟩;exact ⟨rfl,by dsimp only;lia,P5,R,hs⟩
 .rintro ⟨r,lo⟩ st ⟨e,h1,ps,R,l1,g,rfl,hM,hk,pm⟩;have:=pm.length_eq;rw [Ln] at this;dsimp only at e h1 hk;have e0:R=[]:=L5 (by lia);subst e0;exact ⟨e,ps,l1,g,rfl,hM,by rw [MV] at this;lia,pm⟩
 .rintro ⟨r,lo⟩ st ⟨e,ps,hs⟩;dsimp only at e ⊢;subst e;have hps:ps.length<=l0.length:=by obtain ⟨l1,g,rfl,hM,hk,pm⟩:=hs;rw [<- hk];exact hM.len
  refine LW (MW (MC (I:=fun i (c:Option Unit×Unit) st=>c.1=none/\∃ ps,ps.length<=l0.length - i/\Rm F lt κ l0 l0.length ps [] st) (Q:=fun (c:Option Unit×Unit) st=>c.1=none/\∃ ps,ps.length<=1/\Rm F lt κ l0 l0.length ps [] st) ?_ ?_ ⟨rfl,ps,hps,hs⟩) ?_)
  .rintro i ⟨r,⟨⟩⟩ st _ hi ⟨e,ps,hp,hs⟩;refine LW (N7 ?_);have ep:(pendingOf st).size=ps.length:=by obtain ⟨l1,g,rfl,hM,hk,pm⟩:=hs;exact LK
   by_cases c:(pendingOf st).size<=1
   .rw [Lz c];exact LS ⟨rfl,ps,by lia,hs⟩
   .rw [Lw c];refine LW (Fm O nd bd hc hs ?_ fun P5 O0 hl h'=>?_)
    .have:(c:Bool)->(if c=true then (pendingOf st).size - 2 - 1 else (pendingOf st).size - 2)+1 < ps.length:=fun c=>by cases c <;> simp <;> lia
     exact this _
    .rw [Lw (by decide)];exact LS ⟨rfl,P5,by lia,h'⟩
  .rintro ⟨r,⟨⟩⟩ st ⟨e,ps,hp,hs⟩;exact ⟨e,ps,by lia,hs⟩
  .rintro ⟨r,⟨⟩⟩ st ⟨e,ps,hp,hs⟩;dsimp only at e ⊢;subst e;obtain ⟨l1,g,rfl,hM,hk,pm⟩:=hs;rw [L7] at pm ⊢;exact LS (h l1 g _ pm (hM.KQ hp))
end
theorem xA {P:Program} {w:World} {A:Around} {E:Qy} {s:Qx} {vs ks:List Qj} {κ:SortKind} {lt:Nat->Nat->Bool} {Q:SortSt->Qx->Prop} (hl:ks.length=vs.length)
  (hc:∀ i j (C:Bool->Qx->Prop),i < vs.length->j < vs.length->C (lt i j) s->kas_ask P w A κ ks i j C s) (O:Ord lt vs.length)
  (h:∀ p O0,p.size=vs.length->arrOf O0=p.map (kas_item (ks.toArray.zip vs.toArray))->failedOf O0=none->Pm vs.length p->Up lt p vs.length->Q O0 s) :
  wMX P w A ((sortRuns').run (SortSt.mk' κ (ks.toArray.zip vs.toArray) #[] 7 none)) (fun r s'=>Q r.2 s') E s:=by
 have e:=kas_range (ks.toArray.zip vs.toArray);rw [show (ks.toArray.zip vs.toArray).size=vs.length by simp [hl]] at e;have est:SortSt.mk' κ (ks.toArray.zip vs.toArray) #[] 7 none=SortSt.mk' κ (Oi (kas_item (ks.toArray.zip vs.toArray)) (List.range vs.length)) #[] 7 none:=by congr 1;rw [<- e];simp only [Oi,e];rw [<- List.map_toArray,e]
 rw [est];have hcm:So (model P w) A E s (kas_item (ks.toArray.zip vs.toArray)) lt vs.length κ:=by intro i j C st hk hi hj hC;rw [lt'_eq];refine LW (N7 ?_);rw [hk,kat_item hl,kat_item hl];refine LW (wpS_lift (wpAny_attempt (L6 (hc i j (fun b s'=>b=lt i j/\s'=s) hi hj ⟨rfl,rfl⟩) (fun b s' hb=>?_) fun _ _ z=>z.elim)));obtain ⟨rfl,rfl⟩:=hb;exact ⟨rfl,LS hC⟩
 have:=Fp (M:=model P w) (Ar:=A) (E:=E) (s:=s) (g:=7) (p0:=List.range vs.length) (Q:=fun _ st=>Q st s) O List.nodup_range (fun x hx=>List.mem_range.mp hx) hcm (M8 _) fun l g ps pl sl=>h l.toArray _ (by rw [LK,pl.length_eq,MS]) (by simp [Oi]) rfl (NX.mpr pl) fun i hi=>?_
 .exact L6 this (fun r s' z=>by obtain ⟨rfl,z⟩:=z;exact z) fun _ _ z=>z
 .have hll:l.length=vs.length:=by rw [pl.length_eq,MS]
  have:=MM.mp sl i (i+1) (by lia) (by lia) (MH _);unfold at_;rw [NR,NR,NF,NF,Lp (by lia),Lp (by lia)];exact this
section
variable {P:Program} {w:World} {A:Around} {E:Qy} {s:Qx} {a kS:Qz} {vs ks:List Qj} {f:Qj} {e1:Nat} {R:PySem.Fin->Qx->Prop}
theorem FQ {n:Nat} {J:List Qj->Qx->Prop} {body:Qj->PUnit->Sem (ForInStep PUnit)}
  (hb:∀ x ks (s:Qx),ks.length < n->vs[ks.length]?=some x->J ks s->wMX P w A (body x ⟨⟩) (fun r s'=>r=.yield ⟨⟩/\∃ k,J (ks++[k]) s') E s):∀ (r ks:List Qj) (s:Qx),ks.length+r.length=n->vs.drop ks.length=r->J ks s ->
   wMX P w A (forIn r PUnit.unit body) (fun _ s'=>∃ ks,ks.length=n/\J ks s') E s
 | [],ks,s,hl,hr,h=>by rw [List.forIn_nil];exact Lu ⟨ks,by simpa using hl,h⟩
 | x :: r,ks,s,hl,hr,h=>by
  rw [LN] at hl;rw [List.forIn_cons];have hx:vs[ks.length]?=some x:=by
   have:(vs.drop ks.length)[0]?=some x:=by rw [hr];rfl
   rwa [List.getElem?_drop,Nat.add_zero] at this
  refine Lm (L6 (hb x ks s (by lia) hx h) (fun q s' hq=>?_) fun _ _ x=>x);obtain ⟨rfl,k,h2⟩:=hq;refine FQ hb r (ks++[k]) s' (by rw [Ln,MO];lia) ?_ h2;rw [Ln,MO,<-List.drop_drop,hr];rfl
theorem GY {J:List Qj->Qx->Prop} (UA:vs.length < 4096)
  (step:∀ x ks (s:Qx),vs[ks.length]?=some x->ks.length < 4096->J ks s->wMX P w A (call f [x]) (fun k s'=>(∃ e,s'.heap.get? kS=some (seqObj "list" (List.toArray ks) e))/\J (ks++[k]) { s' with heap:=s'.heap.update kS (Obj.mapSeq (·.push k)) }) (fun _ _=>False) s)
  (hJ:∀ ks s,J ks s->∃ e,s.heap.get? kS=some (seqObj "list" (List.toArray ks) e))
  (fin:∀ ks (s:Qx),ks.length=vs.length->J ks s->wMX P w A (ksk_end a false vs.toArray e1 (.ref kS) (List.toArray ks)) R E s) (h:J [] s) :
  wMX P w A (ksk_rest a f false vs.toArray e1 (.ref kS)) R E s:=by
 unfold ksk_rest;refine Lm (MT ?_);rw [List.forIn_toArray];refine Lm (L6 (FQ (n:=vs.length) (vs:=vs) (J:=J) (fun x ks s' hl hx hj=>?_) vs [] s (by simp) (by simp) h) (fun _ s' hd=>?_) fun _ _ x=>x)
 .refine Lm (wpAny_attempt (L6 (step x ks s' hx (by lia) hj) (fun k US hk=>?_) fun _ _ hF=>hF.elim));obtain ⟨⟨e,g⟩,TZ⟩:=hk;try dsimp only
  refine Lm (listUpdate_at g rfl ?_ (by rw [LK,MF];lia) (LG (Nat.le_of_eq (Array.size_push ..)) (by rw [LK,MF];lia)));exact Lu ⟨rfl,k,TZ⟩
 .obtain ⟨ks,hl,hj⟩:=hd;obtain ⟨e,g⟩:=hJ ks s' hj;try dsimp only
  refine Lm (listItems_at g rfl ?_);exact fin ks s' hl hj
theorem Dq {st:SortSt} {e:Nat} {out:List Qj} (YQ:(arrOf st).map (·.2)=List.toArray out) (hz:out.length < 4096) (hkz:ks.length < 4096) (hf:failedOf st=none) (O2:a≠kS)
  (gk:s.heap.get? kS=some (seqObj "list" (List.toArray ks) e)) (ga:s.heap.get? a=some (seqObj "list" #[] e1))
  (h:R (.done (.ret .none)) { s with heap:=(s.heap.update kS (Obj.mapSeq fun _=>(#[]:Array Qj))).update a (Obj.mapSeq fun _=>List.toArray out) }):wMX P w A (ksk_tail a false e1 (.ref kS) st) R E s:=by
 have ga':(s.heap.update kS (Obj.mapSeq fun _=>(#[]:Array Qj))).get? a=some (seqObj "list" #[] e1):=(L4 _ _ (Ne.symm O2)).trans ga;unfold ksk_tail;try dsimp only
 rw [YQ];refine Lm (listUpdate_at gk rfl ?_ (by rw [LK,MF];lia) (Mk _));refine Lm (wpAny_letGo ?_);refine Lm (seqEpoch_at ga' rfl ?_);refine Lm (listUpdate_at ga' rfl ?_ (Mk _) (by show (List.toArray out).size<=_;rw [LK,MF];lia));rw [hf];simp only [bne_self_eq_false,Nz,Nv];exact Lu h
theorem K2 {e:Nat} {κ:SortKind} {lt:Nat->Nat->Bool} (hl:ks.length=vs.length) (UA:vs.length < 4096) (O2:a≠kS)
  (gk:s.heap.get? kS=some (seqObj "list" (List.toArray ks) e)) (ga:s.heap.get? a=some (seqObj "list" #[] e1))
  (hk:2<=vs.length->∀ Q:SortKind->Qx->Prop,Q κ s->wMX P w A (keyKind' (List.toArray ks)) Q (fun _ _=>False) s)
  (hc:∀ i j (C:Bool->Qx->Prop),i < vs.length->j < vs.length->C (lt i j) s->kas_ask P w A κ ks i j C s) (O:Ord lt vs.length)
  (h:∀ p,Pm vs.length p->Up lt p vs.length->R (.done (.ret .none)) { s with heap:=(s.heap.update kS (Obj.mapSeq fun _=>(#[]:Array Qj))).update a (Obj.mapSeq fun _=>List.toArray (p.toList.map fun i=>vs.getD i Value.none)) }) :
  wMX P w A (ksk_end a false vs.toArray e1 (.ref kS) (List.toArray ks)) R E s:=by
 unfold ksk_end;dsimp only;rw [Lw LU,Lw LU];by_cases h2:vs.length < 2
 .have hs:vs.toArray.size < 2:=by rw [LK];exact h2
  rw [Lz hs,Lz hs];refine Lm (Lu ?_);show wpAny _ _ (pure (PUnit.unit,SortSt.mk' general' (ks.toArray.zip vs.toArray) #[] 7 none)>>=_) _ _ _;refine Lm (Lu ?_);dsimp only;have er:(List.toArray (List.range vs.length)).map (kas_item (ks.toArray.zip vs.toArray))=ks.toArray.zip vs.toArray:=by have e:=kas_range (ks.toArray.zip vs.toArray);rwa [show (ks.toArray.zip vs.toArray).size=vs.length by simp [hl]] at e
  refine Dq (st:=SortSt.mk' general' (ks.toArray.zip vs.toArray) #[] 7 none) (kat_snds hl (p:=(List.range vs.length).toArray) er.symm) (by simpa using UA) (by lia) rfl O2 gk ga (h _ (Array.Perm.refl _) fun i hi=>by lia)
 .have hs:¬vs.toArray.size < 2:=by rw [LK];exact h2
  rw [Lw hs,Lw hs];refine Lm (L6 (hk (by lia) (fun ZY s'=>ZY=κ/\s'=s) ⟨rfl,rfl⟩) (fun ZY s0 PZ=>?_) fun _ _ x=>x.elim);obtain ⟨rfl,rfl⟩:=PZ
  refine Lm (L6 (xA (Q:=fun O0 s'=>∃ p:Array Nat,p.size=vs.length/\arrOf O0=p.map (kas_item (ks.toArray.zip vs.toArray))/\failedOf O0=none/\(Pm vs.length p/\Up lt p vs.length)/\s'=s0)
   hl hc O fun p O0 a1 a2 a3 a4 a5=>⟨p,a1,a2,a3,⟨a4,a5⟩,rfl⟩) ?_ fun _ _ x=>x)
  rintro ⟨⟨⟩,O0⟩ s' ⟨p,hp,har,hf,⟨h1,VP⟩,rfl⟩;dsimp only;exact Dq (kat_snds hl har) (by rw [Lo,ML,hp];exact UA) (by lia) hf O2 gk ga (h p h1 VP)
theorem BV (hh:A.handled=none) (lo:(d==sysModules)=false) (ok:Va d es ep s.heap) (hz:es.size < 4096)
  (h:∀ vs D kS e1 h' tk,vs=es.toList.map (·.key)->s.heap.objs.size<=D->D < kS->(∀ b o,s.heap.get? b=some o->h'.get? b=some o)->h'.get? D=some (seqObj "list" #[] e1)->h'.get? kS=some (seqObj "list" #[] 0) ->
   ∀ R:PySem.Fin->Qx->Prop,(∀ s',Q (.ref D) s'->R (.done (.ret .none)) s')->wMX P w A.in1.in1 (ksk_rest D (.ref g) false vs.toArray e1 (.ref kS)) R (fun _ _=>False) { s with heap:=h',toks:=tk }) :
  wMX P w A (call (.builtin "sorted") [.ref d] [(Str.ofString "key", .ref g)]) Q E s:=by
 refine call_function_entry_kw kind_sorted plain_sorted entry_sorted (ksk_s1 _ _) ?_;unfold Builtin.«sorted»
 refine Lm (m:=checkCount "sorted" 1 1 _) (Lu ?_);refine Lm (Hl hh lo ok (by rw [MF];lia) fun vs h1 tk ev Pn hk=>?_);have ψ:vs.length < 4096:=by rw [ev,Lo,ML];exact hz
 refine Lm (wpAny_newList ?_ (by rw [MF];lia));have Ug:(h1.push (seqObj "list" vs.toArray 0)).get? h1.objs.size=some (seqObj "list" vs.toArray 0):=L0 _ rfl;refine Lm (MG (wpAny_call_entry_kw slot_list_sort ⟨_,Ug,rfl⟩ entry_list_sort ?body (ksk_l1 _ _)))
 case body =>
  show wMX P w A.in1.in1 (Builtin.«list.sort» ⟨[.ref h1.objs.size],[(Str.ofString "key", .ref g)]⟩) _ _ _
  rw [ksk_t1];unfold ksk_tree;obtain ⟨e1,Xj⟩:∃ e1,((h1.push (seqObj "list" vs.toArray 0)).update h1.objs.size (Obj.mapSeq fun _=>(#[]:Array Qj))).get? h1.objs.size=some (seqObj "list" #[] e1):=⟨_,get?_update_seq Ug fun _=>#[]⟩;refine Lm (listItems_at Ug rfl ?_);refine Lm (listUpdate_at Ug rfl ?_ (by rw [LK,MF];lia) (Mk _));refine Lm (seqEpoch_at Xj rfl ?_);refine Lm (wpAny_newTuple ?_ (by show vs.length<=_;rw [MF];lia));refine Lm (wpAny_newList ?_ (Mk _));refine MG ?_;have To:(((h1.push (seqObj "list" vs.toArray 0)).update h1.objs.size (Obj.mapSeq fun _=>(#[]:Array Qj))).push (seqObj "tuple" vs.toArray 0)).objs.size=h1.objs.size+2:=by rw [size_push',Heap.size_update,size_push']
  refine L6 (h vs h1.objs.size (((h1.push (seqObj "list" vs.toArray 0)).update h1.objs.size (Obj.mapSeq fun _=>(#[]:Array Qj))).push (seqObj "tuple" vs.toArray 0)).objs.size e1
   ((((h1.push (seqObj "list" vs.toArray 0)).update h1.objs.size (Obj.mapSeq fun _=>(#[]:Array Qj))).push (seqObj "tuple" vs.toArray 0)).push (seqObj "list" #[] 0)) tk ev (NC Pn) (by rw [To];exact Nat.lt_succ_of_lt (MH _)) (fun b o e=>?_)
   (LB _ (LB _ Xj)) (L0 _ rfl) _ fun s' hq=>?_) (fun _ _ z=>z) fun _ _ z=>z.elim
  .have hb:b≠h1.objs.size:=L9 (LM (hk b o e));exact LB _ (LB _ ((L4 _ _ (Ne.symm hb)).trans (LB _ (hk b o e))))
  .exact ⟨_,rfl,Lu ⟨_,rfl,hq⟩⟩
end
abbrev Ky:=Int×Int×Str
noncomputable def Q2 (x y:Ky):Bool:=if x.1=y.1 then (if x.2.1=y.2.1 then decide (x.2.2.cps.toList < y.2.2.cps.toList) else decide (x.2.1 < y.2.1)) else decide (x.1 < y.1)
theorem sD (x:Ky):Q2 x x=false:=by unfold Q2;rw [Lz rfl,Lz rfl];exact LV (List.lt_irrefl _)
theorem EM (h1:Q2 x y=true) (h2:Q2 y z=true):Q2 x z=true:=by
 unfold Q2 at *;split at h1 <;> split at h2
 .rename_i a b;rw [Lz (a.trans b)];split at h1 <;> split at h2
  .rename_i c d;rw [Lz (c.trans d)];exact LH (List.lt_trans (L8 h1) (L8 h2))
  .rename_i c d;rw [Lw (by rw [c];exact d),c];exact h2
  .rename_i c d;rw [Lw (by rw [<- d];exact c),<-d];exact h1
  .have:=L8 h1;have:=L8 h2;rw [Lw (by lia)];exact LH (by lia)
 .rename_i a b;rw [Lw (by rw [a];exact b),a];exact h2
 .rename_i a b;rw [Lw (by rw [<- b];exact a),<-b];exact h1
 .have:=L8 h1;have:=L8 h2;rw [Lw (by lia)];exact LH (by lia)
theorem Bk (hn:x≠y) (h:Q2 x y=false):Q2 y x=true:=by
 obtain ⟨x1,x2,x3⟩:=x;obtain ⟨y1,y2,y3⟩:=y;unfold Q2 at *;dsimp only at *;split at h
 .rename_i a;rw [Lz a.symm];split at h
  .rename_i b;rw [Lz b.symm];refine LH ?_;have h:=Mz h
   have:y3.cps.toList≠x3.cps.toList:=fun z=>hn (by
    have:y3=x3:=by cases x3;cases y3;simpa using N6.mp z
    rw [a,b,this])
   exact Nt fun n=>this (List.le_antisymm (List.not_lt.mp h) (List.not_lt.mp n))
  .rename_i b;have h:=Mz h;rw [Lw (fun z=>b z.symm)];exact LH (by lia)
 .rename_i a;have h:=Mz h;rw [Lw (fun z=>a z.symm)];exact LH (by lia)
section
variable {X:Cx} {ti:Qw} {Y:List (Option V)} {H:Hp} {s:Qx} {h':Heap}
theorem Inv.rm (I:Inv X ((a,o) :: ti) Y H s):∀ x c,X.env.cells.lookup x=some c->c≠a:=fun x c e z=>by obtain ⟨g,_,_,_,n⟩:=I.pin (a,o) (Lx _ Lq);obtain ⟨v,oc,h1,h2⟩:=I.cell x c e;subst z;rw [g] at h1;cases h1;first | exact n _ h2 | exact n _ h2.1 | exact n _ h2.2
theorem Inv.wC (I:Inv X (p :: ti) Y H s):Inv X ti Y H s:=I.cB fun q hq=>I.pin q (Lx _ (Ly _ hq))
theorem Inv.IZ (I:Inv X ((a,o) :: ti) Y H s) (ha:X.ZZ.heap.objs.size<=a) (hp:∀ p∈X.pn++ti,p.1≠a) (hs:∀ b u,b≠a->s.heap.get? b=some u->h'.get? b=some u) (g':h'.get? a=some o') (hc:∀ v,o'.data≠.cell v) :
  Inv X ((a,o') :: ti) Y H { s with heap:=h' }:=by
 obtain ⟨g,n,L,f,_⟩:=I.pin (a,o) (Lx _ Lq);have I2:Inv X ti Y H { s with heap:=h' }:=I.wC.turned (t':=s.toks) hs n L (.inr ha) I.rm hp;refine I2.cB fun p hp=>?_;rcases LJ.mp hp with rfl | hp
 .exact ⟨g',n,L,f,hc⟩
 .exact I2.pin p (Lx _ hp)
theorem Inv.K1 (I:Inv X ti Y H s) (hD:X.ZZ.heap.objs.size<=D) (hk:X.ZZ.heap.objs.size<=k) (nD:H D=none) (nk:H k=none) (LD:D≠X.env.locals) (Lk:k≠X.env.locals)
  (cD:∀ x c,X.env.cells.lookup x=some c->c≠D) (ck:∀ x c,X.env.cells.lookup x=some c->c≠k) (pD:∀ p∈X.pn++ti,p.1≠D) (pk:∀ p∈X.pn++ti,p.1≠k)
  (hs:∀ b u,b≠D->b≠k->s.heap.get? b=some u->h'.get? b=some u) (new:aI X.prog X.w (upd H D o) h' D o):Inv X ti Y (upd H D o) { s with heap:=h' }:=by
 have nd:∀ b u,H b=some u->b≠D:=fun b u e z=>by rw [z,nD] at e;cases e
 have nk':∀ b u,H b=some u->b≠k:=fun b u e z=>by rw [z,nk] at e;cases e
 have hc:∀ b,b ∉ [D,k]->b≠D/\b≠k:=fun b hb=>⟨fun z=>hb (by simp [z]),fun z=>hb (by simp [z])⟩;refine I.step (t':=s.toks) (g':=s.gens) (d':=s.drawn) (ch:=[D,k]) (fun b hb=>?_) (fun b o _ _ hb e _=>hs b o (hc b hb).1 (hc b hb).2 e) (fun b o _ _ hb e _=>⟨o.slots,hs b o (hc b hb).1 (hc b hb).2 e⟩) (fun b o hb _ n=>by rw [aj (hc b hb).1];exact n)
  (fun b o hb e=>⟨o,hs b o (hc b hb).1 (hc b hb).2 e⟩) (fun b xs e=>by rw [aj (nd b _ e)];exact e) (fun b o u e=>by rw [aj (nd b _ e)];exact e) (fun b ps e=>⟨#[],by rw [aj (nd b _ e),e];simp⟩) (fun m hm=>?_) (fun b u e=>?_) I.bare
 .rcases LJ.mp hb with rfl | hb
  .exact ⟨.inr hD,LD,cD,pD⟩
  .rw [LF.mp hb];exact ⟨.inr hk,Lk,ck,pk⟩
 .obtain ⟨o,es,ep,ho,r⟩:=hm;exact ⟨o,es,ep,hs _ o (Ne.symm LD) (Ne.symm Lk) ho,r⟩
 .by_cases z:b=D
  .subst z;rw [ak] at e;cases e;exact new
  .rw [aj z] at e;refine (I.IT b u e).jf (fun c v hc q=>?_) (fun c q=>by rw [aj (nd c _ q)];exact q) fun c xs q=>by rw [aj (nd c _ q)];exact q
   rcases hc with rfl | hc
   .exact hs _ _ z (nk' _ _ e) q
   .exact hs _ _ (nd c _ hc) (nk' c _ hc) q
end
def valAt (xs:List (Qq×V×V)) (i:Nat):V:=((xs[i]?).map (·.2.1)).getD .non
abbrev Cx.UB (X:Cx):Cx:={ X with A:=X.A.in1.in1,xe:=fun _ _=>False }
section
variable {X:Cx} {ti:Qw} {Y:List (Option V)} {H:Hp} {s:Qx}
theorem Inv.UB (I:Inv X ti Y H s):Inv X.UB ti Y H s :=
 ⟨⟨I.ok.mod,I.ok.kind,I.ok.glob,I.ok.blt,I.ok.above,I.ok.inj,I.ok.has,I.ok.Sz,I.ok.hd,I.ok.frames,I.ok.S5,I.ok.QM,I.ok.bs,I.ok.QO,I.ok.vU,I.ok.w6,I.ok.jT,I.ok.Ql⟩,I.os,I.bare,I.base,I.loc,I.cell,I.free,I.cH,I.pin,I.IT,I.len⟩
theorem Inv.Ku (I:Inv X.UB ti Y H s):Inv X ti Y H s :=
 ⟨⟨I.ok.mod,I.ok.kind,I.ok.glob,I.ok.blt,I.ok.above,I.ok.inj,I.ok.has,I.ok.Sz,I.ok.hd,I.ok.frames,I.ok.S5,I.ok.QM,I.ok.bs,I.ok.QO,I.ok.vU,I.ok.w6,I.ok.jT,I.ok.Ql⟩,I.os,I.bare,I.base,I.loc,I.cell,I.free,I.cH,I.pin,I.IT,I.len⟩
end
end L2
namespace L2
open PySem PySem.Spec PyProof.Rows
theorem ON.get {K:Fg} {F:Zq} {H:Hp}:∀ {kvs:List (Qq×Qq)} {xs:List (Qq×V×V)} {i:Nat} {x:Qq×V×V},ON K F H kvs xs->xs[i]?=some x->(kvs.map (·.1))[i]?=some x.1/\Dm K F H x.1 x.2.1
 | [],xs,i,x,h,e=>by rw [show xs=[] from h] at e;simp at e
 | (k,d) :: kvs,xs,i,x,h,e=>by
  obtain ⟨j,v,r,rfl,h1,h2,h3,h4⟩:=h;cases i with
  | zero=>simp at e;subst e;exact ⟨rfl,h2⟩
  | succ i=>have:=ON.get h4 (show r[i]?=some x by simpa using e);exact ⟨by simpa using this.1,this.2⟩
theorem ON.i5 {K:Fg} {F:Zq} {H:Hp}:∀ {kvs:List (Qq×Qq)} {xs:List (Qq×V×V)},ON K F H kvs xs->xs.length=kvs.length
 | [],xs,h=>by rw [show xs=[] from h];rfl
 | (k,d) :: kvs,xs,h=>by obtain ⟨j,v,r,rfl,h1,h2,h3,h4⟩:=h;rw [LN,ON.i5 h4,LN]
inductive RH:List Qj->List Qj->Bool->Prop
 | nil:RH [] [] false
 | ii (a b:Int) (t u:Tok) {r q:List Qj} {z:Bool} (h:RH r q z):RH (.int a t :: r) (.int b u :: q) (if a=b then z else decide (a < b))
 | ss (a b:Str) (t u:Tok) {r q:List Qj} {z:Bool} (h:RH r q z):RH (.str a t :: r) (.str b u :: q) (if a=b then z else decide (a.cps.toList < b.cps.toList))
theorem RH.len:∀ {xs ys:List Qj} {z:Bool},RH xs ys z->xs.length=ys.length
 | _,_,_,.nil=>rfl
 | _,_,_,.ii _ _ _ _ h=>by rw [LN,h.len,LN]
 | _,_,_,.ss _ _ _ _ h=>by rw [LN,h.len,LN]
theorem xT (h:RH (x :: xs) (y :: ys) z) (A:Around) (s:Qx):∃ e z',SeqAt.EqAt A s x y e/\RH xs ys z'/\(e=true->z=z')/\(e=false->∀ (prog:Program) (w:World) (E:Qy) (Q:Qy),Q (.bool z) s->wMX prog w A (richCompare .Lt x y) Q E s):=by
 cases h with
 | ii a b t u h =>
  refine ⟨(a==b),_,SeqAt.EqAt.int_int a t b u,h,fun e=>by rw [Lz (Ma.mp e)],fun e prog w E Q q=>?_⟩;rw [Lw (fun z=>by rw [z,Mo] at e;cases e)] at q;exact (PyProof.Rows.lt_int q:wMX prog w A (compareOp .Lt (.int a t) (.int b u)) Q E s)
 | ss a b t u h =>
  refine ⟨(a==b),_,SeqAt.EqAt.str_str a t b u,h,fun e=>by rw [Lz (Ma.mp e)],fun e prog w E Q q=>?_⟩;rw [Lw (fun z=>by rw [z,Mo] at e;cases e)] at q;exact (PyProof.Rows.lt_str q:wMX prog w A (compareOp .Lt (.str a t) (.str b u)) Q E s)
section
open PySem.SeqAt
open PySem.AutoSeq1 (wpAny_loadPart')
open PySem.MeetsSeq PySem.MeetsSeq2 PySem.MeetsSeq3
theorem sM (l b:Qz) (items OZ:Array Qj) (n n2:Nat) (dd TK:Option Qz) (sl TL:Array (Option Qj)) (z:Bool) (hi:RH items.toList OZ.toList z) :
  Meets (Builtin.«tuple.__lt__» ⟨[.ref l,.ref b],[]⟩)
   (fun _ R s=>s.heap.get? l=some { cls:=.type "tuple", dict:=dd,data:=.seq items n,slots:=sl }/\s.heap.get? b=some { cls:=.type "tuple", dict:=TK,data:=.seq OZ n2,slots:=TL } /\
    R (.ok (.ret (.bool z))) s) :=
 .of_wp fun prog w A R s h=>by
  obtain ⟨hp,g,d,tk,os⟩:=s;obtain ⟨hl,hb,h⟩:=h;have f2:=AutoSeq1.sub_tuple_tuple;have zl:items.size=OZ.size:=by simpa using hi.len
  wp_walk using wpAny_loadPart' hl,wpAny_loadPart' hb,NG _ (fun rest b s'=>b.1=none/\s'=⟨hp,g,d,tk,os⟩/\∃ (vs ws:List Qj) (z':Bool),rest=vs.zip ws/\RH vs ws z'/\R (.ok (.ret (.bool z'))) ⟨hp,g,d,tk,os⟩) _
  case turn =>
   rintro ⟨y,x⟩ rest b s' ⟨SU,rfl,vs,ws,z',hz,hv,hR⟩;cases vs with
   | nil=>rw [List.zip_nil_left] at hz;cases hz
   | cons v vs =>
    cases ws with
    | nil=>rw [List.zip_nil_right] at hz;cases hz
    | cons w1 ws =>
     rw [List.zip_cons_cons] at hz;injection hz with hyx Qr;injection hyx with hy hx;subst hy hx;obtain ⟨e,z2,he,h2,h3,h4⟩:=xT hv A.in1 ⟨hp,g,d,tk,os⟩;refine Lm (he prog w _ _ ?_);cases e with
     | true =>
      rw [h3 rfl] at hR
      wp_walk
      exact ⟨rfl,rfl,_,_,_,Qr,h2,hR⟩
     | false =>
      have hri:=h4 rfl prog w
      wp_walk using hri
      exact ⟨_,rfl,by simpa using hR⟩
  case fin =>
   rintro ⟨b1,b2⟩ s' ⟨SU,rfl,vs,ws,z',hz,hv,hR⟩;simp only at SU;subst SU;have hv:z'=decide (items.size < OZ.size):=by
    cases hv with
    | nil=>exact (LV (by lia)).symm
    | ii a b t u h=>rw [List.zip_cons_cons] at hz;cases hz
    | ss a b t u h=>rw [List.zip_cons_cons] at hz;cases hz
   rw [hv] at hR
   wp_walk
   exact ⟨_,rfl,by simpa [Builtin.Tuple.tupleCompareSizes] using hR⟩
  case h =>
   exact ⟨rfl,rfl,items.toList,OZ.toList,z,rfl,hi,h⟩
end
theorem uE (hl:IsTup s.heap l items) (hb:IsTup s.heap b OZ) (hi:RH items.toList OZ.toList z)
  (hu:A.units < cLine) (h:Q (.bool z) s):wMX prog w A (compareOp .Lt (.ref l) (.ref b)) Q E s:=by
 obtain ⟨⟨cls,dd,data,sl⟩,ho,hc,n,hd⟩:=id hl;obtain ⟨⟨Vv,TK,data2,TL⟩,SH,RO,n2,hd2⟩:=id hb;simp only at hc hd RO hd2;subst hc hd RO hd2;exact richCompare_meets_room (op:=.Lt) ⟨_,ho,rfl⟩ ⟨_,SH,rfl⟩ PySem.F.slot_tuple_lt PySem.F.entry_tuple_lt (PySem.F.args_tuple_lt_2 _ _) (sM l b items OZ n n2 dd TK sl TL z hi)
  ⟨ho,SH,show Value.bool z≠Value.notImplemented/\Q (.bool z) s from ⟨(fun x=>nomatch x),h⟩⟩ hu
inductive Tp:List V->List V->Bool->Prop
 | nil:Tp [] [] false
 | ii (a b:Int) {r q:List V} {z:Bool} (h:Tp r q z):Tp (.int a :: r) (.int b :: q) (if a=b then z else decide (a < b))
 | ss (a b:Str) {r q:List V} {z:Bool} (h:Tp r q z):Tp (.str a :: r) (.str b :: q) (if a=b then z else decide (a.cps.toList < b.cps.toList))
theorem Tp.vals:∀ {xs ys:List V} {z:Bool} {us vs:List Qj},Tp xs ys z->Vals xs us->Vals ys vs->RH us vs z
 | _,_,_,_,_,.nil,h1,h2=>by cases h1;cases h2;exact .nil
 | _,_,_,_,_,.ii a b h,h1,h2=>by
  cases h1 with
  | cons x r =>
   cases h2 with
   | cons y q =>
    obtain ⟨t,rfl⟩:=x;obtain ⟨u,rfl⟩:=y;exact .ii a b t u (h.vals r q)
 | _,_,_,_,_,.ss a b h,h1,h2=>by
  cases h1 with
  | cons x r =>
   cases h2 with
   | cons y q =>
    obtain ⟨t,rfl⟩:=x;obtain ⟨u,rfl⟩:=y;exact .ss a b t u (h.vals r q)
def Hb (K:Fg):R2:=fun x y H Q=>∃ a b xs ys z,x=.ref a/\y=.ref b/\OU K H a xs/\OU K H b ys/\Tp xs ys z/\Q (.bl z) H
theorem ED (hu:X.A.units < cLine):Oy X (compareOp .Lt) (Hb X.K):=by intro ti s Y H x y v u Q I rx ry h;obtain ⟨a,b,xs,ys,z,rfl,rfl,ha,hb,hz,q⟩:=h;cases (show v=Value.ref a from rx);cases (show u=Value.ref b from ry);obtain ⟨its,r,p,_⟩:=I.tuple ha;obtain ⟨R8,r2,p2,_⟩:=I.tuple hb;exact uE p p2 (by simpa using hz.vals r r2) hu ⟨.bl z,H,I,rfl,q⟩
noncomputable def BQ:List Qq->List Qq->Option Bool
 | [],[]=>some false
 | .int a :: r,.int b :: q=>(BQ r q).map fun z=>if a=b then z else decide (a < b)
 | .str a :: r,.str b :: q=>(BQ r q).map fun z=>if a=b then z else decide (a.cps.toList < b.cps.toList)
 | _,_=>none
theorem DH {K:Fg} {F:Zq} {H:Hp}:∀ {ds es:List Qq} {xs ys:List V} {z:Bool},BQ ds es=some z->Ot K F H ds xs->Ot K F H es ys->Tp xs ys z
 | ds,es,xs,ys,z,h,h1,h2=>by
  induction ds generalizing es xs ys z with
  | nil =>
   cases es with
   | nil=>cases h;rw [show xs=[] from h1,show ys=[] from h2];exact .nil
   | cons e es=>simp [BQ] at h
  | cons d ds ih =>
   unfold BQ at h;split at h
   .rename_i h0;cases h0
   .rename_i a r b q e1;obtain ⟨z',hz,rfl⟩:=LZ.mp h;cases e1;obtain ⟨v,rr,rfl,hv,h1⟩:=h1;obtain ⟨w,qq,rfl,hw,h2⟩:=h2;cases (show v=.int a from hv);cases (show w=.int b from hw);exact .ii a b (ih _ _ _ _ hz h1 h2)
   .rename_i a r b q e1;obtain ⟨z',hz,rfl⟩:=LZ.mp h;cases e1;obtain ⟨v,rr,rfl,hv,h1⟩:=h1;obtain ⟨w,qq,rfl,hw,h2⟩:=h2;cases (show v=.str a from hv.1);cases (show w=.str b from hw.1);exact .ss a b (ih _ _ _ _ hz h1 h2)
   .cases h
def IH:Qq->Qq->Option PR
 | .tuple ds,.tuple es=>(BQ ds es).map fun z=>.dat (.bool z)
 | _,_=>none
def JY:Oo:=Oo.two Hb IH fun K F H x y u v pr Q hf hx hy hd q=>by
 unfold IH at hf;split at hf
 .obtain ⟨z,hz,rfl⟩:=LZ.mp hf;obtain ⟨a,xs,rfl,sa,_,da⟩:=hx;obtain ⟨b,ys,rfl,sb,_,db⟩:=hy;exact ⟨a,b,xs,ys,z,rfl,rfl,sa,sb,DH hz da db,q _ H (ax.rf H) rfl⟩
 .cases hf
theorem Aw (hu:X.A.units < cLine):Oy X (compareOp .Lt) (fun x y=>JY.r X.K [x,y]):=ED hu
theorem wX (xs:List V):kH xs none none (some (-1))=xs.reverse:=by unfold kH;rw [PySem.W.krv_bounds];show (sliceRange ((xs.length:Int) - 1) (-1) (-1)).filterMap (xs[·]?)=_;rw [PySem.W.krv_sliceRange,PySem.W.krv_range,List.filterMap_reverse];have h:=PySem.W.krv_all xs.toArray;rw [LK] at h;simp only [NF,List.toList_toArray] at h;rw [h]
def K3:Oo:=Oo.two (fun K x y H Q=>∃ i,y=.int i/\∃ a xs,x=.ref a/\some i≠some 0/\OO K H a xs/\∀ p,H p=none->(kH xs none none (some i)).length<=xs.length->Q (.ref p) (upd H p (.lst (kH xs none none (some i)))))
 (fun x y=>match x,y with | .list ds,.int i=>if i=-1 then some (.Oj (.list ds.reverse)) else none | _,_=>none) fun K F H x y u v pr Q hf hx hy hd q=>by
 split at hf
 .split at hf
  .rename_i hi;cases hf;subst hi;obtain ⟨a,us,rfl,s1,z1,d1⟩:=mT hx;refine ⟨_,vInt hy,a,us,rfl,by decide,s1,fun p hp hl=>q _ _ (ax.nw _ hp) ?_⟩;rw [wX];exact yM hp (by rw [MX];exact z1) d1.rev
  .cases hf
 .cases hf
theorem KW (h:WE gd a env fun r e=>∃ ds,r.av=.dat (.list ds)/\QI (ds.zipIdx.map fun p=>.tuple [.int p.2,p.1]) none e):WI gd (.U4 a) env QI:=by obtain ⟨r,e',h1,ds,h2,h3⟩:=h;exact ⟨_,_,_,by simp only [dI,h1,h2],h3⟩
end L2
namespace L2
open PySem PySem.Spec PyProof.Rows PySem.W
structure KS where
 κ:Type
 V7:κ
 dec:DecidableEq κ
 lt:κ->κ->Bool
 T2:∀ x,lt x x=false
 tr:∀ {x y z},lt x y=true->lt y z=true->lt x z=true
 Om:∀ {x y},x≠y->lt x y=false->lt y x=true
 T:Fg->Hp->V->κ->Prop
 same:∀ {K H H' u k},T K H u k->ax H H'->T K H' u k
 Hh:Heap->Qj->κ->Prop
 key:∀ {X:Cx} {ti:Qw} {Y:List (Option V)} {H:Hp} {s:Qx} {v:V} {u:Qj} {k:κ},Inv X ti Y H s->RelV v u->T X.K H v k->Hh s.heap u k
 ask:∀ {P:Program} {w:World} {A:Around} {E:Qy} {s:Qx} {u v:Qj} {a b:κ} {C:Bool->Qx->Prop},A.units+64 < cLine->Hh s.heap u a->Hh s.heap v b->C (lt a b) s->wMX P w A (keyLt' (tuples' true) u v) C E s
 kd:∀ {P:Program} {w:World} {A:Around} {E:Qy} {s:Qx} {us:List Qj} {Q:SortKind->Qx->Prop},(∀ u∈us,∃ k,Hh s.heap u k)->0 < us.length->Q (tuples' true) s->wMX P w A (keyKind' us.toArray) Q E s
 of:Qq->Option κ
 ofT:∀ {K:Fg} {F:Zq} {H:Hp} {d:Qq} {u:V} {k:κ},of d=some k->Dm K F H d u->T K H u k
def FH (S:KS) (ks:List S.κ) (i j:Nat):Bool:=S.lt (ks.getD i S.V7) (ks.getD j S.V7)
theorem J6 (S:KS) {ks:List S.κ} (h:ks.Nodup):Ord (FH S ks) ks.length where
 T2:=fun i=>S.T2 _
 tr:=fun i j k=>S.tr
 Om:=fun i j hi hj hn e=>S.Om (fun z=>by
  rw [Mb,Mb,Lp hi,Lp hj] at z
  exact hn ((List.getElem?_inj hi h).mp (by rw [Lp hi,Lp hj];exact congrArg some z))) e
def sH (S:KS) (K:Fg) (sp:Sp):List V->Hp->VK->Prop:=fun us H Q=>∃ (d:Qz) (ep:Nat) (xs:List (Qq×V×V)) (ks:List S.κ),us=[.ref d]/\H d=some (.dD ep xs)/\xs.length < 4096/\ks.length=xs.length/\ks.Nodup /\
 (∀ (i:Nat) (x:Qq×V×V) (k:S.κ) (H':Hp),xs[i]?=some x->ks[i]?=some k->ax H H'->sp [x.2.1] H' (fun u O3=>ax H' O3/\S.T K O3 u k) E0) /\
 ∀ (H':Hp) (D:Qz) (p:Array Nat),ax H H'->H' D=none->Pm xs.length p->Up (FH S ks) p xs.length->Q (.ref D) (upd H' D (.lst (p.toList.map (valAt xs))))
section
variable {X:Cx} {ti:Qw} {Y:List (Option V)} {H:Hp} {s:Qx}
theorem qP {S:KS} {k:Nat} {g:Qz} {fd:FuncData} {ps:List Str} {sp:Sp} {us:List V} {ws:List Qj} {Q:VK} (F:fI X.prog X.w X.K X.mg X.base CX0 k g fd ps sp) (hr:bN (k+2) X.A) (hb:Binds X.K fd ps [])
  (I:Inv X ti Y H s) (rw_:Vals us ws) (h:sH S X.K sp us H Q):wMY X (call (.builtin "sorted") ws [(Str.ofString "key", .ref g)]) (EP X ti Y Q) X.xe s:=by
 obtain ⟨d,ep,xs,ks,rfl,ed,UA,kl,kn,Pu,q⟩:=h;cases rw_ with
 | cons r0 r1 =>
 cases r1;have r0:_=Value.ref d:=r0;subst r0;obtain ⟨z,hd,nd,o,es,g1,g2,g3,g4⟩:=(show aI X.prog X.w H s.heap d (.dD ep xs) from I.IT _ _ ed);have Pn:es.size=xs.length:=by rw [NI g4];simp
 refine BV hr.hd hd ⟨o,g1,g2,g3⟩ (by rw [Pn];exact UA) fun vs D kS e1 h' tk ev hD Xk keep gD gk R hR=>?_;have vl:vs.length=xs.length:=by rw [ev,Lo,ML,Pn]
 have V8:s.heap.objs.size<=kS:=LG hD (NC Xk);have rel:∀ (i:Nat) (x:Qq×V×V) (v:Qj),xs[i]?=some x->vs[i]?=some v->RelV x.2.1 v:=by intro i x v hx hv;obtain ⟨en,h1,h2⟩:=dh g4 i x hx;rw [ev,LO,h1] at hv;cases hv;exact h2.2.1
 have WR:∀ p∈X.pn++ti,p.1≠D:=fun p hp=>L9 (LQ (LM (I.pin p hp).1) hD);have YR:∀ p∈X.pn++ti,p.1≠kS:=fun p hp=>L9 (LQ (LM (I.pin p hp).1) V8);have I0:Inv X.UB ((kS,seqObj "list" (List.toArray []) 0) :: (D,seqObj "list" #[] e1) :: ti) Y H { s with heap:=h',toks:=tk }:=by
  have I0:=(I.kept (t':=tk) keep).UB;refine I0.cB fun p hp=>?_;rcases LJ.mp hp with rfl | hp
  .exact ⟨gk,I.IT.fresh V8,Nr (LQ I.lt V8),I.DV V8,fun v z=>nomatch z⟩
  .rcases LJ.mp hp with rfl | hp
   .exact ⟨gD,I.IT.fresh hD,Nr (LQ I.lt hD),I.DV hD,fun v z=>nomatch z⟩
   .exact I0.pin p (Lx _ hp)
 have szD:X.ZZ.heap.objs.size<=D:=LG I.sz hD;have szk:X.ZZ.heap.objs.size<=kS:=LG I.sz V8;have pk:∀ p∈X.pn++(D,seqObj "list" #[] e1) :: ti,p.1≠kS:=fun p hp=>by
  rcases Mc.mp hp with hp | hp
  .exact YR p (LY _ hp)
  .rcases LJ.mp hp with rfl | hp
   .exact L9 Xk
   .exact YR p (Lx _ hp)
 refine GY (J:=fun PQ s=>∃ H' e,Inv X.UB ((kS,seqObj "list" (List.toArray PQ) e) :: (D,seqObj "list" #[] e1) :: ti) Y H' s/\ax H H'/\∀ i u,PQ[i]?=some u->∃ v k,RelV v u/\ks[i]?=some k/\S.T X.K H' v k) (by rw [vl];exact UA) ?_ ?_ ?_ ⟨H,0,I0,ax.refl _,fun i u z=>absurd z (by rw [show (([]:List Qj)[i]?)=none from List.getElem?_nil];exact nofun)⟩
 .rintro x PQ s' hx hl ⟨H',e,I',sm,To⟩;have hi:PQ.length < xs.length:=by rw [<- vl];exact (Ls.mp hx).1
  have hxi:=Lp hi;have hki:=Lp (show PQ.length < ks.length by rw [kl];exact hi);refine L6 (ze (X:=X.UB) (us:=[x]) (vs:=[xs[PQ.length].2.1]) F (hr.in1.in1) hb .nil FK I' (.cons (rel _ _ _ hxi hx) .nil) (Pu _ _ _ H' hxi hki sm)) (fun u US hu=>?_) fun _ _ z=>z;obtain ⟨v,O3,WV,rv,sm',ky⟩:=hu;have Vd:=(WV.pin (kS,seqObj "list" (List.toArray PQ) e) (Lx _ Lq)).1;have ea:(List.toArray PQ).push u=List.toArray (PQ++[u]):=by simp
  obtain ⟨c2,RO⟩:∃ c2,(US.heap.update kS (Obj.mapSeq (·.push u))).get? kS=some (seqObj "list" (List.toArray (PQ++[u])) c2):=⟨_,by rw [<- ea];exact get?_update_seq Vd (·.push u)⟩;refine ⟨⟨e,Vd⟩,O3,c2,WV.IZ szk pk (fun b o hb e=>(L4 _ _ (Ne.symm hb)).trans e) RO (fun v z=>nomatch z),sm.trans sm',fun i w hw=>?_⟩;rw [List.getElem?_append] at hw;split at hw
  .obtain ⟨v',k',a1,a2,a3⟩:=To i w hw;exact ⟨v',k',a1,a2,S.same a3 sm'⟩
  .rename_i hge;have:i=PQ.length:=by have:=(Ls.mp hw).1;rw [MO] at this;lia
   subst this;rw [M1] at hw;cases hw;exact ⟨v,_,rv,hki,ky⟩
 .rintro PQ s' ⟨H',e,I',_⟩;exact ⟨e,(I'.pin (kS,seqObj "list" (List.toArray PQ) e) (Lx _ Lq)).1⟩
 .rintro PQ s' hl ⟨H',e,I',sm,To⟩;have Vd:=I'.pin (kS,seqObj "list" (List.toArray PQ) e) (Lx _ Lq);have V9:=I'.pin (D,seqObj "list" #[] e1) (Lx _ (Ly _ Lq));have ky:∀ i,i < vs.length->S.Hh s'.heap (PQ.getD i Value.none) (ks.getD i S.V7):=by intro i hi;obtain ⟨v,k,a1,a2,a3⟩:=To i _ (Lp (show i < PQ.length by rw [hl];exact hi));rw [Mb,Mb,a2,Lp (show i < PQ.length by rw [hl];exact hi)];exact S.key I' a1 a3
  refine K2 (κ:=tuples' true) (lt:=FH S ks) hl (by rw [vl];exact UA) (L9 Xk) Vd.1 V9.1 (fun h2 Q' hq=>?_) (fun i j C hi hj hC=>?_) (by rw [vl,<-kl];exact J6 S kn) fun p hp hu=>hR _ ?_
  .refine S.kd (s:=s') (us:=PQ) (fun u hu=>?_) (by lia) hq;obtain ⟨i,hi⟩:=Ni.mp hu;obtain ⟨v,k,a1,a2,a3⟩:=To i u hi;exact ⟨k,S.key I' a1 a3⟩
  .unfold kas_ask;exact S.ask (hr.in1.in1).units (ky i hi) (ky j hj) hC
  .have I2:Inv X ti Y H' s':=I'.wC.wC.Ku;rw [vl] at hp hu;have el:Vals (p.toList.map (valAt xs)) (p.toList.map fun i=>vs.getD i Value.none):=by
    have hb:∀ i∈p.toList,i < xs.length:=fun i hi=>by have:=(NX.mp hp).mem_iff.mp hi;simpa using this
    revert hb;generalize p.toList=l;intro hb;induction l with
    | nil=>exact .nil
    | cons i l ih =>
     refine .cons ?_ (ih fun j hj=>hb j (Ly _ hj));have hi:=hb i Lq;unfold valAt;show RelV _ (vs.getD i Value.none);rw [Lp hi,Mb,Lp (show i < vs.length by rw [vl];exact hi)];exact rel i _ _ (Lp hi) (Lp (show i < vs.length by rw [vl];exact hi))
   have gDD:((s'.heap.update kS (Obj.mapSeq fun _=>(#[]:Array Qj)))).get? D=some (seqObj "list" #[] e1):=(L4 _ _ (Nr Xk)).trans V9.1;obtain ⟨c2,RO⟩:∃ c2,((s'.heap.update kS (Obj.mapSeq fun _=>(#[]:Array Qj))).update D (Obj.mapSeq fun _=>List.toArray (p.toList.map fun i=>vs.getD i Value.none))).get? D=some (seqObj "list" (List.toArray (p.toList.map fun i=>vs.getD i Value.none)) c2):=⟨_,get?_update_seq gDD fun _=>_⟩;refine ⟨.ref D,_,I2.K1 (o:=.lst (p.toList.map (valAt xs))) szD szk V9.2.1 Vd.2.1 V9.2.2.1 Vd.2.2.1 (I'.wC.rm) I'.rm WR YR (fun b u b1 b2 e=>(L4 _ _ (Ne.symm b1)).trans ((L4 _ _ (Ne.symm b2)).trans e)) ⟨?_,_,c2,el,RO⟩,rfl,q H' D p sm V9.2.1 hp hu⟩;rw [Lo,ML,hp.size,MF];lia
end
section
variable {X:Cx} {k:Nat} {g:Qz} {fd:FuncData} {ps:List Str} {sp:Sp} {f:Str} {p pf pos Rr:Pos} {e:Expr} {te:TE}
theorem wV (F:fI X.prog X.w X.K X.mg X.base CX0 k g fd ps sp) (hr:bN (k+2) X.A) (hb:Binds X.K fd ps []) (YS:Gl X "sorted") (Wa:X.mg "sorted" = none) (hv:bootBuiltins "sorted" = some (.builtin "sorted")) (Ss:Gl X f) (Ri:X.mg f=some (.ref g)) (Tc:Qv f)
  (ha:PA X [e] (aL te dX)) (h1:PySem.W.isStarred e=false):PE X (.Call (.Name "sorted" p) [e] [⟨some "key", .Name f pf,Rr⟩] pos) (PN (sH S X.K sp) (aL te dX)):=by
 intro ti s Y H Q I h;refine MQ (jV I YS Wa hv ?_ (by decide) (by decide));refine callWith_kw (Oq (ha pos ti s Y H _ I h) fun us s1 ⟨vs,H1,I1,r1,q1⟩=>?_) (by rw [aw h1];rfl) (by rw [aw h1];rfl) (by rfl) (by rfl);have pk:PK X [⟨some "key", .Name f pf,Rr⟩] (aL (tC (.ref g)) dX):=AE (rh Ss Ri rfl Tc) Fs;refine Oq (pk pos ti s1 Y H1 (fun zs H2=>zs=[.ref g]/\H2=H1) I1 ⟨rfl,rfl⟩) fun ws s2 ⟨zs,H2,I2,rz,e1,e2⟩=>?_;subst e1 e2;cases rz with
 | cons a b =>
  cases b;have a:_=Value.ref g:=a;subst a;exact qP F hr hb I2 r1 q1
end
namespace Sg
noncomputable def Ca (S:KS) (f:Fn) (d:Qq):Option S.κ:=match f.F [d] with | some (.dat k,[])=>S.of k | _=>none
def j9 (S:KS) (f:Fn):List Qq->Option (List S.κ)
 | []=>some []
 | d :: ds=>match Ca S f d,j9 S f ds with | some k,some ks=>some (k :: ks) | _,_=>none
noncomputable def Bb {S:KS} (x:S.κ×Qq):List (S.κ×Qq)->List (S.κ×Qq)
 | []=>[x]
 | y :: r=>if S.lt x.1 y.1=true then x :: y :: r else y :: Bb x r
def sP {S:KS}:List (S.κ×Qq)->List (S.κ×Qq)
 | []=>[]
 | x :: r=>Bb x (sP r)
theorem iB {S:KS} (x:S.κ×Qq):∀ l,(Bb x l).Perm (x :: l)
 | []=>M8 _
 | y :: r=>by
  unfold Bb;split
  .exact M8 _
  .exact ((iB x r).cons y).trans (List.Perm.swap ..)
theorem fb {S:KS}:∀ l:List (S.κ×Qq),(sP l).Perm l
 | []=>M8 _
 | x :: r=>(iB x _).trans ((fb r).cons x)
theorem tO {S:KS} (x:S.κ×Qq):∀ l,(∀ y∈l,x.1≠y.1)->l.Pairwise (fun a b=>S.lt a.1 b.1=true)->(Bb x l).Pairwise fun a b=>S.lt a.1 b.1=true
 | [],_,_=>by simp [Bb]
 | y :: r,hn,h=>by
  obtain ⟨h1,h2⟩:=M9.mp h;unfold Bb;split
  .rename_i c;refine M9.mpr ⟨fun b hb=>?_,h⟩;rcases LJ.mp hb with rfl | hb
   .exact c
   .exact S.tr c (h1 b hb)
  .rename_i c;refine M9.mpr ⟨fun b hb=>?_,tO x r (fun z hz=>hn z (Ly _ hz)) h2⟩;rcases LJ.mp ((iB x r).mem_iff.mp hb) with rfl | hb
   .exact S.Om (hn y Lq) (Bool.eq_false_iff.mpr c)
   .exact h1 b hb
theorem n8 {S:KS}:∀ l:List (S.κ×Qq),(l.map (·.1)).Nodup->(sP l).Pairwise fun a b=>S.lt a.1 b.1=true
 | [],_=>.nil
 | x :: r,h=>by obtain ⟨h1,h2⟩:=MA.mp h;exact tO x _ (fun y hy z=>h1 (Mh.mpr ⟨y,(fb r).mem_iff.mp hy,z.symm⟩)) (n8 r h2)
theorem xp {S:KS} {ks:List S.κ} {ds:List Qq} {p:Array Nat} (hl:ks.length=ds.length) (hn:ks.Nodup) (hp:Pm ds.length p) (hu:Up (FH S ks) p ds.length):(sP (ks.zip ds)).map (·.2)=p.toList.map fun i=>ds.getD i .none:=by
 have e1:(ks.zip ds).map (·.1)=ks:=by rw [List.map_fst_zip (Nat.le_of_eq hl)]
 have zl:(ks.zip ds).length=ds.length:=by rw [List.length_zip,hl,Nat.min_self]
 have O:Ord (FH S ks) ds.length:=by rw [<- hl];exact J6 S hn
 have row:p.toList.map (fun i=>(ks.getD i S.V7,ds.getD i .none))=sP (ks.zip ds):=by
  refine List.Perm.eq_of_pairwise (le:=fun a b=>S.lt a.1 b.1=true) (fun a b _ _ h1 h2=>?_) ?_ (n8 _ (by rw [e1];exact hn)) ?_
  .have:=S.tr h1 h2;rw [S.T2 _] at this;cases this
  .rw [List.pairwise_map,MM];intro i j hi hj RT;have:=hu.all O RT (by rw [<- hp.size];simpa using hj);unfold at_ at this;rw [NR,NR,Ms (by simpa using hi),Ms (by simpa using hj)] at this;exact this
  .refine (((NX.mp hp).map _).trans ?_).trans (fb _).symm;refine List.Perm.of_eq ?_;apply List.ext_getElem?;intro i;rw [List.toList_toArray,LO];rcases Nat.lt_or_ge i ds.length with z | z
   .have zk:i < ks.length:=by rw [hl];exact z
    rw [List.getElem?_range z,show (ks.zip ds)[i]?=some (ks[i],ds[i]) from List.getElem?_zip_eq_some.mpr ⟨Lp zk,Lp z⟩];simp [Mb,Lp (show i < ks.length by rw [hl];exact z),Lp z]
   .rw [List.getElem?_eq_none (by rw [MS];exact z),List.getElem?_eq_none (by rw [zl];exact z)];rfl
 rw [<- row,Na];rfl
theorem mh:∀ {ds:List Qq} {ks:List S.κ},j9 S f ds=some ks->ks.length=ds.length
 | [],ks,h=>by cases h;rfl
 | d :: ds,ks,h=>by
  unfold j9 at h;split at h
  .rename_i k PQ _ h2;cases h;rw [LN,mh h2,LN]
  .cases h
theorem lY:∀ {ds:List Qq} {ks:List S.κ} {i:Nat} {d:Qq} {k:S.κ},j9 S f ds=some ks->ds[i]?=some d->ks[i]?=some k->Ca S f d=some k
 | [],ks,i,d,k,h,h1,h2=>by simp at h1
 | e :: ds,ks,i,d,k,h,h1,h2=>by
  unfold j9 at h;split at h
  .rename_i k' PQ h3 h4;cases h;cases i with
   | zero=>simp at h1 h2;subst h1 h2;exact h3
   | succ i=>exact lY h4 (by simpa using h1) (by simpa using h2)
  .cases h
def pL (S:KS) (f:Fn):List Qq->Option PR
 | [.dict kvs]=>match j9 S f (kvs.map (·.1)) with
  | some ks=>if kvs.length < 4096/\@decide ks.Nodup (@List.nodupDecidable _ S.dec ks)=true then some (.Oj (.list ((sP (ks.zip (kvs.map (·.1)))).map (·.2)))) else none
  | none=>none
 | _=>none
def pH (S:KS) (f:Fn) (hm:f.ms=[.dat]):Oo where
 r:=fun K=>sH S K (gT f K)
 f:=pL S f
 ok:=by
  intro K F H ds vs pr Q hf hv hF q;unfold pL at hf;split at hf
  .rename_i kvs;split at hf
   .rename_i ks To;split at hf
    .rename_i c;replace c:kvs.length < 4096/\ks.Nodup:=⟨c.1,@of_decide_eq_true _ (_) c.2⟩;cases hf;obtain ⟨v,r,rfl,⟨a,rfl,ep,xs,ea,z,dp⟩,rfl⟩:=hv;have xl:=dp.i5;have kl:ks.length=(kvs.map (·.1)).length:=mh To;have xk:xs.length=(kvs.map (·.1)).length:=by rw [xl,Lo]
     refine ⟨a,ep,xs,ks,rfl,ea,by rw [xl];exact c.1,by rw [kl,xk],c.2,fun i x k H' hx hk sm=>?_,fun H' D p sm hD hp hu=>?_⟩
     .obtain ⟨d1,d2⟩:=dp.get hx;have kf:=lY To d1 hk;unfold Ca at kf;split at kf
      .rename_i kd hFd;have d3:Dm K F H' x.1 x.2.1:=d2.pr (fun b o e _=>sm b o e) fun _ z=>z;refine ⟨F,[x.1],[],.dat kd,[],hFd,by rw [hm];exact ⟨d3,rfl⟩,fun b hb=>?_,fun v' O3 hs hr=>⟨fun b o e=>hs b o e (by simp),?_⟩⟩
       .intro z;cases e:H b with
        | none=>exact hF b hb e
        | some o=>rw [sm b o e] at z;cases z
       .exact S.ofT kf hr.1
      .cases kf
     .have hDn:H D=none:=sm.free hD;refine q _ _ (fun b o e=>?_) ⟨D,rfl,hDn,_,ak,?_,?_⟩
      .have:b≠D:=fun z=>by rw [z,hDn] at e;cases e
       rw [aj this];exact sm b o e
      .rw [Lo,ML,hp.size];exact z
      .rw [xk] at hp hu;rw [xp kl c.2 hp hu];have hb:∀ i∈p.toList,i < xs.length:=fun i hi=>by have:=(NX.mp hp).mem_iff.mp hi;rw [xk];simpa using this
       have hU:∀ b,b≠D->upd H' D (.lst (p.toList.map (valAt xs))) b=H' b:=fun b hb=>aj hb;generalize upd H' D (.lst (p.toList.map (valAt xs)))=H9 at hU;revert hb;generalize p.toList=l;intro hb;induction l with
       | nil=>exact rfl
       | cons i l ih =>
        have hi:=hb i Lq;obtain ⟨d1,d2⟩:=dp.get (Lp hi);refine ⟨_,_,rfl,?_,ih fun j hj=>hb j (Ly _ hj)⟩;show Dm K _ _ ((kvs.map (·.1)).getD i .none) (valAt xs i);unfold valAt;rw [Mb,d1,Lp hi];have d3:Dm K F H' xs[i].1 xs[i].2.1:=d2.pr (fun b o e _=>sm b o e) fun _ z=>z;refine (d3.fresh hD).pr (fun b o e _=>?_) fun _ z=>z;have:b≠D:=fun z=>by rw [z,hD] at e;cases e
        rw [hU b this];exact e
    .cases hf
   .cases hf
  .cases hf
section
variable {X:Cx} {k:Nat} {g:Qz} {fd:FuncData} {ps:List Str} {fn:Fn} {f:Str} {p pf pos Rr:Pos} {e:Expr} {te:TE}
theorem Ex (S:KS) (hm:fn.ms=[.dat]) (F:fI X.prog X.w X.K X.mg X.base CX0 k g fd ps (gT fn X.K)) (hr:bN (k+2) X.A) (hb:Binds X.K fd ps []) (YS:Gl X "sorted") (Wa:X.mg "sorted" = none) (hv:bootBuiltins "sorted" = some (.builtin "sorted")) (Ss:Gl X f) (Ri:X.mg f=some (.ref g)) (Tc:Qv f)
  (ha:JA X [e] (aL te dX)) (h1:PySem.W.isStarred e=false):JE X (.Call (.Name "sorted" p) [e] [⟨some "key", .Name f pf,Rr⟩] pos) (PN ((pH S fn hm).r X.K) (aL te dX)):=⟨wV F hr hb YS Wa hv Ss Ri Tc ha.h h1⟩
end
end Sg
abbrev Fy:=Str×Str×Ky
def RI (x y:Fy):Bool:=if x.1=y.1 then (if x.2.1=y.2.1 then Q2 x.2.2 y.2.2 else decide (x.2.1.cps.toList < y.2.1.cps.toList)) else decide (x.1.cps.toList < y.1.cps.toList)
theorem uP (x:Fy):RI x x=false:=by unfold RI;rw [Lz rfl,Lz rfl];exact sD _
theorem AO {x y:Str} (h:x.cps.toList=y.cps.toList):x=y:=by cases x;cases y;simpa using N6.mp h
theorem u9 (x:Str):¬x.cps.toList < x.cps.toList:=List.lt_irrefl _
theorem zg (h1:RI x y=true) (h2:RI y z=true):RI x z=true:=by
 obtain ⟨x1,x2,x3⟩:=x;obtain ⟨y1,y2,y3⟩:=y;obtain ⟨z1,z2,z3⟩:=z;unfold RI at *;dsimp only at *;split at h1 <;> split at h2
 .rename_i a b;rw [Lz (a.trans b)];split at h1 <;> split at h2
  .rename_i c d;rw [Lz (c.trans d)];exact EM h1 h2
  .rename_i c d;rw [Lw (by rw [c];exact d),c];exact h2
  .rename_i c d;rw [Lw (by rw [<- d];exact c),<-d];exact h1
  .have:=List.lt_trans (L8 h1) (L8 h2);rw [Lw (fun e=>by rw [e] at this;exact u9 _ this)];exact LH this
 .rename_i a b;rw [Lw (by rw [a];exact b),a];exact h2
 .rename_i a b;rw [Lw (by rw [<- b];exact a),<-b];exact h1
 .have:=List.lt_trans (L8 h1) (L8 h2);rw [Lw (fun e=>by rw [e] at this;exact u9 _ this)];exact LH this
theorem rY {x y:Str} (hn:¬x=y) (h:¬x.cps.toList < y.cps.toList):y.cps.toList < x.cps.toList :=
 Nt fun n=>hn (AO (List.le_antisymm (List.not_lt.mp n) (List.not_lt.mp h)))
theorem rH {x y:Fy} (hn:x≠y) (h:RI x y=false):RI y x=true:=by
 obtain ⟨x1,x2,x3⟩:=x;obtain ⟨y1,y2,y3⟩:=y;unfold RI at *;dsimp only at *;split at h
 .rename_i a;rw [Lz a.symm];split at h
  .rename_i b;rw [Lz b.symm];exact Bk (fun z=>hn (by rw [a,b,z])) h
  .rename_i b;rw [Lw (fun z=>b z.symm)];exact LH (rY b (Mz h))
 .rename_i a;rw [Lw (fun z=>a z.symm)];exact LH (rY a (Mz h))
abbrev FyV (k:Fy):List V:=[.int k.2.2.1,.int k.2.2.2.1,.str k.2.2.2.2]
def FyT (K:Fg) (H:Hp) (u:V) (k:Fy):Prop:=∃ t t2,u=.ref t/\OU K H t [.str k.1,.str k.2.1,.ref t2]/\OU K H t2 (FyV k)/\PyData.strOk k.2.2.2.2=true
theorem oF {K:Fg} {H H':Hp} {t:Qz} {xs:List V} (h:OU K H t xs) (e:ax H H'):OU K H' t xs:=by
 rcases h with (h | ⟨o,h⟩) | h
 .exact .inl (.inl (e _ _ h))
 .exact .inl (.inr ⟨o,e _ _ h⟩)
 .exact .inr h
def Wb (h:Heap) (u:Qj) (k:Fy):Prop:=∃ t t2 a1 a2 b1 b2 b3,u=.ref t/\IsTup h t #[.str k.1 a1,.str k.2.1 a2,.ref t2]/\IsTup h t2 #[.int k.2.2.1 b1,.int k.2.2.2.1 b2,.str k.2.2.2.2 b3]/\PyData.strOk k.2.2.2.2=true
theorem CI (I:Inv X ti Y H s) (r:RelV v u) (h:FyT X.K H v k):Wb s.heap u k:=by
 obtain ⟨t,t2,rfl,h,h',so⟩:=h;obtain ⟨its,r2,h2,_⟩:=I.tuple h;obtain ⟨its',r3,h3,_⟩:=I.tuple h';cases r2 with
 | cons a r2 =>
  cases r2 with
  | cons b r2 =>
   cases r2 with
   | cons c r2 =>
    cases r2;obtain ⟨t1,rfl⟩:=a;obtain ⟨t4,rfl⟩:=b;have c:_=Value.ref t2:=c;subst c;cases r3 with
    | cons a r3 =>
     cases r3 with
     | cons b r3 =>
      cases r3 with
      | cons c r3 =>
       cases r3;obtain ⟨q1,rfl⟩:=a;obtain ⟨q2,rfl⟩:=b;obtain ⟨q3,rfl⟩:=c;exact ⟨t,t2,t1,t4,q1,q2,q3,r,h2,h3,so⟩
noncomputable def Tq (k:Ky):Qq:=.tuple [.int k.1,.int k.2.1,.str k.2.2]
theorem tM (a b:Ky):PyData.eqv (Tq a) (Tq b)=true↔a=b:=by obtain ⟨a1,a2,a3⟩:=a;obtain ⟨b1,b2,b3⟩:=b;simp [Tq,PyData.eqv,PyData.eqvAll]
theorem pU (hx:IsTup h t #[.int k.1 b1,.int k.2.1 b2,.str k.2.2 b3]):∃ as,Reads h (.ref t) (Tq k) as:=by obtain ⟨o,h1,h2,n,h4⟩:=hx;exact ⟨_,.tuple h1 h2 h4 (.cons (.int _ _) (.cons (.int _ _) (.cons (.str _ _) .nil)))⟩
theorem iM (h:PyData.strOk k.2.2=true):SeqAt.shaped (Tq k)=true:=by
 have d:(Tq k).depth<=64:=by simp [Tq,PyData.depth,PyData.depthAll]
 have l:(Tq k).canLay0=true:=by simp [Tq,PyData.canLay0,PyData.canLayAll0,h]
 simp [SeqAt.shaped,l,d]
theorem B8 (hu:A.units+64 < cLine) (hx:Wb s.heap u a) (hy:Wb s.heap v b) (h:C (RI a b) s):wMX P w A (keyLt' (tuples' true) u v) C E s:=by
 obtain ⟨x,x',t1,t2,t3,t4,t5,rfl,hx,P1,ox⟩:=hx;obtain ⟨y,y',u1,u2,u3,u4,u5,rfl,hy,Qa,oy⟩:=hy;obtain ⟨ox,gx,cx,n,dx⟩:=hx;obtain ⟨oy,gy,cy,k,dy⟩:=hy;unfold RI at h;refine kat_lt gx dx gy dy ?_;show KatLex P w A true _ C [(.str a.1 t1,.str b.1 u1),(.str a.2.1 t2,.str b.2.1 u2),(.ref x',.ref y')] 0 s;refine kat_cons (eqBool_str (kat_go (fun e=>kat_yes ?_) fun e=>kat_no (oneLt_str ?_)))
 .rw [Lz (Ma.mp e)] at h;refine kat_cons (eqBool_str (kat_go (fun e=>kat_yes ?_) fun e=>kat_no (kat_one _ _ (lt_str ?_))))
  .rw [Lz (Ma.mp e)] at h;obtain ⟨as,ra⟩:=pU (k:=a.2.2) P1;obtain ⟨bs,rb⟩:=pU (k:=b.2.2) Qa;refine kat_cons (SeqAt.eqAt_reads _ _ A s _ _ as bs ra rb (SeqAt.canLay_of_shaped (iM ‹_›)) (SeqAt.canLay_of_shaped (iM ‹_›)) (SeqAt.room_of_shaped (iM ‹_›) hu) P w _ _ (kat_go (fun e=>kat_yes ?_) fun e=>kat_no (kat_one _ _ ?_)))
   .have e:=(tM _ _).mp e;rw [e,sD] at h;exact kat_nil h
   .have ne:a.2.2≠b.2.2:=fun z=>by rw [(tM _ _).mpr z] at e;cases e
    refine uE P1 Qa (.ii _ _ _ _ (.ii _ _ _ _ (.ss _ _ _ _ .nil))) (by lia) ?_;have el:(if a.2.2.1=b.2.2.1 then if a.2.2.2.1=b.2.2.2.1 then if a.2.2.2.2=b.2.2.2.2 then false else decide (a.2.2.2.2.cps.toList < b.2.2.2.2.cps.toList) else decide (a.2.2.2.1 < b.2.2.2.1) else decide (a.2.2.1 < b.2.2.1))=Q2 a.2.2 b.2.2:=by
     unfold Q2;split
     .split
      .split
       .rename_i z;rw [z,LV (List.lt_irrefl _)]
       .rfl
      .rfl
     .rfl
    rw [el];exact h
  .rw [Lw (fun z=>by rw [z,Mo] at e;cases e)] at h;exact h
 .rw [Lw (fun z=>by rw [z,Mo] at e;cases e)] at h;exact h
theorem D3:∀ {us:List Qj},(∀ u∈us,∃ k,Wb h u k)->∃ fs,KatTups h us fs/\fs.length=us.length/\∀ v∈fs,∃ i t,v=.str i t
 | [],_=>⟨[],trivial,rfl,fun _ z=>nomatch z⟩
 | u :: us,hu=>by
  obtain ⟨k,t,t2,t1,a2,a3,a4,a5,rfl,⟨o,g,c,n,d⟩,_⟩:=hu u Lq;obtain ⟨fs,h1,h2,h3⟩:=D3 fun v hv=>hu v (Ly _ hv);refine ⟨.str k.1 t1 :: fs,KatTups.cons g c d rfl h1,by rw [LN,h2,LN],fun v hv=>?_⟩;rcases LJ.mp hv with rfl | hv
  .exact ⟨_,_,rfl⟩
  .exact h3 v hv
noncomputable def Kk:Qq->Option Fy | .tuple [.str a,.str b,.tuple [.int i,.int j,.str x]]=>some (a,b,i,j,x) | _=>none
def UC:KS where
 κ:=Fy
 V7:=("", "", 0,0, "")
 dec:=inferInstance
 lt:=RI
 T2:=uP
 tr:=zg
 Om:=rH
 T:=FyT
 same:=fun ⟨t,t2,e,h1,h2,h3⟩ sm=>⟨t,t2,e,oF h1 sm,oF h2 sm,h3⟩
 Hh:=Wb
 key:=CI
 ask:=B8
 kd:=fun {P w A E s us Q} hu h0 hq=>by obtain ⟨fs,t1,t2,t3⟩:=D3 hu;refine kat_kind (T:=.type "str") t1 (by rw [t2];exact h0) (fun v hv=>?_) rfl hq;obtain ⟨i,t,rfl⟩:=t3 v hv;exact Looks.of_pure rfl
 of:=Kk
 ofT:=fun {K F H d u k} e h=>by
  unfold Kk at e;split at e
  .cases e;obtain ⟨t,ys,rfl,sq,_,u1,r1,rfl,e1,u2,r2,rfl,e2,u3,r3,rfl,e3,rfl⟩:=h;obtain ⟨t2,zs,rfl,sq2,_,w1,q1,rfl,f1,w2,q2,rfl,f2,w3,q3,rfl,f3,rfl⟩:=e3;have e1:u1=_:=e1.1;have e2:u2=_:=e2.1;have f1:w1=_:=f1;have f2:w2=_:=f2;have f4:w3=_:=f3.1;subst e1 e2 f1 f2 f4;exact ⟨t,t2,rfl,sq,sq2,f3.2.2⟩
  .cases e
end L2
namespace L2
open PySem PySem.Spec PyProof.Rows
theorem zS (h1:aW e [x]=some [.dict kvs]) (h2:Sg.j9 S f (kvs.map (·.1))=some ks) (h3:kvs.length < 4096) (h4:ks.Nodup) (q:∀ r,r=(Sg.sP (ks.zip (kvs.map (·.1)))).map (·.2)->Q (.Oj (.list r)) e):QJ (Sg.pH S f hm) [x] e Q:=by
 have e:(Sg.pH S f hm).f [.dict kvs]=some (PR.Oj (.list ((Sg.sP (ks.zip (kvs.map (·.1)))).map (·.2)))):=by show Sg.pL S f [.dict kvs]=_;simp only [Sg.pL,h2];rw [Lz ⟨h3,@decide_eq_true _ (_) h4⟩]
 exact ⟨_,_,h1,e,q _ rfl⟩
theorem oS {W B γ:Type} (f:W->B) (g:W->γ):(U:List W)->(U.map f).zip (U.map g)=U.map fun a=>(f a,g a)
 | []=>rfl
 | a :: U=>by rw [List.map_cons,List.map_cons,List.zip_cons_cons,oS f g U];rfl
theorem CQ {S:KS} {W:Type} (key:W->S.κ) (enc:W->Qq) {U L:List W} (hU:(U.map key).Nodup) (hL:L.Pairwise fun a b=>S.lt (key a) (key b)=true) (hp:L.Perm U):(Sg.sP ((U.map key).zip (U.map enc))).map (·.2)=L.map enc:=by
 have ez:=oS key enc U;have row:L.map (fun a=>(key a,enc a))=Sg.sP ((U.map key).zip (U.map enc)):=by
  refine List.Perm.eq_of_pairwise (le:=fun a b=>S.lt a.1 b.1=true) (fun a b _ _ h1 h2=>?_) ?_ (Sg.n8 _ ?_) ?_
  .have:=S.tr h1 h2;rw [S.T2] at this;cases this
  .rw [List.pairwise_map];exact hL
  .rw [List.map_fst_zip (by simp)];exact hU
  .refine List.Perm.trans ?_ (Sg.fb _).symm;rw [ez];exact hp.map _
 rw [<- row,Na];rfl
section
variable {prog:Program} {w:World} {A:Around} {E:Qy} {h:Heap} {g:Array GenState} {d:Drawn} {t:Nat} {os:OsState} {a:Qz} {o:Obj}
 {nm q:Str} {C N:Qz} {bs bm bmB:List Qj} {hdct:Bool} {sn:List Str} {sub:List Qj} {ab:Bool} {col:Option Bool} {dd:Option Qz} {k0 k1 k2 k3 k5:Option Qj} {B newId:String} {K:Fg}
theorem xW (hC:h.get? C=some (excClassObj nm q C N bs bm hdct sn sub ab col dd k0 k1 k2 k3 k5 newId)) (hb:bm.contains (.type "object")=true)
  (hx:h.get? a=some o) (hc:o.cls=.ref C) (hq:R (.ok (.ret (.ref C))) ⟨h,g,d,t,os⟩) :
  codeAny (model prog w) A (.call (.builtin "getset_descriptor.__get__") ⟨[.builtin "object.__class__", .ref a,.ref C],[]⟩) R ⟨h,g,d,t,os⟩:=by
 have hT5:(⟨h,g,d,t,os⟩:Qx).TypeIs (.builtin "object.__class__") "getset_descriptor" := F.typeOf_object_class;have Tr:(Value.ref C :: bm).contains (.type (".".intercalate ("object.__class__".cutAt '.').dropLast))=true:=by rw [F.owner_object_class,Ny,hb,Od]
 refine NL F.slot_gs_get.plain F.entry_gs_get (F.slot_gs_get.check _ _ _ _ _ _ _ _ hT5 (F.args_gs_get _ _ _) ?_)
 repeat (any_goals (first | assumption | (with_reducible refine Ml hx ?_;rw [hc]) | (with_reducible refine M3 hC ?_;rw [Tr]) | wp_step))
 refine ⟨Code.quiet_builtin _ (by decide +kernel),codeAny_builtin F.entry_object_class ?_⟩
 repeat (any_goals (first | assumption | (with_reducible refine Ml hx ?_;rw [hc]) | wp_step))
theorem qH (X:K.In h) (QX:PySem.W.findIn K (.ref C) "__class__" = some (some (.builtin "object.__class__")))
  (hC:h.get? C=some (excClassObj nm q C N bs bm hdct sn sub ab col dd k0 k1 k2 k3 k5 newId)) (hb:bm.contains (.type "object")=true)
  (hx:h.get? a=some o) (hc:o.cls=.ref C) (hq:Q (.done (.ret (.ref C))) ⟨h,g,d,t,os⟩) :
  wpAny (model prog w) A (Builtin.«object.__getattribute__» ⟨[.ref a,.str "__class__" tk],[]⟩) Q E ⟨h,g,d,t,os⟩:=by
 have hT5:(⟨h,g,d,t,os⟩:Qx).TypeIs (.builtin "object.__class__") "getset_descriptor" := F.typeOf_object_class;have f5:=F.typeOf_object_class;have f6:=F.slot_gs_get.lookup;have f7:=F.slot_gs_set.lookup;have L1:=Nm (M:=model prog w) X QX
 repeat (any_goals (first | assumption | (with_reducible refine Ml hx ?_;rw [hc]) | with_reducible refine L1.at ?_ | wp_step))
 refine xW hC hb hx hc ?_
 repeat (any_goals (first | assumption | wp_step))
theorem jz (hC:h.get? C=some (excClassObj nm q C N bs bm hdct sn sub ab col dd k0 k1 k2 k3 k5 newId)) (hb:bm.contains (.type "BaseException")=true)
  (hx:h.get? a=some o) (hc:o.cls=.ref C) (hq:Q () ⟨h,g,d,t,os⟩):wpAny M A (checkBuiltinCall "BaseException.__getattribute__" ⟨[.ref a,Wc],[]⟩) Q E ⟨h,g,d,t,os⟩:=by
 have hk:builtinKind "BaseException.__getattribute__" = some .slot:=by decide +kernel
 have hsplit:splitId "BaseException.__getattribute__" = some ("BaseException", "__getattribute__"):=by decide +kernel
 have Tr:(Value.ref C :: bm).contains (.type "BaseException")=true:=by rw [Ny,hb,Od]
 have ha:=F.args_bexc_ga (.ref a) Wc;simp only [checkBuiltinCall,hk,hsplit];refine Lm ?_
 .unfold isInstance
  repeat (first | (with_reducible refine Ml hx ?_;rw [hc]) | (with_reducible refine M3 hC ?_;rw [Tr]) | wp_step)
  exact hq
theorem zJ {tk:Tok} {fill expr:Bool} {Q:Qy} (X:K.In h) (QX:PySem.W.findIn K (.ref C) "__class__" = some (some (.builtin "object.__class__")))
  (Wd:PySem.W.findIn K (.ref C) "__getattribute__" = some (some (.builtin "BaseException.__getattribute__"))) (We:PySem.W.findIn K (.ref C) "__getattr__" = some none)
  (hC:h.get? C=some (excClassObj nm q C N bs bm hdct sn sub ab col dd k0 k1 k2 k3 k5 newId)) (hb:bm.contains (.type "object")=true) (UD:bm.contains (.type "BaseException")=true)
  (hx:h.get? a=some o) (hc:o.cls=.ref C) (hq:Q (.ref C) ⟨h,g,d,t,os⟩) :
  wpAny (model prog w) A (getAttrBy (.ref a) (.str "__class__" tk) fill expr) Q E ⟨h,g,d,t,os⟩:=by
 have f3:=F.excAttr_ValueError.ga.bind (.ref a);have hx0:(expr&&onTheHeap (Value.builtin "BaseException.__getattribute__"))=false:=by cases expr <;> rfl
 have VU:(Value.builtin "BaseException.__getattribute__" == Value.builtin "object.__getattribute__")=false:=by decide +kernel
 have hx1:(onTheHeap (Value.ref C)&&Value.builtin "BaseException.__getattribute__" == Value.builtin "object.__getattribute__")=false:=by rw [VU];rfl
 have L1:=Nm (M:=model prog w) X Wd;have L2:=Nm (M:=model prog w) X We
 repeat (any_goals (first | assumption | (with_reducible refine Ml hx ?_;rw [hc]) | with_reducible refine L1.at ?_ | with_reducible refine L2.at ?_ | wp_step))
 refine NL F.excAttr_ValueError.ga.plain F.entry_bexc_ga (jz hC UD hx hc (qH X QX hC hb hx hc ?_))
 repeat (any_goals (first | assumption | wp_step))
theorem uM {Q:Option Qj->Qx->Prop} (X:K.In h) (QX:PySem.W.findIn K (.ref C) "__class__" = some (some (.builtin "object.__class__")))
  (Wd:PySem.W.findIn K (.ref C) "__getattribute__" = some (some (.builtin "BaseException.__getattribute__"))) (We:PySem.W.findIn K (.ref C) "__getattr__" = some none)
  (hC:h.get? C=some (excClassObj nm q C N bs bm hdct sn sub ab col dd k0 k1 k2 k3 k5 newId)) (hb:bm.contains (.type "object")=true) (UD:bm.contains (.type "BaseException")=true)
  (hx:h.get? a=some o) (hc:o.cls=.ref C) (hq:Q (some (.ref C)) ⟨h,g,d,t+1,os⟩) :
  wpAny (model prog w) A (getAttr? (.ref a) "__class__") Q E ⟨h,g,d,t,os⟩:=by
 unfold getAttr? getAttrBy?
 repeat (any_goals (first | assumption | with_reducible apply zJ X QX Wd We hC hb UD hx hc | wp_step))
theorem zx
  (hC:h.get? C=some (excClassObj nm q C N bs bm hdct sn sub ab col dd k0 k1 k2 k3 k5 newId)) (hD:h.get? D=some (excClassObj YT q' D N' W8 Xl T6 sn' Wf ab' Wg VN k0' k1' k2' k3' k5' YU))
  (he:h.get? e=some oe) (RY:oe.cls=.ref C) (Qn:Xl.contains (.type "BaseException")=true) (hm:(Value.ref C :: bm).contains (.ref D)=b)
  (hq:Q b ⟨h,g,d,t,os⟩):wpAny M A (excMatches (.ref e) (.ref D)) Q E ⟨h,g,d,t,os⟩:=by
 have Tr:(Value.ref D :: Xl).contains (.type "BaseException")=true:=by rw [Ny,Qn,Od]
 have f:=tc_notTuple;unfold excMatches
 repeat (first | (with_reducible refine Ml he ?_;rw [RY]) | with_reducible refine Ml hD ?_ | (with_reducible refine M3 hD ?_;rw [Tr]) | (with_reducible refine M3 hC ?_;rw [hm]) | wp_step)
 cases b <;> first | exact hq | (wp_walk;exact hq)
end
abbrev SW:List Qj:=[.type "ValueError", .type "Exception", .type "BaseException", .type "object"]
section
variable {prog:Program} {w:World} {A:Around} {E:Qy} {s:Qx} {K:Fg} {C e:Qz} {f:Str} {v:Qj} {vs:Array Qj}
noncomputable def x6:List Qj->Bool
 | .ref _ :: l=>x6 l
 | l=>l==SW
def F3 (K:Fg) (C:Qz):Bool:=(PySem.W.clsIn K C).any fun c=>x6 c.mro
theorem xP (a:Qj) (l:List Qj) (h:x6 l=true):refuseLoop a "__setattr__" l=pure ()/\l.contains (.type "object")=true:=by
 induction l with
 | nil=>cases Ma.mp (show ([]==SW)=true from h)
 | cons x l ih =>
  unfold x6 at h;split at h
  .rename_i z;cases z;obtain ⟨g1,g2⟩:=ih h;exact ⟨(refuseLoop_ref ..).trans g1,by rw [Ny,g2,Od]⟩
  .rw [Ma.mp h];exact ⟨F.store_ValueError.passes a,by decide +kernel⟩
theorem La (X:K.In s.heap) (J:PySem.W.InstAt s.heap e ob C od) (hp:F3 K C=true) (ht:PySem.W.takerIn K C f=some none)
  (go:∀ b,wMX prog w A.in1 (Builtin.ObjectAttr.storeInOwnDict (.ref e) (.ref C) (.str f tk) f v b) (fun z s1=>match z with | .done y=>R (.ok y) s1 | .again y=>y.quiet=true/\codeAny (model prog w) A y R s1) (fun y s1=>R (.error y) s1) s) :
  codeAny (model prog w) A (.call (.builtin "object.__setattr__") ⟨[.ref e,.str f tk,v],[]⟩) R s:=by
 have SO:=F.store_object;obtain ⟨c,hc,hv⟩:=PySem.W.any_some hp;obtain ⟨g1,g2⟩:=xP (.ref e) _ hv;have ty:=J.type (M:=model prog w);have hm:PySem.W.Looks (model prog w) s.heap (mroOf (.ref C)) c.mro:=(PySem.W.looks_clsIn X hc).andThen .now;have isO:PySem.W.mroIn K C (.type "object")=some true:=by
  unfold PySem.W.mroIn;rw [hc];show (if c.mro.isEmpty then none else some (c.mro.contains (.type "object")))=some true;cases z:c.mro with
  | nil=>rw [z] at g2;cases g2
  | cons a l=>rw [z] at g2;rw [g2];rfl
 refine NL SO.slot.plain SO.entry (@PySem.W.check_slot (model prog w) _ _ s "object.__setattr__" "object" "__setattr__" (.ref e) _ [] _ SO.kind SO.split (ty.andThen (PySem.W.looks_mroIn X isO)) (SO.args ..) ?_);obtain ⟨at',ha,hr⟩:=Option.bind_eq_some_iff.mp ht;have L3:PySem.W.Looks (model prog w) s.heap (Builtin.ObjectAttr.storeTaker? at') none:=by
  cases at' with
  | none=>exact .now
  | some a =>
   obtain ⟨b,hb,hn⟩:=LZ.mp hr;refine (PySem.W.looks_takesIn X hb).andThen ?_;cases b with
   | false=>exact .now
   | true=>cases hn
 rw [PySem.W.osa_eq,refuse_eq];refine Lm (Lm (ty.here (Lm (hm.here ?_))));rw [g1];exact Lu (Lm (ty.here (Lm ((Nm X ha).here (Lm (L3.here (go _)))))))
theorem Le (X:K.In s.heap) (he:s.heap.get? e=some { cls:=.ref C,data:=.fields vs })
  (hs:PySem.W.findIn K (.ref C) "__setattr__" = some (some (.builtin "object.__setattr__"))) (hp:F3 K C=true) (ht:PySem.W.takerIn K C f=some none) (hh:PySem.W.hasDictIn K C=true)
  (h:∀ h' tk,(∀ b o,b≠e->s.heap.get? b=some o->h'.get? b=some o)->h'.get? e=some { cls:=.ref C,dict:=some s.heap.objs.size,data:=.fields vs }->h'.Ns1 s.heap.objs.size (fun y=>if y=f then some v else none)->Q () { s with heap:=h',toks:=tk }) :
  wMX prog w A (setAttr (.ref e) f v) Q E s:=by have J:PySem.W.InstAt s.heap e { cls:=.ref C,data:=.fields vs } C none:=⟨he,rfl,rfl,trivial⟩;refine PySem.W.set_plain X J hs (La (s:={ s with toks:=s.toks+1 }) X J hp ht fun b=>?_);obtain ⟨cd,hc,Ue⟩:=PySem.W.any_some hh;refine Lm (Lu (Lm (Lm (wpAny_loadPart he (Lm (PySem.W.Looks.here (s:={ s with toks:=s.toks+1 }) (PySem.W.looks_clsIn X hc) ?_))))));rw [Ue];show wpAny _ _ (alloc { cls:=Value.type "dict", data:=Data.dict #[] }>>=_) _ _ _;refine Lm (wpAny_alloc ?_);have Wh:(s.heap.push { cls:=.type "dict", data:=.dict #[] }).get? e=some { cls:=.ref C,data:=.fields vs }:=LB _ he;have ne:e≠s.heap.objs.size:=L9 (LM he);refine Lm (wpAny_update Wh (Lu ?_));have Qc:=Mm (fun o:Obj=>{ o with dict:=some s.heap.objs.size }) Wh rfl;have hd2:((s.heap.push { cls:=.type "dict", data:=.dict #[] }).update e (fun o:Obj=>{ o with dict:=some s.heap.objs.size })).get? s.heap.objs.size=some { cls:=.type "dict", data:=.dict #[] }:=(L4 _ _ ne).trans (L0 _ rfl);have N0:((s.heap.push { cls:=.type "dict", data:=.dict #[] }).update e (fun o:Obj=>{ o with dict:=some s.heap.objs.size })).Ns1 s.heap.objs.size (fun _=>none):=Heap.Ns1.of_empty ⟨_,#[],_,hd2,rfl,fun e he=>absurd he (by simp),fun _=>rfl⟩;refine Lm (Lu (Lm ?_));refine wpAny_nsSet1 (s:={ s with heap:=_,toks:=s.toks+1 }) N0 fun h' Q9 hs2=>?_;obtain ⟨oD,esD,epD,hoD,hdD,hcD⟩:=Q9.count (PySem.Within.cons f v (m:=fun _=>none) (ns:=[]) (fun x hx=>absurd rfl hx));refine Lm (wpAny_lookBehind hoD (by rw [hdD];exact pastItsLine_dict (LG hcD (by show 1<=sizeLine+1;decide))) ?_);refine Lu (h _ _ (fun b o hb q=>?_) ((hs2.2 e ne).trans Qc) Q9);have hbn:b≠s.heap.objs.size:=L9 (LM q);rw [hs2.2 b hbn];exact (L4 _ _ (Ne.symm hb)).trans (LB _ q)
theorem Kv {h:Heap} {g:Array GenState} {d:Drawn} {t:Nat} {os:OsState} {ox:Obj} {od:Option Obj} {expr:Bool} {nm q:Str} {N:Qz} {bs bm:List Qj} {hdct:Bool} {sn:List Str} {sub:List Qj} {ab:Bool} {col:Option Bool} {dd:Option Qz} {k0 k1 k2 k3 k5:Option Qj} {newId:String} {Q:Qy} (X:K.In h) (J:PySem.W.InstAt h e ox C od)
  (Wd:PySem.W.findIn K (.ref C) "__getattribute__" = some (some (.builtin "BaseException.__getattribute__"))) (We:PySem.W.findIn K (.ref C) "__getattr__" = some none)
  (hC:h.get? C=some (excClassObj nm q C N bs bm hdct sn sub ab col dd k0 k1 k2 k3 k5 newId)) (UD:bm.contains (.type "BaseException")=true)
  (hf:PySem.W.findObj K C od f=some (.value v)) (hv:PySem.W.handedIn v=true) (hq:Q v ⟨h,g,d,t+1,os⟩):wpAny (model prog w) A (getAttr (.ref e) f expr) Q E ⟨h,g,d,t,os⟩:=by
 have f3:=F.excAttr_ValueError.ga.bind (.ref e);have hx0:(expr&&onTheHeap (Value.builtin "BaseException.__getattribute__"))=false:=by cases expr <;> rfl
 have VU:(Value.builtin "BaseException.__getattribute__" == Value.builtin "object.__getattribute__")=false:=by decide +kernel
 have hx1:(onTheHeap (Value.ref C)&&Value.builtin "BaseException.__getattribute__" == Value.builtin "object.__getattribute__")=false:=by rw [VU];rfl
 have L1:=Nm (M:=model prog w) X Wd;have L2:=Nm (M:=model prog w) X We;have L3:=PySem.W.looks_find (M:=model prog w) X J hf;have hx:=J.at_;have hc:=J.cls;have ho:=PySem.W.handedOut_of hv;unfold getAttr
 repeat (any_goals (first | assumption | (with_reducible refine Ml hx ?_;rw [hc]) | with_reducible refine L1.at ?_ | with_reducible refine L2.at ?_ | wp_step))
 refine NL F.excAttr_ValueError.ga.plain F.entry_bexc_ga (jz hC UD hx hc ?_);refine Lm (Lu (Lm (Lu (Lm (J.type.at (Lm (L3.at (Lu ?_))))))));show wpAny _ _ (handedOut v) _ _ _;rw [ho];exact Lu hq
end
section
variable {prog:Program} {w:World} {A:Around} {E:Qy} {h:Heap} {g:Array GenState} {d:Drawn} {t:Nat} {os:OsState} {e C N t0:Qz} {nm q:Str} {bs bm:List Qj} {hdct:Bool} {sn:List Str} {sub:List Qj} {ab:Bool} {col:Option Bool} {dd:Option Qz} {k0 k1 k2 k3 k5:Option Qj} {u:Qj}
theorem Gn (T:OwnTail h SW bm) (hC:h.get? C=some (excClassObj nm q C N bs bm hdct sn sub ab col dd k0 k1 k2 k3 k5 "ValueError.__new__"))
  (he:h.get? e=some { cls:=.ref C,data:=.fields #[.ref t0,.none,.none,.none,.bool false,.none] })
  (hq:∀ h' t1,(∀ b o,b≠e->h.get? b=some o->h'.get? b=some o)->h'.get? e=some { cls:=.ref C,data:=.fields #[.ref t1,.none,.none,.none,.bool false,.none] }->Q .none ⟨h',g,d,t,os⟩) :
  wpAny (model prog w) A (call (.builtin "ValueError.__init__") [.ref e,u]) Q E ⟨h,g,d,t,os⟩:=by
 have F:=PySem.F.excBase_ValueError;refine N8 (NL F.init.plain F.initEntry (wpAny_check_init_subT F T hC he rfl ?_))
 wp_walk
 refine hq _ h.objs.size (fun b o hb z=>?_) ?_
 .rw [L4 _ _ (Ne.symm hb)];exact LB _ z
 .rw [Mm _ (LB _ he) rfl];rfl
theorem Io {mN:Str->Option Qj} {rest:List Qj} {f:Qz} {o:Obj} {Q:Fin->Qx->Prop} (T:OwnTail h SW bm) (hC:h.get? C=some (excClassObj nm q C N bs bm hdct sn sub ab col dd k0 k1 k2 k3 k5 "ValueError.__new__"))
  (hn:h.Ns N mN) (hi:mN "__init__" = some (.ref f)) (hf:h.get? f=some o) (YV:o.cls=.type "function")
  (hq:∀ h' e,h.objs.size<=e->Heap.MadeExcOf h h' e (.ref C) rest->wpAny (model prog w) A (call (.ref f) (.ref e :: rest)) (fun r s'=>r=.none/\Q (.done (.ret (.ref e))) s') E ⟨h',g,d,t,os⟩) (hr:rest.length<=sizeLine) :
  wpAny (model prog w) A (Builtin.«type.__call__» ⟨.ref C :: rest,[]⟩) Q E ⟨h,g,d,t,os⟩:=by
 have F:=PySem.F.excBase_ValueError
 repeat (first | with_reducible refine Ml hC ?_ | with_reducible refine wpAny_madeBy_exc hC ?_ | wp_step)
 refine codeAny_call_builtin_code (Code.quiet_builtin _ F.quiet) (wpAny_check_new_subT F T hC (codeAny_exc_new_subT F T hC ?_ hr));show wpAny _ _ _ _ _ _;generalize eh:(h.push { cls:=.type "tuple", data:=.seq rest.toArray }).push { cls:=.ref C,data:=.fields #[.ref h.objs.size,.none,.none,.none,.bool false,.none] }=h1;have kp:∀ b o,h.get? b=some o->h1.get? b=some o:=fun b o z=>by rw [<- eh];exact LB _ (LB _ z)
 have he:h1.get? (h.objs.size+1)=some { cls:=.ref C,data:=.fields #[.ref h.objs.size,.none,.none,.none,.bool false,.none] }:=by rw [<- eh];heap_get
 have ht:h1.get? h.objs.size=some { cls:=.type "tuple", data:=.seq rest.toArray }:=by rw [<- eh];exact LB _ (Heap.get?_push_at rfl rfl)
 have hC1:=kp _ _ hC;have cc:(Value.ref C :: bm).contains (.ref C)=true:=by simp
 unfold isInstance
 repeat (first | with_reducible refine Ml he ?_ | (with_reducible refine M3 hC1 ?_;rw [cc]) | wp_step)
 show wpAny _ _ (typeLookup (.ref C) _) _ _ _;refine wpAny_typeLookup_tail hC1 (hn.keeps kp) (T.keeps kp) F.mroIs F.init.lookup ?_;rw [hi];refine MG (Lm ?_);unfold bindSpecial;refine Lm (wpAny_typeOf (T := "function") ⟨_,kp _ _ hf,YV⟩ ?_);rw [Lz (by decide)];refine Lu (Lm (L6 (hq _ (h.objs.size+1) (Nat.le_succ _) ⟨kp,Heap.get?_none_of_le (Nat.le_succ _),h.objs.size,he,Heap.get?_none_of_le (LA _),ht⟩) (fun r s' z=>?_) fun _ _ z=>z));obtain ⟨rfl,z⟩:=z
 wp_walk
 exact z
theorem Ck {mN:Str->Option Qj} {rest:List Qj} {f:Qz} {o:Obj} {Q:Qy} (T:OwnTail h SW bm) (hC:h.get? C=some (excClassObj nm q C N bs bm hdct sn sub ab col dd k0 k1 k2 k3 k5 "ValueError.__new__"))
  (hn:h.Ns N mN) (hi:mN "__init__" = some (.ref f)) (hf:h.get? f=some o) (YV:o.cls=.type "function")
  (hq:∀ h' e,h.objs.size<=e->Heap.MadeExcOf h h' e (.ref C) rest->wpAny (model prog w) (A.under (.builtin "type.__call__" ⟨.ref C :: rest,[]⟩)) (call (.ref f) (.ref e :: rest)) (fun r s'=>r=.none/\Q (.ref e) s') E ⟨h',g,d,t,os⟩) (hr:rest.length<=sizeLine) :
  wpAny (model prog w) A (call (.ref C) rest) Q E ⟨h,g,d,t,os⟩:=by
 have f1:=tc_lookup;have f2:=tc_bind (.ref C);have hT:(⟨h,g,d,t,os⟩:Qx).TypeIs (.ref C) "type" := ⟨_,hC,rfl⟩;refine N8 (codeAny_of_tree ?_);show wpAny _ _ (callAny (.ref C) _) _ _ _
 repeat (any_goals (first | assumption | with_reducible refine Ml hC ?_ | wp_step))
 exact ⟨rfl,codeAny_call_builtin_at (Code.quiet_builtin _ (by decide +kernel)) entry_typeCall (wpAny_check_type_call_sub hC (Io T hC hn hi hf YV hq hr))⟩
theorem CC (hb:bm.contains (.type "BaseException")=true) (hh:A.handled=none)
  (hx:wpAny (model prog w) A x (fun v s1=>∃ e oe vs,v=.ref e/\s1.heap.get? C=some (excClassObj nm q C N bs bm hdct sn sub ab col dd k0 k1 k2 k3 k5 "ValueError.__new__")/\s1.heap.get? e=some oe/\oe.cls=.ref C/\oe.data=.fields vs/\vs[1]?=some .none/\E (.ref e) s1) E s) :
  wpAny (model prog w) A (raiseStmt env (some x) none) Q E s:=by
 have Tr:(Value.ref C :: bm).contains (.type "BaseException")=true:=by rw [Ny,hb,Od]
 unfold raiseStmt;refine Lm (L6 hx (fun v s1 z=>?_) fun _ _ z=>z);obtain ⟨e,⟨cls,dct,dat,sl⟩,vs,rfl,hC,he,hc,hd,h1,hE⟩:=z;obtain ⟨hp,g,d,tk,os⟩:=s1;simp only at hc hd;subst hc hd
 repeat (first | with_reducible refine Ml he ?_ | with_reducible refine Ml hC ?_ | (with_reducible refine M3 hC ?_;rw [Tr]) | wp_step)
 rw [h1];refine Lu ?_;rw [Lw (by decide)];exact Lu (wpAny_raiseNew_none hh hE)
end
theorem aI.got (x:aI P w H h a o):∃ ob,h.get? a=some ob:=by
 cases o with
 | lst xs=>obtain ⟨_,_,_,_,e⟩:=x;exact ⟨_,e⟩
 | tup xs=>obtain ⟨_,_,_,ob,e,_⟩:=x;exact ⟨_,e⟩
 | dK kvs=>obtain ⟨_,_,_,_,o,_,_,e,_⟩:=x;exact ⟨_,e⟩
 | dT kvs=>obtain ⟨_,_,_,_,o,_,_,e,_⟩:=x;exact ⟨_,e⟩
 | dD ep xs=>obtain ⟨_,_,_,o,_,e,_⟩:=x;exact ⟨_,e⟩
 | set S n=>obtain ⟨o,_,_,_,e,_⟩:=x;exact ⟨_,e⟩
 | ins C dx fs=>obtain ⟨_,_,_,e,_⟩:=x;exact ⟨_,e⟩
 | own y=>exact x
 | xd fs=>obtain ⟨_,⟨_,_,_,e,_⟩,_⟩:=x;exact ⟨_,e⟩
 | Wy lo hi=>obtain ⟨_,_,_,e⟩:=x;exact ⟨_,e⟩
 | RU ob u=>exact ⟨_,x.1⟩
 | TC ps=>exact ⟨_,x⟩
 | met f y=>exact ⟨_,x⟩
 | ext W=>exact x.2.1
theorem cE {h b0 b1:Heap}:∀ {l:List Env},h.FunFrames b0 l->(∀ L∈Oj l,b1.get? L=none)->h.FunFrames b1 l
 | [],_,_=>trivial
 | env :: rest,⟨hk,⟨L,o,hf,hn,ho,hd⟩,hr⟩,k=>by
  refine ⟨hk,⟨L,o,hf,k L ?_,ho,hd⟩,cE hr fun L' h'=>k L' ?_⟩
  .unfold Oj;rw [MK,hf];exact Lq
  .unfold Oj at h' ⊢;rw [MK,hf];exact Ly _ h'
theorem uC {outer:List Env} {H H':Hp} {h h2 h3 b b0:Heap} (u:Un (Oj outer) [] H H' h h2) (k:∀ c o,h.get? c=some o->c ∉ Oj outer->∃ o',b.get? c=some o') (st:b.StaysIn h2) (TJ:b.StaysIn h3) (sl:h2.UpToSlots h3)
  (ff:h2.FunFrames b0 outer) (fr:∀ c∈Oj outer,H c=none):Un (Oj outer) [] H H' h h3 where
 keep:=fun c o e n hc hx=>by obtain ⟨o',q⟩:=k c o e hc;have z:=u.keep c o e n hc hx;rw [st c o' q] at z;cases z;exact TJ c _ q
 slot:=fun c o e n hc hx=>by obtain ⟨s1,z⟩:=u.slot c o e n hc hx;obtain ⟨_,o2,e2,d2⟩:=ff.mem hc;rw [z] at e2;cases e2;obtain ⟨s2,z2⟩:=sl c _ z d2;exact ⟨s2,z2⟩
 free:=u.free
 there:=fun c o e hx=>by
  by_cases hc:c∈Oj outer
  .obtain ⟨s1,z⟩:=u.slot c o e (fr c hc) hc hx;obtain ⟨_,o2,e2,d2⟩:=ff.mem hc;rw [z] at e2;cases e2;obtain ⟨s2,z2⟩:=sl c _ z d2;exact ⟨_,z2⟩
  .obtain ⟨o',q⟩:=k c o e hc;exact ⟨o',TJ c o' q⟩
 ou:=u.ou
 nB:=u.nB
 qv:=u.qv
def Q1 (E:XK) (C:Qz) (Q:VK):VK:=fun v H=>(v=.non->E (.ref C) none H)/\(v≠.non->Q v H)
abbrev D1 (E:XK) (C:Qz) (Q:VK):Ends:={ nx:=fun _ H'=>Q1 E C Q .non H',rt:=Q1 E C Q }
structure JR (X:Cx) (E:XK) (C:Qz) (Q:VK) (body:List Stmt) (t:TS):Prop where
 h:∀ (ti:Qw) (s:Qx) (Y:St) (H:Hp),Inv X ti Y H s->t (D1 E C Q) Y H->wMY X (execs body X.env) (SP X ti { nx:=fun _ H'=>Q .non H',rt:=Q }) X.xe s
def Lets (X:Cx) (E:XK) (C:Qz):Prop:=∀ (ti:Qw) (Y:St) (H1:Hp) (s1:Qx) (h':Heap) (e:Qz) (us:List Qj),Inv X ti Y H1 s1->E (.ref C) none H1->Heap.MadeExcOf s1.heap h' e (.ref C) us->X.xe (.ref e) { s1 with heap:=h' }
section
variable {X:Cx} {E:XK} {C:Qz} {Q:VK}
theorem yu {st:Stmt} {rest:List Stmt} {te:TE} {g:TG} {t:TS} (h1:JS X st (pI te g)) (h2:JR X E C Q rest t):JR X E C Q (st :: rest) (zd (pI te g) t):=by
 refine ⟨fun ti s Y H I h=>?_⟩;refine Me (Oq (h1.h ti s Y H { nx:=t (D1 E C Q),rt:=fun _ _=>False } I h) fun f s1 q=>?_);cases f with
 | next =>
  obtain ⟨Z',H',I',q⟩:=q;exact h2.h ti s1 Z' H' I' q
 | ret v=>obtain ⟨_,_,_,_,_,q⟩:=q;exact q.elim
 | brk=>obtain ⟨_,_,_,q⟩:=q;exact q.elim
 | cont=>obtain ⟨_,_,_,q⟩:=q;exact q.elim
theorem E7 (he:JE X e te) (hr:∀ vs H (Q:VK),r vs H Q->∃ v,vs=[v]/\v≠.non/\Q v H):JR X E C Q [.Return (some e) pos] (sG (PN r (aL te dX))):=by refine ⟨fun ti s Y H I h=>?_⟩;refine Me (NB (Oq (he.h ti s Y H _ I h) fun v s1 ⟨x,H1,I1,r1,q1⟩=>?_));obtain ⟨y,e1,ne,q⟩:=hr _ _ _ q1;cases e1;exact ⟨x,Y,H1,I1,r1,q.2 ne⟩
end
abbrev Xs (X:Cx) (ea:Qz) (oe:Obj) (n:Str):Cx:={ X with A:=X.A.mark (some (.ref ea)),calm:=false,pn:=(ea,oe) :: X.pn,N:=X.N++[n],xe:=fun _ _=>False }
section
variable {X:Cx} {ti:Qw} {Y:St} {H H':Hp} {s s2:Qx} {ea:Qz} {oe:Obj} {n:Str}
theorem Cx.Ok.jd (ok:X.Ok):(Xs X ea oe n).Ok :=
 ⟨ok.mod,ok.kind,ok.glob,ok.blt,ok.above,ok.inj,ok.has,ok.Sz,fun z=>(by cases z),ok.frames,ok.S5,ok.QM,ok.bs,ok.QO,ok.vU,ok.w6,ok.jT,ok.Ql⟩
theorem Inv.jd (I:Inv X ti Y H s) (h1:s.heap.get? ea=some oe) (h2:H ea=none) (h3:ea≠X.env.locals) (h4:ea ∉ X.fs) (h5:∀ v,oe.data≠.cell v):Inv (Xs X ea oe n) ti (Y++[none]) H s:=by
 refine ⟨I.ok.jd,I.os,I.bare,I.base,?_,I.cell,I.free,I.cH,fun p hp=>?_,I.IT,?_⟩
 .obtain ⟨m,hn,hl⟩:=I.loc;refine ⟨m,hn,fun i x v e1 e2 e3=>?_⟩;by_cases hi:i < Y.length
  .rw [LL hi] at e2;have e1:(X.N++[n])[i]?=some x:=e1;rw [LL (by rw [<- I.len];exact hi)] at e1;exact hl i x v e1 e2 e3
  .rw [Lr (by lia)] at e2;cases q:i - Y.length with
   | zero=>rw [q] at e2;cases e2
   | succ k=>rw [q] at e2;cases e2
 .have hp:p∈(ea,oe) :: (X.pn++ti):=hp;rcases LJ.mp hp with z | z
  .subst z;exact ⟨h1,h2,h3,h4,h5⟩
  .exact I.pin p z
 .show (Y++[none]).length=(X.N++[n]).length;rw [Ln,Ln,I.len];rfl
theorem qf (I:Inv (Xs X ea oe n) ti G H s) (hl:X.env.kindOf n=some .local) (hn:n ∉ X.N)
  (h:∀ s',Inv X ti (G.take X.N.length) H s'->Q () s') (ok:X.Ok):wpAny M A (do bindName X.env n .none;unbindBehindTheSuite X.env n pos) Q E s:=by
 obtain ⟨m,Sa,ZX⟩:=id I.loc;have RY:(X.env.scope.kind==.class||(X.env.scope.kind==.module&&X.env.locals != X.env.globals))=false:=by rw [ok.kind];rfl
 refine wpAny_nameGoes_keeps hl Sa RY fun h' v Vq hs=>h _ ?_;have ab:=ok.above;have UQ:∀ b o,X.ZZ.heap.get? b=some o->b≠X.env.locals:=fun b o e=>L9 (LQ (LM e) ab);have RX:∀ y c,X.env.cells.lookup y=some c->c≠X.env.locals:=I.RX;obtain ⟨oL,_,_,Ug,_⟩:=id Sa;refine ⟨ok,I.os,I.bare,⟨fun b o e n hb hx=>?_,fun b o e n hb hx=>?_,I.base.free,fun b o e hx=>?_,I.base.ou,I.base.nB,I.base.qv⟩,⟨_,Vq,fun j y v' e1 e2 e3=>?_⟩,fun y c e=>?_,I.free,I.cH,fun p hp=>?_,fun b ob e=>?_,?_⟩
 .exact (hs.2 b (UQ b o e)).trans (I.base.keep b o e n hb hx)
 .obtain ⟨sl,e1⟩:=I.base.slot b o e n hb hx;exact ⟨sl,(hs.2 b (UQ b o e)).trans e1⟩
 .obtain ⟨o',e1⟩:=I.base.there b o e hx;exact ⟨o',(hs.2 b (UQ b o e)).trans e1⟩
 .have hj:j < X.N.length:=(Ls.mp e1).1;rw [N2 hj] at e2;obtain ⟨u',r',q⟩:=ZX j y v' (show (X.N++[n])[j]?=some y by rw [LL hj];exact e1) e2 e3;have ne:y≠n:=fun z=>hn (z▸LP e1);refine ⟨u',r',?_⟩;rcases q with ⟨k,e⟩ | ⟨k,c,e,z⟩
  .exact .inl ⟨k,by simp [ne,e]⟩
  .exact .inr ⟨k,c,e,z.sameBut hs (RX y c e)⟩
 .obtain ⟨w',z⟩:=I.cell y c e;exact ⟨w',z.sameBut hs (RX y c e)⟩
 .obtain ⟨e,n,ne,nf,d⟩:=I.pin p (Ly _ hp);exact ⟨(hs.2 p.1 ne).trans e,n,ne,nf,d⟩
 .refine (I.IT b ob e).jf (fun c w' hc q=>(hs.2 c ?_).trans q) (fun _ q=>q) fun _ _ q=>q;have fr:H X.env.locals=none:=I.free;rintro rfl;rcases hc with rfl | hc
  .rw [fr] at e;cases e
  .rw [fr] at hc;cases hc
 .have q:G.length=(X.N++[n]).length:=I.len;rw [Ln] at q;rw [Mi];have:[n].length=1:=rfl;lia
theorem hZ (I:Inv X ti Y H1 s1) (ho:s2.os=s1.os) (hb:AllBare s2.gens) (u:Un (Oj X.stack) [] H1 H' s1.heap s2.heap)
  (k:∀ c o,s1.heap.get? c=some o->c ∉ Oj X.stack->∃ o',b.get? c=some o') (IT:O6 X.prog X.w H' b) (fl:Heap.FlyingW b X.stack ea (.ref C) (.ref t) s2.heap) (TJ:b.StaysIn h3) (sl:s2.heap.UpToSlots h3) :
  Inv X ti Y H' { s2 with heap:=h3 } :=
 I.Gz (s':={ s2 with heap:=h3 }) (ch:=[]) ho (uC u k fl.1 TJ sl fl.2.2.1 I.iP) (IT.kept TJ) hb fun b z=>absurd z (by simp)
end
def TrD (h base:Heap) (e:Qz) (cls a0:Qj) (dx:Option Qz) (fl:Qj):Prop :=
 ∃ oe vs T oT ts,h.get? e=some oe/\((oe.cls=cls/\vs[0]?=some a0)/\oe.dict=dx/\(dx=none->vs[2]?=some .none))/\oe.data=.fields vs/\vs[1]?=some (.ref T)/\base.get? T=none/\T≠e/\h.get? T=some oT/\oT.data=.fields ts/\ts[3]?=some fl
def Rn (base:Heap) (l:List Env) (e:Qz) (cls a0:Qj) (dx:Option Qz) (fl:Qj) (h:Heap):Prop:=base.StaysIn h/\base.get? e=none/\h.FunFrames base l/\TrD h base e cls a0 dx fl
theorem Rn.Ts (x:Rn base l e cls a0 dx .none h):Heap.FlyingW base l e cls a0 h:=by obtain ⟨x1,x2,x3,oe,vs,T,oT,ts,h1,h2,r⟩:=x;exact ⟨x1,x2,x3,oe,vs,T,oT,ts,h1,h2.1,r⟩
section
variable {M:Model} {A:Around} {E:Qy} {s:Qx} {base:Heap} {env:Env} {l outer:List Env} {L e:Qz} {cls a0 fl:Qj} {dx:Option Qz} {Q:Unit->Qx->Prop}
theorem fS (x:Rn base l e cls a0 dx fl s.heap) (q:∀ h',Rn base l e cls a0 dx .none h'->s.heap.UpToSlots h'->Q () { s with heap:=h' }):wpAny M A (setFlight (.ref e) none) Q E s:=by
 obtain ⟨k1,k2,k3,oe,vs,T,oT,ts,he,hc,hd,h1,hn,O2,hT,T7,h3⟩:=x;have z3:3 < ts.size:=(Np.mp h3).1;have O4:∀ b,b≠T->(s.heap.update T (Obj.mapFields (·.setIfInBounds 3 ((none:Option Qz).elim Value.none fun f=>rawInt f)))).get? b=s.heap.get? b:=fun b hb=>L4 _ _ (Ne.symm hb);have nr:∀ b o,s.heap.get? b=some o->(∀ vs,o.data≠.fields vs)->b≠T:=fun b o hb nf z=>by subst z;rw [hT] at hb;cases hb;exact nf ts T7
 unfold setFlight;refine Lm (NK he hd h1 ?_);rw [Lz (show (Value.ref T != Value.none)=true by simp)];refine NS hT T7 z3 (q _ ⟨fun b o z=>(O4 b fun y=>by rw [y,hn] at z;cases z).trans (k1 b o z),k2,k3.of_keeps fun b o hb nf=>⟨o,(O4 b (nr b o hb nf)).trans hb,rfl⟩,oe,vs,T,_,_,(O4 e (Ne.symm O2)).trans he,hc,hd,h1,hn,O2,Mm _ hT (Obj.isFreed_of_fields (NU T7 _)),NU T7 _,by simp [z3]⟩ fun b o hb nf=>⟨o.slots,(O4 b (nr b o hb nf)).trans hb⟩)
theorem x4:(Obj.mapFields f o).dict=o.dict:=by obtain ⟨c,d,dt,sl⟩:=o;cases dt <;> rfl
theorem oG (RJ:A.frames=some (env :: outer)) (hl:s.heap.FunFrames base (env :: outer)) (hf:env.frame=some L) (he:s.heap.get? e=some oe) (kb:base.StaysIn s.heap) (Ve:base.get? e=none) (hd:oe.data=.fields vs) (hz:1 < vs.size) (h0:vs[0]?=some a0) (Q9:oe.dict=none->vs[2]?=some .none)
  (q:∀ h',Rn base (env :: outer) e oe.cls a0 oe.dict (rawInt L) h'->s.heap.UpToSlots h'->Q () { s with heap:=h' }) :
  wpAny M A (do let a<-frameOf env;let pl<-entryPlaceOf L had;let b<-EntryCells.newEntry head a .none (rawInt L) .none pl;setField (.ref e) 1 b) Q E s:=by
 have RK:e ∉ (env :: outer).filterMap (·.frame):=fun z=>by obtain ⟨_,o,ho,nf⟩:=hl.mem z;rw [he] at ho;cases ho;exact nf vs hd
 refine Lm (wpAny_frameOf_fun RJ hl hf fun h1 hs=>Lm (wpAny_entryPlaceOf fun pl QU=>?_));unfold EntryCells.newEntry newFields;refine Lm (MJ ?_ (QU.sizeOk5 _ _ _ _ _));have Wh:h1.get? e=some oe:=(hs.2.1 e RK).trans he;have kb1:base.StaysIn h1:=fun b o z=>(hs.2.1 b fun y=>by rw [(hl.mem y).1] at z;cases z).trans (kb b o z);have hTe:h1.objs.size≠e:=Nr (LM Wh);have Su:=NU hd (·.setIfInBounds 1 (Value.ref h1.objs.size));generalize eo:({ cls:=.type "traceback", dict:=none,data:=.fields ([head,.ref L,.none,rawInt L,.none]++(if pl.isEmpty then List.replicate 6 Value.none else pl)).toArray }:Obj)=oT;have Qc:=LB (h:=h1) oT Wh;have YW:=Mm (Obj.mapFields (·.setIfInBounds 1 (Value.ref h1.objs.size))) Qc (Obj.isFreed_of_fields Su);have hT3:((h1.push oT).update e (Obj.mapFields (·.setIfInBounds 1 (Value.ref h1.objs.size)))).get? h1.objs.size=some oT:=(L4 _ _ (Ne.symm hTe)).trans (L0 h1 (by rw [<- eo];rfl));have keep:∀ b o,b≠e->h1.get? b=some o->((h1.push oT).update e (Obj.mapFields (·.setIfInBounds 1 (Value.ref h1.objs.size)))).get? b=some o:=fun b o hb z=>(L4 _ _ (Ne.symm hb)).trans (LB _ z);have nr:∀ b o,s.heap.get? b=some o->(∀ vs,o.data≠.fields vs)->b≠e:=fun b o hb nf z=>by subst z;rw [he] at hb;cases hb;exact nf vs hd
 have dd:(Obj.mapFields (·.setIfInBounds 1 (Value.ref h1.objs.size)) oe).dict=oe.dict:=x4;refine NS Qc hd hz (q _ ⟨fun b o z=>keep b o (fun y=>by rw [y,Ve] at z;cases z) (kb1 b o z),Ve,hl.of_keeps fun b o hb nf=>?_,_,_,h1.objs.size,oT,_,YW,⟨⟨Obj.cls_mapFields _ _,by rw [Array.getElem?_setIfInBounds_ne (by decide)];exact h0⟩,dd,fun z=>by rw [Array.getElem?_setIfInBounds_ne (by decide)];exact Q9 z⟩,Su,by simp [hz],kb1.fresh,hTe,hT3,by rw [<- eo],?_⟩ fun b o hb nf=>?_)
 .obtain ⟨sl,z⟩:=hs.2.2 b o hb;exact ⟨_,keep b _ (nr b o hb nf) z,rfl⟩
 .first | (simp;done) | (rcases QU with rfl | ⟨_,_,_,_,_,_,_,rfl⟩ <;> simp)
 .obtain ⟨sl,z⟩:=hs.2.2 b o hb;exact ⟨sl,keep b _ (nr b o hb nf) z⟩
theorem pW (RJ:A.frames=some (env :: outer)) (hl:s.heap.FunFrames base (env :: outer)) (hf:env.frame=some L) (he:s.heap.get? e=some oe) (kb:base.StaysIn s.heap) (Ve:base.get? e=none) (hd:oe.data=.fields vs) (h1:vs[1]?=some .none) (h0:vs[0]?=some a0) (Q9:oe.dict=none->vs[2]?=some .none)
  (q:∀ h',Rn base outer e oe.cls a0 oe.dict .none h'->s.heap.UpToSlots h'->Q () { s with heap:=h' }):wpAny M A (leaving env (.ref e)) Q E s:=by unfold leaving noteFrame;simp only [hf];refine Lm (Lm (NK he hd h1 ?_));rw [Lw (by decide)];refine oG RJ hl hf he kb Ve hd (Np.mp h1).1 h0 Q9 fun h2 x u=>fS (s:={ s with heap:=h2 }) x fun h3 y u2=>q h3 ?_ (u.trans u2);obtain ⟨y1,y2,⟨_,_,y3⟩,y4⟩:=y;exact ⟨y1,y2,y3,y4⟩
theorem m4 (RJ:A.frames=some (env :: outer)) (hf:env.frame=some L) (x:Rn base (env :: outer) e cls a0 dx .none s.heap) (q:∀ h',Rn base (env :: outer) e cls a0 dx (rawInt L) h'->s.heap.UpToSlots h'->Q () { s with heap:=h' }):wpAny M A (noteFrame (.ref e) env) Q E s:=by
 obtain ⟨k1,k2,k3,oe,vs,T,oT,ts,he,⟨⟨hc,h0⟩,PH,Q9⟩,hd,h1,hn,O2,hT,T7,h3⟩:=x;subst hc PH;unfold noteFrame;simp only [hf];refine Lm (NK he hd h1 ?_);rw [Lz (show (Value.ref T != Value.none)=true by simp)];refine Lm (NK hT T7 h3 ?_);rw [Lw (show ¬((Value.none==rawInt L)=true) by simp [rawInt])];refine Lm (NS hT T7 (Np.mp h3).1 ?_);have O4:∀ b,b≠T->(s.heap.update T (Obj.mapFields (·.setIfInBounds 3 Value.none))).get? b=s.heap.get? b:=fun b hb=>L4 _ _ (Ne.symm hb);have nr:∀ b o,s.heap.get? b=some o->(∀ vs,o.data≠.fields vs)->b≠T:=fun b o hb nf z=>by subst z;rw [hT] at hb;cases hb;exact nf ts T7
 exact oG (s:={ s with heap:=_ }) RJ (k3.of_keeps fun b o hb nf=>⟨o,(O4 b (nr b o hb nf)).trans hb,rfl⟩) hf ((O4 e (Ne.symm O2)).trans he) (fun b o z=>(O4 b fun y=>by rw [y,hn] at z;cases z).trans (k1 b o z)) k2 hd (Np.mp h1).1 h0 Q9 fun h' y u=>q h' y fun b o hb nf=>u b o ((O4 b (nr b o hb nf)).trans hb) nf
end
theorem nsHas {K:Fg} {h:Heap} {N:Qz} {m:Str->Option Qj} {x:Str} {v:Qj} (X:K.In h) (G:h.Ns N m) (e:PySem.W.nsIn K N x=some (some v)):m x=some v:=by
 obtain ⟨oN,eN,nN,atN,isD,_,found⟩:=G;have f:=found x;unfold nsFind findBy at f;unfold PySem.W.nsIn at e;split at e
 .next lk =>
  cases atN.symm.trans (X _ _ lk);cases isD;split at e
  .next ff =>
   cases e;rw [<- f,<-Array.find?_toList,ff];rfl
  .split at e <;> cases e
 .cases e
structure gu (K:Fg) (C:Qz) (i:Option Qj):Prop where
 ex:∃ dd cd bm k0 k1 k2 k3 k5,K.lookup C=some ⟨.type "type", dd,.cls cd,#[k0,k1,k2,k3,some (.builtin "ValueError.__new__"),k5]⟩/\cd.mro=.ref C :: bm/\cd.hasDel=false/\PySem.W.tailIn K SW bm=true/\PySem.W.nsOkIn K cd.ns=true/\PySem.W.nsIn K cd.ns "__init__" = some i
 cl:PySem.W.findIn K (.ref C) "__class__" = some (some (.builtin "object.__class__"))
 ga:PySem.W.findIn K (.ref C) "__getattribute__" = some (some (.builtin "BaseException.__getattribute__"))
 gg:PySem.W.findIn K (.ref C) "__getattr__" = some none
theorem gu.own {K:Fg} {C:Qz} {h:Heap} {i:Option Qj} (x:gu K C i) (X:K.In h):∃ bm N nm q bs hdct sn sub ab col dd k0 k1 k2 k3 k5 mN,h.get? C=some (excClassObj nm q C N bs bm hdct sn sub ab col dd k0 k1 k2 k3 k5 "ValueError.__new__")/\h.Ns N mN/\mN "__init__" = i/\OwnTail h SW bm /\
  ∃ cd,PySem.W.clsIn K C=some cd/\cd.mro=.ref C :: bm:=by
 obtain ⟨dd,⟨nm,bs,mro,ns,qn,hd,sn,sub,ab,col,del⟩,bm,k0,k1,k2,k3,k5,lk,em,ed,tl,nk,ni⟩:=x.ex;dsimp only at em ed nk ni;subst em ed;have G:=Heap.Ns.of_isNs (PySem.W.isNs_of_in X nk);refine ⟨bm,ns,nm,qn,bs,hd,sn,sub,ab,col,dd,k0,k1,k2,k3,k5,_,X _ _ lk,G,?_,PySem.W.tail_of_in X tl,_,by unfold PySem.W.clsIn;rw [lk],rfl⟩;cases i with
 | none=>exact PySem.W.ns_none_of X G ni
 | some v=>exact nsHas X G ni
theorem DX {K:Fg} {C a:Qz} {i:Option Qj} (x:gu K C i):PySem.W.KitX K (.ref a) (.ref C) (fun h=>∃ o,h.get? a=some o/\o.cls=.ref C) where
 ty:=fun M h _ p=>by obtain ⟨o,h1,h2⟩:=p;exact h2▸(PySem.W.Looks.ld h1).andThen .now
 it:=fun M h X _=>by obtain ⟨bm,N,nm,q,bs,hdct,sn,sub,ab,col,dd,k0,k1,k2,k3,k5,mN,hC,_⟩:=x.own X;intro A' Q' E' s' k q;unfold isType loadHead;exact Lm (wpAny_loadPart (k _ _ hC) (Lu q))
 ne:=fun h tp dd its n sl X QK=>by refine Bool.eq_false_iff.mpr fun q=>?_;have e:C=tp:=Value.ref.inj (Ma.mp q);subst e;obtain ⟨bm,N,nm,q,bs,hdct,sn,sub,ab,col,dd,k0,k1,k2,k3,k5,mN,hC,_⟩:=x.own X;have z:=congrArg Obj.data (Mp (hC.symm.trans QK));cases z
 ca:=fun {prog w A E Q s} X p k=>by obtain ⟨h,g,d,t,os⟩:=s;obtain ⟨o,h1,h2⟩:=p;obtain ⟨bm,N,nm,q,bs,hdct,sn,sub,ab,col,dd,k0,k1,k2,k3,k5,mN,hC,_,_,T,_⟩:=x.own X;exact uM X x.cl x.ga x.gg hC (T.hasType rfl) (T.hasType rfl) h1 h2 k
noncomputable def fQ (C e:Qz) (dx:Option Qz):HO:=.ext fun h=>∃ t,h.get? e=some { cls:=.ref C,dict:=dx,data:=.fields #[.ref t,.none,.none,.none,.bool false,.none] }
theorem kY (z:h.get? e=some { cls:=.ref C,dict:=dx,data:=.fields #[.ref t,.none,.none,.none,.bool false,.none] }):aI P w H h e (fQ C e dx) :=
 ⟨⟨t,z⟩,⟨_,z⟩,fun h1 h2 ⟨t,q⟩ k=>⟨t,k _ q⟩⟩
noncomputable def aO:V->Bool
 | .non=>true
 | .str x=>decide (x.length<=1000)
 | .int i=>decide (i.natAbs.log2 < 1920/\(Str.ofString (toString i)).length<=1000)
 | _=>false
theorem Inv.Kx (I:Inv X ti Y H s) (he:H e=some (fQ C e none)) (r:RelV v u)
  (k:∀ b o,b≠e->s.heap.get? b=some o->h'.get? b=some o) (h1:h'.get? e=some { cls:=.ref C,dict:=some s.heap.objs.size,data:=.fields #[.ref t,.none,.none,.none,.bool false,.none] })
  (h2:h'.Ns1 s.heap.objs.size (fun y=>if y=fld then some u else none)) :
  Inv X ti Y (upd (upd H e (fQ C e (some s.heap.objs.size))) s.heap.objs.size (.xd [(fld,v)])) { s with heap:=h',toks:=tk }:=by
 have fr:H s.heap.objs.size=none:=I.IT.fresh (LA _);have ne:e≠s.heap.objs.size:=fun z=>by rw [z,fr] at he;cases he
 have O4:∀ b,b≠e->b≠s.heap.objs.size->upd (upd H e (fQ C e (some s.heap.objs.size))) s.heap.objs.size (.xd [(fld,v)]) b=H b:=fun b n1 n2=>by unfold upd;rw [Lw n2,Lw n1]
 have nn:∀ b o,H b=some o->b≠s.heap.objs.size:=fun b o q z=>by rw [z,fr] at q;cases q
 have n0:∀ b,H b=none->b≠e:=fun b q z=>by rw [z,he] at q;cases q
 have nx:∀ b o,s.heap.get? b=some o->b≠s.heap.objs.size:=fun b o q=>L9 (LM q);refine I.un ⟨fun b o q n _ _=>k b o (n0 b n) q,fun b o q n _ _=>⟨o.slots,k b o (n0 b n) q⟩,fun b o q n _=>(O4 b (n0 b n) (nx b o q)).trans n,fun b o q _=>?_,fun b xs q=>?_,fun b o u q=>?_,fun b ps q=>?_⟩ fun b o q=>?_
 .by_cases z:b=e
  .rw [z];exact ⟨_,h1⟩
  .exact ⟨o,k b o z q⟩
 .rw [O4 b (fun z=>by rw [z,he] at q;cases q) (nn _ _ q)];exact q
 .rw [O4 b (fun z=>by rw [z,he] at q;cases q) (nn _ _ q)];exact q
 .exact ⟨#[],by rw [O4 b (fun z=>by rw [z,he] at q;cases q) (nn _ _ q),q];simp⟩
 .by_cases z1:b=s.heap.objs.size
  .subst z1;rw [ak] at q;cases q;refine ⟨_,h2,fun y=>?_⟩;by_cases e1:y=fld
   .subst e1;show E9 (List.lookup y [(y,v)]) _;rw [Lz rfl,M7,Mo];exact r
   .rw [Lw e1];show E9 (List.lookup y [(fld,v)]) _;have:(y==fld)=false:=by simpa using e1
    rw [M7,this];trivial
  .by_cases z2:b=e
   .subst z2;unfold upd at q;rw [Lw z1,Lz rfl] at q;cases q;exact kY h1
   .rw [O4 b z2 z1] at q;refine (I.IT b o q).jf (fun c w hc g=>k c w ?_ g) (fun c g=>?_) fun c xs g=>?_
    .rcases hc with rfl | hc
     .exact z2
     .rintro rfl;rw [he] at hc;cases hc
    .rw [O4 c (fun z=>by rw [z,he] at g;cases g) (nn _ _ g)];exact g
    .rw [O4 c (fun z=>by rw [z,he] at g;cases g) (nn _ _ g)];exact g
section
variable {X:Cx}
theorem Cw {i:Nat} {x tx:Str} {j:Nat} {p1 p2 p3 p4:Pos} (hi:X.N[i]?=some x) (hv:Qi X.env.scope x) (hd:Qv x) (Pt:Qk x) (ht:tx.length<=100) :
  PE X (.JoinedStr [.Constant (.str tx) j p1,.FormattedValue (.Name x p2) (-1) none p3] p4) (fun Y H Q=>∃ v,Y[i]?=some (some v)/\aO v=true/\∀ y,Q (.str y) H):=by
 intro ti s Y H Q I h;obtain ⟨v,ev,hp,q⟩:=h;refine JoinedStr_many ?_;refine joinParts_cons (Calls.Constant_str ⟨?_,?_⟩)
 .show (Str.empty++tx).length<=sizeLine;rw [strLen_append];exact LG (Nat.add_le_add_left ht _) (by decide)
 have I1:Inv X ti Y H { s with toks:=s.toks+1 }:=I.tok _;refine joinParts_cons (FormattedValue_plain (Oq (dZ hi hv hd Pt ti _ Y H (fun v' H'=>v'=v/\H'=H) I1 ⟨v,ev,rfl,rfl⟩) fun u s1 z=>?_));obtain ⟨v',H',I2,r,rfl,rfl⟩:=z;have fin:∀ (y:Str) (tk:Nat),y.length<=1000->(((Str.empty++tx)++y).length<=sizeLine/\wMY X (joinParts ((Str.empty++tx)++y) (evalEach [] X.env)) (EP X ti Y Q) X.xe { s1 with toks:=tk }):=fun y tk hy=>by
  have hz:((Str.empty++tx)++y).length<=sizeLine:=by rw [strLen_append,strLen_append];exact LG (Nat.add_le_add (Nat.add_le_add_left ht _) hy) (by decide)
  exact ⟨hz,joinParts_nil (out:=(Str.empty++tx)++y) (show EP X ti Y Q _ _ from ⟨.str _,H',I2.tok _,⟨_,rfl⟩,q _⟩) hz⟩
 cases v' with
 | non =>
  cases r;exact wpAny_formatField_none (fin _ _ (by decide))
 | str x =>
  obtain ⟨t,rfl⟩:=(show ∃ t,u=Value.str x t from r);have hx:x.length<=1000:=L8 hp;exact formatField_str (fun t' tk=>fin _ _ hx) (LG hx (by decide))
 | int n =>
  obtain ⟨t,rfl⟩:=(show ∃ t,u=Value.int n t from r);have hn:n.natAbs.log2 < 1920/\(Str.ofString (toString n)).length<=1000:=L8 hp;exact formatField_int_small hn.1 (fin _ _ hn.2)
 | _=>cases hp
end
structure F6 (K:Fg) (C D:Qz) (fld:Str):Prop where
 sa:PySem.W.findIn K (.ref C) "__setattr__" = some (some (.builtin "object.__setattr__"))
 po:F3 K C=true
 tk:PySem.W.takerIn K C fld=some none
 hd:PySem.W.hasDictIn K C=true
 sp:PySem.W.specialIn K (.ref D) "__getattribute__" = some (some (.builtin "type.__getattribute__"))
 rd:PySem.W.readsIn K D (.type "type")=true
 na:PySem.W.findIn K (.ref C) fld=some none
 fc:PySem.W.findCls K (.ref D) (.type "type") "__init__" = some (.val (.builtin "ValueError.__init__"))
def B5 (C:Qz) (fld:Str):TS:=fun D Y H=>∃ e v,Y[0]?=some (some (.ref e))/\Y[1]?=some (some v)/\aO v=true/\H e=some (fQ C e none)/\∀ dx,H dx=none->D.nx Y (upd (upd H e (fQ C e (some dx))) dx (.xd [(fld,v)]))
section
variable {X:Cx}
theorem zW {C D:Qz} {i:Option Qj} {fld Dn sf nm tx:Str} {j:Nat} {p1 p2 p3 p4 p5 p6 p7 p8 p9 q1 q2 q3 q4:Pos} (xC:gu X.K C i) (xF:F6 X.K C D fld) (hg:Gl X Dn) (hm:X.mg Dn=some (.ref D)) (Xm:Qv Dn)
  (h0:X.N[0]?=some sf) (h1:X.N[1]?=some nm) (v0:Qi X.env.scope sf) (v1:Qi X.env.scope nm) (d0:Qv sf) (c0:Qk sf) (d1:Qv nm) (c1:Qk nm) (ht:tx.length<=100)
  (Wi:swapsWith (.Call (.Attribute (.Name Dn p1) "__init__" p2) [.Name sf p3,.JoinedStr [.Constant (.str tx) j p4,.FormattedValue (.Name nm p5) (-1) none p6] p7] [] p8) none p9.line X.env=pure false)
  (YX:∃ pl,eval (.Call (.Attribute (.Name Dn p1) "__init__" p2) [.Name sf p3,.JoinedStr [.Constant (.str tx) j p4,.FormattedValue (.Name nm p5) (-1) none p6] p7] [] p8) X.env=(do
   let o<-eval (.Name Dn p1) X.env
   standAt p2.atName
   let (g,us)<-holding [o] (getMethod o "__init__" pl)
   callWith p8 g us (backTo p8 (starEach [.Name sf p3,.JoinedStr [.Constant (.str tx) j p4,.FormattedValue (.Name nm p5) (-1) none p6] p7] X.env)) (backToKw p8 (keywordEach [] X.env))))
  (YY:swapsWith (.Name nm q3) (some (.Attribute (.Name sf q1) fld q2)) q4.line X.env=pure false) :
  QG X [.Expr (.Call (.Attribute (.Name Dn p1) "__init__" p2) [.Name sf p3,.JoinedStr [.Constant (.str tx) j p4,.FormattedValue (.Name nm p5) (-1) none p6] p7] [] p8) p9,.Assign [.Attribute (.Name sf q1) fld q2] (.Name nm q3) q4] (B5 C fld):=by
 intro ti s Y H D' I h;obtain ⟨e,v,e0,e1,hp,he,q⟩:=h;refine Me (wpAny_Expr_any ?_ I.quiet Wi);obtain ⟨pl,YX⟩:=YX;refine PySem.W.methodCall_KW (pl:=pl) (cO I hg hm ?_ Xm) YX;refine PySem.W.method_cls I.OL xF.sp (PySem.W.cls_value I.OL xF.rd xF.fc (by decide +kernel) ?_);refine Calls.callWith_builtin rfl (Calls.evalArgs_plain ?_);have I0:Inv X ti Y H { s with toks:=s.toks+1 }:=I.tok _;have ha:PA X [.Name sf p3,.JoinedStr [.Constant (.str tx) j p4,.FormattedValue (.Name nm p5) (-1) none p6] p7] _:=eM (dZ h0 v0 d0 c0) (eM (Cw h1 v1 d1 c1 ht) jy rfl) rfl;refine Oq (ha p8 ti _ Y H (fun vs H'=>H'=H/\∃ y,vs=[.ref e,.str y]) I0 ⟨_,e0,v,e1,hp,fun y=>⟨rfl,y,rfl⟩⟩) fun us s1 z=>?_;obtain ⟨vs,H',I1,r,rfl,y,rfl⟩:=z;obtain ⟨u1,u2,rfl,r1,r2⟩:=vals2 r;cases (show u1=Value.ref e from r1);obtain ⟨bm,N,YT,q',bs,hdct,sn,sub,ab,col,dd,k0,k1,k2,k3,k5,mN,hC,hN,hi,T,_⟩:=xC.own I1.OL;obtain ⟨⟨t,et⟩,_⟩:=(show aI X.prog X.w H' s1.heap e (fQ C e none) from I1.IT e _ he);obtain ⟨Wj,gn,dr,tk,os⟩:=s1;refine Gn T hC et fun h' t1 kp g1=>?_;have up:upd H' e (fQ C e none)=H':=by
  funext b;unfold upd;split
  .next z=>rw [z,he]
  .rfl
 have I2:Inv X ti Y H' ⟨h',gn,dr,tk,os⟩:=by have z:=I1.write (t':=tk) (x:=e) (e:=e) (o:=fQ C e none) (by rw [he];trivial) (.inl rfl) kp ⟨_,g1⟩ (kY g1);rwa [up] at z
 refine Me (plainObj_wpAny_Assign_Attribute (Oq (dZ h1 v1 d1 c1 ti _ Y H' (fun v' H2=>v'=v/\H2=H') I2 ⟨v,e1,rfl,rfl⟩) fun u s2 z=>?_) YY);obtain ⟨v',H2,I3,ru,rfl,rfl⟩:=z;refine Oq (dZ h0 v0 d0 c0 ti _ Y H2 (fun v' H3=>v'=.ref e/\H3=H2) I3 ⟨_,e0,rfl,rfl⟩) fun ov s3 z=>?_;obtain ⟨_,H3,I4,ro,rfl,rfl⟩:=z;cases (show ov=Value.ref e from ro);obtain ⟨⟨t2,et2⟩,_⟩:=(show aI X.prog X.w H3 s3.heap e (fQ C e none) from I4.IT e _ he);refine Le I4.OL et2 xF.sa xF.po xF.tk xF.hd fun h4 tk4 kp4 g4 n4=>?_;exact MU ⟨Y,_,I4.Kx he ru kp4 g4 n4,q _ (I4.IT.fresh (LA _))⟩
end
def PJ (P:Program) (w:World):Q6:=fun outer H s E e s2=>∃ (ea C t:Qz) (dx:Option Qz) (H':Hp) (b:Heap),e=.ref ea/\s2.os=s.os/\AllBare s2.gens/\Un (Oj outer) [] H H' s.heap s2.heap /\
 (∀ c o,s.heap.get? c=some o->c ∉ Oj outer->∃ o',b.get? c=some o')/\O6 P w H' b/\Rn b outer ea (.ref C) (.ref t) dx .none s2.heap/\E (.ref C) dx H'
def DN (X:Cx) (E:XK) (C:Qz) (fld:Str):Prop:=∀ (ti:Qw) (Y:St) (H1:Hp) (s:Qx) (e dx:Qz) (v:V),Inv X ti Y (upd (upd H1 e (fQ C e (some dx))) dx (.xd [(fld,v)])) s->H1 e=none->H1 dx=none->e≠dx->X.ZZ.heap.get? e=none ->
 E (.ref C) (some dx) (upd H1 dx (.xd [(fld,v)]))->X.xe (.ref e) s
def Cg (X:Cx) (E:XK) (C:Qz) (fld:Str):Prop:=∀ (W:Heap->Prop) (ti:Qw) (Y:St) (H1:Hp) (s:Qx) (e dx:Qz) (v:V),(∀ h,W h->∃ t vs,h.get? e=some { cls:=.ref C,dict:=some dx,data:=.fields vs }/\vs[1]?=some .none/\vs[0]?=some (.ref t))->Inv X ti Y (upd (upd H1 e (.ext W)) dx (.xd [(fld,v)])) s->H1 e=none->H1 dx=none->e≠dx->X.ZZ.heap.get? e=none ->
 E (.ref C) (some dx) (upd H1 dx (.xd [(fld,v)]))->X.xe (.ref e) s
theorem Du {P:Program} {w:World} {K:Fg} {mg:Qg} {base:Heap} {N:List Str} {qual:Str} {scope:Scope} {f:Qz} {cd:Qj} {A:Around} {outer:List Env} {s:Qx} {H:Hp} {E:XK} {C:Qz} {fld:Str} :
  Cg (i6 (PJ P w) P w K mg base N qual scope f cd A outer s H E) E C fld:=by
 intro W ti Y H1 s1 e dx v hφ I h1 h2 ne fr ew;generalize hL:e :: Oj (envOfC qual scope s.heap.objs.size f cd :: outer)=L;have OW:(PySem.W.hideAll s1.heap L).StaysIn s1.heap:=fun b o q=>PySem.W.of_hideAll _ q;have ff:s1.heap.FunFrames (PySem.W.hideAll s1.heap L) (envOfC qual scope s.heap.objs.size f cd :: outer) :=
  cE I.stack fun c hc=>PySem.W.hideAll_none _ (by rw [<- hL];exact Ly _ hc)
 have RK:∀ c,c∈Oj (envOfC qual scope s.heap.objs.size f cd :: outer)->c=s.heap.objs.size\/c∈Oj outer:=fun c hc=>LJ.mp (I.jt c hc);have U:Un (Oj outer) [] H _ s.heap s1.heap:=I.base;have Ql:∀ c∈Oj outer,H c=none:=I.ok.Ql;have Qc:upd (upd H1 e (.ext W)) dx (.xd [(fld,v)]) e=some (.ext W):=by unfold upd;rw [Lw ne,Lz rfl]
 have O4:∀ c,c≠e->upd (upd H1 e (.ext W)) dx (.xd [(fld,v)]) c=upd H1 dx (.xd [(fld,v)]) c:=fun c hc=>by unfold upd;rw [Lw hc]
 have YW:upd H1 dx (.xd [(fld,v)]) e=none:=by unfold upd;rw [Lw ne];exact h1
 obtain ⟨hh,_⟩:=(show aI P w _ s1.heap e (.ext W) from I.IT e _ Qc);obtain ⟨t,vs,et,v1,v0⟩:=hφ _ hh;have RC:∀ c o,s.heap.get? c=some o->c ∉ Oj outer->∃ o',(PySem.W.hideAll s1.heap L).get? c=some o':=fun c o q hc=>by
  obtain ⟨o',q'⟩:=U.there c o q (by simp);refine ⟨o',NO _ q' fun z=>?_⟩;rw [<- hL] at z;rcases LJ.mp z with z | z
  .subst z;have fr:s.heap.get? c=none:=fr;rw [fr] at q;cases q
  .rcases RK c z with z | z
   .exact absurd (LM q) (by rw [z];exact Mn _)
   .exact hc z
 have U2:Un (Oj outer) [] H (upd H1 dx (.xd [(fld,v)])) s.heap s1.heap:=⟨U.keep,U.slot,fun b o q n hx=>by
   have z:=U.free b o q n hx;rwa [O4 b fun y=>by subst y;rw [Qc] at z;cases z] at z,U.there,fun b xs q=>by
   have z:=U.ou b xs q;rwa [O4 b fun y=>by subst y;rw [Qc] at z;cases z] at z,fun b o u q=>by
   have z:=U.nB b o u q;rwa [O4 b fun y=>by subst y;rw [Qc] at z;cases z] at z,fun b ps q=>by
   obtain ⟨m,z⟩:=U.qv b ps q
   exact ⟨m,by rwa [O4 b fun y=>by subst y;rw [Qc] at z;cases z] at z⟩⟩
 refine pW (base:=PySem.W.hideAll s1.heap L) I.ok.frames ff rfl et OW (PySem.W.hideAll_none _ (by rw [<- hL];exact Lq)) rfl v1 v0 (fun z=>by cases z) fun h2 fl sl=>?_;refine ⟨e,C,t,some dx,upd H1 dx (.xd [(fld,v)]),_,rfl,I.os,I.bare,?_,RC,fun c o q=>?_,fl,ew⟩
 .exact uC U2 RC OW fl.1 sl I.jT Ql
 .have nc:c≠e:=fun z=>by rw [z,YW] at q;cases q
  have q':upd (upd H1 e (.ext W)) dx (.xd [(fld,v)]) c=some o:=(O4 c nc).trans q;refine (I.IT c o q').jf (fun b u hb r=>NO _ r fun z=>?_) (fun b r=>?_) fun b xs r=>?_
  .rw [<- hL] at z;rcases LJ.mp z with z | z
   .subst z;rcases hb with hb | hb
    .exact nc hb.symm
    .rw [Qc] at hb;cases hb
   .have fr:=I.iP b z;rcases hb with rfl | hb
    .rw [q'] at fr;cases fr
    .rw [hb] at fr;cases fr
  .rwa [O4 b fun y=>by subst y;rw [Qc] at r;cases r] at r
  .rwa [O4 b fun y=>by subst y;rw [Qc] at r;cases r] at r
theorem DK {P:Program} {w:World} {K:Fg} {mg:Qg} {base:Heap} {N:List Str} {qual:Str} {scope:Scope} {f:Qz} {cd:Qj} {A:Around} {outer:List Env} {s:Qx} {H:Hp} {E:XK} {C:Qz} {fld:Str} :
  DN (i6 (PJ P w) P w K mg base N qual scope f cd A outer s H E) E C fld :=
 fun ti Y H1 s1 e dx v=>Du _ ti Y H1 s1 e dx v fun _ ⟨t,z⟩=>⟨t,_,z,rfl,rfl⟩
def o9 (C:Qz) (fld:Str):Sp:=fun vs H Q _=>∃ e v,vs=[.ref e,v]/\aO v=true/\H e=some (fQ C e none)/\∀ dx,H dx=none->Q .non (upd (upd H e (fQ C e (some dx))) dx (.xd [(fld,v)]))
structure YZ (P:Program) (w:World) (K:Fg) (mg:Qg) (base:Heap) (C f:Qz) (fld:Str) (fd:FuncData) (ps:List Str):Prop where
 cls:gu K C (some (.ref f))
 fn:∃ o,K.lookup f=some o/\o.cls=.type "function"
 kp:PySem.W.keepIn K (.ref C)=true
 ok:fI P w K mg base CX0 1 f fd ps (o9 C fld)
 bd:Binds K fd ps []
section
variable {X:Cx} {ti:Qw} {Y:St} {H:Hp} {s:Qx}
theorem Ks {C f:Qz} {fld x:Str} {fd:FuncData} {ps:List Str} {a:Expr} {te:TE} {RN QN:VK} {p pos:Pos} (M:YZ X.prog X.w X.K X.mg X.base C f fld fd ps) (hr:bN 2 X.A) (hg:Gl X x) (hm:X.mg x=some (.ref C)) (hd:Qv x) (ha:PE X a te) (hs:PySem.W.isStarred a=false)
  (hex:X.ex=[]) (I:Inv X ti Y H s) (h:te Y H RN) (hR:∀ v H1,RN v H1->aO v=true/\QN v H1) :
  wMY X (eval (.Call (.Name x p) [a] [] pos) X.env) (fun u s2=>∃ e dx v H1,u=.ref e/\X.ZZ.heap.get? e=none/\H1 e=none/\H1 dx=none/\e≠dx/\Inv X ti Y (upd (upd H1 e (fQ C e (some dx))) dx (.xd [(fld,v)])) s2/\aO v=true/\QN v H1) X.xe s:=by
 refine MQ (cO I hg hm ?_ hd);have Wk:PA X [a] (aL te dX):=eM ha jy (aw hs);refine NT (h₀:=X.base) I.ok.mod.RW M.kp (Oq (Wk pos ti s Y H (fun vs H1=>match vs with | [v]=>RN v H1 | _=>False) I h) fun us s1 z=>?_) (aw hs) (bb rfl);obtain ⟨vs,H1,I1,r,z⟩:=z
 match vs,z with
 | [v],z =>
 obtain ⟨hp,q⟩:=hR v H1 z;obtain ⟨u,rfl,r1⟩:=vals1 r;refine ⟨I1.OL,?_⟩;obtain ⟨bm,N,nm,q',bs,hdct,sn,sub,ab,col,dd,k0,k1,k2,k3,k5,mN,hC,hN,hi,T,_⟩:=M.cls.own I1.OL;obtain ⟨o,ho,UR⟩:=M.fn;have ho:=I1.OL _ _ ho;obtain ⟨Wj,gn,dr,tk,os⟩:=s1;refine Ck T hC hN hi ho UR (fun h' e le hx=>?_) (by decide:1<=sizeLine);obtain ⟨t,et,_⟩:=hx.there;have fr:H1 e=none:=I1.IT.fresh le;have I2:Inv X ti Y (upd H1 e (fQ C e none)) ⟨h',gn,dr,tk,os⟩:=I1.laid (t':=tk) hx.keeps le (kY et);have hq:o9 C fld [.ref e,v] (upd H1 e (fQ C e none)) (fun v' H2=>v'=.non/\∃ dx,H1 dx=none/\e≠dx/\H2=upd (upd H1 e (fQ C e (some dx))) dx (.xd [(fld,v)])) (fun _ _ _=>False):=by
  refine ⟨e,v,rfl,hp,ak,fun dx PH=>⟨rfl,dx,?_,?_,?_⟩⟩
  .unfold upd at PH;split at PH
   .cases PH
   .exact PH
  .rintro rfl;rw [ak] at PH;cases PH
  .rw [uX]
 have r2:Vals [V.ref e,v] [Value.ref e,u]:=.cons rfl (.cons r1 .nil);have hl:([Value.ref e,u]++[]).length=ps.length:=by have z:=M.ok.len _ _ _ _ hq;exact z
 refine N8 (NQ (M.ok.run _ X.stack _ _ ⟨[Value.ref e,u],[]⟩ [Value.ref e,u] _ _ _ (hr.make C [u] []) (I2.FJ.make C [u] []) (by have z:=M.bd _ [Value.ref e,u] I2.OL hl;rwa [L7] at z) r2 hq) fun r s' Sv=>?_);cases r with
 | error e=>exact Sv.elim
 | ok fl =>
  cases fl with
  | ret u' =>
   obtain ⟨v',H',I3,rv,rfl,dx,d1,d2,rfl⟩:=I2.after Sv;cases rv;refine ⟨rfl,e,dx,v,H1,rfl,?_,fr,d1,d2,I3,hp,q⟩;cases z:X.ZZ.heap.get? e with
   | none=>rfl
   | some o =>
    obtain ⟨o',g⟩:=I1.base.there e o z (by rw [hex];simp);exact absurd (LM g) (Nat.not_lt.mpr le)
  | next=>exact False.elim Sv
  | brk=>exact False.elim Sv
  | cont=>exact False.elim Sv
end
theorem Inv.Ll (I:Inv X ti Y H s) (hj:X.N[j]?=some y) (hy:¬Qi X.env.scope y):Inv X ti (Y.set j v) H s:=by
 obtain ⟨m,hn,hl⟩:=I.loc;refine ⟨I.ok,I.os,I.bare,I.base,⟨m,hn,fun i x w e1 e2 e3=>?_⟩,I.cell,I.free,I.cH,I.pin,I.IT,by rw [Md];exact I.len⟩;by_cases e:i=j
 .subst e;rw [hj] at e1;cases e1;exact absurd e3 hy
 .rw [Lv (Ne.symm e)] at e2;exact hl i x w e1 e2 e3
def rX (K:Fg) (ea C:Qz):List V->Hp->VK->Prop:=fun vs H Q=>∃ c cv b,vs=[.ref ea,c]/\(∀ u,RelV c u->u=cv)/\PySem.W.kitOne K (.ref C) cv=some b/\Q (.bl b) H
def Xn (f:Fn) (C:Qz) (K:Fg):Sp:=fun vs H Q E=>gT f K vs H (Q1 E C Q) W2
theorem kR {f:Fn} {K:Fg} {vs:List V} {H:Hp} {Q Q':VK} {E E':XK} (h:gT f K vs H Q E) (k:∀ v H',Q v H'->Q' v H'):gT f K vs H Q' E':=by obtain ⟨G,ds,is,pr,outs,h1,h2,h3,h4⟩:=h;exact ⟨G,ds,is,pr,outs,h1,h2,h3,fun v H' a b=>k _ _ (h4 v H' a b)⟩
theorem Dh {f:Fn} {C:Qz} {K:Fg}:∀ vs H (Q:VK) E',gT f K vs H Q E'->∀ (Q1:VK) (E1:XK),(∀ v H',Q v H'->(v=.non->E1 (.ref C) none H')/\(v≠.non->Q1 v H'))->Xn f C K vs H Q1 E1 :=
 fun vs H Q E' h Q1 E1 k=>kR h k
theorem Ad {f:Fn} {C:Qz} {K:Fg} {vs:List V} {H:Hp} {Q:VK} {E:XK} (h:Xn f C K vs H Q E):vs.length=f.ms.length:=j6 h
noncomputable def nnD:Qq->Option PR
 | .int i=>some (.dat (.int i)) | .str x=>some (.dat (.str x)) | .bool x=>some (.dat (.bool x)) | .tuple x=>some (.dat (.tuple x)) | _=>none
def nnP:Oo:=Oo.one (fun _ v H Q=>v≠.non/\Q v H) nnD fun K F H x u pr Q hf hx hd q=>by
 cases x with
 | int i=>cases hf;exact ⟨(by rw [vInt hx];exact fun z=>nomatch z),q _ H (ax.rf H) hx⟩
 | str i=>cases hf;exact ⟨(by rw [(vStr hx).1];exact fun z=>nomatch z),q _ H (ax.rf H) hx⟩
 | bool i=>cases hf;exact ⟨(by rw [U8 hx];exact fun z=>nomatch z),q _ H (ax.rf H) hx⟩
 | tuple i=>cases hf;exact ⟨(by obtain ⟨a,xs,rfl,_⟩:=pP hx;exact fun z=>nomatch z),q _ H (ax.rf H) hx⟩
 | none=>cases hf
 | list l=>cases hf
 | dict l=>cases hf
theorem Hg {K:Fg}:∀ vs H (Q:VK),nnP.r K vs H Q->∃ v,vs=[v]/\v≠.non/\Q v H:=fun vs H Q h=>by
 match vs,h with
 | [v],h=>exact ⟨v,rfl,h.1,h.2⟩
abbrev Cd:=List (Int×Qz)
def QP (E:XK) (C:Qz) (fld:Str) (Q:VK):VK:=fun v H=>(aO v=true->∀ dx,H dx=none->E (.ref C) (some dx) (upd H dx (.xd [(fld,v)])))/\(aO v=false->Q v H)
abbrev DZ (E:XK) (C:Qz) (fld:Str) (D:Ends):Ends:={ D with rt:=QP E C fld D.rt }
def JZ (E:XK) (C:Qz) (fld:Str) (t:TS):TS:=fun D=>t (DZ E C fld D)
section
variable {X:Cx} {E:XK} {C:Qz} {fld:Str}
theorem vN {s:Stmt} {rest:List Stmt} {t u:TS} (h:JS X s (JZ E C fld t)) (hr:Pw X rest (JZ E C fld u)):Pw X (s :: rest) (JZ E C fld (zd t u)):=aC h hr
theorem we (h:JS X s (JZ E C fld t)):Pw X [s] (JZ E C fld t):=aM h
theorem Cp:Pw X [] (JZ E C fld vC):=cL
theorem Ez (hc:JT X c tc) (ha:Pw X a (JZ E C fld t)) (hb:Pw X b (JZ E C fld u)):JS X (.If c a b pos) (JZ E C fld (Ai tc t u)):=cN hc ha hb
theorem DU (hi:JI X tg iter wi) (hg:JG X tg g) (hb:Pw X body (JZ E C fld tb)) (hp:PassesOwn (model X.prog X.w) X.A X.env X.xe) (hc:X.calm=true) (hs:∀ x,foldedSetIterable iter X.env x=pure x):JS X (.For tg iter body [] pos) (JZ E C fld (BK wi g tb)):=Ke hi hg hb hp hc hs
theorem Ce (h:JS X s t) (e:∀ D,t (DZ E C fld D)=t D):JS X s (JZ E C fld t):=⟨fun ti s Y H D I q=>h.h ti s Y H D I (by have q:t (DZ E C fld D) Y H:=q;rwa [e D] at q)⟩
theorem E6 (he:JE X e te) (hr:∀ vs H (Q:VK),r vs H Q->∃ v,vs=[v]/\aO v=false/\Q v H):JS X (.Return (some e) pos) (JZ E C fld (sG (PN r (aL te dX)))):=by refine ⟨fun ti s Y H D I h=>?_⟩;refine NB (Oq (he.h ti s Y H _ I h) fun v s1 ⟨x,H1,I1,r1,q1⟩=>?_);obtain ⟨y,e1,ne,q⟩:=hr _ _ _ q1;cases e1;exact ⟨x,Y,H1,I1,r1,q.2 ne⟩
theorem o8 (M:YZ X.prog X.w X.K X.mg X.base C f fld fd ps) (hrm:bN 2 X.A) (hg:Gl X x) (hm:X.mg x=some (.ref C)) (hd:Qv x) (ha:JE X a te) (hs:PySem.W.isStarred a=false)
  (hex:X.ex=[]) (hL:DN X E C fld) (hr:∀ vs H (Q:VK),r vs H Q->∃ v,vs=[v]/\aO v=true/\Q v H):JS X (.Raise (some (.Call (.Name x np) [a] [] OM)) none pos) (JZ E C fld (sG (PN r (aL te dX)))):=by
 refine ⟨fun ti s Y H D I h=>?_⟩;have h:te Y H fun v H1=>r [v] H1 (QP E C fld D.rt):=h;rw [arm_exec_Raise];refine Lm (NH ?_);obtain ⟨bm,N,nm,q',bs,hdct,sn,sub,ab,col,dd,k0,k1,k2,k3,k5,mN,hC,hN,hi,T,_⟩:=M.cls.own I.ok.mod.RW;refine CC (C:=C) (N:=N) (nm:=nm) (q:=q') (bs:=bs) (bm:=bm) (hdct:=hdct) (sn:=sn) (sub:=sub) (ab:=ab) (col:=col) (dd:=dd) (k0:=k0) (k1:=k1) (k2:=k2) (k3:=k3) (k5:=k5) (T.hasType rfl) hrm.hd (Lm (L6 (Ks (QN:=QP E C fld D.rt) M hrm hg hm hd ha.h hs hex I h fun v H1 z=>?_) (fun u s2 z=>Lm (NH (Lu ?_))) fun _ _ z=>z))
 .obtain ⟨y,e1,hp,q⟩:=hr _ _ _ z;cases e1;exact ⟨hp,q⟩
 .obtain ⟨e,dx,v,H1,rfl,fr,h1,h2,ne,I2,hp,q⟩:=z;have Qc:upd (upd H1 e (fQ C e (some dx))) dx (.xd [(fld,v)]) e=some (fQ C e (some dx)):=by unfold upd;rw [Lw ne,Lz rfl]
  obtain ⟨⟨t,et⟩,_⟩:=(show aI X.prog X.w _ s2.heap e (fQ C e (some dx)) from I2.IT e _ Qc);exact ⟨e,_,_,rfl,I2.bk _ _ hC,et,rfl,rfl,rfl,hL ti Y H1 s2 e dx v I2 h1 h2 ne fr (q.1 hp dx h2)⟩
def DQ (UE sp:Sp) (C:Qz) (fld:Str):Prop:=∀ vs H (Q:VK) E',UE vs H Q E'->∀ (Q1:VK) (E1:XK),(∀ v H',Q v H'->QP E1 C fld Q1 v H')->sp vs H Q1 E1
theorem mI
    (F:fI X.prog X.w X.K X.mg X.base (PJ X.prog X.w) k f fd ps sp) (hr:bN k X.A) (Ss:Gl X g) (Ri:X.mg g=some (.ref f)) (hk:PySem.W.keepIn X.K (.ref f)=true) (hb:Binds X.K fd ps [])
    (ha:JA X (a :: as) ta) (s1:PySem.W.isStarred a=false) (s2:as.all (fun e=>!PySem.W.isStarred e)=true) (UG:Qv g) (Pu:DQ UE sp C fld)
 (I:Inv X ti Y H s) (h:ta Y H fun vs H1=>UE (vs++[]) H1 QN NE) (Y0:∀ e s',X.xe e s'->EV e s')
    (hv:∀ v H4 u s4,aO v=false->Inv X ti Y H4 s4->RelV v u->QN v H4->QV u s4)
    (he:∀ v dx H1 H' s1 s2 b ea t,aO v=true->Inv X ti Y H1 s1->s2.os=s1.os->AllBare s2.gens->Un (Oj X.stack) [] H1 (upd H' dx (.xd [(fld,v)])) s1.heap s2.heap->(∀ c o,s1.heap.get? c=some o->c ∉ Oj X.stack->∃ o',b.get? c=some o')->O6 X.prog X.w (upd H' dx (.xd [(fld,v)])) b ->
      Rn b X.stack ea (.ref C) (.ref t) (some dx) .none s2.heap->H' dx=none->QN v H'->EV (.ref ea) s2):wMY X (eval (.Call (.Name g p3) (a :: as) [] p4) X.env) QV EV s:=by
  refine MQ (cO I Ss Ri ?_ UG);refine NT (h₀:=X.base) I.ok.mod.RW hk (L6 (ha.h p4 ti _ Y H _ I h) (fun us s3 z=>?_) Y0) (aw s1) (bb s2);obtain ⟨vs,H3,I3,r3,q3⟩:=z;refine ⟨I3.OL,?_⟩;rw [L7] at q3;have q4:=Pu _ _ _ _ q3 (fun v H'=>aO v=false/\QN v H') (fun c o H'=>∃ v dx H0,c=.ref C/\o=some dx/\aO v=true/\H0 dx=none/\H'=upd H0 dx (.xd [(fld,v)])/\QN v H0) fun v H' z =>
    ⟨fun p dx hd=>⟨v,dx,H',rfl,rfl,p,hd,rfl,z⟩,fun p=>⟨p,z⟩⟩
  have hlen:us.length=ps.length:=by rw [<- r3.length];exact F.len _ _ _ _ q4
  have SU:BindsTo s3 fd ⟨us,[]⟩ (ps.zip us):=by have z:=hb s3 us I3.OL (by rw [L7];exact hlen);rw [L7] at z;exact z
  refine N8 (NQ (F.run X.A X.stack s3 H3 ⟨us,[]⟩ us vs _ _ hr I3.FJ SU r3 q4) fun r s' hq=>?_);cases r with
  | error e =>
    obtain ⟨ea,C',t,dx,H',b,rfl,ho,UH,u,kk,IT,fl,v,dx',H0,ec,ed,hp,hn,rfl,q⟩:=hq;cases ec;cases ed;exact he v dx' H3 H0 s3 s' b ea t hp I3 ho UH u kk IT fl hn q
  | ok fl =>
    cases fl with
    | next=>exact False.elim hq
    | brk=>exact False.elim hq
    | cont=>exact False.elim hq
    | ret u =>
      obtain ⟨v,H4,I4,r4,e4,q4⟩:=I3.after hq;exact hv v H4 u s' e4 I4 r4 q4
end
section
variable {P:Program} {w:World} {K:Fg} {mg:Qg} {base:Heap}
abbrev DP (E:XK) (C:Qz) (fld:Str) (Q:VK):Ends:={ nx:=fun _ H'=>QP E C fld Q .non H',rt:=QP E C fld Q }
theorem Qo.Xo {x qual:Str} {st:Stmt} {f C:Qz} {fld:Str} {fd:FuncData} {N ps:List Str} {k:Nat} {sp:Sp} (F:Qo K x qual st f fd) (S:a6 N ps (aa st)) (len:∀ vs H Q E,sp vs H Q E->vs.length=ps.length)
  (OY:∀ (OA:Qj) (A:Around) (outer:List Env) (s:Qx) (H:Hp) (vs:List V) (Q:VK) (E:XK),bN k (A.deeper (envOfC qual (aa st) s.heap.objs.size f OA))->sp vs H Q E ->
   ∃ t,Pw (i6 (PJ P w) P w K mg base N qual (aa st) f OA A outer s H E) (aS st) (JZ E C fld t)/\(∀ D n,t { D with nx:=n }=t D)/\t (DP E C fld Q) (start N vs) H):fI P w K mg base (PJ P w) (k+1) f fd ps sp:=by obtain ⟨oc,od,kV,doc,pm,an,OA,ct,R6,rfl,lk,Pt⟩:=F.ex;refine z8 lk Pt S len fun A outer s H vs Q E hr Pu=>?_;obtain ⟨t,h,hn,q⟩:=OY OA A outer s H vs Q E hr Pu;refine ⟨JZ E C fld t,h.h,?_⟩;show t { nx:=fun _ H'=>Q .non H',rt:=QP E C fld Q } _ _;have z:=hn (DP E C fld Q) (fun _ H'=>Q .non H');rw [<- z] at q;exact q
def Wl (f:Fn) (C:Qz) (fld:Str) (K:Fg):Sp:=fun vs H Q E=>gT f K vs H (QP E C fld Q) W2
theorem yK:DQ (gT f K) (Wl f C fld K) C fld:=fun vs H Q E' h Q1 E1 k=>kR h k
end
section
variable {X:Cx} {ti:Qw} {Y:St} {H1 H':Hp} {s1 s2:Qx} {ea C D t dx:Qz} {iC iD:Option Qj} {n dn:Str} {b:Heap} {E:Qy} {Q:Flow->Qx->Prop} {b0:Stmt} {jd:List Stmt} {np hp:Pos} {rest:List ExceptHandler} {env:Env}
theorem qi (he:X.env=env) (I:Inv X ti Y H1 s1) (ho:s2.os=s1.os) (hb:AllBare s2.gens) (u:Un (Oj X.stack) [] H1 H' s1.heap s2.heap)
  (k:∀ c o,s1.heap.get? c=some o->c ∉ Oj X.stack->∃ o',b.get? c=some o') (IT:O6 X.prog X.w H' b) (fl:Rn b X.stack ea (.ref C) (.ref t) (some dx) .none s2.heap)
  (OW:X.stack=X.env :: X.outer) (hf:X.env.frame=some X.env.locals) (xC:gu X.K C iC) (xD:gu X.K D iD) (hm:PySem.W.mroIn X.K C (.ref D)=some true) (hg:Gl X dn) (hmg:X.mg dn=some (.ref D)) (hl:X.env.kindOf n=some .local) (hn:n ∉ X.N) (nd:X.N.Nodup)
  (QR:Qv dn)
  (go:∀ oe vs s3,oe.cls=.ref C->oe.dict=some dx->oe.data=.fields vs->Inv (Xs X ea oe n) ti (Y++[some (.ref ea)]) H' s3->wMX X.prog X.w (X.A.mark (some (.ref ea))) (execs (b0 :: jd) env) (fun f s4=>f=.next/\∃ H4 G Sw,Inv (Xs X ea oe n) Sw G H4 s4/\∀ s5,Inv X Sw (G.take X.N.length) H4 s5->Q .next s5) (fun _ _=>False) s3) :
  wMY X (noteFrame (.ref ea) env) (fun _ s3=>wMY X (setFlight (.ref ea) none) (fun _ s4 =>
   wMY X (handleBy (.ref ea) env (.ExceptHandler (some (.Name dn np)) (some n) (b0 :: jd) hp :: rest)) Q E s4) E s3) E s2:=by
 subst he;have RJ:X.A.frames=some (X.env :: X.outer):=by rw [<- OW];exact I.ok.frames
 have Y3:Rn b (X.env :: X.outer) ea (.ref C) (.ref t) (some dx) .none s2.heap:=by rw [<- OW];exact fl
 refine m4 RJ hf Y3 fun h3 Su UI=>?_;refine fS (s:={ s2 with heap:=h3 }) Su fun h4 RL UJ=>?_;have I4:=hZ I ho hb u k IT fl.Ts RL.1 (UI.trans UJ);refine wpAny_handleBy_cons (codeAny_handlers_test ?_) (by intro q;cases q);have g4:∀ {Q':Qy} {E':Qy},Q' (.ref D) { s2 with heap:=h4 }->wMX X.prog X.w (X.A.mark (some (.ref ea))) (eval (.Name dn np) X.env) Q' E' { s2 with heap:=h4 }:=fun {Q' E'} z =>
  NW I4.ok.kind hg (Calls.loadGlobal_global (by rw [I4.ok.glob];exact I4.mod.glob.keeps I4.bk) hmg z) QR
 refine g4 ?_;obtain ⟨ob,Y4,UK⟩:=RL.Ts.there;have KX:X.K.In h4:=I4.OL;obtain ⟨bm,N,nm,q,bs,hdct,sn,sub,ab,col,dd,k0,k1,k2,k3,k5,mN,hC,hN,Xq,T,cd,Y5,Y6⟩:=xC.own KX;obtain ⟨Xl,N',YT,q',W8,T6,sn',Wf,ab',Wg,VN,k0',k1',k2',k3',k5',mN',hD,hN',Y7,T',_⟩:=xD.own KX;have Wm:(Value.ref C :: bm).contains (.ref D)=true:=by unfold PySem.W.mroIn at hm;rw [Y5] at hm;have hm:(if cd.mro.isEmpty then none else some (cd.mro.contains (.ref D)))=some true:=hm;rw [Y6] at hm;exact Mp hm
 refine zx hC hD Y4 UK (T'.hasType rfl) Wm (codeAny_handlers_suite_as ?_);refine fS (s:={ s2 with heap:=h4 }) RL fun h6 Tt Y8=>?_;have I6:=hZ I ho hb u k IT fl.Ts Tt.1 ((UI.trans UJ).trans Y8);obtain ⟨oe,ws,_,_,_,Wn,⟨⟨Y9,_⟩,Za,_⟩,Q3,_⟩:=Tt.2.2.2;have hH:H' ea=none:=by
  cases z:H' ea with
  | none=>rfl
  | some o =>
   obtain ⟨ob,z⟩:=(IT ea o z).got;rw [Tt.2.1] at z;cases z
 have RK:ea ∉ Oj X.stack:=fun z=>by
  have UL:Heap.FlyingW b X.stack ea (.ref C) (.ref t) h6:=by rw [OW];exact Tt.Ts
  obtain ⟨_,o2,e2,d2⟩:=UL.2.2.1.mem z;rw [Wn] at e2;cases e2;exact d2 _ Q3
 have Zb:ea≠X.env.locals:=fun z=>RK (by rw [OW];unfold Oj;rw [MK,hf,z];exact Lq)
 have Zc:ea ∉ X.fs:=fun z=>RK (by rw [OW];unfold Oj;rw [MK,hf];exact Ly _ z)
 have IS:Inv (Xs X ea oe n) ti (Y++[none]) H' { s2 with heap:=h6 }:=I6.jd Wn hH Zb Zc fun v z=>by rw [Q3] at z;cases z
 have Xr:(X.N++[n])[X.N.length]?=some n:=by simp
 have len:Y.length=X.N.length:=I.len;have Zd:(Y++[none]).set X.N.length (some (V.ref ea))=Y++[some (.ref ea)]:=by rw [<- len,List.set_append_right _ _ (LA _)];simp
 have Xt:(X.N++[n]).Nodup:=by
  rw [Mf]
  exact ⟨nd,by simp,fun a ha c hc z=>hn (by
   have hc:c=n:=by simpa using hc
   rw [<- hc,<-z]
   exact ha)⟩
 refine fi (X:=Xs X ea oe n) IS Xt Xr (.inl hl) (v:=V.ref ea) rfl (fun s7 I7=>?_) (.inr hl);rw [Zd] at I7;refine L6 (go oe ws s7 Y9 Za Q3 I7) (fun f s8 z=>?_) fun _ _ z=>z.elim;obtain ⟨rfl,H4,G,Sw,I8,fin⟩:=z;exact qf I8 hl hn (fun s9 I9=>fin s9 I9) I6.ok
end
end L2
namespace L2
open PySem PySem.Spec PyProof.Rows PySem.W
theorem J4 (h:JE X e te):JI X tg e (Ki X.K te):=⟨fun ti s Y H R I q=>q.elim (tD h.h ti s Y H R I) (zp h.h ti s Y H R I)⟩
def Ef (K:Fg):V->Hp->VK->Prop:=fun x H Q=>∃ F d,Vw K F H d x/\∀ H',ax H H'->Q (.bl (SM d||TQ d)) H'
def Fb:Oo:=Oo.one Ef (fun d=>some (.dat (.bool (SM d||TQ d)))) fun K F H x u pr Q hf hx hd q=>by cases hf;exact ⟨F,x,hx,fun H' sm=>q _ H' sm rfl⟩
def Hf (K:Fg):List V->Hp->VK->Prop:=fun vs H Q=>∃ x tp F d,vs=[x,.ref tp]/\H tp=some (.tup [.ty "list", .ty "tuple"])/\Vw K F H d x/\Q (.bl (SM d||TQ d)) H
theorem xO {K:Fg} (d:Qq):PySem.W.kitAny K (.type (Ur d)) [.type "list", .type "tuple"]=some (SM d||TQ d):=by unfold PySem.W.kitAny PySem.W.kitAny PySem.W.kitAny;rw [C5 d,Dg d];cases SM d <;> cases TQ d <;> rfl
theorem Bn {X:Cx}:aH X (.builtin "isinstance") (Hf X.K):=by
 rintro ti s Y H xs us Q I r ⟨x,tp,F,d,rfl,ht,hv,q⟩;obtain ⟨u,w',rfl,r1,r2⟩:=vals2 r;cases (show w'=Value.ref tp from r2);obtain ⟨_,its,rv,⟨o,g1,g2,n,g3⟩⟩:=(show aI X.prog X.w H s.heap tp (.tup [.ty "list", .ty "tuple"]) from I.IT tp _ ht);obtain ⟨u1,u2,rfl,ra,rb⟩:=vals2 rv;cases (show u1=Value.type "list" from ra);cases (show u2=Value.type "tuple" from rb);have QK:s.heap.get? tp=some ⟨.type "tuple", o.dict,.seq [Value.type "list", Value.type "tuple"].toArray n,o.slots⟩:=by rw [g1];obtain ⟨c,dd,da,sl⟩:=o;have g2:c=.type "tuple" := g2;have g3:da=_:=g3;subst g2 g3;rfl
 have e:=xO (K:=X.K) d;have fin:∀ tk,EP X ti Y Q (.bool (SM d||TQ d)) { s with toks:=tk }:=fun tk=>⟨.bl _,H,I.tok _,rfl,q⟩;cases d with
 | none=>rw [Ab hv] at r1;cases (show u=Value.none from r1);exact Nb PySem.W.kitx_none I.OL True.intro QK e (fun z=>nomatch z) fin
 | bool y=>rw [U8 hv] at r1;cases (show u=Value.bool y from r1);exact Nb PySem.W.kitx_bool I.OL True.intro QK e (fun z=>nomatch z) fin
 | int i=>rw [vInt hv] at r1;obtain ⟨t,q⟩:=(show ∃ t,u=Value.int i t from r1);cases q;exact Nb PySem.W.kitx_int I.OL True.intro QK e (fun z=>nomatch z) fin
 | str y=>rw [(vStr hv).1] at r1;obtain ⟨t,q⟩:=(show ∃ t,u=Value.str y t from r1);cases q;exact Nb PySem.W.kitx_str I.OL True.intro QK e (fun z=>nomatch z) fin
 | list ds =>
  obtain ⟨a,xs,rfl,l,z,rs⟩:=mT hv;cases (show u=Value.ref a from r1);obtain ⟨its,rv,⟨o,k,h1,h2,h3,h4⟩,_⟩:=I.list l;exact Nb PySem.W.kitx_list I.OL ⟨o,h1,h2⟩ QK e (fun z=>nomatch z) fin
 | tuple ds =>
  obtain ⟨a,xs,rfl,l,z,rs⟩:=pP hv;cases (show u=Value.ref a from r1);obtain ⟨its,rv,⟨o,h1,h2,k,h4⟩,_⟩:=I.tuple l;exact Nb PySem.W.kitx_tuple I.OL ⟨o,h1,h2⟩ QK e (fun z=>nomatch z) fin
 | dict ds =>
  obtain ⟨a,rfl,ep,xs,ea,_⟩:=hv;cases (show u=Value.ref a from r1);obtain ⟨_,_,_,o,es,h1,h2,_⟩:=(show aI X.prog X.w H s.heap a (.dD ep xs) from I.IT a _ ea);exact Nb PySem.W.kitx_dict I.OL ⟨o,h1,h2.1⟩ QK e (fun z=>nomatch z) fin
theorem Gw {x1} (hg:Gl X "isinstance") (hm:X.mg "isinstance" = none) (ha:JE X e te) (hs:PySem.W.isStarred e=false)
  (hb:JE X (.Name (Str.ofString "list") p2) (tC (.ty "list"))) (UD:JE X (.Name (Str.ofString "tuple") p3) (tC (.ty "tuple"))) :
  JE X (.Call (.Name "isinstance" p) [e,.Tuple [.Name (Str.ofString "list") p2,.Name (Str.ofString "tuple") p3] x1 UM] [] pos) (PN (Fb.r X.K) (aL te dX)):=by
 let te':TE:=fun Y H P=>∃ P0:VK,te Y H P0/\∀ x H1,P0 x H1->P x H1
 have Wk:JE X e te':=⟨fun ti s Y H P I ⟨P0,h0,h1⟩=>L6 (ha.h ti s Y H P0 I h0) (fun v s' ⟨x,H',I',r,q⟩=>⟨x,H',I',r,h1 _ _ q⟩) fun _ _ z=>z⟩;have htu:JE X (.Tuple [.Name (Str.ofString "list") p2,.Name (Str.ofString "tuple") p3] x1 UM) (FX (aL (tC (.ty "list")) (aL (tC (.ty "tuple")) dX))):=oV (eA hb (eA UD ai rfl) rfl);have outer:=eB (p:=p) (pos:=pos) (Bn (X:=X)) hg hm (by decide +kernel) (eA Wk (eA htu ai rfl) hs) hs rfl (by decide) rfl;refine ⟨?_⟩;intro ti s Y H Q I hT;refine outer.h ti s Y H Q I ⟨_,hT,fun x H1 z=>?_⟩;obtain ⟨F,d,hv,q⟩:=(show Ef X.K x H1 Q from z);refine ⟨by decide,fun tp QK=>⟨x,tp,F,d,rfl,ak,?_,q _ (ax.nw _ QK)⟩⟩;have sm:ax H1 (upd H1 tp (.tup [.ty "list", .ty "tuple"])):=ax.nw _ QK;have pr:=Pr.of_same (F:=F) sm;cases d with
 | list ds=>obtain ⟨a,rfl,z2⟩:=hv;exact ⟨a,rfl,vG.pr z2 pr (fun _ z=>z) (sm a)⟩
 | dict ds=>obtain ⟨a,rfl,z2⟩:=hv;exact ⟨a,rfl,vG.pr z2 pr (fun _ z=>z) (sm a)⟩
 | none=>exact Dm.pr pr (fun _ z=>z) hv
 | bool b=>exact Dm.pr pr (fun _ z=>z) hv
 | int b=>exact Dm.pr pr (fun _ z=>z) hv
 | str b=>exact Dm.pr pr (fun _ z=>z) hv
 | tuple b=>exact Dm.pr pr (fun _ z=>z) hv
def Gh:Qq->Qq->Option PR
 | .tuple ds,.tuple es=>IH (.tuple ds) (.tuple es)
 | x,y=>CO (fun i j=>decide (i < j)) Φ x y
def C7:Oo:=Oo.two (fun K=>TN (TN (Q5 fun i j=>.bl (decide (i < j))) GU) (Hb K)) Gh fun K F H x y u v pr Q hf hx hy hd q=>by
 unfold Gh at hf;split at hf
 .rename_i ds es;exact .inr (JY.ok K F H [.tuple ds,.tuple es] [u,v] pr Q hf ⟨u,_,rfl,hx,v,_,rfl,hy,rfl⟩ hd q)
 .exact .inl (V1.ok K F H [x,y] [u,v] pr Q hf ⟨u,_,rfl,hx,v,_,rfl,hy,rfl⟩ hd q)
theorem nX (hu:X.A.units < cLine):Oy X (compareOp .Lt) (fun x y=>C7.r X.K [x,y]):=UU oH (Aw hu)
theorem qo (hd:(d==sysModules)=false) :
  MeetsIn P w (Builtin.«dict.__len__» ⟨[.ref d],[]⟩) (fun _ R s=>∃ (o:Obj) (es:Array DictEntry) (ep:Nat),s.heap.get? d=some o/\o.ExactDict/\o.data=.dict es ep/\R (.ok (.ret (.int es.size s.toks))) { s with toks:=s.toks+1 }) :=
 .of_wp fun A R s ⟨o,es,ep,ho,hc,UN,h⟩=>by show wpAny _ _ (dictSize d>>=_) _ _ s;unfold dictSize;refine Lm (Lm (NA ho UN (Lu ?_)));show wpAny _ _ (Builtin.Dict.pendingCount d>>=_) _ _ s;refine Lm (wpAny_pendingCount_other hd ?_);refine wpAny_ret_mkInt ?_;rw [Nat.add_zero];exact h
theorem qW (hd:(d==sysModules)=false) (ho:s.heap.get? d=some o) (hc:o.ExactDict) (UN:o.data=.dict es ep) (aae:(es.size:Int) < 2 ^ 63)
  (h:Q (.int es.size (s.toks+1)) { s with toks:=s.toks+1+1 }):wMX P w A (call (.builtin "len") [.ref d]) Q E s:=by
 refine Calls.call_function_entry kind_len plain_len entry_len (args_len1 _) ?_;have ty:s.TypeIs (.ref d) "dict" := ⟨o,ho,hc.1⟩;unfold Builtin.«len»
 refine Lm (m:=oneArg "len" _) (Lu ?_)
 refine Lm (m:=callSpecial? (.ref d) (Str.ofString "__len__")) (M4 (name:=Str.ofString "__len__") ty F.slot_dict_len
  (call_meetsIn F.slot_dict_len ty F.entry_dict_len (F.args_dict_len_1 _) (qo hd) ⟨o,es,ep,ho,hc,UN,?_⟩))
 show wpAny _ _ _ _ _ { s with toks:=s.toks+1 };refine Lm (MG (Lu ?_));refine Lm (wpAny_letGo ?_);show wpAny _ _ (if ((es.size:Nat):Int) < 0 then _ else _) _ _ _;rw [Lw (by lia)];show wpAny _ _ (if ((es.size:Nat):Int)>=2 ^ 63 then _ else _) _ _ _;rw [Lw (by lia)];exact Lm (wpAny_mkInt (Lu ⟨_,rfl,h⟩))
def Dz (K:Fg):V->Hp->VK->Prop:=fun x H Q=>∃ a ep xs,x=.ref a/\H a=some (.dD ep xs)/\Q (.int xs.length) H
def Bh:Oo:=Oo.one Dz (fun d=>match d with | .dict kvs=>some (.dat (.int kvs.length)) | _=>none) fun K F H x u pr Q hf hx hd q=>by
 split at hf
 .cases hf;obtain ⟨a,rfl,ep,xs,ea,z,dp⟩:=hx;exact ⟨a,ep,xs,rfl,ea,q _ H (ax.rf H) (by rw [dp.i5];rfl)⟩
 .cases hf
theorem oz:aH X (.builtin "len") (Bh.r X.K):=by
 intro ti s Y H xs us Q I rv q
 match xs,q with
 | [x],q =>
  obtain ⟨a,ep,ys,rfl,ea,q⟩:=(show Dz X.K x H Q from q);cases rv with
  | cons r0 r1 =>
  cases r1;have r0:_=Value.ref a:=r0;subst r0;obtain ⟨z,hd,nd,o,es,g1,g2,g3,g4⟩:=(show aI X.prog X.w H s.heap a (.dD ep ys) from I.IT _ _ ea);have Pn:es.size=ys.length:=by rw [NI g4];simp
  refine qW hd g1 g2 g3 (by rw [Pn];rw [MF] at z;lia) ?_;rw [Pn];exact ⟨.int _,H,I.tok _,⟨_,rfl⟩,q⟩
end L2
namespace L2
open PySem PySem.Spec PyProof.Rows
abbrev Xp (X:Cx) (ea:Qz) (oe:Obj):Cx:={ X with pn:=(ea,oe) :: X.pn }
section
variable {X:Cx} {ti:Qw} {Y:St} {H:Hp} {s:Qx} {ea C:Qz} {oe:Obj}
def rXt (K:Fg) (ea C:Qz):List V->Hp->VK->Prop:=fun vs H Q=>∃ (tp:Qz) (Bs:List Qz) (b:Bool),vs=[.ref ea,.ref tp]/\H tp=some (.tup (Bs.map V.ref))/\PySem.W.kitAny K (.ref C) (Bs.map Value.ref)=some b/\Q (.bl b) H
theorem lS:∀ {Bs:List Qz} {its:List Qj},Vals (Bs.map V.ref) its->its=Bs.map Value.ref
 | [],_,.nil=>rfl
 | B :: Bs,_,.cons r1 r2=>by rw [lS r2,show _=Value.ref B from r1];rfl
theorem lT {K:Fg} {v:Qj}:∀ {Bs:List Qz},(∀ B∈Bs,PySem.W.kitOne K v (.ref B)=some false)->PySem.W.kitAny K v (Bs.map Value.ref)=some false
 | [],_=>rfl
 | B :: Bs,h=>by rw [List.map_cons];unfold PySem.W.kitAny;rw [h B Lq];exact lT fun b hb=>h b (Ly _ hb)
end
section
variable {X:Cx} {ea C D dx:Qz} {oe:Obj} {vs:Array Qj} {iC:Option Qj} {fld:Str}
theorem Bm {i:Nat} {cx:Str} {p pos:Pos} (xC:gu X.K C iC) (xF:F6 X.K C D fld) (oc:oe.cls=.ref C) (od:oe.dict=some dx) (of:oe.data=.fields vs) (hi:X.N[i]?=some cx) (hv:Qi X.env.scope cx) (hd:Qv cx) (hc:Qk cx)
  (hb:attributeBase (.Name cx p) fld X.env (eval (.Name cx p) X.env)=eval (.Name cx p) X.env) :
  PE (Xp X ea oe) (.Attribute (.Name cx p) fld pos) (fun Y H Q=>Y[i]?=some (some (.ref ea))/\∃ v,aO v=true/\H dx=some (.xd [(fld,v)])/\Q v H):=by
 intro ti s Y H Q I h;obtain ⟨ei,v,hp,ed,q⟩:=h;refine Ag hb (Oq (dZ (X:=Xp X ea oe) hi hv hd hc ti s Y H (fun v' H'=>v'=.ref ea/\H'=H) I ⟨_,ei,rfl,rfl⟩) fun u s1 z=>?_);obtain ⟨_,H',I1,r,rfl,rfl⟩:=z;cases (show u=Value.ref ea from r);have Tu:=I1.pin (ea,oe) Lq;obtain ⟨mA,⟨oD,es,ep,g1,g2,g3,g4,g5⟩,Ze⟩:=(show aI X.prog X.w H' s1.heap dx (.xd [(fld,v)]) from I1.IT dx _ ed);have hr:=Ze fld;have hl:([(fld,v)]:List (Str×V)).lookup fld=some v:=by rw [M7,Mo]
 rw [hl,<-g5 fld] at hr;obtain ⟨u,eu,ru⟩:∃ u,nsFind es fld=some u/\RelV v u:=by
  cases z:nsFind es fld with
  | none=>rw [z] at hr;exact hr.elim
  | some u=>rw [z] at hr;exact ⟨u,rfl,hr⟩
 obtain ⟨bm,N,nm,q',bs,hdct,sn,sub,ab,col,dd,k0,k1,k2,k3,k5,mN,hC,_,_,T,_⟩:=xC.own I1.OL;have J:PySem.W.InstAt s1.heap ea oe C (some oD):=⟨Tu.1,oc,by unfold PySem.W.notCls;rw [of],by rw [od];exact g1⟩;have hf:PySem.W.findObj X.K C (some oD) fld=some (.value u):=by obtain ⟨cd,Pt,Wo⟩:=PySem.W.any_some xF.hd;unfold PySem.W.findObj;rw [Pt,xF.na];show (PySem.W.ownOf cd (some oD) fld).bind _=_;unfold PySem.W.ownOf;rw [Lz Wo];show (PySem.W.lookIn fld oD).bind _=_;unfold PySem.W.lookIn;rw [g2];unfold nsFind findBy at eu;rw [<- Array.find?_toList] at eu;obtain ⟨en,e1,e2⟩:=LZ.mp eu;dsimp only;rw [e1,<-e2];rfl
 have hh:PySem.W.handedIn u=true:=by
  cases v with
  | non=>cases ru;rfl
  | str x=>obtain ⟨t,rfl⟩:=(show ∃ t,u=Value.str x t from ru);rfl
  | int n=>obtain ⟨t,rfl⟩:=(show ∃ t,u=Value.int n t from ru);rfl
  | _=>cases hp
 obtain ⟨Wj,gn,dr,tk,os⟩:=s1;exact Kv I1.OL J xC.ga xC.gg hC (T.hasType rfl) hf hh ⟨v,H',I1.tok _,ru,q⟩
theorem rg (xC:gu X.K C iC) (oc:oe.cls=.ref C):aH (Xp X ea oe) (.builtin "isinstance") (rX X.K ea C):=by intro ti s Y H xs us Q I r h;obtain ⟨c,cv,b,rfl,hc,hk,hq⟩:=h;obtain ⟨u,w',rfl,r1,r2⟩:=vals2 r;cases (show u=Value.ref ea from r1);cases hc _ r2;exact Nc (DX xC) I.OL ⟨oe,(I.pin (ea,oe) Lq).1,oc⟩ hk (fun z=>nomatch z) fun tk=>⟨.bl b,H,I.tok tk,rfl,hq⟩
theorem Bw (xC:gu X.K C iC) (oc:oe.cls=.ref C):aH (Xp X ea oe) (.builtin "isinstance") (rXt X.K ea C):=by
 intro ti s Y H xs us Q I r h;obtain ⟨tp,Bs,b,rfl,ht,hk,hq⟩:=h;obtain ⟨u,w',rfl,r1,r2⟩:=vals2 r;cases (show u=Value.ref ea from r1);cases (show w'=Value.ref tp from r2);obtain ⟨_,its,rv,⟨o,g1,g2,n,g3⟩⟩:=(show aI X.prog X.w H s.heap tp (.tup (Bs.map V.ref)) from I.IT tp _ ht);have e:=lS rv;subst e;have QK:s.heap.get? tp=some ⟨.type "tuple", o.dict,.seq (Bs.map Value.ref).toArray n,o.slots⟩:=by rw [g1];obtain ⟨c,dd,da,sl⟩:=o;have g2:c=.type "tuple" := g2;have g3:da=_:=g3;subst g2 g3;rfl
 exact Nb (DX xC) I.OL ⟨oe,(I.pin (ea,oe) Lq).1,oc⟩ QK hk (fun z=>nomatch z) fun tk=>⟨.bl b,H,I.tok tk,rfl,hq⟩
end
theorem gu.lk {K:Fg} {C:Qz} {i:Option Qj} (x:gu K C i):∃ cd bm,PySem.W.clsIn K C=some cd/\cd.mro=.ref C :: bm/\PySem.W.typeIn K (.ref C)=some (.type "type"):=by obtain ⟨dd,cd,bm,k0,k1,k2,k3,k5,lk,em,_⟩:=x.ex;exact ⟨cd,bm,by unfold PySem.W.clsIn;rw [lk],em,by show Option.map (fun x=>x.cls) (K.lookup C)=_;rw [lk];rfl⟩
theorem yb {K:Fg} {C B:Qz} {i:Option Qj} {dd:Option Qz} {cd:ClassData} {sl:Array (Option Qj)} (x:gu K C i) (y:K.lookup B=some ⟨.type "type", dd,.cls cd,sl⟩) (h:PySem.W.mroIn K C (.ref B)=some false):PySem.W.kitOne K (.ref C) (.ref B)=some false:=by
 obtain ⟨c1,b1,e1,m1,t1⟩:=x.lk;unfold PySem.W.kitOne;rw [Lw]
 .unfold PySem.W.kitCls;show (if ((PySem.W.clsIn K B).isSome&&PySem.W.typeIn K (.ref B)==some (.type "type"))=true then PySem.W.subIn K (.ref C) (.ref B) else none)=some false;have k1:PySem.W.clsIn K B=some cd:=by unfold PySem.W.clsIn;rw [y]
  have k2:PySem.W.typeIn K (.ref B)=some (.type "type"):=by show Option.map (fun x=>x.cls) (K.lookup B)=_;rw [y];rfl
  rw [k1,k2,Lz (by simp)];exact h
 .intro q;have q:C=B:=Value.ref.inj (Ma.mp q);subst q;unfold PySem.W.mroIn at h;rw [e1] at h;have h:(if c1.mro.isEmpty then none else some (c1.mro.contains (.ref C)))=some false:=h;rw [m1] at h;simp at h
def xt (s:Stmt):Stmt:=match s with
 | .ClassDef _ _ _ b _ _ _ _ _ _ _=>b.getD 0 (.Pass ⟨0,0,0,0⟩)
 | _=>.Pass ⟨0,0,0,0⟩
def MoE (te:TE):Prop:=∀ Y H (Q Q':VK),te Y H Q->(∀ v H',Q v H'->Q' v H')->te Y H Q'
def Xu (ta:TA):Prop:=∀ Y H (Q Q':List V->Hp->Prop),ta Y H Q->(∀ vs H',Q vs H'->Q' vs H')->ta Y H Q'
theorem yq:MoE (fJ i):=fun _ _ _ _ ⟨v,e,q⟩ k=>⟨v,e,k _ _ q⟩
theorem Fo:Xu dX:=fun _ _ _ _ q k=>k _ _ q
theorem tK (h1:MoE te) (h2:Xu ta):Xu (aL te ta):=fun _ _ _ _ q k=>h1 _ _ _ _ q fun _ _ q=>h2 _ _ _ _ q fun _ _ q=>k _ _ q
noncomputable def vW:Qq->Bool
 | .none=>true
 | .str x=>decide (Str.length x<=1000)
 | .int i=>decide (i.natAbs.log2 < 1920/\(Str.ofString (toString i)).length<=1000)
 | _=>false
theorem gb {K:Fg} {F:Zq} {H:Hp} {d:Qq} {v:V} (h:Vw K F H d v):aO v=vW d:=by
 cases d with
 | none=>rw [Ab h];rfl
 | int i=>rw [vInt h];rfl
 | str i=>rw [(vStr h).1];rfl
 | bool i=>rw [U8 h];rfl
 | tuple i=>obtain ⟨a,xs,rfl,_⟩:=pP h;rfl
 | list i=>obtain ⟨a,xs,rfl,_⟩:=mT h;rfl
 | dict i=>obtain ⟨a,rfl,_⟩:=h;rfl
theorem yJ {K:Fg} {F:Zq} {H:Hp} {d:Qq} {v:V} (p:vW d=true) (h:Vw K F H d v):∀ F' H',Dm K F' H' d v:=by
 intro F' H';cases d with
 | none=>exact h
 | int i=>exact h
 | str i=>exact h
 | _=>cases p
def GX:Oo:=Oo.one (fun _ v H Q=>aO v=true/\Q v H) (fun d=>if vW d=true then some (.dat d) else none) fun K F H x u pr Q hf hx hd q=>by
 split at hf
 .rename_i hp;cases hf;exact ⟨(gb hx).trans hp,q _ H (ax.rf H) (yJ hp hx F H)⟩
 .cases hf
theorem zc {K:Fg}:∀ vs H (Q:VK),GX.r K vs H Q->∃ v,vs=[v]/\aO v=true/\Q v H:=fun vs H Q h=>by
 match vs,h with
 | [v],h=>exact ⟨v,rfl,h.1,h.2⟩
def nlP:Oo:=Oo.one (fun _ v H Q=>aO v=false/\Q .non H) (fun d=>if vW d=true then none else some (.dat .none)) fun K F H x u pr Q hf hx hd q=>by
 split at hf
 .cases hf
 .rename_i hp;cases hf;exact ⟨(gb hx).trans (by simpa using hp),q _ H (ax.rf H) rfl⟩
abbrev Cx.Zf (X:Cx):Cx:={ X with calm:=false }
section
variable {P:Program} {w:World} {K:Fg} {mg:Qg} {base:Heap} {N ps:List Str} {qual:Str} {scope:Scope} {f:Qz} {cd:Qj} {A:Around} {outer:List Env} {s s1:Qx} {H:Hp} {E:XK}
theorem qX (S:a6 N ps scope) (e0:wb P w K mg base A outer s H) (hl:vs.length=ps.length) (r:Vals vs us)
  (x:InCallC s s.heap.objs.size (bindL (envOfC qual scope s.heap.objs.size f cd).kindOf (ps.zip us) fun _=>none) (cellsFrom (s.heap.objs.size+1) scope.names []) (PySem.bindC (envOfC qual scope s.heap.objs.size f cd).kindOf (ps.zip us) fun _=>none) s1) :
  Inv (i6 CX P w K mg base N qual scope f cd A outer s H E).Zf [] (start N vs) H s1:=by have I:=lh (CX:=CX) (E:=E) (A:={ A with handled:=none }) S rfl ⟨e0.frames,e0.mod,e0.bs,e0.QO,e0.jT,e0.Ql,e0.IT,e0.bare⟩ hl r x;have o:=I.ok;exact ⟨⟨o.mod,o.kind,o.glob,o.blt,o.above,o.inj,o.has,o.Sz,(fun z=>nomatch z),Around.frames_deeper e0.frames,o.S5,o.QM,o.bs,o.QO,o.vU,o.w6,o.jT,o.Ql⟩,I.os,I.bare,I.base,I.loc,I.cell,I.free,I.cH,I.pin,I.IT,I.len⟩
structure Cs (P:Program) (w:World) (K:Fg) (mg:Qg) (base:Heap) (f:Qz) (fd:FuncData) (ps:List Str) (sp:Sp):Prop where
 len:∀ vs H Q E,sp vs H Q E->vs.length=ps.length
 run:∀ (A:Around) (outer:List Env) (s:Qx) (H:Hp) (args:Args) (us:List Qj) (vs:List V) (Q:VK) (E:XK),A.depth < recursionLimit->wb P w K mg base A outer s H->BindsTo s fd args (ps.zip us)->Vals vs us->sp vs H Q E ->
  codeAny (model P w) A (.call (.ref f) args) (CR CX0 outer P w H s Q E) s
theorem Qo.okH {x qual:Str} {st:Stmt} {fd:FuncData} {sp:Sp} (F:Qo K x qual st f fd) (S:a6 N ps (aa st)) (len:∀ vs H Q E,sp vs H Q E->vs.length=ps.length)
  (OY:∀ (OA:Qj) (A:Around) (outer:List Env) (s:Qx) (H:Hp) (vs:List V) (Q:VK) (E:XK),sp vs H Q E ->
   ∃ t,QG (i6 CX0 P w K mg base N qual (aa st) f OA A outer s H E).Zf (aS st) t/\t { nx:=fun _ H'=>Q .non H',rt:=Q } (start N vs) H):Cs P w K mg base f fd ps sp:=by
 obtain ⟨oc,od,kV,doc,pm,an,OA,ct,R6,rfl,lk,Pt⟩:=F.ex;refine ⟨len,fun A outer s H args us vs Q E hr e0 hb r Pu=>?_⟩;have hl:=len _ _ _ _ Pu;have KX:K.In s.heap:=e0.mod.RW.keeps fun b o e=>(e0.bs b o e).1;have lim:s.heap.NoLimit:=e0.mod.nolimit.keeps fun b o e=>(e0.bs b o e).1;have R7:∀ y∈ps.zip us,(aa st).names.lookup y.1=some .local\/((aa st).names.lookup y.1=some .cell/\((cellsFrom (s.heap.objs.size+1) (aa st).names []).lookup y.1).isSome=true):=fun ⟨n,v⟩ hy=>by
  rcases S.par n (List.of_mem_zip hy).1 with q | q
  .exact .inl q
  .exact .inr ⟨q,PySem.W.cellsFrom_some _ _ _ (.inl q)⟩
 refine codeAny_call_function hr (KX _ _ lk) rfl S.co S.gen rfl (PySem.W.codeRec_of KX Pt) (hb _ _ _ _ ?_);refine wpAny_newFunctionEnv_cells S.kind R7 fun env he s1 x=>?_;subst he;refine ⟨lim.keeps x.toInCall.keep,codeAny_func ?_⟩;obtain ⟨t,ht,hq⟩:=OY OA A outer s H vs Q E Pu;have I:Inv (i6 CX0 P w K mg base N qual (aa st) f OA A outer s H E).Zf [] (start N vs) H s1:=qX S e0 hl r x;refine L6 (ht [] s1 (start N vs) H _ I hq) (fun fl s' hs=>?_) fun e s' hs=>hs;cases fl with
 | ret u =>
  obtain ⟨v,Z',H',J,rv,q⟩:=hs;exact ⟨v,H',J.os,J.bare,J.base,J.IT,rv,q⟩
 | next =>
  obtain ⟨Z',H',J,q⟩:=hs;exact ⟨.non,H',J.os,J.bare,J.base,J.IT,rfl,q⟩
 | brk =>
  obtain ⟨_,_,_,q⟩:=hs;exact False.elim q
 | cont =>
  obtain ⟨_,_,_,q⟩:=hs;exact False.elim q
end
structure Fj (P:Program) (w:World) (K:Fg) (mg:Qg) (base:Heap) (C f:Qz) (fld:Str) (fd:FuncData) (ps:List Str):Prop where
 cls:gu K C (some (.ref f))
 fn:∃ o,K.lookup f=some o/\o.cls=.type "function"
 kp:PySem.W.keepIn K (.ref C)=true
 ok:Cs P w K mg base f fd ps (o9 C fld)
 bd:Binds K fd ps []
theorem Fj.mk1 {P:Program} {w:World} {K:Fg} {mg:Qg} {base:Heap} {C f:Qz} {fld:Str} {fd:FuncData} {ps:List Str} (M:Fj P w K mg base C f fld fd ps):YZ P w K mg base C f fld fd ps :=
 ⟨M.cls,M.fn,M.kp,⟨M.ok.len,fun A outer s H args us vs Q E hr=>M.ok.run A outer s H args us vs Q E hr.depth⟩,M.bd⟩
section
variable {X:Cx} {ti:Qw} {Y:St} {H:Hp} {s:Qx}
theorem GZ {C f:Qz} {fld x:Str} {fd:FuncData} {ps:List Str} {a:Expr} {te:TE} {RN QN:VK} {p pos:Pos} (M:Fj X.prog X.w X.K X.mg X.base C f fld fd ps) (hr:X.A.depth+1 < recursionLimit) (hg:Gl X x) (hm:X.mg x=some (.ref C)) (hd:Qv x) (ha:PE X a te) (hs:PySem.W.isStarred a=false)
  (I:Inv X ti Y H s) (h:te Y H RN) (hR:∀ v H1,RN v H1->aO v=true/\QN v H1) :
  wMY X (eval (.Call (.Name x p) [a] [] pos) X.env) (fun u s2=>∃ e dx v H1,u=.ref e/\(X.ex=[]->X.ZZ.heap.get? e=none)/\H1 e=none/\H1 dx=none/\e≠dx/\Inv X ti Y (upd (upd H1 e (fQ C e (some dx))) dx (.xd [(fld,v)])) s2/\aO v=true/\QN v H1) X.xe s:=by
 refine MQ (cO I hg hm ?_ hd);have Wk:PA X [a] (aL te dX):=eM ha jy (aw hs);refine NT (h₀:=X.base) I.ok.mod.RW M.kp (Oq (Wk pos ti s Y H (fun vs H1=>match vs with | [v]=>RN v H1 | _=>False) I h) fun us s1 z=>?_) (aw hs) (bb rfl);obtain ⟨vs,H1,I1,r,z⟩:=z
 match vs,z with
 | [v],z =>
 obtain ⟨hp,q⟩:=hR v H1 z;obtain ⟨u,rfl,r1⟩:=vals1 r;refine ⟨I1.OL,?_⟩;obtain ⟨bm,N,nm,q',bs,hdct,sn,sub,ab,col,dd,k0,k1,k2,k3,k5,mN,hC,hN,hi,T,_⟩:=M.cls.own I1.OL;obtain ⟨o,ho,UR⟩:=M.fn;have ho:=I1.OL _ _ ho;obtain ⟨Wj,gn,dr,tk,os⟩:=s1;refine Ck T hC hN hi ho UR (fun h' e le hx=>?_) (by decide:1<=sizeLine);obtain ⟨t,et,_⟩:=hx.there;have fr:H1 e=none:=I1.IT.fresh le;have I2:Inv X ti Y (upd H1 e (fQ C e none)) ⟨h',gn,dr,tk,os⟩:=I1.laid (t':=tk) hx.keeps le (kY et);have hq:o9 C fld [.ref e,v] (upd H1 e (fQ C e none)) (fun v' H2=>v'=.non/\∃ dx,H1 dx=none/\e≠dx/\H2=upd (upd H1 e (fQ C e (some dx))) dx (.xd [(fld,v)])) (fun _ _ _=>False):=by
  refine ⟨e,v,rfl,hp,ak,fun dx PH=>⟨rfl,dx,?_,?_,?_⟩⟩
  .unfold upd at PH;split at PH
   .cases PH
   .exact PH
  .rintro rfl;rw [ak] at PH;cases PH
  .rw [uX]
 have r2:Vals [V.ref e,v] [Value.ref e,u]:=.cons rfl (.cons r1 .nil);have hl:([Value.ref e,u]++[]).length=ps.length:=by have z:=M.ok.len _ _ _ _ hq;exact z
 refine N8 (NQ (M.ok.run _ X.stack _ _ ⟨[Value.ref e,u],[]⟩ [Value.ref e,u] _ _ _ (by rw [jn];exact hr) (I2.FJ.make C [u] []) (by have z:=M.bd _ [Value.ref e,u] I2.OL hl;rwa [L7] at z) r2 hq) fun r s' Sv=>?_);cases r with
 | error e=>exact Sv.elim
 | ok fl =>
  cases fl with
  | ret u' =>
   obtain ⟨v',H',I3,rv,rfl,dx,d1,d2,rfl⟩:=I2.after Sv;cases rv;refine ⟨rfl,e,dx,v,H1,rfl,fun hex=>?_,fr,d1,d2,I3,hp,q⟩;cases z:X.ZZ.heap.get? e with
   | none=>rfl
   | some o =>
    obtain ⟨o',g⟩:=I1.base.there e o z (by rw [hex];simp);exact absurd (LM g) (Nat.not_lt.mpr le)
  | next=>exact False.elim Sv
  | brk=>exact False.elim Sv
  | cont=>exact False.elim Sv
end
theorem kN:entryFor table "proto.unchain" = some Builtin.«proto.unchain»:=entryFor_of_tree (by kernel_rfl)
section
variable {prog:Program} {w:World} {A:Around} {E:Qy} {C N:Qz} {nm q:Str} {bs bm:List Qj} {hdct:Bool} {sn:List Str} {sub:List Qj} {ab:Bool} {col:Option Bool} {dd:Option Qz} {k0 k1 k2 k3 k5:Option Qj}
theorem By (hb:bm.contains (.type "BaseException")=true) (hh:A.handled=some (.ref e1))
  (hx:wpAny (model prog w) A x (fun v s1=>wpAny (model prog w) A c (fun cv s2=>cv=.none/\∃ e dx t,v=.ref e/\e≠e1/\s2.heap.get? C=some (excClassObj nm q C N bs bm hdct sn sub ab col dd k0 k1 k2 k3 k5 "ValueError.__new__") /\
   s2.heap.get? e=some { cls:=.ref C,dict:=dx,data:=.fields #[.ref t,.none,.none,.none,.bool false,.none] }/\(∃ o1 Xv,s2.heap.get? e1=some o1/\o1.data=.fields Xv/\Xv[2]?=some .none) /\
   ∀ h',(∀ b o,b≠e->s2.heap.get? b=some o->h'.get? b=some o)->h'.get? e=some { cls:=.ref C,dict:=dx,data:=.fields #[.ref t,.none,.ref e1,.none,.bool true,.none] }->E (.ref e) { s2 with heap:=h' }) E s1) E s) :
  wpAny (model prog w) A (raiseStmt env (some x) (some c)) Q E s:=by
 have Tr:(Value.ref C :: bm).contains (.type "BaseException")=true:=by rw [Ny,hb,Od]
 unfold raiseStmt;refine Lm (L6 hx (fun v s1 z=>?_) fun _ _ z=>z);refine Lm (MG (L6 z (fun cv s2 z=>Lm (Lu ?_)) fun _ _ z=>z));obtain ⟨rfl,e,dx,t,rfl,ne,hC,he,⟨⟨c1,d1,dt1,sl1⟩,Xv,Xj,QB,hv1⟩,hE⟩:=z;obtain ⟨hp,g,d,tk,os⟩:=s2;simp only at QB;subst QB;have nC:C≠e:=fun z=>by subst z;have y:=congrArg Obj.data (Mp (hC.symm.trans he));cases y
 repeat (first | with_reducible refine Ml he ?_ | with_reducible refine Ml hC ?_ | (with_reducible refine M3 hC ?_;rw [Tr]) | wp_step)
 have ur:∀ {R:Qy} {h2:Heap},(∃ o2 Zg,h2.get? e1=some o2/\o2.data=.fields Zg/\Zg[2]?=some .none)->R .none ⟨h2,g,d,tk,os⟩->wpAny (model prog w) A (runValue (.builtin "proto.unchain" ⟨[.ref e,.ref e1,.ref e1,.bool false],[]⟩)) R E ⟨h2,g,d,tk,os⟩:=fun {R h2} ⟨o2,Zg,g1,g2,g3⟩ hr=>by
  refine PyProof.Rows.runValue_entry kN ?_;unfold Builtin.«proto.unchain»
  refine Lm (NK g1 g2 g3 ?_);rw [Lz (show (Value.none==Value.none)=true by decide)];exact Lu ⟨_,rfl,hr⟩
 unfold raiseNew;refine Lm (wpAny_handled ?_);rw [hh];have nb:(Value.ref e1 != Value.ref e)=true:=by simp [Ne.symm ne]
 dsimp only;rw [Lz nb];have O4:∀ (h2:Heap) (f:Obj->Obj) b o,b≠e->h2.get? b=some o->(h2.update e f).get? b=some o:=fun h2 f b o hb z=>(L4 _ _ (Ne.symm hb)).trans z;refine Lm (MG (ur ⟨_,Xv,O4 _ _ _ _ (Ne.symm ne) (O4 _ _ _ _ (Ne.symm ne) Xj),rfl,hv1⟩ (Lm ?_)));have g1:=Mm (Obj.mapFields fun x=>x.setIfInBounds 3 Value.none) he rfl;have g2:=Mm (Obj.mapFields fun x=>x.setIfInBounds 4 (Value.bool true)) g1 rfl;have g3:=Mm (Obj.mapFields fun x=>x.setIfInBounds 2 (Value.ref e1)) g2 rfl;refine (show wpAny _ _ (setField (.ref e) 2 (.ref e1)) _ _ _ from NS g2 rfl (by simp) (wpAny_throw (hE _ (fun b o hb z=>O4 _ _ _ _ hb (O4 _ _ _ _ hb (O4 _ _ _ _ hb z))) g3)))
end
abbrev Xh (X:Cx) (ea:Qz) (oe:Obj):Cx:={ X with A:=X.A.mark (some (.ref ea)),calm:=false,pn:=(ea,oe) :: X.pn }
section
variable {X:Cx} {ti:Qw} {Y:St} {H H1 H':Hp} {s s1 s2:Qx} {ea C D t:Qz} {oe:Obj} {iC iD:Option Qj} {n dn:Str} {b:Heap} {E:Qy} {Q:Flow->Qx->Prop} {b0:Stmt} {jd:List Stmt} {np hp:Pos} {rest:List ExceptHandler} {env:Env}
theorem Inv.hand (I:Inv X ti Y H s) (h1:s.heap.get? ea=some oe) (h2:H ea=none) (h3:ea≠X.env.locals) (h4:ea ∉ X.fs) (h5:∀ v,oe.data≠.cell v):Inv (Xh X ea oe) ti Y H s:=by
 have ok:=I.ok;refine ⟨⟨ok.mod,ok.kind,ok.glob,ok.blt,ok.above,ok.inj,ok.has,ok.Sz,(fun z=>nomatch z),ok.frames,ok.S5,ok.QM,ok.bs,ok.QO,ok.vU,ok.w6,ok.jT,ok.Ql⟩,I.os,I.bare,I.base,I.loc,I.cell,I.free,I.cH,fun p hp=>?_,I.IT,I.len⟩;have hp:p∈(ea,oe) :: (X.pn++ti):=hp;rcases LJ.mp hp with z | z
 .subst z;exact ⟨h1,h2,h3,h4,h5⟩
 .exact I.pin p z
theorem Inv.EH (ok:X.Ok) (I:Inv (Xh X ea oe) ti Y H s):Inv X ti Y H s :=
 ⟨ok,I.os,I.bare,I.base,I.loc,I.cell,I.free,I.cH,fun p hp=>I.pin p (Ly _ hp),I.IT,I.len⟩
theorem qE (he:X.env=env) (I:Inv X ti Y H1 s1) (ho:s2.os=s1.os) (hb:AllBare s2.gens) (u:Un (Oj X.stack) [] H1 H' s1.heap s2.heap)
  (k:∀ c o,s1.heap.get? c=some o->c ∉ Oj X.stack->∃ o',b.get? c=some o') (IT:O6 X.prog X.w H' b) (fl:Rn b X.stack ea (.ref C) (.ref t) none .none s2.heap)
  (OW:X.stack=X.env :: X.outer) (hf:X.env.frame=some X.env.locals) (xC:gu X.K C iC) (xD:gu X.K D iD) (hm:PySem.W.mroIn X.K C (.ref D)=some true) (hg:Gl X dn) (hmg:X.mg dn=some (.ref D))
  (QR:Qv dn) (hP:∀ hd,PassesOwnAt (model X.prog X.w) (X.A.mark hd) X.A X.env E)
  (go:∀ oe vs s3,oe.data=.fields vs->vs[2]?=some .none->Inv (Xh X ea oe) ti Y H' s3->wMX X.prog X.w (X.A.mark (some (.ref ea))) (execs (b0 :: jd) env) Q E s3) :
  wMY X (noteFrame (.ref ea) env) (fun _ s3=>wMY X (setFlight (.ref ea) none) (fun _ s4 =>
   wMY X (handleBy (.ref ea) env (.ExceptHandler (some (.Name dn np)) none (b0 :: jd) hp :: rest)) Q E s4) E s3) E s2:=by
 subst he;have RJ:X.A.frames=some (X.env :: X.outer):=by rw [<- OW];exact I.ok.frames
 have Y3:Rn b (X.env :: X.outer) ea (.ref C) (.ref t) none .none s2.heap:=by rw [<- OW];exact fl
 refine m4 RJ hf Y3 fun h3 Su UI=>?_;refine fS (s:={ s2 with heap:=h3 }) Su fun h4 RL UJ=>?_;have I4:=hZ I ho hb u k IT fl.Ts RL.1 (UI.trans UJ);refine wpAny_handleBy_cons (codeAny_handlers_test ?_) (by intro q;cases q);have g4:∀ {Q':Qy} {E':Qy},Q' (.ref D) { s2 with heap:=h4 }->wMX X.prog X.w (X.A.mark (some (.ref ea))) (eval (.Name dn np) X.env) Q' E' { s2 with heap:=h4 }:=fun {Q' E'} z =>
  NW I4.ok.kind hg (Calls.loadGlobal_global (by rw [I4.ok.glob];exact I4.mod.glob.keeps I4.bk) hmg z) QR
 refine g4 ?_;obtain ⟨ob,Y4,UK⟩:=RL.Ts.there;have KX:X.K.In h4:=I4.OL;obtain ⟨bm,N,nm,q,bs,hdct,sn,sub,ab,col,dd,k0,k1,k2,k3,k5,mN,hC,hN,Xq,T,cd,Y5,Y6⟩:=xC.own KX;obtain ⟨Xl,N',YT,q',W8,T6,sn',Wf,ab',Wg,VN,k0',k1',k2',k3',k5',mN',hD,hN',Y7,T',_⟩:=xD.own KX;have Wm:(Value.ref C :: bm).contains (.ref D)=true:=by unfold PySem.W.mroIn at hm;rw [Y5] at hm;have hm:(if cd.mro.isEmpty then none else some (cd.mro.contains (.ref D)))=some true:=hm;rw [Y6] at hm;exact Mp hm
 refine zx hC hD Y4 UK (T'.hasType rfl) Wm (codeAny_handlers_suite ?_);refine fS (s:={ s2 with heap:=h4 }) RL fun h6 Tt Y8=>?_;have I6:=hZ I ho hb u k IT fl.Ts Tt.1 ((UI.trans UJ).trans Y8);obtain ⟨oe,ws,_,_,_,Wn,⟨_,_,Q9⟩,Q3,_⟩:=Tt.2.2.2;have hH:H' ea=none:=by
  cases z:H' ea with
  | none=>rfl
  | some o =>
   obtain ⟨ob,z⟩:=(IT ea o z).got;rw [Tt.2.1] at z;cases z
 have RK:ea ∉ Oj X.stack:=fun z=>by
  have UL:Heap.FlyingW b X.stack ea (.ref C) (.ref t) h6:=by rw [OW];exact Tt.Ts
  obtain ⟨_,o2,e2,d2⟩:=UL.2.2.1.mem z;rw [Wn] at e2;cases e2;exact d2 _ Q3
 have Zb:ea≠X.env.locals:=fun z=>RK (by rw [OW];unfold Oj;rw [MK,hf,z];exact Lq)
 have Zc:ea ∉ X.fs:=fun z=>RK (by rw [OW];unfold Oj;rw [MK,hf];exact Ly _ z)
 exact wpAny_passesOwnAt (hP _) (go oe ws _ Q3 (Q9 rfl) (I6.hand Wn hH Zb Zc fun v z=>by rw [Q3] at z;cases z))
end
theorem wU {P:Program} {w:World} {K:Fg} {mg:Qg} {base:Heap} {N:List Str} {qual:Str} {scope:Scope} {f:Qz} {cd:Qj} {A:Around} {outer:List Env} {s:Qx} {H:Hp} {E:XK}
  {ti:Qw} {Y:St} {H1:Hp} {s1:Qx} {h':Heap} {e C:Qz} {us:List Qj}
  (I:Inv (i6 (PJ P w) P w K mg base N qual scope f cd A outer s H E) ti Y H1 s1) (ew:E (.ref C) none H1) (hx:Heap.MadeExcOf s1.heap h' e (.ref C) us) :
  (i6 (PJ P w) P w K mg base N qual scope f cd A outer s H E).xe (.ref e) { s1 with heap:=h' }:=by
 obtain ⟨t,et,tn,_⟩:=hx.there;generalize hL:Oj (envOfC qual scope s.heap.objs.size f cd :: outer)=L;have OW:(PySem.W.hideAll s1.heap L).StaysIn s1.heap:=fun b o q=>PySem.W.of_hideAll _ q;have ff:s1.heap.FunFrames (PySem.W.hideAll s1.heap L) (envOfC qual scope s.heap.objs.size f cd :: outer):=cE I.stack fun c hc=>PySem.W.hideAll_none _ (by rw [<- hL];exact hc);have RK:∀ c,c∈Oj (envOfC qual scope s.heap.objs.size f cd :: outer)->c=s.heap.objs.size\/c∈Oj outer:=fun c hc=>LJ.mp (I.jt c hc);have U:Un (Oj outer) [] H H1 s.heap s1.heap:=I.base;have RC:∀ c o,s.heap.get? c=some o->c ∉ Oj outer->∃ o',(PySem.W.hideAll s1.heap L).get? c=some o':=fun c o q hc=>by
  obtain ⟨o',q'⟩:=U.there c o q (by simp);refine ⟨o',NO _ q' fun z=>?_⟩;rw [<- hL] at z;rcases RK c z with z | z
  .exact absurd (LM q) (by rw [z];exact Mn _)
  .exact hc z
 have Ve:(PySem.W.hideAll s1.heap L).get? e=none:=by
  cases z:(PySem.W.hideAll s1.heap L).get? e with
  | none=>rfl
  | some o=>have y:=OW _ _ z;rw [hx.new] at y;cases y
 refine pW (base:=PySem.W.hideAll s1.heap L) (s:={ s1 with heap:=h' }) I.ok.frames (ff.of_keeps fun b o hb _=>⟨o,hx.keeps _ _ hb,rfl⟩) rfl et (fun b o q=>hx.keeps _ _ (OW _ _ q)) Ve rfl rfl rfl (fun _=>rfl) fun h2 fl sl=>?_;refine ⟨e,C,t,none,H1,_,rfl,I.os,I.bare,?_,RC,fun c o q=>?_,fl,ew⟩
 .exact uC U RC OW fl.1 ((Heap.UpToSlots.of_keeps hx.keeps).trans sl) I.jT I.ok.Ql
 .refine (I.IT c o q).jf (fun b u hb r=>NO _ r fun z=>?_) (fun _ r=>r) fun _ _ r=>r;rw [<- hL] at z;have fr:=I.iP b z;rcases hb with rfl | hb
  .rw [q] at fr;cases fr
  .rw [hb] at fr;cases fr
section
variable {P:Program} {w:World} {K:Fg} {mg:Qg} {base:Heap}
theorem pJ:Lets (i6 (PJ P w) P w K mg base N qual scope f cd A outer s H E) E C :=
 fun ti Y H1 s1 h' e us I ew hx=>wU I ew hx
theorem Qo.okD {x qual:Str} {st:Stmt} {f C:Qz} {fd:FuncData} {N ps:List Str} {k:Nat} {sp:Sp} (F:Qo K x qual st f fd) (S:a6 N ps (aa st)) (len:∀ vs H Q E,sp vs H Q E->vs.length=ps.length)
  (OY:∀ (OA:Qj) (A:Around) (outer:List Env) (s:Qx) (H:Hp) (vs:List V) (Q:VK) (E:XK),bN k (A.deeper (envOfC qual (aa st) s.heap.objs.size f OA))->sp vs H Q E ->
   ∃ t,JR (i6 (PJ P w) P w K mg base N qual (aa st) f OA A outer s H E) E C Q (aS st) t/\t (D1 E C Q) (start N vs) H):fI P w K mg base (PJ P w) (k+1) f fd ps sp:=by obtain ⟨oc,od,kV,doc,pm,an,OA,ct,R6,rfl,lk,Pt⟩:=F.ex;refine z8 lk Pt S len fun A outer s H vs Q E hr Pu=>?_;obtain ⟨t,h,q⟩:=OY OA A outer s H vs Q E hr Pu;refine ⟨fun D Y H=>D={ nx:=fun _ H'=>Q .non H',rt:=Q }/\t (D1 E C Q) Y H,fun ti s1 Y H1 D I z=>?_,rfl,q⟩;obtain ⟨rfl,z⟩:=z;exact h.h ti s1 Y H1 I z
end
section
variable {X:Cx}
theorem su {ti:Qw} {Y:St} {H:Hp} {s:Qx} {x:Str} {C:Qz} {e0:Expr} {rest:List Expr} {t:TA} {np OM pos:Pos} {EW:Hp->Prop} {Q:Flow->Qx->Prop} (xc:gu X.K C none) (hg:Gl X x) (hm:X.mg x=some (.ref C)) (hh:X.A.handled=none) (ha:PA X (e0 :: rest) t) (I:Inv X ti Y H s) (ht:t Y H fun vs H1=>vs.length<=sizeLine/\EW H1)
  (hE:∀ s1 H1 us h' e,Inv X ti Y H1 s1->EW H1->Heap.MadeExcOf s1.heap h' e (.ref C) us->X.xe (.ref e) { s1 with heap:=h' })
  (he:starEach (e0 :: rest) X.env=(false,eval e0 X.env) :: starEach rest X.env) (hp:(backTo OM (starEach rest X.env)).any (·.1)=false) (hd:Qv x:=by decide) :
  wMY X (exec (.Raise (some (.Call (.Name x np) (e0 :: rest) [] OM)) none pos) X.env) Q X.xe s:=by
 obtain ⟨tl,N,nm,q,bs,hdct,sn,sub,ab,col,dd,k0,k1,k2,k3,k5,mN,hC,hN,Xq,T,_⟩:=xc.own I.ok.mod.RW;refine wpAny_Raise_call_subT (C:=C) (nm:=nm) (q:=q) (N:=N) (bs:=bs) (bm:=tl) (hdct:=hdct) (sn:=sn) (sub:=sub) (ab:=ab) (col:=col) (dd:=dd) (k0:=k0) (k1:=k1) (k2:=k2) (k3:=k3) (k5:=k5)
  PySem.F.excBase_ValueError (mN:=mN) (T.hasType PySem.F.excBase_ValueError.hasBase) hh (by rw [he];show (false||(backTo OM (starEach rest X.env)).any (·.1))=false;rw [hp];rfl) Xq (cO I hg hm ⟨rfl,?_⟩ hd)
 have h:=ha OM ti s Y H _ I ht;rw [he] at h ⊢;refine Calls.evalArgs_plain (L6 h (fun us s1 z=>?_) fun _ _ y=>y);obtain ⟨vs,H1,I1,r,z,ew⟩:=z;have kp:∀ b o,X.base.get? b=some o->s1.heap.get? b=some o:=I1.bk;exact ⟨rfl,by rw [<- r.length];exact z,kp _ _ hC,hN.keeps kp,T.keeps kp,fun h' e hx=>hE s1 H1 us h' e I1 ew hx⟩
theorem zz {E:XK} {C:Qz} {Q:VK} {c e0:Expr} {x:Str} {rest:List Stmt} {tc:TT} {t:TS} {v:V} {np OM pos UM:Pos} (hc:JT X c tc) (xc:gu X.K C none) (hg:Gl X x) (hm:X.mg x=some (.ref C)) (hh:X.A.handled=none) (ha:JE X e0 (tC v)) (hs:PySem.W.isStarred e0=false)
  (hL:Lets X E C) (h2:JR X E C Q rest t) (hd:Qv x):JR X E C Q (.If c [.Raise (some (.Call (.Name x np) [e0] [] OM)) none pos] [] UM :: rest) (zd (Ai tc (sG (tC .non)) vC) t):=by
 refine ⟨fun ti s Y H I h=>?_⟩;refine Me (wpAny_If (Oq (hc.h ti s Y H _ I h) fun d s1 ⟨H1,I1,q1⟩=>?_));cases d with
 | true =>
  have ew:E (.ref C) none H1:=(show Q1 E C Q .non H1 from q1).1 rfl;refine Me ?_;exact su (EW:=fun H=>E (.ref C) none H) xc hg hm hh (eM ha.h jy (aw hs)) I1 ⟨(by decide:1<=sizeLine),ew⟩ (fun s2 H2 us h' e I2 ew2 hx=>hL ti Y H2 s2 h' e us I2 ew2 hx) (aw hs) rfl hd
 | false=>exact MU (h2.h ti s1 Y H1 I1 q1)
end
def Zh:Oo:=Oo.two (fun _ u v H Q=>(u=.non->aO v=true/\Q v H)/\(u≠.non->aO u=false/\Q u H)) (fun x y=>match x with | .none=>if vW y=true then some (.dat y) else none | .tuple xs=>some (.dat (.tuple xs)) | _=>none) fun K F H x y u v pr Q hf hx hy hd q=>by
 cases x with
 | none =>
  have hf:(if vW y=true then some (PR.dat y) else none)=some pr:=hf;split at hf
  .rename_i h2;cases hf;exact ⟨fun _=>⟨(gb hy).trans h2,q _ H (ax.rf H) (yJ h2 hy F H)⟩,fun z=>absurd (Ab hx) z⟩
  .cases hf
 | tuple xs =>
  cases hf;exact ⟨fun z=>(by obtain ⟨a,ys,e,_⟩:=pP hx;rw [e] at z;cases z),fun _=>⟨gb hx,q _ H (ax.rf H) hx⟩⟩
 | _=>cases hf
section
variable {X:Cx} {E:XK} {C:Qz} {fld:Str}
theorem Ek {UE sp:Sp} {NE:XK} {k i j m:Nat} {f f1 C0:Qz} {i0:Option Qj} {fd fd1:FuncData} {ps ps1:List Str} {g fx y z dn cn:Str} {j1:Nat}
  {p1 p2 p3 p4 p5 np hp q1 q2 q3 q4 q5 r1 r2 pos:Pos}
  (F:fI X.prog X.w X.K X.mg X.base (PJ X.prog X.w) k f fd ps sp) (hr:bN k X.A) (Ss:Gl X g) (Ri:X.mg g=some (.ref f)) (hk:PySem.W.keepIn X.K (.ref f)=true) (hb:Binds X.K fd ps []) (UG:Qv g)
  (Pu:∀ vs H (Q:VK) E',UE vs H Q E'->∀ (Q1:VK) (E1:XK),(∀ v H',Q v H'->(v=.non->E1 (.ref C0) none H')/\(v≠.non->Q1 v H'))->sp vs H Q1 E1)
  (nd:X.N.Nodup) (hi:X.N[i]?=some y) (hv:Qi X.env.scope y) (hdy:Qv y) (hcy:Qk y)
  (hj:X.N[j]?=some z) (hvz:Qi X.env.scope z) (hdz:Qv z) (hcz:Qk z)
  (hm:X.N[m]?=some fx) (hx:Loc X.env.scope fx) (SG:X.fn fx=true\/X.env.scope.names.lookup fx=some .local) (Xw:Qi X.env.scope fx) (PH:Qv fx) (Vf:Qk fx)
  (Wi:swapsWith (.Call (.Name g p2) [.Name y p3] [] p4) (some (.Name fx p1)) p5.line X.env=pure false)
  (M:Fj X.prog X.w X.K X.mg X.base C f1 fld fd1 ps1) (hgC:Gl X cn) (hmC:X.mg cn=some (.ref C)) (WU:Qv cn) (hdp:X.A.depth+1 < recursionLimit)
  (xC:gu X.K C0 i0) (hmm:PySem.W.mroIn X.K C0 (.ref C0)=some true) (Zi:Gl X dn) (Zj:X.mg dn=some (.ref C0)) (Wo:Qv dn)
  (OW:X.stack=X.env :: X.outer) (RJ:X.env.frame=some X.env.locals) (hex:X.ex=[]) (hL:Cg X E C fld) (hP:∀ hd,PassesOwnAt (model X.prog X.w) (X.A.mark hd) X.A X.env X.xe) :
  Pw X [.Try [.Assign [.Name fx p1] (.Call (.Name g p2) [.Name y p3] [] p4) p5] [.ExceptHandler (some (.Name dn np)) none [.Raise (some (.Call (.Name cn q1) [.Name z q2] [] q3)) (some (.Constant .none j1 q4)) q5] hp] [] [] pos,.Return (some (.Name fx r1)) r2]
   (JZ E C fld (sG (PN (Zh.r X.K) (aL (oq UE [] NE (aL (fJ i) dX)) (aL (fJ j) dX))))):=by
 refine ⟨fun ti s Y H D I h=>?_⟩;have h:(fJ i) Y H fun x H3=>UE ([x]++[]) H3 (fun v H2=>(fJ j) Y H2 fun l H3=>Zh.r X.K [v,l] H3 (QP E C fld D.rt)) NE:=h;obtain ⟨y0,ei,h⟩:=h;rw [L7] at h;refine Me (wpAny_Try_except ?_);refine Me (wpAny_Assign_Name (MQ (cO I Ss Ri ?_ UG)) Wi);have ha:JA X.TH [.Name y p3] (aL (fJ i) dX):=eA (DA i hi hv hdy hcy) ai rfl;refine NT (h₀:=X.base) I.ok.mod.RW hk (L6 (ha.h p4 ti s Y H (fun vs H'=>vs=[y0]/\H'=H) (I.tH _) ⟨y0,ei,rfl,rfl⟩) (fun us s3 z=>?_) fun e s z=>z.elim) (aw rfl) (bb rfl);obtain ⟨vs,H3,I3,r3,rfl,rfl⟩:=z;have I3:=I3.fD;refine ⟨I3.OL,?_⟩;have q4:=Pu _ _ _ _ h (fun v H'=>v≠.non/\aO v=false/\D.rt v H') (fun c o H'=>c=.ref C0/\o=none/\∃ l,Y[j]?=some (some l)/\aO l=true/\∀ dx,H' dx=none->E (.ref C) (some dx) (upd H' dx (.xd [(fld,l)]))) fun v H' ⟨l,ej,z⟩=>by have z:(v=.non->aO l=true/\QP E C fld D.rt l H')/\(v≠.non->aO v=false/\QP E C fld D.rt v H'):=z;exact ⟨fun e=>⟨rfl,rfl,l,ej,(z.1 e).1,(z.1 e).2.1 (z.1 e).1⟩,fun ne=>⟨ne,(z.2 ne).1,(z.2 ne).2.2 (z.2 ne).1⟩⟩
 have hlen:us.length=ps.length:=by rw [<- r3.length];exact F.len _ _ _ _ q4
 have SU:BindsTo s3 fd ⟨us,[]⟩ (ps.zip us):=by have z:=hb s3 us I3.OL (by rw [L7];exact hlen);rw [L7] at z;exact z
 refine N8 (NQ (F.run X.A X.stack s3 _ ⟨us,[]⟩ us _ _ _ hr I3.FJ SU r3 q4) fun r s' hq=>?_);cases r with
 | ok fl =>
  cases fl with
  | next=>exact False.elim hq
  | brk=>exact False.elim hq
  | cont=>exact False.elim hq
  | ret u =>
   obtain ⟨v,H4,I4,r4,nv,pv,q⟩:=I3.after hq;refine fi I4 nd hm hx r4 (fun s5 I5=>MU (MU ?_)) SG;have em:(Y.set m (some v))[m]?=some (some v):=LR (by rw [I.len];exact (Ls.mp hm).1);refine Me (NB (Oq (dZ hm Xw PH Vf ti s5 _ _ (fun v' H'=>v'=v/\H'=H4) I5 ⟨v,em,rfl,rfl⟩) fun u s6 ⟨x,H6,I6,r6,e1,e2⟩=>?_));subst e1 e2;exact ⟨_,_,_,I6,r6,q⟩
 | error e =>
  obtain ⟨ea,C',t,dx,H',b,rfl,ho,UH,u,kk,IT,fl,ec,eo,l,ej,pl,post⟩:=hq;cases ec;subst eo;refine qE (D:=C0) rfl I3 ho UH u kk IT fl OW RJ xC xC hmm Zi Zj Wo hP fun oe vs s5 od v2 I5=>?_;refine Me ?_;rw [arm_exec_Raise];refine Lm (NH ?_);obtain ⟨bm,N,nm,q',bs,hdct,sn,sub,ab,col,dd,k0,k1,k2,k3,k5,mN,hC,hN,Xq,T,_⟩:=M.cls.own I.ok.mod.RW;refine By (C:=C) (N:=N) (nm:=nm) (q:=q') (bs:=bs) (bm:=bm) (hdct:=hdct) (sn:=sn) (sub:=sub) (ab:=ab) (col:=col) (dd:=dd) (k0:=k0) (k1:=k1) (k2:=k2) (k3:=k3) (k5:=k5) (e1:=ea) (T.hasType rfl) rfl
   (Lm (L6 (GZ (X:=Xh X ea oe) (a:=.Name z q2) (RN:=fun v' H2=>v'=l/\H2=H') (QN:=fun v' H2=>v'=l/\H2=H') M hdp hgC hmC WU (dZ hj hvz hdz hcz) rfl I5 ⟨l,ej,rfl,rfl⟩ fun v' H2 ⟨e1,e2⟩=>⟨e1▸pl,e1,e2⟩) (fun u s6 z=>Lm (NH (Lu ?_))) fun _ _ z=>z))
  obtain ⟨e,dx,v,H1,rfl,fr,h1,h2,ne,I6,pv,rfl,rfl⟩:=z;refine Lm (Constant_none (Lm (NH (Lu ⟨rfl,?_⟩))));have Qc:upd (upd H1 e (fQ C e (some dx))) dx (.xd [(fld,v)]) e=some (fQ C e (some dx)):=by unfold upd;rw [Lw ne,Lz rfl]
  obtain ⟨⟨t2,et⟩,_⟩:=(show aI X.prog X.w _ s6.heap e (fQ C e (some dx)) from I6.IT e _ Qc);have Tu:=I6.pin (ea,oe) Lq;have ne1:e≠ea:=fun z=>by have y:=Tu.2.1;rw [show ((ea,oe):Qz×Obj).1=e from z.symm,Qc] at y;cases y
  refine ⟨e,some dx,t2,rfl,ne1,I6.bk _ _ hC,et,⟨oe,vs,Tu.1,od,v2⟩,fun h' kp g1=>?_⟩;have I7:=I6.write (t':=s6.toks) (x:=e) (e:=e) (o:=.ext fun h=>h.get? e=some { cls:=.ref C,dict:=some dx,data:=.fields #[.ref t2,.none,.ref ea,.none,.bool true,.none] }) (by rw [Qc];trivial) (.inl rfl) kp ⟨_,g1⟩ ⟨g1,⟨_,g1⟩,fun h1 h2 q k=>k _ q⟩;have eu:(o1 o2 o3:HO)->upd (upd (upd H1 e o1) dx o2) e o3=upd (upd H1 e o3) dx o2:=fun o1 o2 o3=>by
   funext b;unfold upd;by_cases z1:b=e
   .subst z1;rw [Lz rfl,Lw ne,Lz rfl]
   .rw [Lw z1,Lw z1,Lw z1]
  rw [eu] at I7;exact hL _ ti Y H1 _ e dx v (fun h q=>⟨t2,_,q,rfl,rfl⟩) (I7.EH I.ok) h1 h2 ne (fr hex) (post dx h2)
end
def Xx (t1 t2:Str) (h1:t1.length<=sizeLine/\PyData.strOk t1=true) (h2:t2.length<=sizeLine/\PyData.strOk t2=true):Oo:=Oo.one (fun _ v H Q=>(aO v=true->∀ H' p,ax H H'->H' p=none->Q (.ref p) (upd H' p (.lst [.str t2,v])))/\(aO v=false->∀ H' p,ax H H'->H' p=none->Q (.ref p) (upd H' p (.lst [.str t1,v]))))
  (fun x=>match x with | .tuple xs=>some (.Oj (.list [.str t1,.tuple xs])) | .int i=>if vW (.int i)=true then some (.Oj (.list [.str t2,.int i])) else none | _=>none) fun K F H x u pr Q hf hx hd q=>by
 have fin:(w:Str)->w.length<=sizeLine/\PyData.strOk w=true->∀ (H':Hp) (a:Qz),ax H H'->H' a=none->Dm K F H x u->xZ K F H (upd H' a (.lst [.str w,u])) (.Oj (.list [.str w,x])) (.ref a)/\ax H (upd H' a (.lst [.str w,u])):=fun w hw H' a sm fr d=>by
  have fr0:H a=none:=by
   cases z:H a with
   | none=>rfl
   | some o=>rw [sm a o z] at fr;cases fr
  have S2:ax H (upd H' a (.lst [.str w,u])):=ax.trans sm (ax.nw _ fr);exact ⟨⟨a,rfl,fr0,_,ak,(by decide:2<=sizeLine),_,_,rfl,⟨rfl,hw⟩,_,_,rfl,(d.fresh fr0).pr (Pr.of_same S2) (fun _ z=>z),rfl⟩,S2⟩
 cases x with
 | tuple xs =>
  cases hf;exact ⟨fun z=>(by rw [gb hx] at z;cases z),fun _ H' a sm fr=>q _ _ (fin t1 h1 H' a sm fr hx).2 (fin t1 h1 H' a sm fr hx).1⟩
 | int i =>
  have hf:(if vW (.int i)=true then some (PR.Oj (.list [.str t2,.int i])) else none)=some pr:=hf;split at hf
  .rename_i h;cases hf;exact ⟨fun _ H' a sm fr=>q _ _ (fin t2 h2 H' a sm fr hx).2 (fin t2 h2 H' a sm fr hx).1,fun z=>(by rw [(gb hx).trans h] at z;cases z)⟩
  .cases hf
 | _=>cases hf
theorem rn {f:Fn} {K:Fg} {y:V} {H H1:Hp} {Q:VK} {E E':XK} (hm:f.ms=[.dat]) (sm:ax H H1) (h:gT f K [y] H Q E):gT f K [y] H1 Q E':=by
 obtain ⟨G,ds,is,pr,outs,h1,h2,h3,h4⟩:=h;rw [hm] at h2
 match ds,h2 with
 | [d],⟨a,b⟩ =>
  have b:is=[]:=b;subst b;have gn:∀ b,H1 b=none->H b=none:=fun b z=>by
   cases y:H b with
   | none=>rfl
   | some o=>rw [sm b o y] at z;cases z
  refine ⟨G,[d],[],pr,outs,h1,by rw [hm];exact ⟨a.pr (Pr.of_same sm) fun _ z=>z,rfl⟩,fun b g z=>h3 b g (gn b z),fun v' H' k r=>h4 v' H' (fun b o e n=>k b o (sm b o e) n) ?_⟩;cases pr with
  | dat d=>exact r
  | Oj d=>obtain ⟨a,e,z,r⟩:=r;exact ⟨a,e,gn a z,r⟩
section
variable {X:Cx}
theorem IY {fn:Fn} {NE:XK} {k i j:Nat} {f C Dc Db:Qz} {iC iD:Option Qj} {fld:Str} {Bs:List Qz} {fd:FuncData} {ps:List Str} {g fx th n dn An t1 t2:Str} {bes:List Expr} {j1 j2 j3 j4:Nat} {x1} {h1 h2}
  {p1 p2 p3 p4 p5 p6 p7 p8 p9 p10 Zk Uy Zl Zm np hp q1 q2 q3 q4 q5 q6 q7 q8 q9 q10 q11 q12 r1 r2 r3 r4 r5 r6 r7 r8 r9 Zn u1 u2 u3 pos:Pos}
  (F:fI X.prog X.w X.K X.mg X.base (PJ X.prog X.w) k f fd ps (Wl fn C fld X.K)) (hr:bN k X.A) (Ss:Gl X g) (Ri:X.mg g=some (.ref f)) (hk:PySem.W.keepIn X.K (.ref f)=true) (hb:Binds X.K fd ps []) (UG:Qv g) (Wa:fn.ms=[.dat])
  (nd:X.N.Nodup) (hi:X.N[i]?=some fx) (hx:Loc X.env.scope fx) (SG:X.fn fx=true\/X.env.scope.names.lookup fx=some .local) (Xw:Qi X.env.scope fx) (PH:Qv fx) (Vf:Qk fx)
  (hj:X.N[j]?=some th) (hv:Qi X.env.scope th) (VJ:Qv th) (Wm:Qk th) (RT:i≠j)
  (hw0:swapsWith (.List [] p2) (some (.Name fx p1)) p3.line X.env=pure false) (Wi:swapsWith (.List [.Constant (.str t1) j1 p5,.Call (.Name g p6) [.Name th p7] [] p8] p9) (some (.Name fx p4)) p10.line X.env=pure false)
  (YY:swapsWith (.List [.Constant (.str t2) j2 Uy,.UnaryOp .USub (.Constant (.int 1) j3 q1) q2] Zl) (some (.Name fx Zk)) Zm.line X.env=pure false) (hw3:swapsWith (.List [.Constant (.str t2) j4 r6,.Attribute (.Name n r7) fld r8] r9) (some (.Name fx r5)) Zn.line X.env=pure false)
  (hl:X.env.kindOf n=some .local) (Xm:Qv n) (hcn:Qk n) (hn:n ∉ X.N) (xC:gu X.K C iC) (xF:F6 X.K C Db fld) (xD:gu X.K Dc iD) (hm:PySem.W.mroIn X.K C (.ref Dc)=some true) (Zi:Gl X dn) (Zj:X.mg dn=some (.ref Dc)) (Wo:Qv dn)
  (OW:X.stack=X.env :: X.outer) (RJ:X.env.frame=some X.env.locals) (Y0:∀ e s,¬X.xe e s)
  (Zo:Gl X "isinstance") (Zp:X.mg "isinstance" = none) (hgA:Gl X An) (hmA:X.mg An=some (.ref C)) (hdA:Qv An) (hgV:Gl X "ValueError") (hmV:X.mg "ValueError" = none) (hV:PySem.W.mroIn X.K C (.type "ValueError")=some true)
  (hBs:∀ ea oe,PA (Xs X ea oe n) bes (fun Y H Q=>Q (Bs.map V.ref) H)) (hBl:Bs.length<=sizeLine) (hBk:∀ B∈Bs,PySem.W.kitOne X.K (.ref C) (.ref B)=some false)
  (YN:attributeBase (.Name n r7) fld X.env (eval (.Name n r7) X.env)=eval (.Name n r7) X.env) :
  Pw X [.Assign [.Name fx p1] (.List [] p2) p3,.Try [.Assign [.Name fx p4] (.List [.Constant (.str t1) j1 p5,.Call (.Name g p6) [.Name th p7] [] p8] p9) p10] [.ExceptHandler (some (.Name dn np)) (some n) [.Assign [.Name fx Zk] (.List [.Constant (.str t2) j2 Uy,.UnaryOp .USub (.Constant (.int 1) j3 q1) q2] Zl) Zm,
    .If (.BoolOp .And [.Call (.Name "isinstance" q3) [.Name n q4,.Name An q5] [] q6,.Call (.Name "isinstance" q7) [.Name n q8,.Name "ValueError" q9] [] q10,.UnaryOp .Not (.Call (.Name "isinstance" q11) [.Name n q12,.Tuple bes x1 r1] [] r2) r3] r4) [.Assign [.Name fx r5] (.List [.Constant (.str t2) j4 r6,.Attribute (.Name n r7) fld r8] r9) Zn] [] pos] hp] [] [] u1,.Return (some (.Name fx u2)) u3]
   (sG (PN ((Xx t1 t2 h1 h2).r X.K) (aL (oq (gT fn X.K) [] NE (aL (fJ j) dX)) dX))):=by
 have kA:PySem.W.kitOne X.K (.ref C) (.ref C)=some true:=by unfold PySem.W.kitOne;rw [Lz (by simp)]
 have kV:PySem.W.kitOne X.K (.ref C) (.type "ValueError")=some true:=by unfold PySem.W.kitOne;rw [Lw (by simp)];unfold PySem.W.kitCls;show (if PySem.W.kitMeta "ValueError" = true then PySem.W.subIn X.K (.ref C) (.type "ValueError") else none)=some true;rw [Lz (by decide +kernel)];exact hV
 refine ⟨fun ti s Y H D I h=>?_⟩;have il:i < Y.length:=by rw [I.len];exact (Ls.mp hi).1
 have iN:i < X.N.length:=(Ls.mp hi).1;have h:(fJ j) Y H fun x H3=>gT fn X.K ([x]++[]) H3 (fun v H'=>(Xx t1 t2 h1 h2).r X.K [v] H' D.rt) NE:=h;obtain ⟨y,ej,h⟩:=h;refine Me (Oq ((FA (i:=i) (gN ai) nd hi hx hw0 SG).h ti s Y H { nx:=fun Z' H'=>∃ p,Z'=Y.set i (some (.ref p))/\H p=none/\H'=upd H p (.lst []),rt:=fun _ _=>False } I ⟨by decide,fun p hp=>⟨p,rfl,hp,rfl⟩⟩) fun fl s1 q=>?_);cases fl with
 | ret v=>obtain ⟨_,_,_,_,_,q⟩:=q;exact q.elim
 | brk=>obtain ⟨_,_,_,q⟩:=q;exact q.elim
 | cont=>obtain ⟨_,_,_,q⟩:=q;exact q.elim
 | next =>
 obtain ⟨Z1,H1,I1,p,rfl,hp,rfl⟩:=q;have ej1:(Y.set i (some (V.ref p)))[j]?=some (some y):=by rw [Lv RT];exact ej
 have ha:JA X [.Name th p7] (aL (fJ j) dX):=eA (DA j hj hv VJ Wm) ai rfl;have hg:=rn (E':=NE) Wa (ax.nw (.lst []) hp) h;refine Me (wpAny_Try_except ?_);refine Me (wpAny_Assign_Name (wpAny_List_spliced ?_) Wi);have st1:starEach [Expr.Constant (.str t1) j1 p5,.Call (.Name g p6) [.Name th p7] [] p8] X.env=[(false,eval (.Constant (.str t1) j1 p5) X.env),(false,eval (.Call (.Name g p6) [.Name th p7] [] p8) X.env)]:=by rw [aw rfl,aw rfl];rfl
 rw [st1];refine Calls.spliced_cons (x:=eval (.Constant (.str t1) j1 p5) X.env) (Calls.Constant_str (k:=j1) (pos:=p5) ?_);refine Calls.spliced_cons (x:=eval (.Call (.Name g p6) [.Name th p7] [] p8) X.env) ?_;have len:(v:V)->(Y.set i (some v)).length=X.N.length:=fun v=>by rw [Md];exact I.len
 refine mI (NE:=NE) (C:=C) (fld:=fld) (QN:=fun v H'=>(Xx t1 t2 h1 h2).r X.K [v] H' D.rt) F hr Ss Ri hk hb ha rfl rfl UG yK (I1.tok _) ⟨y,ej1,hg⟩ (fun e s z=>(Y0 e s z).elim) (fun v H4 u s' pv I4 r4 q4=>?_) fun v dx H3 H' s3 s' b ea t pv I3 ho UH u kk IT fl Qt q=>?_
 .refine Calls.spliced_nil ⟨(by decide:2<=sizeLine),?_⟩;have hf:H4 s'.heap.objs.size=none:=I4.IT.fresh (LA _);have I5:Inv X ti (Y.set i (some (V.ref p))) (upd H4 s'.heap.objs.size (.lst [.str t1,v])) { s' with heap:=s'.heap.push { cls:=.type "list", data:=.seq ([.str t1 s1.toks,u]:List Qj).toArray } } :=
   I4.laid (t':=s'.toks) (fun b u e=>LB _ e) (LA _) ⟨(by decide:2<=sizeLine),_,0,.cons ⟨_,rfl⟩ (.cons r4 .nil),L0 _ rfl⟩
  refine fi I5 nd hi hx (v:=.ref s'.heap.objs.size) rfl (fun s6 I6=>MU (MU ?_)) SG;have em:((Y.set i (some (V.ref p))).set i (some (V.ref s'.heap.objs.size)))[i]?=some (some (V.ref s'.heap.objs.size)):=LR (by rw [Md];exact il);refine Me (NB (Oq (dZ hi Xw PH Vf ti s6 _ _ (fun v' H'=>v'=V.ref s'.heap.objs.size/\H'=upd H4 s'.heap.objs.size (.lst [.str t1,v])) I6 ⟨_,em,rfl,rfl⟩) fun u s7 ⟨x,H6,I7,r6,e1,e2⟩=>?_));subst e1 e2;exact ⟨_,_,_,I7,r6,(show _/\(aO v=false->_) from q4).2 pv _ _ (ax.refl _) hf⟩
 .refine qi (D:=Dc) rfl I3 ho UH u kk IT fl OW RJ xC xD hm Zi Zj hl hn nd Wo fun oe ws s5 oc od of I5=>?_;have Xt:(X.N++[n]).Nodup:=by
   rw [Mf]
   exact ⟨nd,by simp,fun a ha c hc z=>hn (by
    have hc:c=n:=by simpa using hc
    rw [<- hc,<-z];exact ha)⟩
  have hiN:(X.N++[n])[i]?=some fx:=by rw [LL iN];exact hi
  have Xr:(X.N++[n])[X.N.length]?=some n:=by simp
  have vn:∀ {p:Pos},JE (Xs X ea oe n) (.Name n p) (fJ X.N.length):=fun {p}=>DA X.N.length Xr (.inl hl) Xm hcn;have at':JE (Xs X ea oe n) (.Attribute (.Name n r7) fld r8) _:=⟨Bm (X:={ Xs X ea oe n with pn:=X.pn }) xC xF oc od of Xr (.inl hl) Xm hcn YN⟩;have w3:=aC (FA (X:=Xs X ea oe n) (i:=i) (pos:=Zm) (pos':=Zk) (gN (pos:=Zl) (eA (ay (x:=t2) (j:=j2) (pos:=Uy)) (eA (μ (pos:=q2) yI (au (i:=1) (j:=j3) (pos:=q1))) ai rfl) rfl)) Xt hiN hx YY SG)
   (aM (cN (pos:=pos) (eW (Fx (pos:=r4) (Ga (eB (rg (X:={ Xs X ea oe n with pn:=X.pn }) xC oc) (pos:=q6) (p:=q3) Zo Zp (by decide +kernel) (eA (vn (p:=q4)) (eA (jX (pos:=q5) (v:=.ref C) hgA hmA rfl hdA) ai rfl) rfl) rfl rfl (by decide) rfl) fun _=>rfl)
    (Fx (Ga (eB (rg (X:={ Xs X ea oe n with pn:=X.pn }) xC oc) (pos:=q10) (p:=q7) Zo Zp (by decide +kernel) (eA (vn (p:=q8)) (eA (F5 (pos:=q9) (v:=.ty "ValueError") hgV hmV PyProof.Rows.Boot.«ValueError» rfl (by decide) rfl) ai rfl) rfl) rfl rfl (by decide) rfl) fun _=>rfl)
     (FC (du (pos:=r3) (Ga (eB (Bw (X:={ Xs X ea oe n with pn:=X.pn }) xC oc) (pos:=r2) (p:=q11) Zo Zp (by decide +kernel) (eA (vn (p:=q12)) (eA (oV (x1:=x1) (pos:=r1) ⟨hBs ea oe⟩) ai rfl) rfl) rfl rfl (by decide) rfl) fun _=>rfl))))))
    (aM (FA (X:=Xs X ea oe n) (i:=i) (pos:=Zn) (pos':=r5) (gN (pos:=r9) (eA (ay (x:=t2) (j:=j4) (pos:=r6)) (eA at' ai rfl) rfl)) Xt hiN hx hw3 SG)) cL))
  have iL:i < (Y.set i (some (V.ref p))).length:=by rw [len];exact iN
  have eN:(v:V)->((Y.set i (some (V.ref p))++[some (V.ref ea)]).set i (some v))[X.N.length]?=some (some (V.ref ea)):=fun v=>by rw [Lv (L9 iN),Lr (by rw [len];exact LA _),len,M1];rfl
  have run:=w3.h ti s5 _ _ { nx:=fun G H4=>∃ p2 H7,ax (upd H' dx (.xd [(fld,v)])) H7/\H7 p2=none/\G=(Y.set i (some (V.ref p))++[some (V.ref ea)]).set i (some (V.ref p2))/\H4=upd H7 p2 (.lst [.str t2,v]),rt:=fun _ _=>False } I5 (by
   refine ⟨1,rfl,(by decide:2<=sizeLine),fun p1 Wj=>?_⟩;have S6:=ax.nw (.lst [V.str t2,V.int (-1)]) Wj;refine ⟨_,eN _,.ref C,.ref C,true,rfl,(fun u z=>z),kA,true,rfl,?_⟩;dsimp only;rw [Lz rfl];refine ⟨_,eN _,.ty "ValueError", .type "ValueError", true,rfl,(fun u z=>z),kV,true,rfl,?_⟩;dsimp only;rw [Lz rfl];refine ⟨_,eN _,by rw [Lo];exact hBl,fun tp QK=>⟨tp,Bs,false,rfl,ak,lT hBk,false,rfl,?_⟩⟩;dsimp only;rw [Lz (by decide)];have S7:=ax.tr S6 (ax.nw (.tup (Bs.map V.ref)) QK);refine ⟨eN _,v,pv,S7 _ _ ak,(by decide:2<=sizeLine),fun p2 Zr=>⟨p2,_,S7,Zr,?_,rfl⟩⟩
   rw [Ob])
  refine L6 run (fun fl s6 z=>?_) fun _ _ z=>z.elim;cases fl with
  | ret v=>obtain ⟨_,_,_,_,_,q⟩:=z;exact q.elim
  | brk=>obtain ⟨_,_,_,q⟩:=z;exact q.elim
  | cont=>obtain ⟨_,_,_,q⟩:=z;exact q.elim
  | next =>
   obtain ⟨G,H4,I6,p2,H7,S7,Zr,rfl,rfl⟩:=z;refine ⟨rfl,_,_,_,I6,fun s7 I7=>?_⟩;rw [List.set_append_left _ _ iL,List.take_append_of_le_length (by rw [Md,len];exact LA _),Mu (by rw [Md,len];exact LA _),Ob] at I7;have em:(Y.set i (some (V.ref p2)))[i]?=some (some (V.ref p2)):=LR il;refine Me (NB (Oq (dZ hi Xw PH Vf ti s7 _ _ (fun v' H'=>v'=V.ref p2/\H'=upd H7 p2 (.lst [.str t2,v])) I7 ⟨_,em,rfl,rfl⟩) fun u s8 ⟨x,H6,I8,r6,e1,e2⟩=>?_));subst e1 e2;exact ⟨_,_,_,I8,r6,(show (aO v=true->_)/\_ from q).1 pv _ _ (ax.tr (ax.nw _ Qt) S7) Zr⟩
end
theorem Kq {P:Program} {w:World} {K:Fg} {mg:Qg} {base:Heap} {N:List Str} {qual:Str} {scope:Scope} {f:Qz} {cd:Qj} {A:Around} {outer:List Env} {s:Qx} {H:Hp} {E:XK} :
  Passes (PJ P w) (i6 (PJ P w) P w K mg base N qual scope f cd A outer s H E) E:=by
 intro ti Y H1 s1 e s2 I Vf;obtain ⟨ea,C,t,dx,H',b,rfl,ho,hb,u,k,IT,fl,ew⟩:=Vf;have RK:∀ c,c∈Oj (envOfC qual scope s.heap.objs.size f cd :: outer)->c=s.heap.objs.size\/c∈Oj outer:=fun c hc=>LJ.mp (I.jt c hc);show wpAny _ _ (leaving _ _) _ _ _;unfold leaving;refine Lm (m4 I.ok.frames rfl fl fun h3 Su UI=>fS (s:={ s2 with heap:=h3 }) Su fun h4 RL UJ=>?_);have I2:=hZ I ho hb u k IT fl.Ts RL.1 (UI.trans UJ);have U:Un (Oj outer) [] H H' s.heap h4:=I2.base;have U1:Un (Oj outer) [] H H1 s.heap s1.heap:=I.base;refine ⟨ea,C,t,dx,H',b,rfl,ho.trans I.os,hb,U,fun c o q hc=>?_,IT,⟨RL.1,RL.2.1,RL.2.2.1.2.2,RL.2.2.2⟩,ew⟩;obtain ⟨o1,q1⟩:=U1.there c o q (by simp);refine k c o1 q1 fun z=>?_;rcases RK c z with z | z
 .exact absurd (LM q) (by rw [z];exact Mn _)
 .exact hc z
def Ia:Oo:=Oo.one (fun _ v H Q=>Q (.bl (aO v)) H) (fun d=>some (.dat (.bool (vW d)))) fun K F H x u pr Q hf hx hd q=>by cases hf;show Q (.bl (aO u)) H;rw [gb hx];exact q _ H (ax.rf H) rfl
section
variable {X:Cx} {E:XK} {C:Qz} {fld:Str}
theorem C4 (hu:X.A.units+64 < cLine)
  (F:fI X.prog X.w X.K X.mg X.base (PJ X.prog X.w) k f fd ps (Wl fn C fld X.K)) (hr:bN k X.A) (Ss:Gl X g) (Ri:X.mg g=some (.ref f)) (hk:PySem.W.keepIn X.K (.ref f)=true) (hb:Binds X.K fd ps [])
  (ha:JA X (a :: as) ta) (s1:PySem.W.isStarred a=false) (s2:as.all (fun e=>!PySem.W.isStarred e)=true) (UG:Qv g) (hp:Passes (PJ X.prog X.w) X E)
  (hd:JE X (.Name d p1) (fJ i)) (hj:X.N[j]?=some y) (hy:¬Qi X.env.scope y) (RT:i≠j) (hm:Xu ta)
  (hw:swapsWith (.Constant (.bool true) jb p5) (some (.Subscript (.Name d p1) (.Call (.Name g p2) (a :: as) [] p3) p4)) pos.line X.env=pure false) :
  JS X (.Assign [.Subscript (.Name d p1) (.Call (.Name g p2) (a :: as) [] p3) p4] (.Constant (.bool true) jb p5) pos)
   (JZ E C fld (zd (wW (PN (nlP.r X.K) (aL (fJ i) dX))) (zd (pI (oq (gT fn X.K) [] NE ta) (cY j)) (Ai (tB (PN (Ia.r X.K) (aL (fJ j) dX))) (sG (fJ j)) (Al X.K (fJ i) (fJ j) (tC (.bl true))))))):=by
 refine ⟨fun ti s Y H D I h=>?_⟩;have jl:j < Y.length:=by rw [I.len];exact (Ls.mp hj).1
 have gj:(v:V)->(Y.set j (some v))[j]?=some (some v):=fun v=>LR jl;obtain ⟨x,ex,_,h⟩:=h;have h:ta Y H fun vs H1=>gT fn X.K (vs++[]) H1 (fun v H2=>(Ai (tB (PN (Ia.r X.K) (aL (fJ j) dX))) (sG (fJ j)) (Al X.K (fJ i) (fJ j) (tC (.bl true)))) (DZ E C fld D) (Y.set j (some v)) H2) NE:=h;have h:ta Y H fun vs H1=>gT fn X.K (vs++[]) H1 (fun v H2=>(aO v=true->QP E C fld D.rt v H2)/\(aO v=false->kB.r X.K x v (.bl true) H2 (D.nx (Y.set j (some v))))) NE:=hm _ _ _ _ h fun vs H1 q=>kR q fun v H2 q=>by
  obtain ⟨w,ew,c,ec,q⟩:=q;rw [gj v] at ew;cases ew;have ec:V.bl (aO v)=.bl c:=ec;cases ec;refine ⟨fun e=>?_,fun e=>?_⟩
  .rw [e,Lz rfl] at q;obtain ⟨w,ew,q⟩:=q;rw [gj v] at ew;cases ew;exact q
  .rw [e,Lw LU] at q;obtain ⟨x',Vn,w,ew,q⟩:=q;rw [gj v] at ew;cases ew;rw [Lv (Ne.symm RT),ex] at Vn;cases Vn;exact q
 refine wpAny_Assign_Subscript (Oq ((Rv (b:=true)).h ti s Y H (fun v' H'=>v'=V.bl true/\H'=H) I ⟨rfl,rfl⟩) fun r s0 ⟨v0,H1,I1,rv,e3,e4⟩=>(Oq (hd.h ti s0 Y H1 (fun v' H'=>v'=x/\H'=H1) I1 ⟨x,ex,rfl,rfl⟩) fun u s9 ⟨x',H2,I2,rx,e1,e2⟩=>?_)) hw;subst e3 e4;obtain rfl:r=Value.bool true:=rv;subst e1 e2;refine mI (NE:=NE) (C:=C) (fld:=fld) F hr Ss Ri hk hb ha s1 s2 UG yK I2 h (fun _ _ z=>z) (fun v H4 iv s4 pv I4 r4 q4=>?_) fun v dx H3 H' s3 s' b ea t pv I3 ho UH u kk IT fl PH q=>hp ti Y H3 s3 _ s' I3 ⟨ea,C,t,some dx,_,b,rfl,ho,UH,u,kk,IT,fl,(q.1 pv).1 pv dx PH⟩;obtain ⟨k',p,ep,xs,⟨F',kvs,Vn,ea,r,PZ,Qu⟩,hl,q3⟩:=q4.2 pv;subst Vn;obtain rfl:u=Value.ref p:=rx;obtain ⟨as,rk⟩:=PZ.reads I4 (jO _ (iy.mp Qu).1) r4;exact FU (by lia) I4 ea (x9 I4 r) rk (wd PZ Qu) r4 (v:=.bl true) rfl hl fun Qm s5 I5=>⟨_,_,I5.Ll hj hy,q3 Qm⟩
end
section
variable {X:Cx} {x:Str} {p pos:Pos} {e:Expr} {es:List Expr} {t:TA} {f:Qz} {fd:FuncData} {ps:List Str} {sp:Sp} {k m:Nat} {r:List V->Hp->VK->Prop} {id T:String}
theorem AA (i:Nat) (a:X.N[i]?=some x:=by exact rfl) (b:Qi X.env.scope x:=by exact .inl rfl) (c:Qv x:=by exact rfl) (d:Qk x:=by exact rfl):JE X (.Name x pos) (fJ i):=DA i a b c d
theorem QL (i:Nat) (a:X.N[i]?=some x:=by exact rfl) (b:Qi X.env.scope x:=by exact .inr (.inl rfl)) (c:Qv x:=by exact rfl) (d:Qk x:=by exact rfl):JE X (.Name x pos) (fJ i):=DA i a b c d
theorem Pj (hc:aH X (.builtin id) r) (hm:X.mg x=none) (ha:JA X (e :: es) t) (a:Gl X x:=by exact rfl) (hv:bootBuiltins x=some (.builtin id):=by decide +kernel) (h1:PySem.W.isStarred e=false:=by exact rfl) (h2:es.all (fun e=>!PySem.W.isStarred e)=true:=by exact rfl)
  (hn:x ≠ "__name__" := by decide) (c:Qv x:=by exact rfl):JE X (.Call (.Name x p) (e :: es) [] pos) (PN r t):=eB hc a hm hv ha h1 h2 hn c
theorem T8 (hc:aH X (.type T) r) (hm:X.mg x=none) (ha:JA X (e :: es) t) (a:Gl X x:=by exact rfl) (hv:bootBuiltins x=some (.type T):=by decide +kernel) (h1:PySem.W.isStarred e=false:=by exact rfl) (h2:es.all (fun e=>!PySem.W.isStarred e)=true:=by exact rfl)
  (hn:x ≠ "__name__" := by decide) (c:Qv x:=by exact rfl):JE X (.Call (.Name x p) (e :: es) [] pos) (PN r t):=eTy hc a hm hv ha h1 h2 hn c
end
theorem Qo.okX {P:Program} {w:World} {K:Fg} {mg:Qg} {base:Heap} {x qual:Str} {st:Stmt} {f:Qz} {fd:FuncData} {N ps:List Str} {k:Nat} {b:XS} {gd:List Qq} {ga:Nat->V} {ms:List PM} {rd:TS}
  (F:Qo K x qual st f fd) (S:a6 N ps (aa st)) (hg:∀ g d,gd[g]?=some d->∀ F H,Dm K F H d (ga g)) (e:rd=rS K ga b)
  (j:∀ {OA:Qj} {A:Around} {outer:List Env} {s:Qx} {H:Hp} {E:XK},bN k (A.deeper (envOfC qual (aa st) s.heap.objs.size f OA))->Pw (i6 CX0 P w K mg base N qual (aa st) f OA A outer s H E).TH (aS st) rd)
  (hl:ms.length<=N.length:=by decide) (hp:ms.length=ps.length:=by exact rfl):fI P w K mg base CX0 (k+1) f fd ps (gT (bV gd ms N.length b) K) :=
 F.okJ S (fun vs H Q E h=>(j6 h).trans hp) fun OA A outer s H vs Q E hr h=>⟨rd,j hr,by rw [e];exact mV (N:=N) hg h hl⟩
structure Fa (K:Fg) (mg:Qg) (x:Str) (st:Stmt) (ps:List Str) (a:Qz×FuncData):Prop where
 F:Qo K x x st a.1 a.2
 c:(us:List Qj)->us.length=ps.length->bindArgs a.2 ⟨us,[]⟩=pure (ps.zip us)
 m:mg x=some (.ref a.1)
section
variable {K:Fg} {mg:Qg} {x:Str} {st:Stmt} {ps:List Str} {a:Qz×FuncData} {h:Heap} {f:Qz} {od an:Option Qz} {sl:Array (Option Qj)} {oc kV dc pm cd ct:Qj}
theorem Fa.b (D:Fa K mg x st ps a):Binds K a.2 ps []:=.all D.c
def BI (K:Fg) (mg:Qg):List (Str×Stmt×List Str)->Prop
 | []=>True
 | (x,st,ps) :: r=>(∃ a,Fa K mg x st ps a)/\BI K mg r
theorem II (X:K.In h) (G:h.Ns mainGlobals mg) (a:PySem.W.nsIn K mainGlobals x=some (some (.ref f))) (l:K.lookup f=some ⟨oc,od,.func (PySem.W.fnOf x x (dB st) (aS st) (aa st) .none kV dc pm an cd ct),sl⟩) (c:PySem.W.codeIn K cd x=true) (k:PySem.W.keepIn K (.ref f)=true)
  (hb:∀ (kV dc pm:Qj) (an:Option Qz) (cd ct:Qj) (us:List Qj),us.length=ps.length->bindArgs (PySem.W.fnOf x x (dB st) (aS st) (aa st) .none kV dc pm an cd ct) ⟨us,[]⟩=pure (ps.zip us)) (hr:BI K mg r):BI K mg ((x,st,ps) :: r) :=
 ⟨⟨(f,_),uz l c k,hb _ _ _ _ _ _,Nf X G a⟩,hr⟩
theorem CT (a0:Qz×FuncData):∀ {l:List (Str×Stmt×List Str)},BI K mg l->∃ f:Nat->Qz×FuncData,∀ i {x st ps},l[i]?=some (x,st,ps)->Fa K mg x st ps (f i)
 | [],_=>⟨fun _=>a0,fun i x st ps h=>by cases h⟩
 | (y,st,ps) :: r,⟨⟨a,ha⟩,hr⟩=>by
  obtain ⟨f,hf⟩:=CT a0 hr;refine ⟨fun i=>i.casesOn a f,fun i x st ps h=>?_⟩;cases i with
  | zero=>cases h;exact ha
  | succ i=>exact hf i h
theorem Kt (D:BI K mg (e :: l)):∃ f:Nat->Qz×FuncData,∀ i {x st ps},(e :: l)[i]?=some (x,st,ps)->Fa K mg x st ps (f i):=by obtain ⟨y,st,ps⟩:=e;have ⟨⟨a,_⟩,_⟩:=D;exact CT a D
end
theorem us1 {P:List Qj->Prop} (h:∀ a,P [a]):(us:List Qj)->us.length=1->P us
 | [a],_=>h a
theorem us2 {P:List Qj->Prop} (h:∀ a b,P [a,b]):(us:List Qj)->us.length=2->P us
 | [a,b],_=>h a b
theorem Xy (a:sc.kind=.function:=by exact rfl) (b:sc.isCoroutine=false:=by exact rfl) (c:sc.isGenerator=false:=by exact rfl) (d:N.Nodup:=by decide +kernel) (e:N.take P.length=P:=by exact rfl) (f:∀ x∈P,sc.names.lookup x=some .local\/sc.names.lookup x=some .cell:=by decide +kernel) (g:∀ y∈sc.names,y.2≠.free:=by decide +kernel):a6 N P sc:=⟨a,b,c,d,e,f,g⟩
theorem Fa.okN {P:Program} {w:World} {K:Fg} {mg:Qg} {base:Heap} {x:Str} {st:Stmt} {a:Qz×FuncData} {ps:List Str} {k:Nat} {b:XS} {gd:List Qq} {ga:Nat->V} {ms:List PM}
  (D:Fa K mg x st ps a) (N:List Str) (hg:∀ g d,gd[g]?=some d->∀ F H,Dm K F H d (ga g))
  (j:∀ {OA:Qj} {A:Around} {outer:List Env} {s:Qx} {H:Hp} {E:XK},a6 N ps (aa st)->bN k (A.deeper (envOfC x (aa st) s.heap.objs.size a.1 OA))->Pw (i6 CX0 P w K mg base N x (aa st) a.1 OA A outer s H E).TH (aS st) (rS K ga b))
  (hl:ms.length<=N.length:=by decide) (hp:ms.length=ps.length:=by exact rfl) (S:a6 N ps (aa st):=by exact Xy):fI P w K mg base CX0 (k+1) a.1 a.2 ps (gT (bV gd ms N.length b) K) :=
 D.F.okX S hg rfl (fun hr=>j S hr) hl hp
section
variable {X:Cx} {x:Str} {p p2 pos pos':Pos} {e a b:Expr} {es:List Expr} {t:TA} {te ta tb:TE} {ps:List Str} {sp:Sp} {k m i:Nat} {r:List V->Hp->VK->Prop} {T:String} {st:Stmt} {q:Qz×FuncData}
theorem Ow (F:fI X.prog X.w X.K X.mg X.base CX0 k q.1 q.2 ps sp) (hr:bN m X.A) (D:Fa X.K X.mg x st ps q) (ha:JA X (e :: es) t)
  (a:k<=m:=by lia) (b:Gl X x:=by exact rfl) (h1:PySem.W.isStarred e=false:=by exact rfl) (h2:es.all (fun e=>!PySem.W.isStarred e)=true:=by exact rfl) (c:Qv x:=by exact rfl):JE X (.Call (.Name x p) (e :: es) [] pos) (oq sp [] E0 t) :=
 GB F (hr.mono a) b D.m D.F.kp D.b .nil FK ha h1 h2 c
theorem EE (ha:JE X e te) (hr:JA X es t) (h:PySem.W.isStarred e=false:=by exact rfl):JA X (e :: es) (aL te t):=eA ha hr h
theorem OF (ha:JE X a ta) (hb:JE X b tb) (hs:m5 b:=by exact fun _ _=>rfl):JE X (.Subscript a b pos) (RZ (fun x y=>OC.r X.K [x,y]) ta tb):=eIx Ff ha hb hs
theorem OJ (hN:X.N.Nodup) (i:Nat) (he:JE X e te) (hi:X.N[i]?=some x:=by exact rfl) (hx:Loc X.env.scope x:=by exact .inl rfl) (hs:swapsWith e (some (.Name x pos')) pos.line X.env=pure false:=by exact rfl) (hf:X.fn x=true\/X.env.scope.names.lookup x=some .local:=by exact .inl rfl) :
  JS X (.Assign [.Name x pos'] e pos) (pI te (cY i)):=FA he hN hi hx hs hf
theorem Wq (hN:X.N.Nodup) (i:Nat) (he:JE X e te) (hi:X.N[i]?=some x:=by exact rfl) (hx:Loc X.env.scope x:=by exact .inr rfl) (hs:swapsWith e (some (.Name x pos')) pos.line X.env=pure false:=by exact rfl) (hf:X.fn x=true\/X.env.scope.names.lookup x=some .local:=by exact .inl rfl) :
  JS X (.Assign [.Name x pos'] e pos) (pI te (cY i)):=FA he hN hi hx hs hf
theorem Vg (hN:X.N.Nodup) (i:Nat) (hi:X.N[i]?=some x:=by exact rfl) (hx:Loc X.env.scope x:=by exact .inl rfl) (hf:X.fn x=true\/X.env.scope.names.lookup x=some .local:=by exact .inl rfl):JG X (.Name x pos) (cY i):=eGN hN hi hx hf
theorem O9 {op:CmpOp} {r:R2} (ho:Oy X (compareOp op) r) (ha:JE X a ta) (hb:JE X b tb) (hm:behindInMarks op b=false:=by exact d4 _):JT X (.Compare a [op] [b] pos) (tV (RZ r ta tb)):=Hn ho ha hb hm
theorem Pp (h:JE X e te) (he:∀ whole,isTrue e X.env whole=(do let v<-whole;standAt e.pos;holding [v] (truthy v)):=by exact fun _=>rfl):JT X e (tB te):=Ga h he
theorem QC (hm:X.mg "isinstance" = none) (ha:JE X e te) (hz:X.mg (Str.ofString T)=none) (hg:Gl X "isinstance" := by exact rfl) (hs:PySem.W.isStarred e=false:=by exact rfl)
  (h1:Gl X (Str.ofString T):=by exact rfl) (h2:bootBuiltins (Str.ofString T)=some (.type T):=by decide +kernel) (h3:Str.ofString T ≠ "__name__" := by decide) (h4:(Str.ofString T==("__debug__" : Str))=false:=by exact rfl):JE X (.Call (.Name "isinstance" p) [e,.Name (Str.ofString T) p2] [] pos) (PN ((jD T).r X.K) (aL te dX)) :=
 Lj hg hm ha hs (F5 h1 hz h2 rfl h3 h4)
theorem Vh {iter tg:Expr} {body:List Stmt} {wi:TI} {g:TG} {tb:TS} (hi:JI X tg iter wi) (hg:JG X tg g) (hb:Pw X body tb) (hp:PassesOwn (model X.prog X.w) X.A X.env X.xe:=by exact PassesOwn.never) (hc:X.calm=true:=by exact rfl) (hs:∀ x,foldedSetIterable iter X.env x=pure x:=by exact fun _=>rfl):JS X (.For tg iter body [] pos) (BK wi g tb):=Ke hi hg hb hp hc hs
theorem eUy (ha:JE X a ta):JE X (.UnaryOp .USub a pos) (PN (GD.r X.K) (aL ta dX)):=μ yI ha
theorem Tv (ys:List Str) (hi:JI X (.Name x px) iter wi) (ht:WW X (x :: ys) scope ifs tt) (he:JC X (x :: ys) scope elt te) (B:gF X scope x) (cap:fB X scope ys js)
  (hc:X.calm=true:=by exact rfl) (nd:(x :: ys).Nodup:=by decide +kernel) (hs:∀ x,foldedSetIterable iter X.env x=pure x:=by exact fun _=>rfl):JE X (.ListComp elt [⟨.Name x px,iter,ifs,0⟩] scope pos) (qh js wi tt te):=Gk ys hi ht he hc B nd cap hs
end
abbrev vr (i:Nat):XE:=.var i
abbrev ci (i:Int):XE:=.cst (.i i)
abbrev cs (x:String) (h:(Str.ofString x).length<=sizeLine:=by decide +kernel):XE:=.cst (.s x h (dR x))
abbrev p1 (p:Oo) (a:XE):XE:=.Si p (.cons a .nil)
abbrev p2 (p:Oo) (a b:XE):XE:=.Si p (.cons a (.cons b .nil))
def Jh:V->Hp->VK->Prop:=fun x H Q=>AB [x] H Q\/∃ y n,x=.str y/\y.length<=640/\PySem.intText? y=some n/\Q (.int n) H
noncomputable def xQ:Qq->Option PR
 | .int i=>some (.dat (.int i)) | .bool k=>some (.dat (.int (if k then 1 else 0)))
 | .str x=>if x.length<=640 then (PySem.intText? x).map fun n=>.dat (.int n) else none
 | _=>none
def tu:Oo:=Oo.one (fun _=>Jh) xQ fun K F H x u pr Q hf hx hd q=>by
 unfold xQ at hf;split at hf
 .rename_i i;exact .inl (HX.ok K F H [.int i] [u] pr Q hf ⟨u,_,rfl,hx,rfl⟩ hd q)
 .rename_i k;exact .inl (HX.ok K F H [.bool k] [u] pr Q hf ⟨u,_,rfl,hx,rfl⟩ hd q)
 .split at hf
  .rename_i y hl;cases e:PySem.intText? y with
   | none=>rw [e] at hf;cases hf
   | some n =>
    rw [e] at hf;cases hf;exact .inr ⟨y,n,(vStr hx).1,hl,e,q _ H (ax.rf H) rfl⟩
  .cases hf
 .cases hf
theorem j7:aH X (.type "int") (tu.r X.K):=by
 intro ti s Y H xs us Q I r h
 match xs,h with
 | [x],h =>
  rcases h with h | ⟨y,n,rfl,hl,hn,q⟩
  .exact z5 ti s Y H [x] us Q I r h
  .cases r with
   | cons r1 rr =>
    cases rr;obtain ⟨t,rfl⟩:=r1;exact PySem.W.KIN.call_text hn hl ⟨.int n,H,I.tok _,⟨_,rfl⟩,q⟩
section
open Builtin Builtin.Str
theorem qy (hy:(y.length==0)=false) (hx:x.length<=1000000)
  (hq:∀ (l:List (Str×Tok)) tk,l.map (·.1)=Txt.split x y->Q (.ref s.heap.objs.size) { s with toks:=tk,heap:=s.heap.push { cls:=.type "list", data:=.seq (strValues l).toArray } }) :
  wMX prog w A (call (.builtin "str.split") [.str x t,.str y u]) Q E s:=by
 have Pn:x.length<=sizeLine:=LG hx (by decide);have Zs:(partsBetween x (occurrences x y 0 x.length (x.length+1)) y.length).length<=sizeLine:=by rw [length_partsBetween];have:=PySem.StrLaws.occ_length_le x y 0 x.length (x.length+1);show _<=2 ^ 24;lia
 cases h1:(decide (x.length < y.length)||decide (strKind x < strKind y))
 .cases hf:(occurrences x y 0 x.length (x.length+1)).isEmpty
  .refine call_meets F.slot_str_split (N9 _ _ _) F.entry_str_split (F.args_str_split_2 _ _) (meets_str_split_sep x y t u h1 hy hf Pn Zs) ?_;show wants Q E _ { s with toks:=_,heap:=s.heap.push { cls:=.type "list", data:=.seq (strsFrom s.toks (partsBetween x (occurrences x y 0 x.length (x.length+1)) y.length)).toArray } };rw [strsFrom_eq];exact hq (numbered s.toks _) _ ((numbered_texts _ _).trans ((Lw (ne_true_of_eq_false h1)).trans (Lw (ne_true_of_eq_false hf))).symm)
  .exact call_meets F.slot_str_split (N9 _ _ _) F.entry_str_split (F.args_str_split_2 _ _) (meets_str_split_not_found x y t u h1 hy hf)
    (hq [(x,t)] s.toks ((Lw (ne_true_of_eq_false h1)).trans (Lz hf)).symm)
 .exact call_meets F.slot_str_split (N9 _ _ _) F.entry_str_split (F.args_str_split_2 _ _) (meets_str_split_cannot_occur x y t u h1)
   (hq [(x,t)] s.toks (Lz h1).symm)
end
def yx:V->List V->Hp->VK->Prop:=fun x vs H Q=>∃ z y:Str,x=.str z/\vs=[.str y]/\(y.length==0)=false/\z.length<=1000000/\∀ p,H p=none->Q (.ref p) (upd H p (.lst ((Txt.split z y).map .str)))
theorem lW:∀ (l:List (Str×Tok)),Vals ((l.map (·.1)).map V.str) (strValues l)
 | []=>.nil
 | (x,t) :: l=>.cons ⟨t,rfl⟩ (lW l)
theorem split_len (hz:z.length<=1000000):(Txt.split z y).length<=1000002:=by
 unfold Txt.split;split
 .show 1<=_;lia
 .split
  .show 1<=_;lia
  .rw [length_partsBetween];have:=PySem.StrLaws.occ_length_le z y 0 z.length (z.length+1);lia
theorem km:WM X "str.split" yx:=by
 intro ti s Y H x vs v us Q I rx rv h;obtain ⟨z,y,rfl,rfl,hy,hz,q⟩:=h;obtain ⟨t,rfl⟩:=rx;obtain ⟨u,rfl,ru⟩:=rv.one;obtain ⟨t',rfl⟩:=ru;refine qy hy hz fun l tk hl=>?_;have hf:H s.heap.objs.size=none:=I.IT.fresh (LA _);refine ⟨.ref s.heap.objs.size,_,I.laid (t':=tk) (fun b u e=>LB _ e) (LA _) (o:=.lst ((Txt.split z y).map .str)) ?_,rfl,q _ hf⟩;refine ⟨?_,strValues l,0,?_,L0 _ rfl⟩
 .rw [Lo];have:=split_len (y:=y) hz;show _<=2 ^ 24;lia
 .rw [<- hl];exact lW l
theorem jr:∀ {l:List Str} {p:Str},p∈l->(∀ c∈p.cps.toList,c∈(Str.join sep l).cps.toList)
 | [a],p,h,c,hc=>by
  have:p=a:=by simpa using h
  rw [this] at hc;exact hc
 | a :: b :: l,p,h,c,hc=>by
  show c∈(a++sep++Str.join sep (b :: l)).cps.toList;have e:∀ x y:Str,(x++y).cps.toList=x.cps.toList++y.cps.toList:=fun x y=>by show (x.cps++y.cps).toList=_;simp
  rw [e,e];rcases LJ.mp h with rfl | h
  .exact LY _ (LY _ hc)
  .exact Lx _ (jr h c hc)
theorem n6 (h:PyData.strOk z=true) (hp:p∈Txt.split z y):PyData.strOk p=true:=by have j:=N1 z y;unfold PyData.strOk at h ⊢;rw [NY] at h ⊢;intro c hc;have:=jr (sep:=y) hp c (by simpa using hc);rw [j] at this;exact h c (by simpa using this)
theorem jI (hp:p∈Txt.split z y):p.length<=z.length:=by
 have j:=N1 z y;have go:∀ {l:List Str},p∈l->p.length<=(Str.join y l).length:=by
  intro l;induction l with
  | nil=>intro h;simp at h
  | cons a l ih =>
   intro h;cases l with
   | nil =>
    have:p=a:=by simpa using h
    rw [this];exact LA _
   | cons b l =>
    show p.length<=(a++y++Str.join y (b :: l)).length;rw [cz,cz];rcases LJ.mp h with rfl | h
    .lia
    .have:=ih h;lia
 have:=go hp;rw [j] at this;exact this
theorem uR {K:Fg} {F:Zq} {H:Hp}:∀ {l:List Str},(∀ x∈l,x.length<=sizeLine/\PyData.strOk x=true)->Ot K F H (l.map .str) (l.map V.str)
 | [],_=>rfl
 | x :: l,h=>⟨_,_,rfl,⟨rfl,(h x Lq).1,(h x Lq).2⟩,uR fun y hy=>h y (Ly _ hy)⟩
def oY:Qq->List Qq->Option PR
 | .str z,[.str y]=>if (y.length==0)=false/\z.length<=1000000 then some (.Oj (.list ((Txt.split z y).map .str))) else none
 | _,_=>none
def splitM:U0 where
 T := "str"
 r:=fun _=>yx
 ty:=UW
 f:=oY
 zV:=fun K F H d v h t=>ty_str h t
 ok:=fun K F H d v ds vs pr Q hf hx hv hd q=>by
  unfold oY at hf;split at hf
  .split at hf
   .rename_i h;cases hf;obtain ⟨rfl,l1,o1⟩:=vStr hx;obtain ⟨w,r,rfl,hw,rfl⟩:=hv;obtain ⟨rfl,_⟩:=vStr hw;refine ⟨_,_,rfl,rfl,h.1,h.2,fun p hp=>q _ _ (ax.nw _ hp) (yM hp ?_ (uR fun y hy=>⟨LG (jI hy) l1,n6 o1 hy⟩))⟩;rw [Lo];show _<=2 ^ 24;exact LG (split_len h.2) (by decide)
   .cases hf
  .cases hf
end L2
namespace L2
open PySem PySem.Spec PyProof.Rows PySem.W
def yA (K:Fg):V->Hp->VK->Prop:=fun u H Q=>∃ (a:Qz) (ep:Nat) (xs:List (Qq×V×V)),u=.ref a/\H a=some (.dD ep xs)/\xs.length<=sizeLine/\∀ D,H D=none->Q (.ref D) (upd H D (.lst (xs.map (·.2.1))))
theorem qm (hc:X.calm=true):aH X (.type "list") (fun us H Q=>∃ u,us=[u]/\yA X.K u H Q):=by
 intro ti s Y H us ws Q I r h;obtain ⟨u,rfl,a,ep,xs,rfl,ea,z,q⟩:=h;obtain ⟨v,rfl,r1⟩:=vals1 r;cases (show v=Value.ref a from r1);obtain ⟨z0,lo,nd,o,es,g1,g2,g3,g4⟩:=(show aI X.prog X.w H s.heap a (.dD ep xs) from I.IT _ _ ea);have Pn:es.size=xs.length:=by rw [NI g4];simp
 refine kdl_call (Kg (es:=es) (ep:=ep) lo) (I.ok.hd hc) ⟨o,g1,g2,g3⟩ (by rw [Pn];exact z) fun h' tk OI c' kp hS OV=>?_;have ev:Vals (xs.map (·.2.1)) OI.toList:=by
  have key:∀ (xs:List (Qq×V×V)) (vs:List Qj),xs.length=vs.length->(∀ (i:Nat) (x:Qq×V×V) (v:Qj),xs[i]?=some x->vs[i]?=some v->RelV x.2.1 v)->Vals (xs.map (·.2.1)) vs:=by
   intro xs;induction xs with
   | nil=>intro vs h1 _;cases vs with
    | nil=>exact .nil
    | cons _ _=>simp at h1
   | cons x xs ih=>intro vs h1 h2;cases vs with
    | nil=>simp at h1
    | cons v vs=>exact .cons (h2 0 x v rfl rfl) (ih vs (by simpa using h1) fun i x v a b=>h2 (i+1) x v (by simpa using a) (by simpa using b))
  refine key xs OI.toList ((Pn.symm.trans (OV.1.symm.trans ML.symm))) fun i x v hx hv=>?_;rw [Oh] at hv;obtain ⟨e,h1,h2⟩:=OV.2 i v hv;obtain ⟨en,h3,h4⟩:=dh g4 i x hx;rw [Oh] at h3;rw [h3] at h1;cases h1;rw [h2];exact h4.2.1
 have hn:H s.heap.objs.size=none:=I.IT.fresh (LA _);refine ⟨.ref s.heap.objs.size,_,I.laid (t':=tk) (o:=.lst (xs.map (·.2.1))) (fun b o e=>kp b o e) (LA _) ⟨by rw [Lo];exact z,OI.toList,c',ev,by rw [Array.toArray_toList];exact hS⟩,rfl,q _ hn⟩
theorem oW {K:Fg} {F:Zq} {H:Hp}:∀ {kvs:List (Qq×Qq)} {xs:List (Qq×V×V)},ON K F H kvs xs->Ot K F H (kvs.map (·.1)) (xs.map (·.2.1))
 | [],xs,h=>by rw [show xs=[] from h];rfl
 | (k,d) :: kvs,xs,h=>by obtain ⟨j,v,r,rfl,h1,h2,h3,h4⟩:=h;exact ⟨_,_,rfl,h2,oW h4⟩
def zA:Oo:=Oo.one yA (fun x=>match x with | .dict kvs=>some (.Oj (.list (kvs.map (·.1)))) | _=>none) fun K F H x u pr Q hf hx hd q=>by
 split at hf
 .rename_i kvs;cases hf;obtain ⟨a,rfl,ep,xs,ea,z,dp⟩:=hx;exact ⟨a,ep,xs,rfl,ea,z,fun D hD=>q _ _ (ax.nw _ hD) (yM hD (by rw [Lo];exact z) (oW dp))⟩
 .cases hf
theorem tI (hc:X.calm=true):aH X (.type "list") (zA.r X.K):=gz (qm hc) fun u H Q h=>⟨u,rfl,h⟩
end L2
namespace L2
open PySem PySem.Spec PyProof.Rows
theorem eIE (hm:X.mg "enumerate" = none) (ha:JE X ea t) (hg:Gl X "enumerate" := by exact rfl) (h1:PySem.W.isStarred ea=false:=by exact rfl) :
  JI X (.Tuple elts c pt) (.Call (.Name "enumerate" p) [ea] [] pos) (He X.K (aL t dX)):=⟨Es hg hm ha.h (aw h1)⟩
theorem Qd (ho:Oy X (binaryOp op) (fun x y=>p.r X.K [x,y])) (ha:JE X a (rE X.K ga a')) (hb:JE X b (rE X.K ga b')):JE X (.BinOp a op b pos) (rE X.K ga (p2 p a' b')):=Oz ho ha hb
theorem dp1 (r:bN k A):A.depth+1 < recursionLimit:=by have:=r.dp;lia
def ntP:Oo:=Oo.one (fun _ v H Q=>aO v=false/\Q v H) (fun d=>match d with | .tuple xs=>some (.dat (.tuple xs)) | _=>none) fun K F H x u pr Q hf hx hd q=>by
 cases x with
 | tuple xs =>
  cases hf;exact ⟨gb hx,q _ H (ax.rf H) hx⟩
 | _=>cases hf
theorem HK {K:Fg}:∀ vs H (Q:VK),ntP.r K vs H Q->∃ v,vs=[v]/\aO v=false/\Q v H:=fun vs H Q h=>by
 match vs,h with
 | [v],h=>exact ⟨v,rfl,h.1,h.2⟩
def Ya (K:Fg) (mg:Qg) (C:Qz) (x:Str) (a:Qz):Prop:=mg x=some (.ref a)/\PySem.W.kitOne K (.ref C) (.ref a)=some false
def DE (K:Fg) (mg:Qg) (C:Qz):List Str->Prop
 | []=>True
 | x :: r=>(∃ a,Ya K mg C x a)/\DE K mg C r
theorem Ii {K:Fg} {mg:Qg} {h:Heap} {x:Str} {a C:Qz} {i:Option Qj} {r:List Str} {dd:Option Qz} {cd:ClassData} {sl:Array (Option Qj)} (X:K.In h) (G:h.Ns mainGlobals mg) (xC:gu K C i) (n:PySem.W.nsIn K mainGlobals x=some (some (.ref a))) (l:K.lookup a=some ⟨.type "type", dd,.cls cd,sl⟩) (m:PySem.W.mroIn K C (.ref a)=some false) (hr:DE K mg C r):DE K mg C (x :: r) :=
 ⟨⟨a,Nf X G n,yb xC l m⟩,hr⟩
theorem J8 {K:Fg} {mg:Qg} {C:Qz}:∀ {l:List Str},DE K mg C l->∃ y:Nat->Qz,∀ i {x},l[i]?=some x->Ya K mg C x (y i)
 | [],_=>⟨fun _=>0,fun i x h=>by cases h⟩
 | z :: r,⟨⟨a,ha⟩,hr⟩=>by
  obtain ⟨f,hf⟩:=J8 hr;refine ⟨fun i=>i.casesOn a f,fun i x h=>?_⟩;cases i with
  | zero=>cases h;exact ha
  | succ i=>exact hf i h
section
variable {P:Program} {w:World} {K:Fg} {mg:Qg} {base:Heap} {x:Str} {st:Stmt} {a:Qz×FuncData} {ps:List Str} {k:Nat} {b:XS} {gd:List Qq} {ga:Nat->V} {ms:List PM} {C:Qz} {fld:Str}
theorem Fa.okR (D:Fa K mg x st ps a) (N:List Str) (hg:∀ g d,gd[g]?=some d->∀ F H,Dm K F H d (ga g))
  (j:∀ {OA:Qj} {A:Around} {outer:List Env} {s:Qx} {H:Hp} {E:XK} {Q:VK},a6 N ps (aa st)->bN k (A.deeper (envOfC x (aa st) s.heap.objs.size a.1 OA))->JR (i6 (PJ P w) P w K mg base N x (aa st) a.1 OA A outer s H E) E C Q (aS st) (rS K ga b))
  (hl:ms.length<=N.length:=by decide) (hp:ms.length=ps.length:=by exact rfl) (S:a6 N ps (aa st):=by exact Xy):fI P w K mg base (PJ P w) (k+1) a.1 a.2 ps (Xn (bV gd ms N.length b) C K) :=
 D.F.okD S (fun vs H Q E h=>(Ad h).trans hp) fun OA A outer s H vs Q E hr h=>⟨_,j S hr,mV (N:=N) hg h hl⟩
theorem Fa.Xo (D:Fa K mg x st ps a) (N:List Str) (hg:∀ g d,gd[g]?=some d->∀ F H,Dm K F H d (ga g))
  (j:∀ {OA:Qj} {A:Around} {outer:List Env} {s:Qx} {H:Hp} {E:XK},a6 N ps (aa st)->bN k (A.deeper (envOfC x (aa st) s.heap.objs.size a.1 OA))->Pw (i6 (PJ P w) P w K mg base N x (aa st) a.1 OA A outer s H E) (aS st) (JZ E C fld (rS K ga b)))
  (hn:∀ D n,rS K ga b { D with nx:=n }=rS K ga b D:=by exact fun _ _=>rfl) (hl:ms.length<=N.length:=by decide) (hp:ms.length=ps.length:=by exact rfl) (S:a6 N ps (aa st):=by exact Xy):fI P w K mg base (PJ P w) (k+1) a.1 a.2 ps (Wl (bV gd ms N.length b) C fld K) :=
 D.F.Xo S (fun vs H Q E h=>(j6 h).trans hp) fun OA A outer s H vs Q E hr h=>⟨_,j S hr,hn,mV (N:=N) hg h hl⟩
end
end L2
end
set_option bootstrap.genMatcherCode true
section
namespace K11
open PySem PySem.Spec PyProof.Rows L2
def top (i:Nat):Stmt:=PySem.Challenge.pw_webshapes_k11_webs_as_texts.main.body.getD i (.Pass ⟨0,0,0,0⟩)
abbrev cQ:Stmt:=top 10
abbrev nO:Stmt:=top 11
abbrev lC:Stmt:=top 12
abbrev kP:Stmt:=top 13
abbrev nT:Stmt:=top 14
abbrev nS:Stmt:=top 15
abbrev nW:Stmt:=top 16
abbrev my:Stmt:=top 17
abbrev kq:Stmt:=top 18
abbrev eT:Stmt:=top 19
abbrev nt:Stmt:=top 20
abbrev nY:Stmt:=top 22
abbrev ku:Stmt:=top 23
abbrev ka:Stmt:=top 24
abbrev me:Stmt:=top 25
abbrev e7:Stmt:=top 26
abbrev ft:Stmt:=top 29
abbrev qp:Stmt:=top 30
abbrev gE:Stmt:=top 32
abbrev kU:Stmt:=top 33
abbrev mK:Stmt:=top 34
abbrev AM:Stmt:=top 36
abbrev wa:Stmt:=top 37
abbrev yj:Stmt:=top 38
abbrev wc:Stmt:=top 39
abbrev i3:Stmt:=top 40
abbrev wZ:Stmt:=top 41
abbrev yn:Stmt:=top 42
abbrev qc:Stmt:=top 43
abbrev l8:Stmt:=top 44
abbrev wO:Stmt:=top 45
abbrev mX:Stmt:=top 46
abbrev sF:Stmt:=top 47
abbrev gM:Stmt:=top 48
abbrev g9:Stmt:=top 49
abbrev cq:Stmt:=xt (top 5)
def IG:Str×Stmt×List Str:=("", top 0,[])
def Ws:List (Str×Stmt×List Str):=("are_letters", cQ,["thing", "fewest"]) :: ("is_name", nO,["thing"]) :: ("is_whole", lC,["thing"]) :: ("is_number", kP,["thing"]) :: ("is_said", nT,["thing"]) :: ("is_node", nS,["thing"]) :: ("kind_of", nW,["node"]) :: ("node_key", my,["node"]) :: ("show_node", kq,["node"]) :: ("number_in", eT,["text"]) :: ("node_in", nt,["text"]) :: ("is_fact", nY,["thing"]) :: ("show_fact", ku,["fact"]) :: ("read_fact", ka,["text"]) :: ("fact_key", me,["fact"]) :: ("facts_in_order", e7,["facts"]) :: ("are_facts", ft,["things"]) :: ("web_of", qp,["facts"]) :: ("show_web", gE,["web"]) :: ("read_line", kU,["row", "line"]) :: ("read_web", mK,["text"]) :: ("_law_pen", AM,["_law_script"]) :: ("_law_take", wa,["_law_pen_here", "_law_most"]) :: ("_law_word", yj,["_law_pen_here", "_law_many"]) :: ("_law_node", wc,["_law_pen_here"]) :: ("_law_facts", i3,["_law_pen_here"]) :: ("_law_line", wZ,["_law_fact"]) :: ("_law_sort", yn,["_law_node_here"]) :: ("_law_before", qc,["_law_one", "_law_other"]) :: ("_law_bad_line", l8,["_law_pen_here", "_law_text"]) :: ("_law_told", wO,["_law_text"]) :: ("_law_refused", mX,["_law_text", "_law_line_here"]) :: ("_law_first", sF,["_law_lines", "_law_bad"]) :: ("_law_spoilt_right", gM,["_law_pen_here", "_law_lines"]) :: ("law", g9,["_law_script"]) :: []
noncomputable def ycs:List Str:=["NoWeb", "NoNode", "NoFact"]
structure Adr where
 f:Nat->Qz×FuncData
 i:Qz×FuncData
 xa:Qz
 xd:Qz
 xn:Qz
 y:Nat->Qz
 fO:Tok
 mf:Tok
 i7:Tok
 jg:Tok
structure Txt (K:Fg) (mg:Qg) (t:Adr):Prop where
 d:∀ i {x st ps},Ws[i]?=some (x,st,ps)->Fa K mg x st ps (t.f i)
 lG:mg "ValueError" = none
 xh:mg "abs" = none
 wJ:mg "all" = none
 yX:mg "bool" = none
 nJ:mg "enumerate" = none
 vZ:mg "int" = none
 ah:mg "isinstance" = none
 cA:mg "len" = none
 tj:mg "list" = none
 eD:mg "range" = none
 yh:mg "sorted" = none
 jj:mg "str" = none
 dg:mg "tuple" = none
 fN:mg "GREATEST_NUMBER" = some (Value.int 999999999999999999999999999999 t.fO)
 gw:mg "MOST_FACTS" = some (Value.int 400 t.mf)
 jk:mg "MOST_FIGURES" = some (Value.int 30 t.i7)
 ji:mg "MOST_LETTERS" = some (Value.int 8 t.jg)
 xc:gu K t.xa (some (.ref t.i.1))
 xf:F6 K t.xa t.xd "line"
 xm:mg "NoText" = some (.ref t.xa)
 kp:PySem.W.keepIn K (.ref t.xa)=true
 Fi:Qo K "__init__" "NoText.__init__" cq t.i.1 t.i.2
 bi:Binds K t.i.2 ["self", "line"] []
 fo:∃ o,K.lookup t.i.1=some o/\o.cls=.type "function"
 xd:gu K t.xd none
 xdm:mg "ShapeError" = some (.ref t.xd)
 mr:PySem.W.mroIn K t.xa (.ref t.xd)=some true
 mv:PySem.W.mroIn K t.xa (.type "ValueError")=some true
 xn:gu K t.xn none
 Zt:mg "NoFact" = some (.ref t.xn)
 xnr:PySem.W.mroIn K t.xn (.ref t.xn)=some true
 y:∀ i {x},ycs[i]?=some x->Ya K mg t.xa x (t.y i)
noncomputable def OP:List Qq:=[]
def gav (t:Adr):Nat->V:=fun g=>([]:List V)[g]?.getD .non
theorem aV {K:Fg} {mg:Qg} {t:Adr} (T:Txt K mg t):∀ g d,OP[g]?=some d->∀ F H,Dm K F H d (gav t g):=by intro g d h F H;cases h
theorem Xz:((Str.ofString "web").length<=sizeLine/\PyData.strOk "web" = true)/\((Str.ofString "refused").length<=sizeLine/\PyData.strOk "refused" = true):=⟨⟨by decide +kernel,dR _⟩,⟨by decide +kernel,dR _⟩⟩
theorem t8 {P:Program} {w:World} {K:Fg} {mg:Qg} {base:Heap} {t:Adr} (T:Txt K mg t):Fj P w K mg base t.xa t.i.1 "line" t.i.2 ["self", "line"] :=
 ⟨T.xc,T.fo,T.kp,T.Fi.okH (Xy (N:=["self", "line"])) (fun vs H Q E ⟨e,v,h,_⟩=>by rw [h];rfl) (fun OA A outer s H vs Q E h=>⟨B5 t.xa "line", zW T.xc T.xf rfl T.xdm rfl rfl rfl (Or.inl rfl) (Or.inl rfl) rfl rfl rfl rfl (by decide) rfl ⟨_,rfl⟩ rfl,by obtain ⟨e,v,rfl,hp,he,q⟩:=h;exact ⟨e,v,rfl,rfl,hp,he,q⟩⟩),T.bi⟩
abbrev Ol:XE:=vr 0
abbrev OG:XE:=vr 1
abbrev OQ:XE:=vr 2
abbrev Pq:XE:=vr 3
abbrev QD:XE:=vr 4
abbrev Ro:XE:=vr 5
abbrev XB:XE:=vr 6
abbrev vr7:XE:=vr 7
abbrev vr8:XE:=vr 8
abbrev vr9:XE:=vr 9
abbrev K0:XE:=vr 10
abbrev J7:XE:=vr 11
abbrev KY:XE:=vr 12
abbrev O5:XE:=ci 0
abbrev Pa:XE:=ci 1
abbrev PL:XE:=ci 2
abbrev Ox (a:XE):XA:=.cons a .nil
abbrev OK (a b:XE):XA:=.cons a (.cons b .nil)
abbrev Sx (a b c:XE):XA:=.cons a (.cons b (.cons c .nil))
abbrev Vi (a b c d:XE):XA:=.cons a (.cons b (.cons c (.cons d .nil)))
def d5:XS :=
 (.seq (.ifs (.or (.not (.OB (p1 (jD "str") Ol))) (.not (.OB (.SR SV SV OG (p1 i5 Ol) (ci 8))))) (.ret (.cst (.b false))) .skip)
  (.ret (p1 BN (.cmp [] (.str Ol) .yes (.SR SV SV (cs "a") Ol (cs "z"))))))
def aN:Fn:=bV OP [.dat,.dat] 2 d5
def jG:XS :=
 (.ret (.call aN (OK Ol Pa)))
def aZ:Fn:=bV OP [.dat] 1 jG
def iR:XS :=
 (.ret (.qk (p1 (jD "int") Ol) (.Bj (p1 (jD "bool") Ol))))
def cF:Fn:=bV OP [.dat] 1 iR
def gq:XS :=
 (.ret (.qk (.call cF (Ox Ol)) (p2 SV (p1 Cr Ol) (ci 999999999999999999999999999999))))
def bT:Fn:=bV OP [.dat] 1 gq
def ju:XS :=
 (.ret (.qk (p1 (jD "tuple") Ol) (.qk (p2 P8 (p1 i5 Ol) Pa) (.call aN (OK (p2 OC Ol O5) O5)))))
def bC:Fn:=bV OP [.dat] 1 ju
def jK:XS :=
 (.ret (.TR (.call aZ (Ox Ol)) (.TR (.call bT (Ox Ol)) (.call bC (Ox Ol)))))
def dU:Fn:=bV OP [.dat] 1 jK
def jx:XS :=
 (.seq (.ifs (.OB (p1 (jD "str") Ol)) (.ret (cs "thing")) .skip)
  (.seq (.ifs (.OB (p1 (jD "tuple") Ol)) (.ret (cs "said")) .skip)
  (.ret (cs "number"))))
def bD:Fn:=bV OP [.dat] 1 jx
def iA:XS :=
 (.seq (.bu 1 (.call bD (Ox Ol)))
  (.seq (.ifs (.OB (p2 P8 OG (cs "number"))) (.ret (.tup (Sx O5 Ol (cs "")))) .skip)
  (.seq (.ifs (.OB (p2 P8 OG (cs "said"))) (.ret (.tup (Sx Pa O5 (p2 OC Ol O5)))) .skip)
  (.ret (.tup (Sx PL O5 Ol))))))
def cC:Fn:=bV OP [.dat] 2 iA
def gI:XS :=
 (.seq (.bu 1 (.call bD (Ox Ol)))
  (.seq (.ifs (.OB (p2 P8 OG (cs "number"))) (.ret (p1 FZ Ol)) .skip)
  (.seq (.ifs (.OB (p2 P8 OG (cs "said"))) (.ret (p2 bh (cs "'") (p2 OC Ol O5))) .skip)
  (.ret Ol))))
def bR:Fn:=bV OP [.dat] 2 gI
def gr:XS :=
 (.seq (.bu 1 (.Sj (.OB (.met rD Ol (Ox (cs "-")))) (p2 Gd Ol Pa) Ol))
  (.seq (.ifs (.or (.not (.OB (.SR SV SV Pa (p1 i5 OG) (ci 30)))) (.not (.OB (p1 BN (.cmp [] (.str OG) .yes (.SR SV SV (cs "0") Ol (cs "9"))))))) (.ret (.cst .n)) .skip)
  (.seq (.bu 2 (p1 tu Ol))
  (.ret (.Sj (.OB (p2 P8 (p1 FZ OQ) Ol)) OQ (.cst .n))))))
def bP:Fn:=bV OP [.dat] 3 gr
def jq:XS :=
 (.seq (.ifs (.not (.OB (p1 (jD "str") Ol))) (.ret (.cst .n)) .skip)
  (.seq (.ifs (.OB (.met rD Ol (Ox (cs "'")))) (.seq (.bu 1 (.tup (Ox (p2 Gd Ol Pa))))
  (.ret (.Sj (.OB (.call bC (Ox OG))) OG (.cst .n)))) .skip)
  (.ret (.Sj (.OB (.call aZ (Ox Ol))) Ol (.call bP (Ox Ol))))))
def dM:Fn:=bV OP [.dat] 2 jq
def jN:XS :=
 (.seq (.ifs (.or (.not (.OB (p1 (jD "tuple") Ol))) (.OB (p2 Tj (p1 i5 Ol) (ci 3)))) (.ret (.cst (.b false))) .skip)
  (.ret (.qk (.call aZ (Ox (p2 OC Ol O5))) (.qk (.call aZ (Ox (p2 OC Ol Pa))) (.call dU (Ox (p2 OC Ol PL)))))))
def bE:Fn:=bV OP [.dat] 1 jN
def gG:XS :=
 (.ret (.met joinM (cs " ") (Ox (.lst (Sx (p2 OC Ol O5) (p2 OC Ol Pa) (.call bR (Ox (p2 OC Ol PL))))))))
def bQ:Fn:=bV OP [.dat] 1 gG
def fY:XS :=
 (.seq (.bu 1 (.Sj (.OB (p1 (jD "str") Ol)) (.met splitM Ol (Ox (cs " "))) (.lst .nil)))
  (.seq (.ifs (.OB (p2 Tj (p1 i5 OG) (ci 3))) (.ret (.cst .n)) .skip)
  (.seq (.bu 2 (.tup (Sx (p2 OC OG O5) (p2 OC OG Pa) (.call dM (Ox (p2 OC OG PL))))))
  (.seq (.ifs (.not (.OB (.call bE (Ox OQ)))) (.ret (.cst .n)) .skip)
  (.ret (p1 nnP OQ))))))
def bO:Fn:=bV OP [.dat] 3 fY
def iO:XS :=
 (.ret (.tup (Sx (p2 OC Ol O5) (p2 OC Ol Pa) (.call cC (Ox (p2 OC Ol PL))))))
def bq:Fn:=bV OP [.dat] 1 iO
def b6:XS :=
 (.seq (.vX 1 (.Si wD .nil))
  (.seq (.fr 2 (.sq Ol) (.Sk kB 1 OQ (.cst (.b true))))
  (.ret (p1 (Sg.pH UC bq rfl) OG))))
def aY:Fn:=bV OP [.dat] 3 b6
def gh:XS :=
 (.ret (p1 BN (.cmp [] (.sq Ol) .yes (.call bE (Ox Ol)))))
def bS:Fn:=bV OP [.dat] 1 gh
def lx:XS :=
 (.seq (.ifs (.or (.not (.OB (p1 Fb Ol))) (.not (.OB (.call bS (Ox Ol))))) .VS .skip)
  (.seq (.bu 1 (p1 yt (.call aY (Ox Ol))))
  (.seq (.ifs (.OB (p2 U9 (p1 i5 OG) (ci 400))) .VS .skip)
  (.ret OG))))
def bG:Fn:=bV OP [.dat] 2 lx
def iF:XS :=
 (.ret (.met joinM (cs "\n") (Ox (.cmp [] (.tup Ol) .yes (.call bQ (Ox Ol))))))
def cw:Fn:=bV OP [.dat] 1 iF
def cZ:XS :=
 (.ret (p2 Zh (.call bO (Ox Ol)) OG))
def bw:Fn:=bV OP [.dat,.dat] 3 cZ
def eH:XS :=
 (.seq (.ifs (.not (.OB (p1 (jD "str") Ol))) (.ret (p1 GX O5)) .skip)
  (.seq (.bu 1 (.Sj (.TU Ol) (.met splitM Ol (Ox (cs "\n"))) (.lst .nil)))
  (.seq (.vX 2 (.Si wD .nil))
  (.seq (.U5 [3,4] (.U4 OG) (.seq (.seq (.drop (p1 nlP OQ)) (.seq (.bu 5 (.call bw (OK QD Pq))) (.ifs (.OB (p1 Ia Ro)) (.ret Ro) (.Sk kB 2 Ro (.cst (.b true))))))
  (.ifs (.OB (p2 U9 (p1 Bh OQ) (ci 400))) (.ret (p1 GX Pq)) .skip)))
  (.ret (p1 ntP (.call bG (Ox (p1 zA OQ)))))))))
def aJ:Fn:=bV OP [.dat] 6 eH
noncomputable def CF:XS :=
 (.ret (.VR (.cons (cs "script") Ol (.cons (cs "at") O5 (.cons (cs "left") O5 .nil)))))
def oR:Fn:=bV OP [.dat] 1 CF
def vA:XS :=
 (.seq (.bu 2 (p2 kE Ol (cs "at")))
  (.seq (.ifs (.OB (p2 P8 (p2 kE Ol (cs "left")) O5)) (.seq (.Sk kB 0 (cs "at") (p2 bh OQ Pa))
  (.seq (.bu 3 (ci 2333))
  (.seq (.ifs (.OB (p2 U9 (p1 i5 (p2 kE Ol (cs "script"))) O5)) (.bu 3 (p2 OC (p2 kE Ol (cs "script")) (p2 qY OQ (p1 i5 (p2 kE Ol (cs "script")))))) .skip)
  (.seq (.ifs (.or (.OB (p2 Ψ OQ (p1 i5 (p2 kE Ol (cs "script"))))) (.OB (p2 V1 (p1 Cr Pq) (p2 Gb (ci 10) (ci 18))))) (.seq (.bu 3 (p2 bh (p2 bh (p2 qY Pq (ci 2147483353)) (p2 wI (ci 179424673) OQ)) (ci 1103)))
  (.seq (.bu 4 (p2 qY (p2 wI Pq (ci 39373)) (ci 2147483647)))
  (.seq (.bu 4 (p2 qY (p2 bh (p2 bh (p2 wI QD QD) (p2 wI (ci 1601) QD)) (p2 wI (ci 86028121) OQ)) (ci 2147483579)))
  (.ret (p2 qY (p2 uW (p2 qY (p2 wI QD (ci 48271)) (ci 2147483629)) (ci 27)) OG))))) .skip)
  (.Sk kB 0 (cs "left") (p1 Cr Pq)))))) .skip)
  (.seq (.bu 5 (p2 qY (p2 kE Ol (cs "left")) OG))
  (.seq (.Sk kB 0 (cs "left") (p2 uW (p2 kE Ol (cs "left")) OG))
  (.ret Ro)))))
def ar:Fn:=bV OP [.GG,.dat] 6 vA
def sC:XS :=
 (.seq (.bu 2 (p2 OC (.lst (Vi (cs "") (cs "") (cs "") (p2 OC (.lst (.cons (cs "any") (.cons (cs "keeps") (Vi (cs "least") (cs "is") (cs "all") (cs "many"))))) (.call ar (OK Ol (ci 6)))))) (.call ar (OK Ol (ci 4)))))
  (.seq (.wh 100 (.OB (p2 V1 (p1 i5 OQ) OG)) (.bu 2 (p2 bh OQ (p2 OC (cs "abcdefghijklmnopqrstuvwxyz") (.call ar (OK Ol (ci 26)))))))
  (.ret (p2 Am OQ OG))))
def cW:Fn:=bV OP [.GG,.dat] 3 sC
def tX:XS :=
 (.seq (.bu 1 (.call ar (OK Ol (ci 4))))
  (.seq (.ifs (.OB (p2 P8 OG O5)) (.ret (p2 BR (.call ar (OK Ol (ci 21))) (ci 10))) .skip)
  (.seq (.ifs (.OB (p2 P8 OG Pa)) (.ret (p2 wI (p2 OC (.lst (OK Pa (p1 GD Pa))) (.call ar (OK Ol PL))) (p2 BR (p2 BR (p2 Gb (ci 10) (ci 30)) Pa) (.call ar (OK Ol (p2 Gb (ci 10) (ci 9))))))) .skip)
  (.seq (.ifs (.OB (p2 P8 OG PL)) (.ret (.tup (Ox (.call cW (OK Ol (.call ar (OK Ol (ci 9)))))))) .skip)
  (.ret (.call cW (OK Ol (p2 bh Pa (.call ar (OK Ol (ci 3)))))))))))
def i4:Fn:=bV OP [.GG] 2 tX
def pM:XS :=
 (.seq (.ifs (.OB (p2 P8 (.call ar (OK Ol (ci 8))) O5)) (.seq (.bu 1 (cs "abcdefghijklmnopqrstu"))
  (.seq (.bu 2 (.call ar (OK Ol (ci 420))))
  (.seq (.bu 3 (.cmp [2] (.Pl (Ox (p2 bh (ci 396) (.call ar (OK Ol (ci 8)))))) .yes (p2 qY (p2 wI (ci 17) (p2 bh Ol OG)) (ci 420))))
  (.ret (.cmp [1] (.lst Pq) .yes (.tup (Sx (p2 bh (cs "x") (p2 OC OG (p2 uW Ol (ci 21)))) (cs "b") (p2 OC OG (p2 qY Ol (ci 21)))))))))) .skip)
  (.seq (.vX 4 (.lst .nil))
  (.seq (.fr 5 (.Pl (Ox (.call ar (OK Ol (ci 31))))) (.seq (.drop (.Uw HP 4 (Ox (.tup (Sx (.call cW (OK Ol (p2 bh Pa (.call ar (OK Ol (ci 8)))))) (.call cW (OK Ol (p2 bh Pa (.call ar (OK Ol PL))))) (.call i4 (Ox Ol)))))))
  (.ifs (.OB (p2 P8 (.call ar (OK Ol (ci 3))) O5)) (.drop (.Uw HP 4 (Ox (p2 bh (p2 Am (p2 OC QD O5) PL) (.tup (Ox (.call i4 (Ox Ol)))))))) .skip)))
  (.ret (.U3 4)))))
def g6:Fn:=bV OP [.GG] 6 pM
def uK:XS :=
 (.seq (.BP [1,2,3] Ol)
  (.seq (.ifs (.OB (p1 (jD "str") Pq)) (.ret (p2 bh (p2 bh (p2 bh (p2 bh OG (cs " ")) OQ) (cs " ")) Pq)) .skip)
  (.seq (.ifs (.OB (p1 (jD "tuple") Pq)) (.ret (p2 bh (p2 bh (p2 bh (p2 bh OG (cs " ")) OQ) (cs " '")) (p2 OC Pq O5))) .skip)
  (.seq (.bu 4 (p1 Cr Pq))
  (.seq (.bu 5 (p2 OC (cs "0123456789") (p2 qY QD (ci 10))))
  (.seq (.wh 100 (.OB (p2 U9 QD (ci 9))) (.seq (.bu 4 (p2 uW QD (ci 10)))
  (.bu 5 (p2 bh (p2 OC (cs "0123456789") (p2 qY QD (ci 10))) Ro))))
  (.ret (p2 bh (p2 bh (p2 bh (p2 bh (p2 bh OG (cs " ")) OQ) (cs " ")) (p2 OC (.lst (OK (cs "") (cs "-"))) (p1 tu (p2 V1 Pq O5)))) Ro))))))))
def fT:Fn:=bV OP [.dat] 6 uK
def vH:XS :=
 (.seq (.ifs (.OB (p1 (jD "str") Ol)) (.ret PL) .skip)
  (.ret (p1 tu (p1 (jD "tuple") Ol))))
def ee:Fn:=bV OP [.dat] 1 vH
def mz:XS :=
 (.seq (.ifs (.OB (p2 Tj (p2 Am Ol PL) (p2 Am OG PL))) (.ret (p2 C7 (p2 Am Ol PL) (p2 Am OG PL))) .skip)
  (.seq (.ifs (.OB (p2 Tj (.call ee (Ox (p2 OC Ol PL))) (.call ee (Ox (p2 OC OG PL))))) (.ret (p2 C7 (.call ee (Ox (p2 OC Ol PL))) (.call ee (Ox (p2 OC OG PL))))) .skip)
  (.ret (p2 C7 (p2 OC Ol PL) (p2 OC OG PL)))))
def fH:Fn:=bV OP [.dat,.dat] 2 mz
def iE:XS :=
 (.seq (.bu 2 (.met splitM OG (Ox (cs " "))))
  (.seq (.bu 3 (p2 OC (.lst (.cons (cs "") (.cons (cs "-0") (.cons (cs "00") (.cons (cs "A") (.cons (cs "'A") (.cons (cs "abcdefghi") (Vi (cs "'abcdefghi") (p2 bh (cs "1") (p2 DC (cs "0") (ci 30))) (cs "+1") (cs "-"))))))))) (.call ar (OK Ol (ci 10)))))
  (.seq (.bu 4 (p2 OC (.lst (.cons (cs "") (.cons (cs "abcdefghi") (Vi (cs "A") (cs "5") (cs "'a") (cs "^a"))))) (.call ar (OK Ol (ci 6)))))
  (.seq (.bu 5 (.lst (.cons (cs "") (.cons (cs " ") (.cons (p2 bh OG (cs " ")) (Vi (p2 bh (cs " ") OG) (p2 bh OG (cs " a")) (p2 bh (p2 bh (p2 OC OQ O5) (cs " ")) (p2 OC OQ Pa)) (p2 OC OQ O5)))))))
  (.seq (.bu 5 (p2 bh Ro (.lst (Ox (p2 bh QD (p2 Gd OG (p1 i5 (p2 OC OQ O5))))))))
  (.seq (.bu 5 (p2 bh Ro (.lst (Sx (p2 bh (p2 bh (p2 bh (p2 bh (p2 OC OQ O5) (cs " ")) (p2 OC OQ Pa)) (cs " ")) Pq) (p2 bh (p2 bh (p2 bh (p2 bh (p2 OC OQ O5) (cs " ")) QD) (cs " ")) (p2 OC OQ PL)) (p2 bh (p2 OC OQ O5) (cs "  a b"))))))
  (.ret (p2 OC Ro (.call ar (OK Ol (p1 i5 Ro)))))))))))
def cu:Fn:=bV OP [.GG,.dat] 6 iE
def nj:XS :=
 (.ret (p1 (Xx "web" "refused" Xz.1 Xz.2) (.call aJ (Ox Ol))))
def cm:Fn:=bV OP [.dat] 2 nj
def jM:XS :=
 (.seq (.bu 2 (.call cm (Ox Ol)))
  (.ret (.qk (p2 P8 (p2 OC OQ O5) (cs "refused")) (.qk (.Bj (p1 (jD "bool") (p2 OC OQ Pa))) (p2 P8 (p2 OC OQ Pa) OG)))))
def a9:Fn:=bV OP [.dat,.dat] 3 jM
def qa:XS :=
 (.seq (.vX 2 (.Si wD .nil))
  (.seq (.fr 3 (.Pl (Ox (p1 i5 Ol))) (.seq (.Sk kB 2 (p2 OC Ol Pq) (.cst (.b true)))
  (.ifs (.or (.OB (p2 P8 (p2 OC Ol Pq) OG)) (.OB (p2 U9 (p1 Bh OQ) (ci 400)))) (.ret Pq) .skip)))
  (.ret (.cst .n))))
def dQ:Fn:=bV OP [.dat,.dat] 4 qa
def cT:XS :=
 (.seq (.bu 2 (.call cu (OK Ol (p2 OC OG (.call ar (OK Ol (p1 i5 OG)))))))
  (.seq (.bu 3 (.call ar (OK Ol (p2 bh (p1 i5 OG) Pa))))
  (.seq (.bu 4 (p2 bh (p2 bh (p2 Am OG Pq) (.lst (Ox OQ))) (p2 Gd OG (p2 bh Pq (.call ar (OK Ol PL))))))
  (.ret (.TR (p2 P8 QD (.lst (Ox (cs "")))) (.call a9 (OK (.met joinM (cs "\n") (Ox QD)) (.call dQ (OK QD OQ)))))))))
def aU:Fn:=bV OP [.GG,.dat] 5 cT
def zt:XS :=
 (.seq (.vX 1 (.call oR (Ox Ol)))
  (.seq (.bu 2 (.call g6 (Ox OG)))
  (.seq (.bu 3 (.cmp [] (.lst OQ) .yes (.call fT (Ox Ol))))
  (.seq (.bu 4 (.call dQ (OK Pq (.cst .n))))
  (.seq (.ifs (.OB (p2 zf QD (.cst .n))) (.seq (.ifs (.not (.OB (.call a9 (OK (.met joinM (cs "\n") (Ox Pq)) QD)))) (.ret (.cst (.b false))) .skip)
  (.ret (p1 BN (.cmp [1,3] (.Pl (Ox (ci 4))) .yes (.call aU (OK OG OQ)))))) .skip)
  (.seq (.bu 5 (.call bG (Ox OQ)))
  (.seq (.bu 6 (p1 CB Ro))
  (.seq (.fr 7 (.Pl (Ox (p2 BR (p1 i5 XB) Pa))) (.ifs (.not (.OB (.call fH (OK (p2 OC XB vr7) (p2 OC XB (p2 bh vr7 Pa)))))) (.ret (.cst (.b false))) .skip))
  (.seq (.bu 8 (.met joinM (cs "\n") (Ox (.cmp [] (.lst XB) .yes (.call fT (Ox Ol))))))
  (.seq (.bu 9 (.call cw (Ox Ro)))
  (.seq (.ifs (.or (.not (.OB (p1 (jD "str") vr9))) (.or (.OB (p2 Tj vr9 vr8)) (.OB (p2 Tj (.call cm (Ox vr8)) (.lst (OK (cs "web") Ro)))))) (.ret (.cst (.b false))) .skip)
  (.seq (.ifs (.OB (p2 P8 Pq (.lst .nil))) (.seq (.bu 3 (.lst (Ox (cs "a b 1"))))
  (.bu 5 (.call bG (Ox (.lst (Ox (.tup (Sx (cs "a") (cs "b") Pa)))))))) .skip)
  (.seq (.bu 10 (p2 bh (p2 K3 Pq (p1 GD Pa)) (.cmp [3,1] (.Pl (Ox (.call ar (OK OG (ci 3))))) .yes (p2 OC OG (.call ar (OK OQ (p1 i5 OG)))))))
  (.seq (.bu 11 (.call cm (Ox (.met joinM (cs "\n") (Ox K0)))))
  (.seq (.ifs (.or (.OB (p2 Tj J7 (.lst (OK (cs "web") Ro)))) (.not (.OB (p1 (jD "tuple") (p2 OC J7 Pa))))) (.ret (.cst (.b false))) .skip)
  (.seq (.fr 7 (.Pl (Ox (ci 8))) (.ifs (.not (.OB (.call aU (OK OG Pq)))) (.ret (.cst (.b false))) .skip))
  (.seq (.fr 12 (.lst (.lst (.cons (.cst .n) (.cons (ci 5) (Vi (.cst (.b true)) (.lst (Ox (cs "a b 1"))) (.tup (Sx (cs "a") (cs "b") Pa)) (.Si wD .nil)))))) (.ifs (.not (.OB (.call a9 (OK KY O5)))) (.ret (.cst (.b false))) .skip))
  (.ret (.cst (.b true))))))))))))))))))))
def sQ:Fn:=bV OP [.dat] 13 zt
def zu (K:Fg):Sp:=gT sQ K
section
variable (P:Program) (w:World) (K:Fg) (mg:Qg) (base:Heap) (t:Adr)
abbrev O (i l:Nat) (f:Fn):=fI P w K mg base CX0 l (t.f i).1 (t.f i).2 (Ws.getD i IG).2.2 (gT f K)
abbrev OX (i l:Nat) (f:Fn):=fI P w K mg base (PJ P w) l (t.f i).1 (t.f i).2 (Ws.getD i IG).2.2 (Wl f t.xa "line" K)
abbrev OR (i l:Nat) (f:Fn):=fI P w K mg base (PJ P w) l (t.f i).1 (t.f i).2 (Ws.getD i IG).2.2 (Xn f t.xn K)
end
section
variable {P:Program} {w:World} {K:Fg} {mg:Qg} {base:Heap} {t:Adr} {n:Nat} {OA:Qj} {A:Around} {outer:List Env} {s:Qx} {H:Hp} {E:XK}
theorem je (T:Txt K mg t):O P w K mg base t 0 1 aN :=
 (T.d 0 rfl).okN ["thing", "fewest"] (aV T) fun S hr=>aC (cN (eW (xG (du (Pp (QC T.ah (AA 0) T.jj))) (mD (du (sO eZ eZ (AA 1) (Pj aR T.cA (EE (AA 0) ai)) (jX (v:=.int 8) rfl T.ji ⟨_,rfl⟩ rfl) (by with_unfolding_all rfl)))))) (aM (ba Rv)) cL) (aM (ba (Pj (ko rfl) T.wJ (EE (Tv [] (θ (AA 0)) SN (eC fun _ _ _ _=>(yR eZ eZ ay (AA 0) ay (by with_unfolding_all rfl))) (SK (sc:=aa cQ) rfl (by decide +kernel)) trivial) ai))))
theorem qQ (T:Txt K mg t) (G0:O P w K mg base t 0 1 aN):O P w K mg base t 1 2 aZ :=
 (T.d 1 rfl).okN ["thing"] (aV T) fun S hr=>aM (ba (Ow G0 hr (T.d 0 rfl) (EE (AA 0) (EE au ai))))
theorem nQ (T:Txt K mg t):O P w K mg base t 2 1 cF :=
 (T.d 2 rfl).okN ["thing"] (aV T) fun S hr=>aM (ba (yZ (QC T.ah (AA 0) T.vZ) (Be (Kc (QC T.ah (AA 0) T.yX)))))
theorem lH (T:Txt K mg t) (G2:O P w K mg base t 2 1 cF):O P w K mg base t 3 2 bT :=
 (T.d 3 rfl).okN ["thing"] (aV T) fun S hr=>aM (ba (yZ (Ow G2 hr (T.d 2 rfl) (EE (AA 0) ai)) (Be (xB eZ (Pj kZ T.xh (EE (AA 0) ai)) (jX (v:=.int 999999999999999999999999999999) rfl T.fN ⟨_,rfl⟩ rfl) (d4 _)))))
theorem qB (T:Txt K mg t) (G0:O P w K mg base t 0 1 aN):O P w K mg base t 4 2 bC :=
 (T.d 4 rfl).okN ["thing"] (aV T) fun S hr=>aM (ba (yZ (QC T.ah (AA 0) T.dg) (yZ (xB (bx hr.units) (Pj aR T.cA (EE (AA 0) ai)) au (d4 _)) (Be (Ow G0 hr (T.d 0 rfl) (EE (OF (AA 0) au) (EE au ai)))))))
theorem qM (T:Txt K mg t) (G1:O P w K mg base t 1 2 aZ) (G3:O P w K mg base t 3 2 bT) (G4:O P w K mg base t 4 2 bC):O P w K mg base t 5 3 dU :=
 (T.d 5 rfl).okN ["thing"] (aV T) fun S hr=>aM (ba (Yi (Ow G1 hr (T.d 1 rfl) (EE (AA 0) ai)) (Yi (Ow G3 hr (T.d 3 rfl) (EE (AA 0) ai)) (Be (Ow G4 hr (T.d 4 rfl) (EE (AA 0) ai))))))
theorem qz (T:Txt K mg t):O P w K mg base t 6 1 bD :=
 (T.d 6 rfl).okN ["node"] (aV T) fun S hr=>aC (cN (Pp (QC T.ah (AA 0) T.jj)) (aM (ba ay)) cL) (aC (cN (Pp (QC T.ah (AA 0) T.dg)) (aM (ba ay)) cL) (aM (ba ay)))
theorem nI (T:Txt K mg t) (G6:O P w K mg base t 6 1 bD):O P w K mg base t 7 2 cC :=
 (T.d 7 rfl).okN ["node", "kind"] (aV T) fun S hr=>aC (OJ S.nd 1 (Ow G6 hr (T.d 6 rfl) (EE (AA 0) ai))) (aC (cN (O9 (bx hr.units) (AA 1) ay) (aM (ba (oV (EE au (EE (AA 0) (EE ay ai)))))) cL) (aC (cN (O9 (bx hr.units) (AA 1) ay) (aM (ba (oV (EE au (EE au (EE (OF (AA 0) au) ai)))))) cL) (aM (ba (oV (EE au (EE au (EE (AA 0) ai))))))))
theorem lr (T:Txt K mg t) (G6:O P w K mg base t 6 1 bD):O P w K mg base t 8 2 bR :=
 (T.d 8 rfl).okN ["node", "kind"] (aV T) fun S hr=>aC (OJ S.nd 1 (Ow G6 hr (T.d 6 rfl) (EE (AA 0) ai))) (aC (cN (O9 (bx hr.units) (AA 1) ay) (aM (ba (T8 sd T.jj (EE (AA 0) ai)))) cL) (aC (cN (O9 (bx hr.units) (AA 1) ay) (aM (ba (Oz af ay (OF (AA 0) au)))) cL) (aM (ba (AA 0)))))
theorem l5 (T:Txt K mg t):O P w K mg base t 9 1 bP :=
 (T.d 9 rfl).okN ["text", "figures", "number"] (aV T) fun S hr=>aC (OJ S.nd 1 (UX (Pp (Rw (AA 0) (EE ay ai) mM Mq PySem.F.slot_str_startswith PySem.F.type_str_startswith rfl rfl rfl rfl rfl)) (Sd (PF cU (PF bJ dC)) (AA 0) (eP au) qA) (AA 0))) (aC (cN (eW (xG (du (sO eZ eZ au (Pj aR T.cA (EE (AA 1) ai)) (jX (v:=.int 30) rfl T.jk ⟨_,rfl⟩ rfl) (by with_unfolding_all rfl))) (mD (du (Pp (Pj (ko rfl) T.wJ (EE (Tv [] (θ (AA 1)) SN (eC fun _ _ _ _=>(yR eZ eZ ay (AA 0) ay (by with_unfolding_all rfl))) (SK (sc:=aa eT) rfl (by decide +kernel)) trivial) ai))))))) (aM (ba yS)) cL) (aC (OJ S.nd 2 (T8 j7 T.vZ (EE (AA 0) ai))) (aM (ba (UX (O9 (bx hr.units) (T8 sd T.jj (EE (AA 2) ai)) (AA 0)) (AA 2) yS)))))
theorem qS (T:Txt K mg t) (G4:O P w K mg base t 4 2 bC) (G1:O P w K mg base t 1 2 aZ) (G9:O P w K mg base t 9 1 bP):O P w K mg base t 10 3 dM :=
 (T.d 10 rfl).okN ["text", "said"] (aV T) fun S hr=>aC (cN (du (Pp (QC T.ah (AA 0) T.jj))) (aM (ba yS)) cL) (aC (cN (Pp (Rw (AA 0) (EE ay ai) mM Mq PySem.F.slot_str_startswith PySem.F.type_str_startswith rfl rfl rfl rfl rfl)) (aC (OJ S.nd 1 (oV (EE (Sd (PF cU (PF bJ dC)) (AA 0) (eP au) qA) ai))) (aM (ba (UX (Pp (Ow G4 hr (T.d 4 rfl) (EE (AA 1) ai))) (AA 1) yS)))) cL) (aM (ba (UX (Pp (Ow G1 hr (T.d 1 rfl) (EE (AA 0) ai))) (AA 0) (Ow G9 hr (T.d 9 rfl) (EE (AA 0) ai))))))
theorem qu (T:Txt K mg t) (G1:O P w K mg base t 1 2 aZ) (G5:O P w K mg base t 5 3 dU):O P w K mg base t 11 4 bE :=
 (T.d 11 rfl).okN ["thing"] (aV T) fun S hr=>aC (cN (eW (xG (du (Pp (QC T.ah (AA 0) T.dg))) (mD (O9 (iW hr.units) (Pj aR T.cA (EE (AA 0) ai)) au)))) (aM (ba Rv)) cL) (aM (ba (yZ (Ow G1 hr (T.d 1 rfl) (EE (OF (AA 0) au) ai)) (yZ (Ow G1 hr (T.d 1 rfl) (EE (OF (AA 0) au) ai)) (Be (Ow G5 hr (T.d 5 rfl) (EE (OF (AA 0) au) ai)))))))
theorem lz (T:Txt K mg t) (G8:O P w K mg base t 8 2 bR):O P w K mg base t 12 3 bQ :=
 (T.d 12 rfl).okN ["fact"] (aV T) fun S hr=>aM (ba (Rw ay (EE (gN (EE (OF (AA 0) au) (EE (OF (AA 0) au) (EE (Ow G8 hr (T.d 8 rfl) (EE (OF (AA 0) au) ai)) ai)))) ai) dW Mq Nh Ng rfl rfl rfl rfl rfl))
theorem lP (T:Txt K mg t) (Zu:O P w K mg base t 11 4 bE) (G10:O P w K mg base t 10 3 dM):OR P w K mg base t 13 5 bO :=
 (T.d 13 rfl).okR ["text", "words", "fact"] (aV T) fun S hr=>yu (OJ S.nd 1 (UX (Pp (QC T.ah (AA 0) T.jj)) (Rw (AA 0) (EE ay ai) km Mq PySem.F.slot_str_split PySem.F.type_str_split rfl rfl rfl rfl rfl) (gN ai))) (zz (O9 (iW hr.units) (Pj aR T.cA (EE (AA 1) ai)) au) T.xn rfl T.Zt hr.hd ay rfl pJ (yu (OJ S.nd 2 (oV (EE (OF (AA 1) au) (EE (OF (AA 1) au) (EE (Ow G10 hr (T.d 10 rfl) (EE (OF (AA 1) au) ai)) ai))))) (zz (du (Pp (Ow Zu hr (T.d 11 rfl) (EE (AA 2) ai)))) T.xn rfl T.Zt hr.hd ay rfl pJ (E7 (AA 2) Hg) rfl)) rfl)
theorem m7 (T:Txt K mg t) (G7:O P w K mg base t 7 2 cC):O P w K mg base t 14 3 bq :=
 (T.d 14 rfl).okN ["fact"] (aV T) fun S hr=>aM (ba (oV (EE (OF (AA 0) au) (EE (OF (AA 0) au) (EE (Ow G7 hr (T.d 7 rfl) (EE (OF (AA 0) au) ai)) ai)))))
theorem fX (T:Txt K mg t) (G14:O P w K mg base t 14 3 bq):O P w K mg base t 15 6 aY :=
 (T.d 15 rfl).okN ["facts", "once", "fact"] (aV T) fun S hr=>aC (OJ S.nd 1 xx) (aC (Vh (J4 (AA 0)) (Vg S.nd 2) (aM (uQ hr.units (AA 1) (AA 2) Rv rfl))) (aM (ba (Sg.Ex UC rfl G14 (hr.mono (by omega)) (T.d 14 rfl).b rfl T.yh (by decide +kernel) rfl (T.d 14 rfl).m rfl (EE (AA 1) ai) rfl))))
theorem mR (T:Txt K mg t) (Zu:O P w K mg base t 11 4 bE):O P w K mg base t 16 5 bS :=
 (T.d 16 rfl).okN ["things"] (aV T) fun S hr=>aM (ba (Pj (ko rfl) T.wJ (EE (Tv [] (J4 (AA 0)) SN (eC fun _ _ _ _=>(Ow Zu hr (T.d 11 rfl) (EE (AA 0) ai))) (SK (sc:=aa ft) rfl (by decide +kernel)) trivial) ai)))
theorem sU (T:Txt K mg t) (G16:O P w K mg base t 16 5 bS) (G15:O P w K mg base t 15 6 aY):O P w K mg base t 17 7 bG :=
 (T.d 17 rfl).okN ["facts", "web"] (aV T) fun S hr=>aC (cN (eW (xG (du (Pp (Gw rfl T.ah (AA 0) rfl (F5 (v:=.ty "list") rfl T.tj (by decide +kernel) rfl (by decide) rfl) (F5 (v:=.ty "tuple") rfl T.dg (by decide +kernel) rfl (by decide) rfl)))) (mD (du (Pp (Ow G16 hr (T.d 16 rfl) (EE (AA 0) ai))))))) (aM yV) cL) (aC (OJ S.nd 1 (T8 rB T.dg (EE (Ow G15 hr (T.d 15 rfl) (EE (AA 0) ai)) ai))) (aC (cN (O9 mS (Pj aR T.cA (EE (AA 1) ai)) (jX (v:=.int 400) rfl T.gw ⟨_,rfl⟩ rfl)) (aM yV) cL) (aM (ba (AA 1)))))
theorem nR (T:Txt K mg t) (G12:O P w K mg base t 12 3 bQ):O P w K mg base t 18 4 cw :=
 (T.d 18 rfl).okN ["web"] (aV T) fun S hr=>aM (ba (Rw ay (EE (Tv [] (eIT (AA 0)) SN (eC fun _ _ _ _=>(Ow G12 hr (T.d 12 rfl) (EE (AA 0) ai))) (SK (sc:=aa gE) rfl (by decide +kernel)) trivial) ai) dW Mq Nh Ng rfl rfl rfl rfl rfl))
theorem mE (T:Txt K mg t) (G13:OR P w K mg base t 13 5 bO):OX P w K mg base t 19 6 bw :=
 (T.d 19 rfl).Xo ["row", "line", "fact"] (aV T) fun S hr=>Ek (i:=0) (j:=1) (m:=2) G13 (hr.mono (by omega)) rfl (T.d 13 rfl).m (T.d 13 rfl).F.kp (T.d 13 rfl).b rfl Dh S.nd rfl (.inl rfl) rfl rfl rfl (.inl rfl) rfl rfl rfl (.inl rfl) (.inl rfl) (.inl rfl) rfl rfl rfl (t8 T) rfl T.xm rfl (dp1 hr) T.xn T.xnr rfl T.Zt rfl rfl rfl rfl Du (fun _=>PassesOwnAt.leaving)
theorem n5 (T:Txt K mg t) (G19:OX P w K mg base t 19 6 bw) (XC:O P w K mg base t 17 7 bG):OX P w K mg base t 20 10 aJ :=
 (T.d 20 rfl).Xo ["text", "rows", "facts", "line", "row", "_ex"] (aV T) fun S hr=>vN (Ez (du (Pp (QC T.ah (AA 0) T.jj))) (we (o8 (t8 T).mk1 (hr.mono (by omega)) rfl T.xm rfl au rfl rfl DK zc)) Cp) (vN (Ce (OJ S.nd 1 (UX (K6 (AA 0) (fun _=>rfl)) (Rw (AA 0) (EE ay ai) km Mq PySem.F.slot_str_split PySem.F.type_str_split rfl rfl rfl rfl rfl) (gN ai))) fun _=>rfl) (vN (Ce (OJ S.nd 2 xx) fun _=>rfl) (vN (DU (eIE T.nJ (AA 1)) (ν (n:=2) rfl (Dt (i:=3) S.nd rfl (Or.inl rfl) (Or.inl rfl) (Dt (i:=4) S.nd rfl (Or.inl rfl) (Or.inl rfl) Jy)) rfl rfl) (vN (C4 (i:=2) (j:=5) hr.units G19 (hr.mono (by omega)) rfl (T.d 19 rfl).m (T.d 19 rfl).F.kp (T.d 19 rfl).b (EE (AA 4) (EE (AA 3) ai)) rfl rfl rfl Kq (AA 2) rfl (Ho rfl) (by decide) (tK yq (tK yq Fo)) rfl) (we (Ez (O9 mS (Pj oz T.cA (EE (AA 2) ai)) (jX (v:=.int 400) rfl T.gw ⟨_,rfl⟩ rfl)) (we (o8 (t8 T).mk1 (hr.mono (by omega)) rfl T.xm rfl (AA 3) rfl rfl DK zc)) Cp))) PassesOwn.leaving rfl (fun _=>rfl)) (we (E6 (Ow XC hr (T.d 17 rfl) (EE (T8 (tI rfl) T.tj (EE (AA 2) ai)) ai)) HK)))))
theorem EZ (T:Txt K mg t):O P w K mg base t 21 1 oR :=
 (T.d 21 rfl).okN ["_law_script"] (aV T) fun S hr=>aM (ba (Cm (Yj ay (AA 0) (Yj ay au (Yj ay au ePN))) (by rfl) (by rfl) (by simp) (by decide)))
theorem BC (T:Txt K mg t):O P w K mg base t 22 1 ar :=
 (T.d 22 rfl).okN ["_law_pen_here", "_law_most", "_law_at", "_law_cell", "_law_n", "_law_found"] (aV T) fun S hr=>aC (OJ S.nd 2 (lu hr.units (AA 0) ay (fun _ _=>rfl))) (aC (cN (O9 (bx hr.units) (lu hr.units (AA 0) ay (fun _ _=>rfl)) au) (aC (uQ hr.units (AA 0) ay (Oz af (AA 2) au) rfl) (aC (OJ S.nd 3 au) (aC (cN (O9 mS (Pj aR T.cA (EE (lu hr.units (AA 0) ay (fun _ _=>rfl)) ai)) au) (aM (OJ S.nd 3 (OF (lu hr.units (AA 0) ay (fun _ _=>rfl)) (Oz bI (AA 2) (Pj aR T.cA (EE (lu hr.units (AA 0) ay (fun _ _=>rfl)) ai)))))) cL) (aC (cN (eW (xG (O9 EK (AA 2) (Pj aR T.cA (EE (lu hr.units (AA 0) ay (fun _ _=>rfl)) ai))) (mD (O9 oH (Pj kZ T.xh (EE (AA 3) ai)) (Oz mW au au))))) (aC (OJ S.nd 3 (Oz af (Oz af (Oz bI (AA 3) au) (Oz c7 au (AA 2))) au)) (aC (OJ S.nd 4 (Oz bI (Oz c7 (AA 3) au) au)) (aC (OJ S.nd 4 (Oz bI (Oz af (Oz af (Oz c7 (AA 4) (AA 4)) (Oz c7 au (AA 4))) (Oz c7 au (AA 2))) au)) (aM (ba (Oz bI (Oz gP (Oz bI (Oz c7 (AA 4) au) au) au) (AA 1))))))) cL) (aM (uQ hr.units (AA 0) ay (Pj kZ T.xh (EE (AA 3) ai)) rfl)))))) cL) (aC (OJ S.nd 5 (Oz bI (lu hr.units (AA 0) ay (fun _ _=>rfl)) (AA 1))) (aC (uQ hr.units (AA 0) ay (Oz gP (lu hr.units (AA 0) ay (fun _ _=>rfl)) (AA 1)) rfl) (aM (ba (AA 5))))))
theorem zL (T:Txt K mg t) (Pb:O P w K mg base t 22 1 ar):O P w K mg base t 23 2 cW :=
 (T.d 23 rfl).okN ["_law_pen_here", "_law_many", "_law_word_here"] (aV T) fun S hr=>aC (OJ S.nd 2 (OF (gN (EE ay (EE ay (EE ay (EE (OF (gN (EE ay (EE ay (EE ay (EE ay (EE ay (EE ay ai))))))) (Ow Pb hr (T.d 22 rfl) (EE (AA 0) (EE au ai)))) ai))))) (Ow Pb hr (T.d 22 rfl) (EE (AA 0) (EE au ai))))) (aC (yB (O9 oH (Pj aR T.cA (EE (AA 2) ai)) (AA 1)) (aM (OJ S.nd 2 (Oz af (AA 2) (OF ay (Ow Pb hr (T.d 22 rfl) (EE (AA 0) (EE au ai))))))) PassesOwn.never) (aM (ba (Sd (PF cU (PF bJ dC)) (AA 2) qA (eP (AA 1))))))
theorem zD (T:Txt K mg t) (Pb:O P w K mg base t 22 1 ar) (Wt:O P w K mg base t 23 2 cW):O P w K mg base t 24 3 i4 :=
 (T.d 24 rfl).okN ["_law_pen_here", "_law_way"] (aV T) fun S hr=>aC (OJ S.nd 1 (Ow Pb hr (T.d 22 rfl) (EE (AA 0) (EE au ai)))) (aC (cN (O9 (bx hr.units) (AA 1) au) (aM (ba (Oz j0 (Ow Pb hr (T.d 22 rfl) (EE (AA 0) (EE au ai))) au))) cL) (aC (cN (O9 (bx hr.units) (AA 1) au) (aM (ba (Oz c7 (OF (gN (EE au (EE (eUy au) ai))) (Ow Pb hr (T.d 22 rfl) (EE (AA 0) (EE au ai)))) (Oz j0 (Oz j0 (Oz mW au au) au) (Ow Pb hr (T.d 22 rfl) (EE (AA 0) (EE (Oz mW au au) ai))))))) cL) (aC (cN (O9 (bx hr.units) (AA 1) au) (aM (ba (oV (EE (Ow Wt hr (T.d 23 rfl) (EE (AA 0) (EE (Ow Pb hr (T.d 22 rfl) (EE (AA 0) (EE au ai))) ai))) ai)))) cL) (aM (ba (Ow Wt hr (T.d 23 rfl) (EE (AA 0) (EE (Oz af au (Ow Pb hr (T.d 22 rfl) (EE (AA 0) (EE au ai)))) ai))))))))
theorem xg (T:Txt K mg t) (Pb:O P w K mg base t 22 1 ar) (G24:O P w K mg base t 24 3 i4) (Wt:O P w K mg base t 23 2 cW):O P w K mg base t 25 4 g6 :=
 (T.d 25 rfl).okN ["_law_pen_here", "_law_letters", "_law_turn", "_law_ways", "_law_facts_here", "_law_k"] (aV T) fun S hr=>aC (cN (O9 (bx hr.units) (Ow Pb hr (T.d 22 rfl) (EE (AA 0) (EE au ai))) au) (aC (Wq S.nd 1 ay) (aC (Wq S.nd 2 (Ow Pb hr (T.d 22 rfl) (EE (AA 0) (EE au ai)))) (aC (Gx (i:=3) ["_law_turn"] (Us rfl T.eD (EE (Oz af au (Ow Pb hr (T.d 22 rfl) (EE (AA 0) (EE au ai)))) ai) rfl) SN (eC fun _ _ _ _=>(Oz bI (Oz c7 au (Oz af (AA 0) (QL 1))) au)) S.nd rfl rfl rfl rfl (SK (sc:=aa i3) rfl (by decide +kernel)) (by decide +kernel) ⟨rfl,⟨rfl,rfl⟩,trivial⟩ (fun _=>rfl)) (aM (ba (Tv ["_law_letters"] (WX (AA 3)) SN (eC fun _ _ _ _=>(oV (EE (Oz af ay (OF (QL 1) (Oz gP (AA 0) au))) (EE ay (EE (OF (QL 1) (Oz bI (AA 0) au)) ai))))) (SK (sc:=aa i3) rfl (by decide +kernel)) ⟨rfl,⟨rfl,rfl⟩,trivial⟩)))))) cL) (aC (OJ S.nd 4 (gN ai)) (aC (Vh (Us rfl T.eD (EE (Ow Pb hr (T.d 22 rfl) (EE (AA 0) (EE au ai))) ai) rfl) (Vg S.nd 5) (aC (C9 (Rw (AA 4) (EE (oV (EE (Ow Wt hr (T.d 23 rfl) (EE (AA 0) (EE (Oz af au (Ow Pb hr (T.d 22 rfl) (EE (AA 0) (EE au ai)))) ai))) (EE (Ow Wt hr (T.d 23 rfl) (EE (AA 0) (EE (Oz af au (Ow Pb hr (T.d 22 rfl) (EE (AA 0) (EE au ai)))) ai))) (EE (Ow G24 hr (T.d 24 rfl) (EE (AA 0) ai)) ai)))) ai) l6 PySem.F.plainAttrs_list PySem.F.slot_list_append PySem.F.type_list_append rfl rfl rfl rfl rfl) rfl) (aM (cN (O9 (bx hr.units) (Ow Pb hr (T.d 22 rfl) (EE (AA 0) (EE au ai))) au) (aM (C9 (Rw (AA 4) (EE (Oz af (Sd (PF cU (PF bJ dC)) (OF (AA 4) au) qA (eP au)) (oV (EE (Ow G24 hr (T.d 24 rfl) (EE (AA 0) ai)) ai))) ai) l6 PySem.F.plainAttrs_list PySem.F.slot_list_append PySem.F.type_list_append rfl rfl rfl rfl rfl) rfl)) cL)))) (aM (ba (AA 4)))))
theorem Aq (T:Txt K mg t):O P w K mg base t 26 1 fT :=
 (T.d 26 rfl).okN ["_law_fact", "_law_thing", "_law_bond", "_law_node_here", "_law_rest", "_law_text"] (aV T) fun S hr=>aC (Kw (AA 0) (ν (n:=3) rfl (Dt (i:=1) S.nd rfl (Or.inl rfl) (Or.inl rfl) (Dt (i:=2) S.nd rfl (Or.inl rfl) (Or.inl rfl) (Dt (i:=3) S.nd rfl (Or.inl rfl) (Or.inl rfl) Jy))) rfl rfl) rfl rfl rfl) (aC (cN (Pp (QC T.ah (AA 3) T.jj)) (aM (ba (Oz af (Oz af (Oz af (Oz af (AA 1) ay) (AA 2)) ay) (AA 3)))) cL) (aC (cN (Pp (QC T.ah (AA 3) T.dg)) (aM (ba (Oz af (Oz af (Oz af (Oz af (AA 1) ay) (AA 2)) ay) (OF (AA 3) au)))) cL) (aC (OJ S.nd 4 (Pj kZ T.xh (EE (AA 3) ai))) (aC (OJ S.nd 5 (OF ay (Oz bI (AA 4) au))) (aC (yB (O9 mS (AA 4) au) (aC (OJ S.nd 4 (Oz gP (AA 4) au)) (aM (OJ S.nd 5 (Oz af (OF ay (Oz bI (AA 4) au)) (AA 5))))) PassesOwn.never) (aM (ba (Oz af (Oz af (Oz af (Oz af (Oz af (AA 1) ay) (AA 2)) ay) (OF (gN (EE ay (EE ay ai))) (T8 j7 T.vZ (EE (xB oH (AA 3) au (d4 _)) ai)))) (AA 5)))))))))
theorem BF (T:Txt K mg t):O P w K mg base t 27 1 ee :=
 (T.d 27 rfl).okN ["_law_node_here"] (aV T) fun S hr=>aC (cN (Pp (QC T.ah (AA 0) T.jj)) (aM (ba au)) cL) (aM (ba (T8 j7 T.vZ (EE (QC T.ah (AA 0) T.dg) ai))))
theorem sr (T:Txt K mg t) (XD:O P w K mg base t 27 1 ee):O P w K mg base t 28 2 fH :=
 (T.d 28 rfl).okN ["_law_one", "_law_other"] (aV T) fun S hr=>aC (cN (O9 (iW hr.units) (Sd (PF cU (PF bJ dC)) (AA 0) qA (eP au)) (Sd (PF cU (PF bJ dC)) (AA 1) qA (eP au))) (aM (ba (xB (nX hr.tF) (Sd (PF cU (PF bJ dC)) (AA 0) qA (eP au)) (Sd (PF cU (PF bJ dC)) (AA 1) qA (eP au)) (d4 _)))) cL) (aC (cN (O9 (iW hr.units) (Ow XD hr (T.d 27 rfl) (EE (OF (AA 0) au) ai)) (Ow XD hr (T.d 27 rfl) (EE (OF (AA 1) au) ai))) (aM (ba (xB (nX hr.tF) (Ow XD hr (T.d 27 rfl) (EE (OF (AA 0) au) ai)) (Ow XD hr (T.d 27 rfl) (EE (OF (AA 1) au) ai)) (d4 _)))) cL) (aM (ba (xB (nX hr.tF) (OF (AA 0) au) (OF (AA 1) au) (d4 _)))))
theorem nZ (T:Txt K mg t) (Pb:O P w K mg base t 22 1 ar):O P w K mg base t 29 2 cu :=
 (T.d 29 rfl).okN ["_law_pen_here", "_law_text", "_law_words", "_law_end", "_law_name", "_law_some"] (aV T) fun S hr=>aC (OJ S.nd 2 (Rw (AA 1) (EE ay ai) km Mq PySem.F.slot_str_split PySem.F.type_str_split rfl rfl rfl rfl rfl)) (aC (OJ S.nd 3 (OF (gN (EE ay (EE ay (EE ay (EE ay (EE ay (EE ay (EE ay (EE (Qd af ay (Qd wm ay au)) (EE ay (EE ay ai))))))))))) (Ow Pb hr (T.d 22 rfl) (EE (AA 0) (EE au ai))))) (aC (OJ S.nd 4 (OF (gN (EE ay (EE ay (EE ay (EE ay (EE ay (EE ay ai))))))) (Ow Pb hr (T.d 22 rfl) (EE (AA 0) (EE au ai))))) (aC (OJ S.nd 5 (gN (EE ay (EE ay (EE (Qd af (AA 1) ay) (EE (Qd af ay (AA 1)) (EE (Qd af (AA 1) ay) (EE (Qd af (Qd af (OF (AA 2) au) ay) (OF (AA 2) au)) (EE (OF (AA 2) au) ai))))))))) (aC (OJ S.nd 5 (Qd af (AA 5) (gN (EE (Qd af (AA 4) (Sd (PF cU (PF bJ dC)) (AA 1) (eP (Pj aR T.cA (EE (OF (AA 2) au) ai))) qA)) ai)))) (aC (OJ S.nd 5 (Qd af (AA 5) (gN (EE (Qd af (Qd af (Qd af (Qd af (OF (AA 2) au) ay) (OF (AA 2) au)) ay) (AA 3)) (EE (Qd af (Qd af (Qd af (Qd af (OF (AA 2) au) ay) (AA 4)) ay) (OF (AA 2) au)) (EE (Qd af (OF (AA 2) au) ay) ai)))))) (aM (ba (OF (AA 5) (Ow Pb hr (T.d 22 rfl) (EE (AA 0) (EE (Pj aR T.cA (EE (AA 5) ai)) ai)))))))))))
theorem Az (T:Txt K mg t) (G20:OX P w K mg base t 20 10 aJ):O P w K mg base t 30 11 cm :=
 (T.d 30 rfl).okN ["_law_text", "_law_found"] (aV T) fun S hr=>IY (i:=1) (j:=0) (Bs:=[t.y 2,t.y 1,t.y 0]) (h1:=Xz.1) (h2:=Xz.2) G20 (hr.mono (by omega)) rfl (T.d 20 rfl).m (T.d 20 rfl).F.kp (T.d 20 rfl).b rfl rfl S.nd rfl (.inl rfl) (.inl rfl) (.inl rfl) rfl rfl rfl (.inl rfl) rfl rfl (by decide) rfl rfl rfl rfl rfl rfl rfl (by show ¬("e" : Str)∈(["_law_text", "_law_found"]:List Str);decide +kernel) T.xc T.xf T.xd T.mr rfl T.xdm rfl rfl rfl (fun _ _ z=>z) rfl T.ah rfl T.xm rfl rfl T.lG T.mv (fun _ _=>(by show PA _ _ (aL (tC (.ref (t.y 2))) (aL (tC (.ref (t.y 1))) (aL (tC (.ref (t.y 0))) dX)));exact JA.h (EE (jX (v:=.ref (t.y 2)) rfl (T.y 2 rfl).1 rfl rfl) (EE (jX (v:=.ref (t.y 1)) rfl (T.y 1 rfl).1 rfl rfl) (EE (jX (v:=.ref (t.y 0)) rfl (T.y 0 rfl).1 rfl rfl) ai))))) (by show 3<=sizeLine;decide) (fun B h=>by simp only [LJ,MD,M5] at h;rcases h with rfl | rfl | rfl <;> exact (T.y _ rfl).2) rfl
theorem qG (T:Txt K mg t) (XF:O P w K mg base t 30 11 cm):O P w K mg base t 31 12 a9 :=
 (T.d 31 rfl).okN ["_law_text", "_law_line_here", "_law_found"] (aV T) fun S hr=>aC (OJ S.nd 2 (Ow XF hr (T.d 30 rfl) (EE (AA 0) ai))) (aM (ba (yZ (xB (bx hr.units) (OF (AA 2) au) ay (d4 _)) (yZ (Kc (QC T.ah (OF (AA 2) au) T.yX)) (Be (xB (bx hr.units) (OF (AA 2) au) (AA 1) (d4 _)))))))
theorem wy (T:Txt K mg t):O P w K mg base t 32 1 dQ :=
 (T.d 32 rfl).okN ["_law_lines", "_law_bad", "_law_known", "_law_k"] (aV T) fun S hr=>aC (OJ S.nd 2 xx) (aC (Vh (Us rfl T.eD (EE (Pj aR T.cA (EE (AA 0) ai)) ai) rfl) (Vg S.nd 3) (aC (uQ hr.units (AA 2) (OF (AA 0) (AA 3)) Rv rfl) (aM (cN (eW (xG (O9 (bx hr.units) (OF (AA 0) (AA 3)) (AA 1)) (mD (O9 mS (Pj oz T.cA (EE (AA 2) ai)) au)))) (aM (ba (AA 3))) cL)))) (aM (ba yS)))
theorem iV (T:Txt K mg t) (G29:O P w K mg base t 29 2 cu) (Pb:O P w K mg base t 22 1 ar) (XG:O P w K mg base t 31 12 a9) (Zv:O P w K mg base t 32 1 dQ):O P w K mg base t 33 13 aU :=
 (T.d 33 rfl).okN ["_law_pen_here", "_law_lines", "_law_bad", "_law_at", "_law_some"] (aV T) fun S hr=>aC (OJ S.nd 2 (Ow G29 hr (T.d 29 rfl) (EE (AA 0) (EE (OF (AA 1) (Ow Pb hr (T.d 22 rfl) (EE (AA 0) (EE (Pj aR T.cA (EE (AA 1) ai)) ai)))) ai)))) (aC (OJ S.nd 3 (Ow Pb hr (T.d 22 rfl) (EE (AA 0) (EE (Oz af (Pj aR T.cA (EE (AA 1) ai)) au) ai)))) (aC (OJ S.nd 4 (Oz af (Oz af (Sd (PF cU (PF bJ dC)) (AA 1) qA (eP (AA 3))) (gN (EE (AA 2) ai))) (Sd (PF cU (PF bJ dC)) (AA 1) (eP (Oz af (AA 3) (Ow Pb hr (T.d 22 rfl) (EE (AA 0) (EE au ai))))) qA))) (aM (ba (Yi (xB (bx hr.units) (AA 4) (gN (EE ay ai)) (d4 _)) (Be (Ow XG hr (T.d 31 rfl) (EE (Rw ay (EE (AA 4) ai) dW Mq Nh Ng rfl rfl rfl rfl rfl) (EE (Ow Zv hr (T.d 32 rfl) (EE (AA 4) (EE (AA 2) ai))) ai)))))))))
theorem DT (T:Txt K mg t) (G21:O P w K mg base t 21 1 oR) (G25:O P w K mg base t 25 4 g6) (G26:O P w K mg base t 26 1 fT) (Zv:O P w K mg base t 32 1 dQ) (XG:O P w K mg base t 31 12 a9) (G33:O P w K mg base t 33 13 aU) (XC:O P w K mg base t 17 7 bG) (G28:O P w K mg base t 28 2 fH) (G18:O P w K mg base t 18 4 cw) (XF:O P w K mg base t 30 11 cm) (Pb:O P w K mg base t 22 1 ar):O P w K mg base t 34 14 sQ :=
 (T.d 34 rfl).okN ["_law_script", "_law_pen_here", "_law_facts_here", "_law_lines", "_law_too_many", "_law_web", "_law_rising", "_law_k", "_law_text", "_law_found", "_law_again", "_law_told_here", "_law_thing"] (aV T) fun S hr=>aC (Wq S.nd 1 (Ow G21 hr (T.d 21 rfl) (EE (AA 0) ai))) (aC (OJ S.nd 2 (Ow G25 hr (T.d 25 rfl) (EE (QL 1) ai))) (aC (Wq S.nd 3 (Tv [] (WX (AA 2)) SN (eC fun _ _ _ _=>(Ow G26 hr (T.d 26 rfl) (EE (AA 0) ai))) (SK (sc:=aa g9) rfl (by decide +kernel)) trivial)) (aC (OJ S.nd 4 (Ow Zv hr (T.d 32 rfl) (EE (QL 3) (EE yS ai)))) (aC (cN (O9 tZ (AA 4) yS) (aC (cN (du (Pp (Ow XG hr (T.d 31 rfl) (EE (Rw ay (EE (QL 3) ai) dW Mq Nh Ng rfl rfl rfl rfl rfl) (EE (AA 4) ai))))) (aM (ba Rv)) cL) (aM (ba (Pj (ko rfl) T.wJ (EE (Tv ["_law_pen_here", "_law_lines"] (Us rfl T.eD (EE au ai) rfl) SN (eC fun _ _ _ _=>(Ow G33 hr (T.d 33 rfl) (EE (QL 1) (EE (QL 2) ai)))) (SK (sc:=aa g9) rfl (by decide +kernel)) ⟨rfl,⟨rfl,rfl⟩,⟨rfl,⟨rfl,rfl⟩,trivial⟩⟩) ai))))) cL) (aC (OJ S.nd 5 (Ow XC hr (T.d 17 rfl) (EE (AA 2) ai))) (aC (OJ S.nd 6 (T8 (xX rfl) T.tj (EE (AA 5) ai))) (aC (Vh (Us rfl T.eD (EE (Oz j0 (Pj aR T.cA (EE (AA 6) ai)) au) ai) rfl) (Vg S.nd 7) (aM (cN (du (Pp (Ow G28 hr (T.d 28 rfl) (EE (OF (AA 6) (AA 7)) (EE (OF (AA 6) (Oz af (AA 7) au)) ai))))) (aM (ba Rv)) cL))) (aC (OJ S.nd 8 (Rw ay (EE (Tv [] (WX (AA 6)) SN (eC fun _ _ _ _=>(Ow G26 hr (T.d 26 rfl) (EE (AA 0) ai))) (SK (sc:=aa g9) rfl (by decide +kernel)) trivial) ai) dW Mq Nh Ng rfl rfl rfl rfl rfl)) (aC (OJ S.nd 9 (Ow G18 hr (T.d 18 rfl) (EE (AA 5) ai))) (aC (cN (eW (xG (du (Pp (QC T.ah (AA 9) T.jj))) (xG (O9 (iW hr.units) (AA 9) (AA 8)) (mD (O9 (iW hr.units) (Ow XF hr (T.d 30 rfl) (EE (AA 8) ai)) (gN (EE ay (EE (AA 5) ai)))))))) (aM (ba Rv)) cL) (aC (cN (O9 (bx hr.units) (QL 3) (gN ai)) (aC (Wq S.nd 3 (gN (EE ay ai))) (aM (OJ S.nd 5 (Ow XC hr (T.d 17 rfl) (EE (gN (EE (oV (EE ay (EE ay (EE au ai)))) ai)) ai))))) cL) (aC (OJ S.nd 10 (Oz af (Ld (QL 3) qA qA (eP (eUy au))) (Tv ["_law_lines", "_law_pen_here"] (Us rfl T.eD (EE (Ow Pb hr (T.d 22 rfl) (EE (QL 1) (EE au ai))) ai) rfl) SN (eC fun _ _ _ _=>(OF (QL 1) (Ow Pb hr (T.d 22 rfl) (EE (QL 2) (EE (Pj aR T.cA (EE (QL 1) ai)) ai))))) (SK (sc:=aa g9) rfl (by decide +kernel)) ⟨rfl,⟨rfl,rfl⟩,⟨rfl,⟨rfl,rfl⟩,trivial⟩⟩))) (aC (OJ S.nd 11 (Ow XF hr (T.d 30 rfl) (EE (Rw ay (EE (AA 10) ai) dW Mq Nh Ng rfl rfl rfl rfl rfl) ai))) (aC (cN (eW (xG (O9 (iW hr.units) (AA 11) (gN (EE ay (EE (AA 5) ai)))) (mD (du (Pp (QC T.ah (OF (AA 11) au) T.dg)))))) (aM (ba Rv)) cL) (aC (Vh (Us rfl T.eD (EE au ai) rfl) (Vg S.nd 7) (aM (cN (du (Pp (Ow G33 hr (T.d 33 rfl) (EE (QL 1) (EE (QL 3) ai))))) (aM (ba Rv)) cL))) (aC (Vh (WX (gN (EE yS (EE au (EE Rv (EE (gN (EE ay ai)) (EE (oV (EE ay (EE ay (EE au ai)))) (EE xx ai)))))))) (Vg S.nd 12) (aM (cN (du (Pp (Ow XG hr (T.d 31 rfl) (EE (AA 12) (EE au ai))))) (aM (ba Rv)) cL))) (aM (ba Rv))))))))))))))))))
end
theorem Dv {P:Program} {w:World} {K:Fg} {mg:Qg} {base:Heap} {t:Adr} (T:Txt K mg t):fI P w K mg base CX0 14 (t.f 34).1 (t.f 34).2 ["_law_script"] (zu K):=by have h0:=EZ (P:=P) (w:=w) (base:=base) T;have h1:=BC (P:=P) (w:=w) (base:=base) T;have h2:=zL T h1;have h3:=zD T h1 h2;have h4:=xg T h1 h3 h2;have h5:=Aq (P:=P) (w:=w) (base:=base) T;have h6:=wy (P:=P) (w:=w) (base:=base) T;have h7:=je (P:=P) (w:=w) (base:=base) T;have h8:=qQ T h7;have h9:=nQ (P:=P) (w:=w) (base:=base) T;have YH:=lH T h9;have h11:=qB T h7;have h12:=qM T h8 YH h11;have h13:=qu T h8 h12;have h14:=l5 (P:=P) (w:=w) (base:=base) T;have VM:=qS T h11 h8 h14;have h16:=lP T h13 VM;have h17:=mE T h16;have h18:=mR T h13;have h19:=qz (P:=P) (w:=w) (base:=base) T;have h20:=nI T h19;have h21:=m7 T h20;have h22:=fX T h21;have h23:=sU T h18 h22;have h24:=n5 T h17 h23;have h25:=Az T h24;have h26:=qG T h25;have h27:=nZ T h1;have h28:=iV T h27 h1 h26 h6;have h29:=BF (P:=P) (w:=w) (base:=base) T;have h30:=sr T h29;have h31:=lr T h19;have h32:=lz T h31;have h33:=nR T h32;have h34:=DT T h0 h4 h5 h6 h26 h28 h23 h30 h33 h25 h1;exact h34
theorem DR {K:Fg} {h:Heap} {mg:Qg} (X:K.In h) (G:h.Ns mainGlobals mg) (D:BI K mg Ws)
  (va:PySem.W.nsIn K mainGlobals "ValueError" = some none)
  (vb:PySem.W.nsIn K mainGlobals "abs" = some none)
  (vc:PySem.W.nsIn K mainGlobals "all" = some none)
  (vd:PySem.W.nsIn K mainGlobals "bool" = some none)
  (ve:PySem.W.nsIn K mainGlobals "enumerate" = some none)
  (vf:PySem.W.nsIn K mainGlobals "int" = some none)
  (vg:PySem.W.nsIn K mainGlobals "isinstance" = some none)
  (vh:PySem.W.nsIn K mainGlobals "len" = some none)
  (vi:PySem.W.nsIn K mainGlobals "list" = some none)
  (vj:PySem.W.nsIn K mainGlobals "range" = some none)
  (vk:PySem.W.nsIn K mainGlobals "sorted" = some none)
  (vl:PySem.W.nsIn K mainGlobals "str" = some none)
  (vm:PySem.W.nsIn K mainGlobals "tuple" = some none)
  {vn:Tok} (vo:PySem.W.nsIn K mainGlobals "GREATEST_NUMBER" = some (some (Value.int 999999999999999999999999999999 vn)))
  {vp:Tok} (vq:PySem.W.nsIn K mainGlobals "MOST_FACTS" = some (some (Value.int 400 vp)))
  {vr:Tok} (vs:PySem.W.nsIn K mainGlobals "MOST_FIGURES" = some (some (Value.int 30 vr)))
  {vt:Tok} (vu:PySem.W.nsIn K mainGlobals "MOST_LETTERS" = some (some (Value.int 8 vt)))
  {xi xa Sy Tw:Qz}
  {vv:Option Qz} {vw:ClassData} {vx vy vz v0 v1:Option Qj} (xul:K.lookup xa=some ⟨.type "type", vv,.cls vw,#[vx,vy,vz,v0,some (.builtin "ValueError.__new__"),v1]⟩) {xub:List Qj} (xum:vw.mro=.ref xa :: xub) (xuh:vw.hasDel=false) (xut:PySem.W.tailIn K SW xub=true) (xun:PySem.W.nsOkIn K vw.ns=true) (xuj:PySem.W.nsIn K vw.ns "__init__" = some (some (.ref xi)))
  (v2:PySem.W.findIn K (.ref xa) "__class__" = some (some (.builtin "object.__class__"))) (v3:PySem.W.findIn K (.ref xa) "__getattribute__" = some (some (.builtin "BaseException.__getattribute__"))) (v4:PySem.W.findIn K (.ref xa) "__getattr__" = some none)
  {v5:Option Qz} {v6:ClassData} {v7 v8 v9 ua ub:Option Qj} (xbl:K.lookup Sy=some ⟨.type "type", v5,.cls v6,#[v7,v8,v9,ua,some (.builtin "ValueError.__new__"),ub]⟩) {xbb:List Qj} (xbm:v6.mro=.ref Sy :: xbb) (xbh:v6.hasDel=false) (xbt:PySem.W.tailIn K SW xbb=true) (xbn:PySem.W.nsOkIn K v6.ns=true) (xbj:PySem.W.nsIn K v6.ns "__init__" = some none)
  (uc:PySem.W.findIn K (.ref Sy) "__class__" = some (some (.builtin "object.__class__"))) (ud:PySem.W.findIn K (.ref Sy) "__getattribute__" = some (some (.builtin "BaseException.__getattribute__"))) (ue:PySem.W.findIn K (.ref Sy) "__getattr__" = some none)
  {uf:Option Qz} {ug:ClassData} {uh ui uj uk ul:Option Qj} (xvl:K.lookup Tw=some ⟨.type "type", uf,.cls ug,#[uh,ui,uj,uk,some (.builtin "ValueError.__new__"),ul]⟩) {xvb:List Qj} (xvm:ug.mro=.ref Tw :: xvb) (xvh:ug.hasDel=false) (xvt:PySem.W.tailIn K SW xvb=true) (xvn:PySem.W.nsOkIn K ug.ns=true) (xvj:PySem.W.nsIn K ug.ns "__init__" = some none)
  (um:PySem.W.findIn K (.ref Tw) "__class__" = some (some (.builtin "object.__class__"))) (un:PySem.W.findIn K (.ref Tw) "__getattribute__" = some (some (.builtin "BaseException.__getattribute__"))) (uo:PySem.W.findIn K (.ref Tw) "__getattr__" = some none)
  (gxa:PySem.W.nsIn K mainGlobals "NoText" = some (some (.ref xa))) (gxb:PySem.W.nsIn K mainGlobals "ShapeError" = some (some (.ref Sy)))
  (gxn:PySem.W.nsIn K mainGlobals "NoFact" = some (some (.ref Tw)))
  (sa:PySem.W.findIn K (.ref xa) "__setattr__" = some (some (.builtin "object.__setattr__"))) (po:F3 K xa=true) (tk:PySem.W.takerIn K xa "line" = some none) (hd:PySem.W.hasDictIn K xa=true) (sp:PySem.W.specialIn K (.ref Sy) "__getattribute__" = some (some (.builtin "type.__getattribute__"))) (rd:PySem.W.readsIn K Sy (.type "type")=true) (na:PySem.W.findIn K (.ref xa) "line" = some none) (fc:PySem.W.findCls K (.ref Sy) (.type "type") "__init__" = some (.val (.builtin "ValueError.__init__"))) (kpx:PySem.W.keepIn K (.ref xa)=true)
  {odI anI:Option Qz} {slI:Array (Option Qj)} {kVI dcI pmI Zw ctI:Qj} (lI:K.lookup xi=some ⟨.type "function", odI,.func (PySem.W.fnOf "__init__" "NoText.__init__" (dB cq) (aS cq) (aa cq) .none kVI dcI pmI anI Zw ctI),slI⟩) (cI:PySem.W.codeIn K Zw "NoText.__init__" = true) (kI:PySem.W.keepIn K (.ref xi)=true)
  (mr:PySem.W.mroIn K xa (.ref Sy)=some true) (mv:PySem.W.mroIn K xa (.type "ValueError")=some true) (mn:PySem.W.mroIn K Tw (.ref Tw)=some true)
  (Y:gu K xa (some (.ref xi))->DE K mg xa ycs)
  : ∃ t:Adr,(∀ (s:Qx) (u:Qj),BindsTo s (t.f 34).2 ⟨[u],[]⟩ [("_law_script", u)])/\Txt K mg t:=by
 obtain ⟨f,hf⟩:=Kt D;obtain ⟨y,hy⟩:=J8 (Y ⟨⟨_,_,_,_,_,_,_,_,xul,xum,xuh,xut,xun,xuj⟩,v2,v3,v4⟩)
 exact ⟨⟨f,(xi,PySem.W.fnOf "__init__" "NoText.__init__" (dB cq) (aS cq) (aa cq) .none kVI dcI pmI anI Zw ctI),xa,Sy,Tw,y,vn,vp,vr,vt⟩,fun s u=>.of_eq ((hf 34 rfl).c [u] rfl),⟨hf,
  Mr X G va,
  Mr X G vb,
  Mr X G vc,
  Mr X G vd,
  Mr X G ve,
  Mr X G vf,
  Mr X G vg,
  Mr X G vh,
  Mr X G vi,
  Mr X G vj,
  Mr X G vk,
  Mr X G vl,
  Mr X G vm,
  Nf X G vo,
  Nf X G vq,
  Nf X G vs,
  Nf X G vu,
  ⟨⟨_,_,_,_,_,_,_,_,xul,xum,xuh,xut,xun,xuj⟩,v2,v3,v4⟩,
  ⟨sa,po,tk,hd,sp,rd,na,fc⟩,
  Nf X G gxa,
  kpx,
  uz (st:=cq) lI cI kI,
  (uz (st:=cq) lI cI kI).binds (ps:=["self", "line"]) fun _ _ _ _ _ _ us hl=>match us,hl with | [_,_],_=>rfl,
  ⟨_,lI,rfl⟩,
  ⟨⟨_,_,_,_,_,_,_,_,xbl,xbm,xbh,xbt,xbn,xbj⟩,uc,ud,ue⟩,
  Nf X G gxb,
  mr,
  mv,
  ⟨⟨_,_,_,_,_,_,_,_,xvl,xvm,xvh,xvt,xvn,xvj⟩,um,un,uo⟩,
  Nf X G gxn,
  mn,
  hy⟩⟩
local macro_rules | `(tactic| walk_at "e")=>`(tactic| (case e9=>exact rfl))
local macro_rules | `(tactic| walk_at "p")=>`(tactic| first | with_reducible refine z6 ?_ | walk_at "p0")
local macro_rules | `(tactic| walk_at "p0")=>`(tactic| first
 | (with_reducible first | refine C6 ?_ | refine EY ?_ | refine Co ?_ | refine BU ?_ | refine BZ ?_ | refine Gy ?_ | refine GP ?_ | refine KU ?_ | refine GL ?_ | refine IF ?_ | refine GH ?_ | refine D2 ?_ | refine Iu ?_)
 | ((with_reducible refine w_var (d:=?d9) ?e9 ?_);walk_at "e") | ((with_reducible refine EI (d:=?d9) ?e9 ?_);walk_at "e") | ((with_reducible refine DO (d:=?d9) ?e9 ?_);walk_at "e")
 | ((with_reducible refine Js (d:=?d9) ?e9 ?_);walk_at "e")
 | (with_reducible first | refine IJ ?_ | refine DM ?_ | refine GK ?_) | ((with_reducible refine Hk (d:=?d9) ?e9 ?f9 ?_);walk_at "e"; (case f9=>exact rfl))
 | (with_reducible first | refine DI ?_ | refine CP ?_ | refine Ji ?_ | refine DB ?_ | refine Jf ?_ | refine D7 ?_ | refine BY ?_ | refine Jl rfl ?_ | refine HZ ?_ | refine Hj ?_ | refine w_or ?_ | refine w_not ?_ | refine HU ?_ | refine KW ?_ | refine Kr ?_ | refine KN ?_ | refine KL ?_ | refine Lg ?_ | refine Lc ?_)
 | walk_at "q")
local macro_rules | `(tactic| walk_at "q0")=>`(tactic| first
 | ((with_reducible refine iH ?e9 ?_);walk_at "e") | ((with_reducible refine i9 ?e9 ?_);walk_at "e")
 | ((show QJ _ _ _ _);refine ⟨_,_,rfl,rfl,?_⟩) | ((show QJ _ _ _ _);(refine ⟨_,_,rfl,Lz ?c9,?_⟩);(case c9=>walk_at "c")) | ((show F9 _ _ _ _);refine ⟨_,_,rfl,rfl,?_⟩) | ((show EJ _ _ _);refine ⟨_,rfl,?_⟩) | ((show Kl _ _ _ _ _ _ _);refine ⟨_,rfl,rfl,?_⟩) | ((show IC _ _ _ _ _ _);refine ⟨_,_,_,rfl,rfl,rfl,?_⟩) | ((show JM _ _ _ _ _ _);refine ⟨_,rfl,rfl,?_⟩) | ((show Dj _ _ _ _ _);refine ⟨_,_,_,rfl,rfl,rfl,?_⟩) | ((show YF _ _ _ _ _);refine ⟨_,_,_,_,rfl,rfl,rfl,?_⟩) | ((show YG _ _ _ _);refine ⟨_,rfl,Of rfl,?_⟩) | ((show JX _ _ _ _);refine ⟨_,_,rfl,rfl,?_⟩) | ((show DW _ _ _ _);refine ⟨_,rfl,rfl,?_⟩) | ((show uZ _ _ _ _);refine ⟨_,rfl,rfl,?_⟩)
 | ((with_reducible refine ⟨_,rfl,?_⟩)))
local macro_rules | `(tactic| walk_at "pp")=>`(tactic| repeat walk_at "p")
local macro_rules | `(tactic| walk_at "c")=>`(tactic| first | exact rfl | assumption | (simp only [mulC,Bool.or_eq_true,Mj,Nk] <;> omega))
local macro_rules | `(tactic| walk_at "pz")=>`(tactic| repeat walk_at "p0")
local macro_rules | `(tactic| walk_at "n=")=>`(tactic| ((try dsimp only [QZ.i,QZ.s,QZ.b,QZ.n,RV.av,aq,List.replicate_succ,List.replicate_zero,cJ,gO,aK,eO,nU,List.set_cons_zero,List.set_cons_succ,List.getElem?_cons_zero,List.getElem?_cons_succ,List.map_cons,List.map_nil,List.tail_cons,Option.getD_some,decide_true,decide_false,List.drop_succ_cons,List.drop_zero]);exact rfl))
local macro_rules | `(tactic| walk_at "n")=>`(tactic| ((with_reducible first | refine FO (e':=?e9) ?h9 ?_ | refine AL (e':=?e9) ?h9 ?_ | refine KD (e':=?e9) ?h9 ?_ | refine Lb (e':=?e9) ?h9 ?_ | refine EO (e':=?e9) ?h9 ?_);(case h9=>walk_at "n=")))
local macro_rules | `(tactic| walk_at "P")=>`(tactic| repeat walk_at "p")
local macro_rules | `(tactic| walk_at "N")=>`(tactic| (walk_at "n";walk_at "P"))
local macro_rules | `(tactic| walk_at "soft")=>`(tactic| first | exact Gr | exact Gm | exact Je | assumption)
local macro_rules | `(tactic| walk_at "l")=>`(tactic| (rename_i h9;apply oX.out h9;clear h9;dsimp only [xH];intros))
local macro_rules | `(tactic| walk_at "L1")=>`(tactic| first | exact (rfl:oX [] []) | refine ⟨_,?_,rfl⟩ | ((refine ⟨_,_,?s9,?_,rfl⟩);(case s9=>walk_at "soft")))
local macro_rules | `(tactic| walk_at "L")=>`(tactic| repeat walk_at "L1")
local macro_rules | `(tactic| walk_at "q")=>`(tactic| first | walk_at "q0" | ((show Kf _ _ _ _);refine ⟨_,_,_,rfl,rfl,rfl,?_⟩) | ((show J5 _ _ _ _ _);refine ⟨_,_,rfl,rfl,?_⟩) | ((show DW _ _ _ _);(refine ⟨_,rfl,wx rfl ?s9,?_⟩);(case s9=>walk_at "soft")) | ((show uZ _ _ _ _);(refine ⟨_,rfl,wx rfl ?s9,?_⟩);(case s9=>walk_at "soft")))
local macro_rules | `(tactic| walk_at "fT1")=>`(tactic| ((refine qI ?f9 ?_);(case f9=>((refine wx rfl ?s9);(case s9=>walk_at "soft")))))
local macro_rules | `(tactic| walk_at "fT")=>`(tactic| ((refine Dl (e2:=?e9) ?h9 ?_);(case h9=>((repeat walk_at "fT1");exact rfl))))
local macro_rules | `(tactic| walk_at "f")=>`(tactic| ((refine Hz ?h9 ?_);(case h9=>((refine wx rfl ?s9);(case s9=>walk_at "soft")));walk_at "n"))
local macro_rules | `(tactic| walk_at "ps1")=>`(tactic| ((fail_if_success (with_reducible show QJ (IV _) _ _ _));walk_at "p"))
local macro_rules | `(tactic| walk_at "ps")=>`(tactic| repeat walk_at "ps1")
variable {Q:PR->List Qq->Prop} {x y z:Str} {d pn:Qq} {cs:List Int} {e:En} {R k:Nat} {ps rows:List Str} {Ou:List AV}
theorem Pd {c:Bool} {a b:Prop} (h1:c=true->a) (h2:c=false->b):if c=true then a else b:=by
 cases c with
 | true=>rw [Lz rfl];exact h1 rfl
 | false=>rw [Lw (by decide)];exact h2 rfl
noncomputable def BA (cs:List Int) (p l:Int):Qq:=.dict [(.str "script", .list (cs.map .int)),(.str "at", .int p),(.str "left", .int l)]
theorem Fl {ns:List Int} (q:Q (.Oj (BA ns 0 0)) []):WF oR [.list (ns.map .int)] Q:=⟨_,_,rfl,q⟩
theorem Bp {p l m:Int} (hp:0<=p) (hb:p < 2 ^ 60) (hl:0<=l) (h0:0 < m) (hm:m < 2 ^ 200) (q:∀ v p' l',0<=v->v < m->0<=p'->p'<=p+1->0<=l'->Q (.dat (.int v)) [BA cs p' l']):WF ar [BA cs p l,.int m] Q:=by
 refine cM rfl ?_;have m0:(x:Int)->0<=x % m/\x % m < m:=fun x=>⟨Int.emod_nonneg _ (by lia),Int.emod_lt_of_pos _ h0⟩;have d0:(x:Int)->0<=x->0<=x / m:=fun x h=>Int.ediv_nonneg h (Int.le_of_lt h0);have fin:(c:Int)->0<=(if c < 0 then -c else c):=fun c=>by split <;> lia
 unfold vA;walk_at "P";refine Pd (fun e0=>?_) (fun e0=>?_)
 .walk_at "P";refine Pd (fun e1=>?_) (fun e1=>?_)
  .have h1:(0:Int) < (((cs.map PyData.int).length:Nat):Int):=L8 e1;obtain ⟨d,hd,ed⟩:=Tn (xs:=cs.map PyData.int) (Int.emod_nonneg p (by lia)) (Int.emod_lt_of_pos p h1);obtain ⟨c,_,rfl⟩:=Mh.mp hd;walk_at "P";refine nM rfl ed ?_;clear ed hd;walk_at "P";refine Pd (fun e2=>?_) (fun e2=>?_)
   .walk_at "P";exact q _ _ _ (m0 _).1 (m0 _).2 (by lia) (by lia) hl
   .walk_at "P";refine Pd (fun e3=>?_) (fun e3=>?_)
    .walk_at "P";exact q _ _ _ (m0 _).1 (m0 _).2 (by lia) (by lia) hl
    .walk_at "P";exact q _ _ _ (m0 _).1 (m0 _).2 (by lia) (by lia) (d0 _ (fin c))
  .walk_at "P";refine Pd (fun e2=>?_) (fun e2=>?_)
   .walk_at "P";exact q _ _ _ (m0 _).1 (m0 _).2 (by lia) (by lia) hl
   .walk_at "P";exact q _ _ _ (m0 _).1 (m0 _).2 (by lia) (by lia) hl
 .walk_at "P";exact q _ _ _ (m0 l).1 (m0 l).2 hp (by lia) (d0 l hl)
def bp (cs:List Int) (k:Nat) (d:Qq):Prop:=∃ p l:Int,d=BA cs p l/\0<=p/\p+k<=2 ^ 59/\0<=l
theorem bp.dn (h:bp cs (R+k) d):bp cs R d:=by obtain ⟨p,l,e,a,b,c⟩:=h;exact ⟨p,l,e,a,by lia,c⟩
theorem zX {m:Int} {e1:En} {Q:RV->En->Prop} {i:Nat} (hi:aP e1 i=some pn) (hP:bp cs (k+1) pn) (h0:0 < m) (hm:m < 2 ^ 200) (q:∀ v OH,bp cs k OH->0<=v->v < m->Q (.dat (.int v)) (gO e1 i OH)):yd ar [.bor i,.dat (.int m)] e1 Q:=by
 obtain ⟨p,l,rfl,hp,SU,hl⟩:=hP;refine ae (ds:=[BA cs p l,.int m]) (is:=[i]) ?_ rfl (Bp hp (by lia) hl h0 hm fun v p' l' a b c d e=>⟨?_,q v _ ⟨p',l',rfl,c,by lia,e⟩ a b⟩)
 .show ja e1 [.GG,.dat] _=_;simp only [ja,HH,hi]
 .rfl
local macro_rules | `(tactic| walk_at "d")=>`(tactic| ((repeat walk_at "p");(refine zX (cs:=?c9) (k:=?b9) (pn:=?n9) (m:=?m9) (hi:=?hi9) (hP:=?hP9) ?h09 ?hm9 ?_);(case hi9=>exact rfl);(case hP9=>assumption);(case h09=>first | decide | lia);(case hm9=>first | decide | lia)))
def Pe (x:Str):Prop:=∀ c∈x.cps.toList,97<=c/\c<=122
abbrev abc:Str := "abcdefghijklmnopqrstuvwxyz"
theorem aF (x y:Str):(x++y).length=x.length+y.length:=cz x y
theorem az (x y:Str):(x++y).cps.toList=x.cps.toList++y.cps.toList:=by show (x.cps++y.cps).toList=_;simp
theorem c8 (c:Nat):(⟨#[c]⟩:Str).length=1:=rfl
theorem vE (hx:Pe x) (hy:Pe y):Pe (x++y):=fun c hc=>by
 rw [az] at hc;rcases Mc.mp hc with h | h
 .exact hx c h
 .exact hy c h
inductive Nd
 | num (n:Int)
 | cK (x:Str)
 | aQ (x:Str)
noncomputable def Nd.enc:Nd->Qq
 | .num n=>.int n
 | .cK x=>.tuple [.str x]
 | .aQ x=>.str x
noncomputable def Nd.key:Nd->Ky
 | .num n=>(0,n, "")
 | .cK x=>(1,0,x)
 | .aQ x=>(2,0,x)
noncomputable def Hu (k:Ky):Qq:=.tuple [.int k.1,.int k.2.1,.str k.2.2]
def ltN (a b:Nd):Bool:=Q2 a.key b.key
theorem AY:∀ {a b:Nd},a.key=b.key->a=b
 | .num n,.num m,h=>by have:n=m:=congrArg (·.2.1) h;rw [this]
 | .cK x,.cK y,h=>by have:x=y:=congrArg (·.2.2) h;rw [this]
 | .aQ x,.aQ y,h=>by have:x=y:=congrArg (·.2.2) h;rw [this]
 | .num _,.cK _,h=>by have:=congrArg (·.1) h;simp [Nd.key] at this
 | .num _,.aQ _,h=>by have:=congrArg (·.1) h;simp [Nd.key] at this
 | .cK _,.num _,h=>by have:=congrArg (·.1) h;simp [Nd.key] at this
 | .cK _,.aQ _,h=>by have:=congrArg (·.1) h;simp [Nd.key] at this
 | .aQ _,.num _,h=>by have:=congrArg (·.1) h;simp [Nd.key] at this
 | .aQ _,.cK _,h=>by have:=congrArg (·.1) h;simp [Nd.key] at this
theorem BB:∀ {a b:Nd},PyData.eqv a.enc b.enc=true->a=b
 | .num n,.num m,h=>by
  have:n=m:=by simpa [Nd.enc,PyData.eqv] using h
  rw [this]
 | .cK x,.cK y,h=>by
  have:x=y:=by simpa [Nd.enc,PyData.eqv,PyData.eqvAll] using h
  rw [this]
 | .aQ x,.aQ y,h=>by
  have:x=y:=by simpa [Nd.enc,PyData.eqv] using h
  rw [this]
 | .num _,.cK _,h=>by simp [Nd.enc,PyData.eqv] at h
 | .num _,.aQ _,h=>by simp [Nd.enc,PyData.eqv] at h
 | .cK _,.num _,h=>by simp [Nd.enc,PyData.eqv] at h
 | .cK _,.aQ _,h=>by simp [Nd.enc,PyData.eqv] at h
 | .aQ _,.num _,h=>by simp [Nd.enc,PyData.eqv] at h
 | .aQ _,.cK _,h=>by simp [Nd.enc,PyData.eqv] at h
theorem wY (a:Nd):PyData.eqv a.enc a.enc=true:=by cases a <;> simp [Nd.enc,PyData.eqv,PyData.eqvAll]
theorem zM (a:Nd):O1 a.enc=true:=by cases a <;> rfl
theorem A9 (a:Nd):a.enc.depth<=2:=by
 cases a with
 | num n=>simp [Nd.enc,PyData.depth]
 | aQ n=>simp [Nd.enc,PyData.depth]
 | cK n=>simp [Nd.enc,PyData.depth,PyData.depthAll]
theorem u7 {a:Nd} (q:Q (.dat (.str (match a with | .num _ => "number" | .cK _ => "said" | .aQ _ => "thing"))) []):WF bD [a.enc] Q:=by refine cM rfl ?_;unfold jx;cases a <;> (unfold Nd.enc;walk_at "P"; exact q)
theorem Ct {a:Nd} (q:Q (.dat (Hu a.key)) []):WF cC [a.enc] Q:=by
 refine cM rfl ?_;unfold iA;walk_at "P";refine ae (ds:=[a.enc]) (is:=[]) rfl rfl (u7 ⟨rfl,?_⟩);walk_at "n";cases a with
 | num n =>
  unfold Nd.enc;walk_at "P";exact q
 | cK n =>
  unfold Nd.enc;walk_at "P";exact q
 | aQ n =>
  unfold Nd.enc;walk_at "P";exact q
def Nd.sm (a:Nd):Prop:=match a with | .num n=>-1000000000000000000000000000000 < n/\n < 1000000000000000000000000000000 | .cK x=>Pe x/\x.length<=8 | .aQ x=>Pe x/\x.length<=8/\0 < x.length
structure Fc where
 t:Str
 b:Str
 n:Nd
noncomputable def Fc.enc (f:Fc):Qq:=.tuple [.str f.t,.str f.b,f.n.enc]
def QE (x:Str):Prop:=Pe x/\x.length<=8/\0 < x.length
def Fc.sm (f:Fc):Prop:=QE f.t/\QE f.b/\f.n.sm
noncomputable def Fc.key (f:Fc):Fy:=(f.t,f.b,f.n.key)
def jc (a b:Fc):Bool:=RI a.key b.key
theorem oB {a b:Fc} (h:a.key=b.key):a=b:=by obtain ⟨a1,a2,a3⟩:=a;obtain ⟨b1,b2,b3⟩:=b;have h1:a1=b1:=congrArg (·.1) h;have h2:a2=b2:=congrArg (·.2.1) h;have h3:a3=b3:=AY (congrArg (·.2.2) h);rw [h1,h2,h3]
theorem oA {a b:Fc} (h:PyData.eqv a.enc b.enc=true):a=b:=by
 obtain ⟨a1,a2,a3⟩:=a;obtain ⟨b1,b2,b3⟩:=b;have h:a1=b1/\a2=b2/\PyData.eqv a3.enc b3.enc=true:=by simpa [Fc.enc,PyData.eqv,PyData.eqvAll] using h
 rw [h.1,h.2.1,BB h.2.2]
theorem mw (a:Fc):PyData.eqv a.enc a.enc=true:=by simp [Fc.enc,PyData.eqv,PyData.eqvAll,wY]
theorem xI (a:Fc):O1 a.enc=true:=by simp [Fc.enc,O1,jB,zM]
theorem pq (a:Fc):a.enc.depth<=3:=by
 refine ip (k:=2) fun d hd=>?_;simp only [LJ,MD,M5] at hd;rcases hd with rfl | rfl | rfl
 .simp [PyData.depth]
 .simp [PyData.depth]
 .exact A9 _
theorem nu (a:Fc):QY a.enc=true:=by unfold QY;rw [Mj];refine ⟨?_,LH (LG (pq a) (by lia))⟩;obtain ⟨t,b,n⟩:=a;cases n <;> rfl
theorem Ak {a:Fc} (q:Q (.dat (.tuple [.str a.t,.str a.b,Hu a.n.key])) []):WF bq [a.enc] Q:=by refine cM rfl ?_;unfold iO Fc.enc;walk_at "P";refine ae (ds:=[a.n.enc]) (is:=[]) rfl rfl (Ct ⟨rfl,?_⟩);walk_at "N";exact q
noncomputable def Nd.kd:Nd->Int | .num _=>0 | .cK _=>1 | .aQ _=>2
theorem k8 {a:Nd} (q:Q (.dat (.int a.kd)) []):WF ee [a.enc] Q:=by refine cM rfl ?_;unfold vH;cases a <;> (unfold Nd.enc;walk_at "P"; exact q)
theorem lt_str:(if x=y then false else decide (x.cps.toList < y.cps.toList))=decide (x.cps.toList < y.cps.toList):=by
 split
 .rename_i h;rw [h,LV (List.lt_irrefl _)]
 .rfl
theorem IX {x y:AV} {d':Qq} {z:Bool} {Q:RV->En->Prop} (h1:aW e [x,y]=some [d,d']) (h2:Gh d d'=some (.dat (.bool z))) (q:Q (.dat (.bool z)) e):QJ C7 [x,y] e Q:=⟨_,.dat (.bool z),h1,h2,q⟩
theorem AK {a b:Nd} (hk:a.kd=b.kd):Gh a.enc b.enc=some (.dat (.bool (ltN a b))):=by
 cases a with
 | num n =>
  cases b with
  | num m =>
   have:decide (n < m)=ltN (.num n) (.num m):=by
    unfold ltN Q2;show decide (n < m)=(if n=m then decide ((Str.ofString "").cps.toList < (Str.ofString "").cps.toList) else decide (n < m));split
    .rename_i h;rw [h,LV (List.lt_irrefl _)];exact LV (by lia)
    .rfl
   rw [<- this];rfl
  | cK y=>cases hk
  | aQ y=>cases hk
 | cK x =>
  cases b with
  | num m=>cases hk
  | cK y =>
   have:(if x=y then false else decide (x.cps.toList < y.cps.toList))=ltN (.cK x) (.cK y):=lt_str;rw [<- this];rfl
  | aQ y=>cases hk
 | aQ x =>
  cases b with
  | num m=>cases hk
  | cK y=>cases hk
  | aQ y=>rfl
theorem uI {a b:Fc} (q:Q (.dat (.bool (jc a b))) []):WF fH [a.enc,b.enc] Q:=by
 have e0:jc a b=if a.t=b.t then (if a.b=b.b then ltN a.n b.n else decide (a.b.cps.toList < b.b.cps.toList)) else decide (a.t.cps.toList < b.t.cps.toList):=rfl
 rw [e0] at q;have ev:PyData.eqv (.tuple [.str a.t,.str a.b]) (.tuple [.str b.t,.str b.b])=(decide (a.t=b.t)&&decide (a.b=b.b)):=by show (PyData.eqv (.str a.t) (.str b.t)&&(PyData.eqv (.str a.b) (.str b.b)&&true))=_;rw [cR,cR,Bool.and_true]
 refine cM rfl ?_;unfold mz Fc.enc;walk_at "ps";refine F8 (d:=.tuple [.str a.t,.str a.b]) (d':=.tuple [.str b.t,.str b.b]) rfl rfl rfl ?_;rw [ev];walk_at "P";by_cases h1:a.t=b.t
 .rw [Lz h1] at q;by_cases h2:a.b=b.b
  .rw [Lz h2] at q;refine i9 (by simp [h1,h2]) ?_;walk_at "P";refine ae (ds:=[a.n.enc]) (is:=[]) rfl rfl (k8 ⟨rfl,?_⟩);walk_at "P";refine ae (ds:=[b.n.enc]) (is:=[]) rfl rfl (k8 ⟨rfl,?_⟩);walk_at "P";by_cases hk:a.n.kd=b.n.kd
   .refine i9 (by simp [PyData.eqv,hk]) ?_;walk_at "P";refine IX (d:=a.n.enc) (d':=b.n.enc) rfl (AK hk) ?_;walk_at "P";exact q
   .refine iH (by simp [PyData.eqv,hk]) ?_;walk_at "P";refine ae (ds:=[a.n.enc]) (is:=[]) rfl rfl (k8 ⟨rfl,?_⟩);walk_at "P";refine ae (ds:=[b.n.enc]) (is:=[]) rfl rfl (k8 ⟨rfl,?_⟩);walk_at "P";have e:ltN a.n b.n=decide (a.n.kd < b.n.kd):=by
     have h1:(a:Nd)->a.key.1=a.kd:=fun a=>by cases a <;> rfl
     unfold ltN Q2;rw [h1,h1,Lw hk]
    rw [e] at q;exact q
  .rw [Lw h2] at q;refine iH (by simp [h2]) ?_;walk_at "P";show Q (.dat (.bool (if a.t=b.t then (if a.b=b.b then false else decide (a.b.cps.toList < b.b.cps.toList)) else decide (a.t.cps.toList < b.t.cps.toList)))) [];rw [Lz h1,Lw h2];exact q
 .rw [Lw h1] at q;refine iH (by simp [h1]) ?_;walk_at "P";show Q (.dat (.bool (if a.t=b.t then (if a.b=b.b then false else decide (a.b.cps.toList < b.b.cps.toList)) else decide (a.t.cps.toList < b.t.cps.toList)))) [];rw [Lw h1];exact q
variable {A L U B:List Fc} {f b:Fc}
noncomputable def OS (c:Nat):Bool:=decide (97<=c)&&decide (c<=122)
def gc (d:Qq) (k:Int):Bool:=match d with
 | .str x=>decide (k<=(x.length:Int))&&(decide ((x.length:Int)<=8)&&x.cps.toList.all OS)
 | _=>false
theorem KJ (c:Nat):RB (Str.ofString "a") ⟨#[c]⟩=decide (97<=c):=by
 have e:(Str.ofString "a").cps.toList=[97]:=by decide +kernel
 unfold RB;rw [e];by_cases h:97<=c
 .rw [LH h,LV]
  .rfl
  .intro z;have:c < 97:=by simpa [MP] using z
   lia
 .rw [LV h,LH]
  .rfl
  .simp [MP];lia
theorem K4 (c:Nat):RB ⟨#[c]⟩ (Str.ofString "z")=decide (c<=122):=by
 have e:(Str.ofString "z").cps.toList=[122]:=by decide +kernel
 unfold RB;rw [e];by_cases h:c<=122
 .rw [LH h,LV]
  .rfl
  .intro z;have:122 < c:=by simpa [MP] using z
   lia
 .rw [LV h,LH]
  .rfl
  .simp [MP];lia
theorem dY {k:Int} (q:Q (.dat (.bool (gc d k))) []):WF aN [d,.int k] Q:=by
 refine cM rfl ?_;unfold d5;cases d with
 | str x =>
  replace q:Q (.dat (.bool (decide (k<=(x.length:Int))&&(decide ((x.length:Int)<=8)&&x.cps.toList.all OS)))) []:=q;walk_at "P";refine Pd (fun c1=>?_) (fun c1=>?_)
  .have c1:decide (k<=(x.length:Int))=true:=c1;walk_at "P";rw [c1,MB] at q;refine Pd (fun c2=>?_) (fun c2=>?_)
   .have c2:(!decide ((x.length:Int)<=8))=true:=c2;have c2:decide ((x.length:Int)<=8)=false:=by simpa using c2
    walk_at "P";rw [c2] at q;exact q
   .have c2:(!decide ((x.length:Int)<=8))=false:=c2;have c2:decide ((x.length:Int)<=8)=true:=by simpa using c2
    rw [c2,MB] at q;walk_at "P";refine cp (fun i ys ec=>ys=((x.cps.toList.take i).map OS).map .bool/\ec=[]) ⟨rfl,rfl⟩ ?_ ?_
    .rintro i d ys ec hd ⟨rfl,rfl⟩;rw [LO] at hd;obtain ⟨c,hc,rfl⟩:=LZ.mp hd;have e0:((x.cps.toList.take (i+1)).map OS).map PyData.bool=((x.cps.toList.take i).map OS).map PyData.bool++[.bool (OS c)]:=by rw [<- N3 hc,Mw,Mw];rfl
     refine eR ?_;walk_at "P";have e1:=KJ c;have e2:=K4 c;refine Pd (fun d1=>?_) (fun d1=>?_)
     .have d1:RB (Str.ofString "a") ⟨#[c]⟩=true:=d1;walk_at "P";refine ⟨?_,rfl⟩;rw [e0];unfold OS;rw [<- e1,d1,<-e2];rfl
     .have d1:RB (Str.ofString "a") ⟨#[c]⟩=false:=d1;walk_at "P";refine ⟨?_,rfl⟩;rw [e0];unfold OS;rw [<- e1,d1];rfl
    .rintro ys ec ⟨rfl,rfl⟩;rw [Lo,Mx];walk_at "N";refine w_all (bs:=x.cps.toList.map OS) rfl ?_;have e3:(x.cps.toList.map OS).all id=x.cps.toList.all OS:=by rw [List.all_map];rfl
     rw [e3];walk_at "P";exact q
  .have c1:decide (k<=(x.length:Int))=false:=c1;walk_at "P";rw [c1] at q;exact q
 | _ =>
  walk_at "P";exact q
theorem dN (q:Q (.dat (.bool (gc d 1))) []):WF aZ [d] Q:=by refine cM rfl ?_;unfold jG;walk_at "P";refine ae (is:=[]) rfl rfl (dY ⟨rfl,?_⟩);walk_at "P";exact q
noncomputable def whB:Qq->Bool
 | .int _=>true
 | _=>false
theorem nq (q:Q (.dat (.bool (whB d))) []):WF cF [d] Q:=by refine cM rfl ?_;unfold iR;cases d <;> (walk_at "P"; exact q)
noncomputable def Hm:Qq->Bool
 | .int i=>decide ((if i < 0 then -i else i)<=999999999999999999999999999999)
 | _=>false
theorem mG (q:Q (.dat (.bool (Hm d))) []):WF bT [d] Q:=by refine cM rfl ?_;unfold gq;walk_at "P";refine ae (is:=[]) rfl rfl (nq ⟨rfl,?_⟩);cases d <;> (walk_at "P"; exact q)
def tG:Qq->Bool
 | .tuple [x]=>gc x 0
 | _=>false
theorem jS (q:Q (.dat (.bool (tG d))) []):WF bC [d] Q:=by
 refine cM rfl ?_;unfold ju;cases d with
 | tuple ds =>
  match ds,q with
  | [],q=>walk_at "P"; exact q
  | [x],q =>
   walk_at "P";refine ae (is:=[]) rfl rfl (dY ⟨rfl,?_⟩);walk_at "P";exact q
  | x :: y :: r,q =>
   walk_at "P";exact q
 | _ =>
  walk_at "P";exact q
def fR (d:Qq):Bool:=gc d 1||(Hm d||tG d)
theorem qV (q:Q (.dat (.bool (fR d))) []):WF dU [d] Q:=by
 refine cM rfl ?_;unfold jK;unfold fR at q;walk_at "P";refine ae (is:=[]) rfl rfl (dN ⟨rfl,?_⟩);walk_at "P";refine Pd (fun c=>?_) (fun c=>?_)
 .rw [c,Bool.true_or] at q;walk_at "P";exact q
 .rw [c,Bool.false_or] at q;walk_at "P";refine ae (is:=[]) rfl rfl (mG ⟨rfl,?_⟩);walk_at "P";refine Pd (fun c=>?_) (fun c=>?_)
  .rw [c,Bool.true_or] at q;walk_at "P";exact q
  .rw [c,Bool.false_or] at q;walk_at "P";refine ae (is:=[]) rfl rfl (jS ⟨rfl,?_⟩);walk_at "P";exact q
abbrev SX (L:List Fc):Prop:=L.Pairwise fun x y=>jc x y=true
theorem vQ (a:Fc):jc a a=false:=uP _
theorem yC {a c:Fc} (h1:jc a b=true) (h2:jc b c=true):jc a c=true:=zg h1 h2
theorem uq {a:Fc} (h:jc a b=false) (h2:jc b a=false):a=b:=by apply Nt;intro hn;have:=rH (fun z=>hn (oB z)) h;unfold jc at h2;rw [this] at h2;cases h2
theorem lL (h:SX L):L.Nodup:=h.imp fun {a b} z e=>by rw [e,vQ] at z;cases z
abbrev kvs (U:List Fc):List (Qq×Qq):=U.map fun a=>(a.enc,PyData.bool true)
theorem yf (a:Fc):Sg.Ca UC bq a.enc=some a.key:=by obtain ⟨pr,outs,h,rfl,rfl⟩:=Ak (a:=a) (Q:=fun pr outs=>pr=.dat (.tuple [.str a.t,.str a.b,Hu a.n.key])/\outs=[]) ⟨rfl,rfl⟩;unfold Sg.Ca;rw [h];rfl
theorem ly:(U:List Fc)->Sg.j9 UC bq (U.map Fc.enc)=some (U.map Fc.key)
 | []=>rfl
 | a :: U=>by rw [List.map_cons,List.map_cons];unfold Sg.j9;rw [yf,ly U];rfl
theorem lO (h:U.Nodup):(U.map Fc.key).Nodup:=by unfold List.Nodup;rw [List.pairwise_map];exact h.imp fun {a b} z e=>z (oB e)
theorem AI (hU:U.Nodup) (hL:SX L) (hm:∀ a,a∈L↔a∈U):(Sg.sP (S:=UC) ((U.map Fc.key).zip (U.map Fc.enc))).map (·.2)=L.map Fc.enc :=
 CQ (S:=UC) Fc.key Fc.enc (lO hU) hL ((List.perm_ext_iff_of_nodup (lL hL) hU).mpr hm)
def x5:Qq->Bool
 | .tuple [a,b,c]=>gc a 1&&(gc b 1&&fR c)
 | _=>false
theorem KR:(ds:List Qq)->(∃ a b c,ds=[a,b,c])\/(ds.length≠3/\x5 (.tuple ds)=false)
 | []=>.inr ⟨by decide,rfl⟩
 | [a]=>.inr ⟨by simp,rfl⟩
 | [a,b]=>.inr ⟨by simp,rfl⟩
 | [a,b,c]=>.inl ⟨a,b,c,rfl⟩
 | a :: b :: c :: d :: r=>.inr ⟨by simp,rfl⟩
theorem jW (q:Q (.dat (.bool (x5 d))) []):WF bE [d] Q:=by
 refine cM rfl ?_;unfold jN;cases d with
 | tuple ds =>
  rcases KR ds with ⟨a,b,c,rfl⟩ | ⟨hn,hf⟩
  .replace q:Q (.dat (.bool (gc a 1&&(gc b 1&&fR c)))) []:=q;walk_at "P";refine ae (is:=[]) rfl rfl (dN ⟨rfl,?_⟩);walk_at "P";refine Pd (fun c1=>?_) (fun c1=>?_)
   .rw [c1,MB] at q;walk_at "P";refine ae (is:=[]) rfl rfl (dN ⟨rfl,?_⟩);walk_at "P";refine Pd (fun c2=>?_) (fun c2=>?_)
    .rw [c2,MB] at q;walk_at "P";refine ae (is:=[]) rfl rfl (qV ⟨rfl,?_⟩);walk_at "P";exact q
    .rw [c2] at q;walk_at "P";exact q
   .rw [c1] at q;walk_at "P";exact q
  .walk_at "P";have hq:PyData.eqv (.int (ds.length:Int)) (.int 3)=false:=by simp only [PyData.eqv];rw [beq_eq_false_iff_ne];lia
   refine iH (by show (!PyData.eqv (.int (ds.length:Int)) (.int 3))=true;rw [hq];rfl) ?_;walk_at "P";rw [hf] at q;exact q
 | _ =>
  walk_at "P";exact q
theorem dO (h:QE x):gc (.str x) 1=true:=by obtain ⟨h1,h2,h3⟩:=h;show (decide ((1:Int)<=(x.length:Int))&&(decide ((x.length:Int)<=8)&&x.cps.toList.all OS))=true;rw [LH (by lia),LH (by lia),MB,MB,MY];intro c hc;have:=h1 c hc;unfold OS;rw [LH this.1,LH this.2];rfl
theorem o6 {a:Nd} (h:a.sm):fR a.enc=true:=by
 unfold fR;cases a with
 | num n =>
  have h:-1000000000000000000000000000000 < n/\n < 1000000000000000000000000000000:=h;have:Hm (Nd.enc (.num n))=true:=by show decide ((if n < 0 then -n else n)<=999999999999999999999999999999)=true;refine LH ?_;split <;> lia
  rw [this];simp
 | cK x =>
  have h:Pe x/\x.length<=8:=h;have:tG (Nd.enc (.cK x))=true:=by show (decide ((0:Int)<=(x.length:Int))&&(decide ((x.length:Int)<=8)&&x.cps.toList.all OS))=true;rw [LH (by lia),LH (by lia),MB,MB,MY];intro c hc;have:=h.1 c hc;unfold OS;rw [LH this.1,LH this.2];rfl
  rw [this];simp
 | aQ x =>
  have:gc (Nd.enc (.aQ x)) 1=true:=dO h;rw [this];rfl
theorem xY (h:f.sm):x5 f.enc=true:=by show (gc _ 1&&(gc _ 1&&fR _))=true;rw [dO h.1,dO h.2.1,o6 h.2.2];rfl
open PySem.NumText in
theorem J3:∀ {l:List Nat},AllDigits l->(l.map Char.ofNat).map Char.toNat=l
 | [],_=>rfl
 | c :: l,h=>by
  have hc:=h.head;have e:(Char.ofNat c).toNat=c:=by
   have:∀ c,c < 58->(Char.ofNat c).toNat=c:=by decide
   exact this c (by lia)
  rw [List.map_cons,List.map_cons,e,J3 h.tail]
noncomputable def codes (m:Nat):List Nat:=(Nat.toDigits 10 m).map Char.toNat
theorem dch:∀ d,d < 10->(Nat.digitChar d).toNat=48+d:=by decide
theorem a8 (q:Nat):codes q=(if 9 < q then codes (q / 10) else [])++[48+q % 10]:=by
 by_cases h:9 < q
 .rw [Lz h];have hm:q % 10 < 10:=Nat.mod_lt q (by decide);have t:Nat.toDigits 10 (q / 10)++Nat.toDigits 10 (q % 10)=Nat.toDigits 10 (10*(q / 10)+q % 10):=Nat.toDigits_append_toDigits (by decide) (by lia) hm;rw [Nat.div_add_mod] at t;unfold codes;rw [<- t,Mw,Nat.toDigits_of_lt_base hm];show _++[(Nat.digitChar (q % 10)).toNat]=_;rw [dch _ hm]
 .rw [Lw h];have hq:q < 10:=by lia
  unfold codes;rw [Nat.toDigits_of_lt_base hq];show [(Nat.digitChar q).toNat]=[48+q % 10];rw [dch _ hq,Nat.mod_eq_of_lt hq]
theorem iX:(k m:Nat)->m < 10 ^ (k+1)->(codes m).length<=k+1
 | 0,m,h=>by have h:m < 10:=h;rw [a8,Lw (by lia)];exact LA 1
 | k+1,m,h=>by
  rw [a8];by_cases h9:9 < m
  .rw [Lz h9,Ln];have hp:10 ^ (k+1+1)=10*10 ^ (k+1):=by rw [Nat.pow_succ,Nat.mul_comm]
   have:=iX k (m / 10) (by rw [hp] at h;lia);have:[48+m % 10].length=1:=rfl;lia
  .rw [Lw h9];show 1<=_;lia
theorem o4 (m:Nat):codes m≠[]:=by rw [a8];simp
open PySem.NumText in
theorem mC (m:Nat):AllDigits (codes m):=by
 induction m using Nat.strongRecOn with
 | _ m ih =>
  intro c hc;rw [a8] at hc;rcases Mc.mp hc with h | h
  .split at h
   .exact ih (m / 10) (by lia) c h
   .simp at h
  .have:c=48+m % 10:=by simpa using h
   lia
open PySem.NumText in
theorem fj (m:Nat):digitsVal (codes m)=m:=PySem.W.KIN.val_back m
open PySem.NumText in
theorem tf {f:List Nat} (h:AllDigits f):codes (digitsVal f)=(match f.dropWhile (·==48) with | []=>[48] | c :: r=>c :: r):=by
 unfold codes;rw [toDigits_all f h];have hs:AllDigits (f.dropWhile (·==48)):=fun c hc=>h c ((List.dropWhile_sublist _).mem hc);cases e:f.dropWhile (·==48) with
 | nil=>rfl
 | cons c r =>
  rw [e] at hs;exact J3 hs
open PySem.NumText in
theorem jL {f:List Nat} (h:AllDigits f) (O2:f≠[]):codes (digitsVal f)=f↔(f.head?=some 48->f=[48]):=by
 rw [tf h];cases f with
 | nil=>exact absurd rfl O2
 | cons c r =>
  by_cases hc:c=48
  .subst hc;rw [List.dropWhile_cons,Lz (show ((48:Nat)==48)=true from rfl)];constructor
   .intro z _;have hl:=congrArg List.length z;have:=(List.dropWhile_sublist (l:=r) (·==48)).length_le;cases e:r.dropWhile (·==48) with
    | nil =>
     rw [e] at z;exact z.symm
    | cons c2 r2 =>
     rw [e] at hl this;have hl:(c2 :: r2).length=(48 :: r).length:=hl;rw [LN (a:=48)] at hl;lia
   .intro z;have z:=z rfl;injection z with _ z;rw [z];rfl
  .rw [List.dropWhile_cons,Lw (by simpa using hc)];exact ⟨fun _ z=>absurd (by simpa using z) hc,fun _=>rfl⟩
theorem dH (m:Nat):(bF (m:Int)).cps.toList=codes m:=PySem.W.KIN.signs_num m
theorem fP {m:Nat} (h:0 < m):(bF (-(m:Int))).cps.toList=45 :: codes m:=by obtain ⟨k,rfl⟩:∃ k,m=k+1:=⟨m - 1,by lia⟩;unfold bF;rw [PyProof.Rows.signs_ofString];show ("-" ++ Nat.repr (k+1)).toList.map Char.toNat=_;rw [String.toList_append,Mw,Nat.toList_repr];rfl
theorem cS (h:x.cps.toList=y.cps.toList):x=y:=by obtain ⟨⟨a⟩⟩:=x;obtain ⟨⟨b⟩⟩:=y;have h:a=b:=h;rw [h]
noncomputable def fw (x:Str):List Nat:=match x.cps.toList with | 45 :: r=>r | l=>l
noncomputable def isNeg (x:Str):Bool:=decide (x.cps.toList.head?=some 45)
noncomputable def qT (c:Nat):Bool:=decide (48<=c)&&decide (c<=57)
open PySem.NumText in
def qZ (x:Str):Int:=if isNeg x=true then -(digitsVal (fw x):Int) else (digitsVal (fw x):Int)
def cX (x:Str):Bool:=decide (1<=(fw x).length)&&(decide ((fw x).length<=30)&&(fw x).all qT)
def qt (x:Str):Qq:=if cX x=true/\((fw x).head?=some 48->x.cps.toList=[48]) then .int (qZ x) else .none
theorem kM {r:List Nat} (h:x.cps.toList=45 :: r):fw x=r:=by unfold fw;rw [h];rfl
theorem mH {r:List Nat} (h:x.cps.toList=45 :: r):isNeg x=true:=by unfold isNeg;rw [h];rfl
theorem b8 (x:Str):(∃ r,x.cps.toList=45 :: r/\fw x=r/\isNeg x=true)\/(fw x=x.cps.toList/\isNeg x=false):=by
 cases e:x.cps.toList with
 | nil=>exact .inr ⟨by unfold fw;rw [e],by unfold isNeg;rw [e];rfl⟩
 | cons c r =>
  by_cases hc:c=45
  .subst hc;exact .inl ⟨r,rfl,kM e,mH e⟩
  .refine .inr ⟨?_,?_⟩
   .unfold fw;rw [e];split
    .rename_i r2 z;injection z with z _;exact absurd z hc
    .rfl
   .unfold isNeg;rw [e];exact LV (by simpa using hc)
open PySem.NumText in
theorem fy (h:cX x=true):AllDigits (fw x)/\fw x≠[]/\(fw x).length<=30:=by unfold cX at h;simp only [Mj,Nk,MY] at h;refine ⟨fun c hc=>?_,fun z=>by rw [z] at h;simp at h,h.2.1⟩;have:=h.2.2 c hc;unfold qT at this;simpa using this
theorem Ci (h:(fw x).length<=30):x.length<=31:=by
 rw [<- aE];rcases b8 x with ⟨r,e,f,_⟩ | ⟨f,_⟩
 .rw [e,LN,<-f];lia
 .rw [<- f];lia
open PySem.NumText in
theorem rO (h:cX x=true):PySem.intText? x=some (qZ x):=by
 obtain ⟨h1,h2,h3⟩:=fy h;have hl:=Ci h3;unfold qZ;rcases b8 x with ⟨r,e,f,g⟩ | ⟨f,g⟩
 .rw [g,Lz rfl,f];rw [f] at h1 h2;exact intText_neg e h1 h2 (by lia)
 .rw [g,Lw (by decide),f];rw [f] at h1 h2;exact intText_digits h1 h2 (by lia)
open PySem.NumText in
theorem yY:∀ (n:Nat) (f:List Nat),f.length=n->AllDigits f->digitsVal f < 10 ^ n
 | 0,[],_,_=>by decide
 | n+1,f,hl,h=>by
  have O2:f≠[]:=by intro e;rw [e] at hl;simp at hl
  have e:=List.dropLast_concat_getLast O2;generalize f.dropLast=l at e;generalize f.getLast O2=c at e;subst e;have h1:AllDigits l:=fun d hd=>h d (LY _ hd);have hc:48<=c/\c<=57:=h c (Lx _ (LF.mpr rfl));have:=yY n l (by rw [Ln,MO] at hl;lia) h1;rw [digitsVal_snoc,Nat.pow_succ];lia
theorem Bl (h:cX x=true):(qZ x).natAbs < 10 ^ 30:=by obtain ⟨h1,h2,h3⟩:=fy h;have h4:=LQ (yY _ _ rfl h1) (Nat.pow_le_pow_right (by decide) h3);unfold qZ;split <;> lia
open PySem.NumText in
theorem pb (h:cX x=true):bF (qZ x)=x↔((fw x).head?=some 48->x.cps.toList=[48]):=by
 obtain ⟨h1,h2,h3⟩:=fy h;have cb:=jL h1 h2;unfold qZ;rcases b8 x with ⟨r,e,f,g⟩ | ⟨f,g⟩
 .rw [g,Lz rfl];rw [f] at cb ⊢;by_cases h0:digitsVal r=0
  .rw [h0];constructor
   .intro z;have z:=congrArg (fun z:Str=>z.cps.toList) z;have z:(bF ((0:Nat):Int)).cps.toList=x.cps.toList:=z;rw [dH,e,a8] at z;injection z with z _;exact absurd z (by decide)
   .intro z;have hh:r.head?=some 48:=by
     rw [f] at h2 h1;cases r with
     | nil=>exact absurd rfl h2
     | cons c r =>
      have hc:=h1.head;by_cases h49:49<=c
      .have:=digitsVal_pos (cs:=r) h49;lia
      .rw [List.head?_cons,show c=48 by lia]
    rw [e] at z;exact absurd (z hh) (by simp)
  .constructor
   .intro z;have z:=congrArg (fun z:Str=>z.cps.toList) z;have z:(bF (-(digitsVal r:Int))).cps.toList=x.cps.toList:=z;rw [fP (by lia),e] at z;injection z with _ z;intro hh;have z2:=cb.mp z hh;rw [z2] at h0;exact absurd rfl h0
   .intro z;refine cS ?_;rw [fP (by lia),e];congr 1;refine cb.mpr fun hh=>?_;rw [e] at z;exact absurd (z hh) (by simp)
 .rw [g,Lw (by decide)];rw [f] at cb ⊢;constructor
  .intro z;have z:=congrArg (fun z:Str=>z.cps.toList) z;have z:(bF (digitsVal x.cps.toList:Int)).cps.toList=x.cps.toList:=z;rw [dH] at z;exact cb.mp z
  .intro z;refine cS ?_;rw [dH];exact cb.mpr z
def bB (x:Str):Qq:=match x.cps.toList with
 | []=>.none
 | c :: r=>if c=39 then (if r.length<=8/\r.all OS=true then .tuple [.str ⟨r.toArray⟩] else .none)
  else if OS c=true then (if r.length<=7/\r.all OS=true then .str x else .none) else qt x
theorem ke (x y:Str) (c:Nat) (hy:y.cps=#[c]):(decide (y.length<=x.length)&&Builtin.Str.subAt x y 0)=decide (x.cps.toList.head?=some c):=by
 obtain ⟨⟨l⟩⟩:=x;obtain ⟨yc⟩:=y;have hy:yc=#[c]:=hy;subst hy;cases l with
 | nil=>rfl
 | cons a l =>
  unfold Builtin.Str.subAt;have e1:decide ((⟨#[c]⟩:Str).length<=(⟨⟨a :: l⟩⟩:Str).length)=true:=LH (by show 1<=(a :: l).length;simp);rw [e1,MB];have e2:((⟨⟨a :: l⟩⟩:Str).cps.extract 0 (0+(⟨#[c]⟩:Str).length))=#[a]:=by show (⟨a :: l⟩:Array Nat).extract 0 1=#[a];simp
  rw [e2];show ((#[a]:Array Nat)==#[c])=decide (some a=some c);by_cases h:a=c
  .subst h;simp
  .rw [LV (by simpa using h)];simp [h]
theorem A0 {k:Int} (h:0<=k):(lB x (some k) none).cps.toList=x.cps.toList.drop k.toNat:=by
 unfold lB;show List.take (x.length - HT.Ov x.length 0 (some k)) (List.drop (HT.Ov x.length 0 (some k)) x.cps.toList)=_;have e:HT.Ov x.length 0 (some k)=min k.toNat x.length:=by show (if k < 0 then (k+(x.length:Int)).toNat else min k.toNat x.length)=_;rw [Lw (by lia)]
 rw [e,Mu (by rw [ME,aE];exact LA _)];by_cases hk:k.toNat<=x.length
 .rw [Nat.min_eq_left hk]
 .rw [Nat.min_eq_right (by lia),Oc (by rw [aE];exact LA _),Oc (by rw [aE];lia)]
theorem le_0 (c:Nat):RB (Str.ofString "0") ⟨#[c]⟩=decide (48<=c):=by
 have e:(Str.ofString "0").cps.toList=[48]:=by decide +kernel
 unfold RB;rw [e];by_cases h:48<=c
 .rw [LH h,LV]
  .rfl
  .intro z;have:c < 48:=by simpa [MP] using z
   lia
 .rw [LV h,LH]
  .rfl
  .simp [MP];lia
theorem KI (c:Nat):RB ⟨#[c]⟩ (Str.ofString "9")=decide (c<=57):=by
 have e:(Str.ofString "9").cps.toList=[57]:=by decide +kernel
 unfold RB;rw [e];by_cases h:c<=57
 .rw [LH h,LV]
  .rfl
  .intro z;have:57 < c:=by simpa [MP] using z
   lia
 .rw [LV h,LH]
  .rfl
  .simp [MP];lia
theorem C1 {a:AV} {n:Int} {Q:RV->En->Prop} (h1:aW e [a]=some [.str x]) (h2:x.length<=640) (h3:PySem.intText? x=some n) (q:Q (.dat (.int n)) e):QJ tu [a] e Q :=
 ⟨_,.dat (.int n),h1,by show xQ (.str x)=_;unfold xQ;simp only [h2,NP,h3,NM],q⟩
theorem lR (hx:x.length<=100) (q:Q (.dat (qt x)) []):WF bP [.str x] Q:=by
 refine cM rfl ?_;unfold gr;walk_at "pz";with_reducible refine rK fun N eN=>?_
 have rest:(f:Str)->f.cps.toList=fw x->N ([.dat (.str x),.dat (.str f),.un]:En):=by
  intro f hf;rw [eN];have Tx:(f.length:Int)=((fw x).length:Nat):=by rw [<- hf,aE]
  have no:cX x=false->Q (.dat .none) []:=fun z=>by
   have:qt x=.none:=by unfold qt;rw [Lw (by rw [z];simp)]
   rw [this] at q;exact q
  walk_at "P";refine Pd (fun c1=>?_) (fun c1=>?_)
  .have c1:(1:Int)<=(f.length:Int):=L8 c1;walk_at "P";refine Pd (fun c2=>?_) (fun c2=>?_)
   .have c2:(!decide ((f.length:Int)<=30))=true:=c2;have c2:¬(f.length:Int)<=30:=by simpa using c2
    walk_at "P";refine no ?_;unfold cX;rw [LV (p:=(fw x).length<=30) (by lia)];simp
   .have c2:(!decide ((f.length:Int)<=30))=false:=c2;have c2:(f.length:Int)<=30:=by simpa using c2
    walk_at "P";refine cp (fun i ys ec=>ys=((f.cps.toList.take i).map qT).map .bool/\ec=[]) ⟨rfl,rfl⟩ ?_ ?_
    .rintro i d ys ec hd ⟨rfl,rfl⟩;rw [LO] at hd;obtain ⟨c,hc,rfl⟩:=LZ.mp hd;have e0:((f.cps.toList.take (i+1)).map qT).map PyData.bool=((f.cps.toList.take i).map qT).map PyData.bool++[.bool (qT c)]:=by rw [<- N3 hc,Mw,Mw];rfl
     refine eR ?_;walk_at "P";have e1:=le_0 c;have e2:=KI c;refine Pd (fun d1=>?_) (fun d1=>?_)
     .have d1:RB (Str.ofString "0") ⟨#[c]⟩=true:=d1;walk_at "P";refine ⟨?_,rfl⟩;rw [e0];unfold qT;rw [<- e1,d1,<-e2];rfl
     .have d1:RB (Str.ofString "0") ⟨#[c]⟩=false:=d1;walk_at "P";refine ⟨?_,rfl⟩;rw [e0];unfold qT;rw [<- e1,d1];rfl
    .rintro ys ec ⟨rfl,rfl⟩;rw [Lo,Mx];walk_at "N";refine w_all (bs:=f.cps.toList.map qT) rfl ?_;have e3:(f.cps.toList.map qT).all id=(fw x).all qT:=by rw [List.all_map,hf];rfl
     rw [e3];have fk:cX x=(fw x).all qT:=by unfold cX;rw [LH (p:=1<=(fw x).length) (by lia),LH (p:=(fw x).length<=30) (by lia),MB,MB]
     rw [<- fk];walk_at "P";refine Pd (fun c3=>?_) (fun c3=>?_)
     .have c3:(!cX x)=true:=c3;walk_at "P";exact no (by simpa using c3)
     .have c3:(!cX x)=false:=c3;have c3:cX x=true:=by simpa using c3
      walk_at "P";refine C1 rfl (by lia) (rO c3) ?_;walk_at "P";refine yE rfl (LQ (Bl c3) (Nat.pow_le_pow_right (by decide) (by decide))) ?_;walk_at "P";rw [cR];by_cases hs:bF (qZ x)=x
      .refine iH (LH hs) ?_;walk_at "P";have:qt x=.int (qZ x):=by unfold qt;rw [Lz ⟨c3,(pb c3).mp hs⟩]
       rw [this] at q;exact q
      .refine i9 (LV hs) ?_;walk_at "P";have:qt x=.none:=by unfold qt;rw [Lw fun z=>hs ((pb c3).mpr z.2)]
       rw [this] at q;exact q
  .have c1:¬(1:Int)<=(f.length:Int):=Mz c1;walk_at "P";refine no ?_;unfold cX;rw [LV (p:=1<=(fw x).length) (by lia)];rfl
 walk_at "P";refine Pd (fun c1=>?_) (fun c1=>?_)
 .have c1:=(ke x (Str.ofString "-") 45 rfl).symm.trans c1;have c1:x.cps.toList.head?=some 45:=L8 c1;walk_at "P";refine rest _ ?_;rw [A0 (by decide)];cases e:x.cps.toList with
  | nil=>rw [e] at c1;cases c1
  | cons a r =>
   rw [e] at c1;cases c1;rw [kM e];rfl
 .have c1:=(ke x (Str.ofString "-") 45 rfl).symm.trans c1;have c1:¬x.cps.toList.head?=some 45:=Mz c1;walk_at "P";refine rest _ ?_;rcases b8 x with ⟨r,e,_⟩ | ⟨f,_⟩
  .rw [e] at c1;exact absurd rfl c1
  .exact f.symm
def Jr:Qq->Qq
 | .str x=>bB x
 | _=>.none
theorem jQ {r:List Nat} (h:x.cps.toList=39 :: r):bB x=if r.length<=8/\r.all OS=true then .tuple [.str ⟨r.toArray⟩] else .none:=by unfold bB;rw [h];show (if (39:Nat)=39 then _ else _)=_;rw [Lz rfl]
theorem AW {c:Nat} {r:List Nat} (h:x.cps.toList=c :: r) (hc:OS c=true):qt x=.none:=by
 have hc:97<=c/\c<=122:=by unfold OS at hc;simpa using hc
 unfold qt;refine Lw fun z=>?_;obtain ⟨h1,_,_⟩:=fy z.1;rcases b8 x with ⟨r2,e,_⟩ | ⟨f,_⟩
 .rw [h] at e;injection e with e _;lia
 .have:=h1 c (by rw [f,h];exact Lq);lia
theorem lA (h:gc (.str x) 1=true):bB x=.str x:=by
 have h:(decide ((1:Int)<=(x.length:Int))&&(decide ((x.length:Int)<=8)&&x.cps.toList.all OS))=true:=h;simp only [Mj,Nk] at h;obtain ⟨h1,h2,h3⟩:=h;have hl:=aE x;cases e:x.cps.toList with
 | nil=>rw [e] at hl;simp at hl;lia
 | cons c r =>
  rw [e] at hl h3;rw [List.all_cons,Mj] at h3;rw [LN] at hl;have hc:97<=c/\c<=122:=by have:=h3.1;unfold OS at this;simpa using this
  unfold bB;rw [e];show (if c=39 then _ else if OS c=true then _ else _)=_;rw [Lw (by lia),Lz h3.1,Lz ⟨by lia,h3.2⟩]
theorem mP (h0:x.cps.toList.head?≠some 39) (h:gc (.str x) 1=false):bB x=qt x:=by
 have h:(decide ((1:Int)<=(x.length:Int))&&(decide ((x.length:Int)<=8)&&x.cps.toList.all OS))=false:=h;have hl:=aE x;cases e:x.cps.toList with
 | nil =>
  have f0:fw x=[]:=by unfold fw;rw [e]
  unfold bB qt cX;rw [e,f0];rfl
 | cons c r =>
  rw [e] at hl h h0;rw [LN] at hl;have O2:c≠39:=fun z=>h0 (by rw [z];rfl);by_cases hc:OS c=true
  .rw [AW e hc];unfold bB;rw [e];show (if c=39 then _ else if OS c=true then _ else _)=_;rw [Lw O2,Lz hc];refine Lw fun z=>?_;rw [List.all_cons,hc,z.2,LH (by lia),LH (by lia)] at h;exact absurd h (by decide)
  .unfold bB;rw [e];show (if c=39 then _ else if OS c=true then _ else _)=_;rw [Lw O2,Lw hc]
theorem qL (hx:∀ x,d=.str x->x.length<=100) (q:Q (.dat (Jr d)) []):WF dM [d] Q:=by
 refine cM rfl ?_;unfold jq;cases d with
 | str x =>
  have hx:=hx x rfl;replace q:Q (.dat (bB x)) []:=q;walk_at "P";refine Pd (fun c1=>?_) (fun c1=>?_)
  .have c1:=(ke x (Str.ofString "'") 39 rfl).symm.trans c1;have c1:x.cps.toList.head?=some 39:=L8 c1;obtain ⟨r,e⟩:∃ r,x.cps.toList=39 :: r:=by
    cases e:x.cps.toList with
    | nil=>rw [e] at c1;cases c1
    | cons a r=>rw [e] at c1;cases c1;exact ⟨r,rfl⟩
   have ec:(lB x (some 1) none).cps.toList=r:=by rw [A0 (by decide),e];rfl
   have ec2:lB x (some 1) none=⟨r.toArray⟩:=cS ec;rw [jQ e] at q;walk_at "P";rw [ec2];refine ae (ds:=[.tuple [.str ⟨r.toArray⟩]]) (is:=[]) rfl rfl (jS ⟨rfl,?_⟩);have eb:tG (.tuple [.str ⟨r.toArray⟩])=decide (r.length<=8/\r.all OS=true):=by
    have e0:tG (.tuple [.str ⟨r.toArray⟩])=(decide ((0:Int)<=((⟨r.toArray⟩:Str).length:Int))&&(decide (((⟨r.toArray⟩:Str).length:Int)<=8)&&(⟨r.toArray⟩:Str).cps.toList.all OS)):=rfl;have l1:(⟨r.toArray⟩:Str).length=r.length:=by rw [<- aE]
    rw [e0,l1,LH (p:=(0:Int)<=(r.length:Int)) (by lia),MB];show (decide ((r.length:Int)<=8)&&r.all OS)=_;by_cases h8:r.length<=8
    .rw [LH (by lia),MB];cases h9:r.all OS <;> simp [h8]
    .rw [LV (by lia),LV (fun z=>h8 z.1)];rfl
   rw [eb];walk_at "P";refine Pd (fun c2=>?_) (fun c2=>?_)
   .walk_at "P";rw [Lz (L8 c2)] at q;exact q
   .walk_at "P";rw [Lw (Mz c2)] at q;exact q
  .have c1:=(ke x (Str.ofString "'") 39 rfl).symm.trans c1;have c1:¬x.cps.toList.head?=some 39:=Mz c1;walk_at "P";refine ae (ds:=[.str x]) (is:=[]) rfl rfl (dN ⟨rfl,?_⟩);walk_at "P";refine Pd (fun c2=>?_) (fun c2=>?_)
   .walk_at "P";rw [lA c2] at q;exact q
   .walk_at "P";rw [mP c1 c2] at q;refine ae (ds:=[.str x]) (is:=[]) rfl rfl (lR hx ⟨rfl,?_⟩);walk_at "P";exact q
 | _ =>
  walk_at "P";exact q
abbrev Zx:Str := "0123456789"
def bz:Nd->Str
 | .num n=>bF n
 | .cK x=>("'" : Str)++x
 | .aQ x=>x
theorem lE {a:Nd} (h:a.sm) (q:Q (.dat (.str (bz a))) []):WF bR [a.enc] Q:=by
 refine cM rfl ?_;unfold gI;walk_at "P";refine ae (ds:=[a.enc]) (is:=[]) rfl rfl (u7 ⟨rfl,?_⟩);walk_at "n";cases a with
 | num n =>
  have h:-1000000000000000000000000000000 < n/\n < 1000000000000000000000000000000:=h;unfold Nd.enc;walk_at "P";refine yE rfl (LQ (show n.natAbs < 10 ^ 30 by lia) (Nat.pow_le_pow_right (by decide) (by decide))) ?_;walk_at "P";exact q
 | cK x =>
  have h:Pe x/\x.length<=8:=h;unfold Nd.enc;walk_at "P";refine bt rfl (by show 1+x.length<=2 ^ 24;lia) ?_;walk_at "P";exact q
 | aQ x =>
  unfold Nd.enc;walk_at "P";exact q
theorem IL:∀ n < 10,Zx.cps.toList[n]?=some (48+n):=by decide +kernel
theorem Df {r:Int} (h0:0<=r) (h1:r < 10):Po Zx.cps.toList r=some (48+r.toNat):=by have:=c5 (xs:=Zx.cps.toList) (j:=r.toNat) (IL r.toNat (by lia));rwa [Int.toNat_of_nonneg h0] at this
theorem fq (n:Int):(bz (.num n)).cps.toList=(if n < 0 then [45] else [])++codes n.natAbs:=by
 show (bF n).cps.toList=_;by_cases h:n < 0
 .rw [Lz h];have:=fP (m:=n.natAbs) (by lia);rw [show (-(n.natAbs:Int))=n by lia] at this;exact this
 .rw [Lw h];have:=dH n.natAbs;rw [show ((n.natAbs:Nat):Int)=n by lia] at this;exact this
theorem Bt (h:Pe x):x.cps.toList.all OS=true:=by rw [MY];intro c hc;have:=h c hc;unfold OS;rw [LH this.1,LH this.2];rfl
open PySem.NumText in
theorem qU {a:Nd} (h:a.sm):bB (bz a)=a.enc:=by
 cases a with
 | aQ x=>exact lA (dO h)
 | cK x =>
  have h:Pe x/\x.length<=8:=h;have e:(bz (.cK x)).cps.toList=39 :: x.cps.toList:=by show (("'" : Str)++x).cps.toList=_;rw [az];rfl
  rw [jQ e,Lz ⟨by rw [aE];exact h.2,Bt h.1⟩];rfl
 | num n =>
  have h:-1000000000000000000000000000000 < n/\n < 1000000000000000000000000000000:=h;have e:=fq n;generalize bz (.num n)=x at e;have hd:=mC n.natAbs;have QX:=iX 29 n.natAbs (by lia);have cb:=jL hd (o4 _);rw [fj] at cb;have cb:=cb.mp rfl;obtain ⟨b,l,eb⟩:∃ b l,codes n.natAbs=b :: l:=by
   cases z:codes n.natAbs with
   | nil=>exact absurd z (o4 _)
   | cons b l=>exact ⟨b,l,rfl⟩
  have hb:48<=b/\b<=57:=by rw [eb] at hd;exact hd.head
  have fin:fw x=codes n.natAbs->((fw x).head?=some 48->x.cps.toList=[48])->qZ x=n->(∃ c r,x.cps.toList=c :: r/\c < 58/\c≠39)->bB x=.int n:=by
   intro f1 f2 f3 ⟨c,r,f4,f5,f6⟩;have hk:cX x=true:=by unfold cX;rw [f1,LH (p:=1<=(codes n.natAbs).length) (by rw [eb];simp),LH (p:=(codes n.natAbs).length<=30) QX,MB,MB,MY];intro c hc;have:=hd c hc;unfold qT;rw [LH this.1,LH this.2];rfl
   have Zy:gc (.str x) 1=false:=by
    show (decide ((1:Int)<=(x.length:Int))&&(decide ((x.length:Int)<=8)&&x.cps.toList.all OS))=false;have:x.cps.toList.all OS=false:=by
     rw [f4,List.all_cons];have:OS c=false:=by unfold OS;rw [LV (p:=97<=c) (by lia),Bool.false_and]
     rw [this,Bool.false_and]
    rw [this,Bool.and_false,Bool.and_false]
   rw [mP (by rw [f4,List.head?_cons];exact fun z=>f6 (Mp z)) Zy];unfold qt;rw [Lz ⟨hk,f2⟩,f3]
  show bB x=.int n;by_cases hn:n < 0
  .rw [Lz hn] at e;have e:x.cps.toList=45 :: codes n.natAbs:=e;have f1:=kM e;refine fin f1 ?_ ?_ ⟨45,_,e,by decide,by decide⟩
   .intro z;rw [f1] at z;have z2:=cb z;have:=fj n.natAbs;rw [z2] at this;have this:0=n.natAbs:=this;lia
   .unfold qZ;rw [mH e,Lz rfl,f1,fj];lia
  .rw [Lw hn] at e;have e:x.cps.toList=codes n.natAbs:=e;rcases b8 x with ⟨r2,e2,_⟩ | ⟨f,g⟩
   .rw [e,eb] at e2;injection e2 with e2 _;lia
   .rw [e] at f;refine fin f ?_ ?_ ⟨b,l,by rw [e,eb],by lia,by lia⟩
    .intro z;rw [f] at z;rw [e];exact cb z
    .unfold qZ;rw [g,Lw (by decide),f,fj];lia
theorem iQ {a:Nd} (h:a.sm):(bz a).length<=31:=by
 cases a with
 | aQ x=>have h:Pe x/\x.length<=8/\0 < x.length:=h;show x.length<=31;lia
 | cK x =>
  have h:Pe x/\x.length<=8:=h;show (("'" : Str)++x).length<=31;rw [aF];show 1+x.length<=31;lia
 | num n =>
  have h:-1000000000000000000000000000000 < n/\n < 1000000000000000000000000000000:=h;have QX:=iX 29 n.natAbs (by lia);rw [<- aE,fq,Ln];split
  .show 1+_<=31;lia
  .show 0+_<=31;lia
theorem Hq {k:Int} (h:0<=k):(lB x none (some k)).cps.toList=x.cps.toList.take k.toNat:=by have:=pG (xs:=x.cps.toList) h;unfold L2.cutD at this;rw [aE] at this;unfold lB;simpa using this
theorem FV:∀ n < 26,abc.cps.toList[n]?=some (97+n):=by decide +kernel
theorem CU {r:Int} (h0:0<=r) (h1:r < 26):Po abc.cps.toList r=some (97+r.toNat):=by have:=c5 (xs:=abc.cps.toList) (j:=r.toNat) (FV r.toNat (by lia));rwa [Int.toNat_of_nonneg h0] at this
theorem Gv {r:Int} (h0:0<=r) (h1:r < 26):Pe ⟨#[97+r.toNat]⟩:=fun c hc=>by
 have:c=97+r.toNat:=by simpa using hc
 lia
abbrev wds:List Qq:=[.str "any", .str "keeps", .str "least", .str "is", .str "all", .str "many"]
theorem e6:∀ w∈wds,∃ z:Str,w=.str z/\z.length<=5/\Pe z:=by intro w h;simp only [LJ,MD,M5] at h;rcases h with rfl | rfl | rfl | rfl | rfl | rfl <;> exact ⟨_,rfl,by decide +kernel,by unfold Pe;decide +kernel⟩
theorem bp.le {j:Nat} (h:bp cs k d) (hj:j<=k):bp cs j d:=by obtain ⟨p,l,e,a,b,c⟩:=h;exact ⟨p,l,e,a,by lia,c⟩
theorem kX {m:Int} (hP:bp cs (R+10) pn) (h0:0<=m) (h1:m<=8) (q:∀ (x:Str) OH,bp cs R OH->Pe x->(x.length:Int)=m->Q (.dat (.str x)) [OH]):WF cW [pn,.int m] Q:=by
 refine cM rfl ?_;unfold sC;walk_at "d";intro w1 Tz UO w10 w11;walk_at "N";obtain ⟨d1,QB,SY⟩:=Tn (xs:=wds) w10 w11;obtain ⟨z1,rfl,hz1,XH⟩:=e6 d1 QB;refine nM rfl SY ?_;clear SY QB;walk_at "d";intro w2 Qe PU w20 w21;walk_at "N";obtain ⟨d2,hd2,Wu⟩:=Tn (xs:=([.str "", .str "", .str "", .str z1]:List Qq)) w20 w21;have hc:∃ z:Str,d2=.str z/\z.length<=5/\Pe z:=by
  simp only [LJ,MD,M5] at hd2;rcases hd2 with rfl | rfl | rfl | rfl
  .exact ⟨_,rfl,by decide,by unfold Pe;decide⟩
  .exact ⟨_,rfl,by decide,by unfold Pe;decide⟩
  .exact ⟨_,rfl,by decide,by unfold Pe;decide⟩
  .exact ⟨_,rfl,hz1,XH⟩
 obtain ⟨z2,rfl,hz2,T9⟩:=hc;refine nM rfl Wu ?_;clear Wu hd2;walk_at "P";refine Kd (fun k e=>∃ (x:Str) (OH:Qq),Pe x/\x.length+k=8/\bp cs (R+k) OH/\e=([.GG OH,.dat (.int m),.dat (.str x)]:En)) (8 - z2.length) (by lia) ⟨z2,Qe,T9,by lia,PU.le (by lia),rfl⟩ ?_;rintro k e hk ⟨x,OH,hx,hxl,Ua,rfl⟩;walk_at "P";refine Pd (fun c1=>?_) (fun c1=>?_)
 .have c1:(x.length:Int) < m:=L8 c1;obtain ⟨k,rfl⟩:∃ j,k=j+1:=⟨k - 1,by lia⟩;walk_at "d";intro w4 Wv Ww w40 w41;walk_at "N";refine rl rfl (CU w40 w41) ?_;walk_at "P";refine bt rfl (by rw [c8];show _<=2 ^ 24;lia) ?_;walk_at "P";exact ⟨k,MH k,_,Wv,vE hx (Gv w40 w41),by rw [aF,c8];lia,Ww,rfl⟩
 .have c1:¬(x.length:Int) < m:=Mz c1;walk_at "P";have e1:=Hq (x:=x) h0;refine q _ OH Ua.dn (fun c hc=>?_) ?_
  .rw [e1] at hc;exact hx c (Nn hc)
  .rw [<- aE,e1,Mi,aE];lia
theorem rC (hP:bp cs (R+12) pn) (q:∀ (a:Nd) OH,bp cs R OH->a.sm->Q (.dat a.enc) [OH]):WF i4 [pn] Q:=by
 refine cM rfl ?_;unfold tX;walk_at "d";intro w1 Tz UO w10 w11;walk_at "N";refine Pd (fun e1=>?_) (fun e1=>?_)
 .walk_at "d";intro w2 Qe PU w20 w21;walk_at "N";exact q (.num _) Qe PU.dn ⟨by lia,by lia⟩
 walk_at "P";refine Pd (fun e2=>?_) (fun e2=>?_)
 .walk_at "d";intro w2 Qe PU w20 w21;walk_at "N";obtain ⟨d7,hd7,ed7⟩:=Tn (xs:=([.int 1,.int (-1)]:List Qq)) w20 w21;have hz:∃ z:Int,d7=.int z/\(z=1\/z=-1):=by
   simp only [LJ,MD,M5] at hd7;rcases hd7 with rfl | rfl
   .exact ⟨1,rfl,.inl rfl⟩
   .exact ⟨-1,rfl,.inr rfl⟩
  obtain ⟨z,rfl,hz⟩:=hz;refine nM rfl ed7 ?_;walk_at "P";refine zX (cs:=cs) (m:=10 ^ 9) (i:=0) (hi:=rfl) PU (by decide) (by decide) ?_;intro w3 Rp Rq w30 w31;walk_at "N";have hm:z*(10 ^ 30 - 1 - w3) < 1000000000000000000000000000000/\-1000000000000000000000000000000 < z*(10 ^ 30 - 1 - w3):=by rcases hz with rfl | rfl <;> lia
  exact q (.num _) Rp Rq.dn ⟨hm.2,hm.1⟩
 walk_at "P";refine Pd (fun e3=>?_) (fun e3=>?_)
 .walk_at "d";intro w2 Qe PU w20 w21;walk_at "N";refine ae (ds:=[Qe,.int w2]) (is:=[0]) rfl rfl (kX PU (by lia) (by lia) fun x Rp Rq hx hl=>⟨rfl,?_⟩);walk_at "P";exact q (.cK x) Rp Rq ⟨hx,by lia⟩
 .walk_at "d";intro w2 Qe PU w20 w21;walk_at "N";refine ae (ds:=[Qe,.int (1+w2)]) (is:=[0]) rfl rfl (kX PU (by lia) (by lia) fun x Rp Rq hx hl=>⟨rfl,?_⟩);walk_at "P";exact q (.aQ x) Rp Rq ⟨hx,by lia,by lia⟩
abbrev XJ:Str := "abcdefghijklmnopqrstu"
theorem Ea:∀ n < 21,XJ.cps.toList[n]?=some (97+n):=by decide +kernel
theorem yP {r:Int} (h0:0<=r) (h1:r < 21):Po XJ.cps.toList r=some (97+r.toNat):=by have:=c5 (xs:=XJ.cps.toList) (j:=r.toNat) (Ea r.toNat (by lia));rwa [Int.toNat_of_nonneg h0] at this
theorem xy (hP:bp cs (R+2000) pn) (q:∀ (fs:List Fc) OH,bp cs R OH->fs.length<=405->(∀ f∈fs,f.sm)->Q (.Oj (.list (fs.map Fc.enc))) [OH]):WF g6 [pn] Q:=by
 refine cM rfl ?_;unfold pM;walk_at "d";intro w1 Tz UO w10 w11;walk_at "N";refine Pd (fun c1=>?_) (fun c1=>?_)
 .walk_at "d";intro w2 Qe PU w20 w21;walk_at "n";walk_at "d";intro w3 Rp Rq w30 w31;walk_at "N";refine ⟨⟨by lia,by lia⟩,?_⟩;refine cp (fun j ys ec=>∃ ws:List Int,ys=ws.map .int/\ws.length=j/\(∀ w∈ws,0<=w/\w < 420)/\ec=[.dat (.int w2)]) ⟨[],rfl,rfl,fun a h=>by simp at h,rfl⟩ ?_ ?_
  .rintro j d ys ec hd ⟨ws,rfl,hl,hw,rfl⟩;obtain ⟨rfl,hj⟩:=eG hd;refine eR ?_;walk_at "P";exact ⟨ws++[17*((j:Int)+w2) % 420],by rw [Mw];rfl,by rw [Ln,hl];rfl,fm hw ⟨Int.emod_nonneg _ (by decide),Int.emod_lt_of_pos _ (by decide)⟩,rfl⟩
  rintro ys ec ⟨ws,rfl,hl,hw,rfl⟩;rw [kC] at hl;walk_at "N";refine qN rfl ?_;refine cp (fun j ys ec=>∃ fs:List Fc,ys=fs.map Fc.enc/\fs.length=j/\(∀ f∈fs,f.sm)/\ec=[.dat (.str XJ)]) ⟨[],rfl,rfl,fun a h=>by simp at h,rfl⟩ ?_ ?_
  .rintro j d ys ec hd ⟨fs,rfl,Tx,Qf,rfl⟩;rw [LO] at hd;obtain ⟨w,hwj,rfl⟩:=LZ.mp hd;have hw':=hw w (LP hwj);have b1:0<=w / 21:=Int.ediv_nonneg hw'.1 (by decide);have b2:w / 21 < 21:=by lia
   have b3:0<=w % 21:=Int.emod_nonneg _ (by decide);have b4:w % 21 < 21:=Int.emod_lt_of_pos _ (by decide);refine eR ?_;walk_at "P";refine rl rfl (yP b1 b2) ?_;walk_at "P";refine rl rfl (yP b3 b4) ?_;walk_at "P";have n1:QE ("x" ++ ⟨#[97+(w / 21).toNat]⟩):=⟨vE (by unfold Pe;decide) (Gv b1 (by lia)),by rw [aF,c8];decide,by rw [aF,c8];decide⟩;have n2:QE "b" := ⟨by unfold Pe;decide,by decide,by decide⟩;have n3:Nd.sm (.aQ ⟨#[97+(w % 21).toNat]⟩):=⟨Gv b3 (by lia),by rw [c8];decide,by rw [c8];decide⟩;exact ⟨fs++[⟨"x" ++ ⟨#[97+(w / 21).toNat]⟩, "b", .aQ ⟨#[97+(w % 21).toNat]⟩⟩],by rw [Mw];rfl,by rw [Ln,Tx];rfl,fm Qf ⟨n1,n2,n3⟩,rfl⟩
  .rintro ys ec ⟨fs,rfl,Tx,Qf,rfl⟩;rw [Lo,hl] at Tx;walk_at "P";exact q fs Rp Rq.dn (by lia) Qf
 .walk_at "d";intro w2 Qe PU w20 w21;walk_at "N";refine ⟨⟨by lia,by lia⟩,?_⟩;refine eK (fun i e=>∃ (fs:List Fc) (OH:Qq),fs.length<=2*i/\(∀ f∈fs,f.sm)/\bp cs (R+60*(31 - i)) OH/\oX [some (.GG OH),none,none,none,some (.own (.list (fs.map Fc.enc))),none] e) ⟨[],Qe,LA _,fun f h=>by simp at h,PU.le (by lia),by walk_at "L"⟩ ?_ ?_
  .rintro i d e hd ⟨fs,OH,Tx,Qf,Ua,_⟩;walk_at "l";obtain ⟨rfl,hi⟩:=eG hd;have hi:i < 31:=by lia
   have Ua:bp cs (R+60*(31 - (i+1))+60) OH:=Ua.le (by lia);generalize R+60*(31 - (i+1))=R' at Ua;walk_at "f";walk_at "d";intro w3 Rp Rq w30 w31;walk_at "N";refine ae (ds:=[Rp,.int (1+w3)]) (is:=[0]) rfl rfl (kX (R:=R'+49) Rq (by lia) (by lia) fun x Wv Ww hx hxl=>⟨rfl,?_⟩);walk_at "n";walk_at "d";intro w5 pn5 hP5 w50 w51;walk_at "N";refine ae (ds:=[pn5,.int (1+w5)]) (is:=[0]) rfl rfl (kX (R:=R'+38) hP5 (by lia) (by lia) fun y pn6 hP6 hy hyl=>⟨rfl,?_⟩);walk_at "N";refine ae (ds:=[pn6]) (is:=[0]) rfl rfl (rC (R:=R'+26) hP6 fun a pn7 hP7 ha=>⟨rfl,?_⟩);walk_at "N";have sf:Fc.sm ⟨x,y,a⟩:=⟨⟨hx,by lia,by lia⟩,⟨hy,by lia,by lia⟩,ha⟩;refine FR (d:=Fc.enc ⟨x,y,a⟩) rfl (by rw [Lo];show _ < 2 ^ 24;lia) rfl ?_;rw [show fs.map Fc.enc++[Fc.enc ⟨x,y,a⟩]=(fs++[(⟨x,y,a⟩:Fc)]).map Fc.enc by rw [Mw];rfl];have TB:=fm Qf sf;have Yw:(fs++[(⟨x,y,a⟩:Fc)]).length<=2*i+1:=by rw [Ln];show _+1<=_;lia
   have O2:fs++[(⟨x,y,a⟩:Fc)]≠[]:=by simp
   clear Qf sf;generalize fs++[(⟨x,y,a⟩:Fc)]=gs at TB Yw O2;walk_at "n";walk_at "d";intro w8 pn8 hP8 w80 w81;walk_at "N";refine Pd (fun c2=>?_) (fun c2=>?_)
   .obtain ⟨g,gs,rfl⟩:=List.exists_cons_of_ne_nil O2;have sg:=TB g Lq;walk_at "P";refine nM (d:=g.enc) rfl (c5 (j:=0) rfl) ?_;unfold Fc.enc;walk_at "P";refine ae (ds:=[pn8]) (is:=[0]) rfl rfl (rC (R:=R') (hP8.le (by lia)) fun b pn9 hP9 hb=>⟨rfl,?_⟩);walk_at "N";have sf:Fc.sm ⟨g.t,g.b,b⟩:=⟨sg.1,sg.2.1,hb⟩;refine FR (d:=Fc.enc ⟨g.t,g.b,b⟩) rfl (by rw [Lo];show _ < 2 ^ 24;lia) rfl ?_;exact ⟨g :: gs++[⟨g.t,g.b,b⟩],pn9,by rw [Ln];show _+1<=_;lia,fm TB sf,hP9,by rw [Mw];walk_at "L"⟩
   .walk_at "P";exact ⟨gs,pn8,by lia,TB,hP8.dn,by walk_at "L"⟩
  .rintro e ⟨fs,OH,Tx,Qf,Ua,_⟩;walk_at "l";rw [kC] at Tx Ua;walk_at "P";exact q fs OH Ua.dn (by lia) Qf
abbrev sp:Str := " "
abbrev nl:Str := "\n"
theorem bW:sp.cps.toList=[32]:=by decide +kernel
theorem u0:nl.cps.toList=[10]:=by decide +kernel
theorem vS {c:Nat}:∀ {p q r s:List Nat},c ∉ p->c ∉ q->p++c :: r=q++c :: s->p=q/\r=s
 | [],[],r,s,_,_,h=>by injection h with _ h;exact ⟨rfl,h⟩
 | [],b :: q,r,s,_,hq,h=>by injection h with h _;exact absurd (by rw [h];exact Lq) hq
 | a :: p,[],r,s,hp,_,h=>by injection h with h _;exact absurd (by rw [h];exact Lq) hp
 | a :: p,b :: q,r,s,hp,hq,h=>by injection h with h1 h2;obtain ⟨e1,e2⟩:=vS (fun z=>hp (Ly _ z)) (fun z=>hq (Ly _ z)) h2;rw [h1,e1];exact ⟨rfl,e2⟩
theorem ao {s a b:Str} {l:List Str}:(Str.join s (a :: b :: l)).cps.toList=a.cps.toList++(s.cps.toList++(Str.join s (b :: l)).cps.toList):=by show (a++s++Str.join s (b :: l)).cps.toList=_;rw [az,az,LC]
theorem kj {c:Nat} (hz:z.cps.toList=[c]):∀ {ps qs:List Str},ps≠[]->qs≠[]->(∀ p∈ps,c ∉ p.cps.toList)->(∀ q∈qs,c ∉ q.cps.toList)->(Str.join z ps).cps.toList=(Str.join z qs).cps.toList->ps=qs
 | [],_,h,_,_,_,_=>absurd rfl h
 | _ :: _,[],_,h,_,_,_=>absurd rfl h
 | [a],[b],_,_,_,_,h=>by have h:a.cps.toList=b.cps.toList:=h;rw [cS h]
 | [a],b :: b2 :: l,_,_,ha,_,h=>by rw [ao,hz] at h;have h:a.cps.toList=_:=h;exact absurd (by rw [h];simp) (ha a Lq)
 | a :: a2 :: l,[b],_,_,_,hb,h=>by rw [ao,hz] at h;have h:_=b.cps.toList:=h;exact absurd (by rw [<- h];simp) (hb b Lq)
 | a :: a2 :: l,b :: b2 :: m,_,_,ha,hb,h=>by rw [ao,ao,hz] at h;obtain ⟨e1,e2⟩:=vS (ha a Lq) (hb b Lq) h;rw [cS e1,kj hz (by simp) (by simp) (fun p hp=>ha p (Ly _ hp)) (fun p hp=>hb p (Ly _ hp)) e2]
theorem oM (x y:Str):Txt.split x y≠[]:=by
 unfold Txt.split;split
 .simp
 .split
  .simp
  .intro z;have:=congrArg List.length z;rw [length_partsBetween] at this;simp at this
theorem ki (h0:ps≠[]) (h:∀ p∈ps,32 ∉ p.cps.toList) (e:x.cps.toList=(Str.join sp ps).cps.toList):Txt.split x sp=ps :=
 kj bW (oM _ _) h0 (PySem.StrLaws.split_free _ 32) h (by rw [N1,e])
theorem oZ (h0:ps≠[]) (h:∀ p∈ps,10 ∉ p.cps.toList):Txt.split (Str.join nl ps) nl=ps :=
 kj u0 (oM _ _) h0 (PySem.StrLaws.split_free _ 10) h (by rw [N1])
theorem nG {r:RV} {Q:RV->En->Prop} (h1:r.view e=some (.str z)) (h2:aW e Ou=some [.str y]) (h3:(y.length==0)=false) (h4:z.length<=1000000) (hs:Txt.split z y=ps) (q:Q (.Oj (.list (ps.map .str))) e):Dj splitM r Ou e Q :=
 ⟨_,_,.Oj (.list (ps.map .str)),h1,h2,by
  subst hs;show oY (.str z) [.str y]=_;unfold oY
  exact Lz ⟨h3,h4⟩,q⟩
def Pc (x:Str):Prop:=∀ c∈x.cps.toList,33<=c
theorem Pc.no (h:Pc x):32 ∉ x.cps.toList:=fun z=>absurd (h _ z) (by decide)
theorem jF (h:Pe x):Pc x:=fun c hc=>LG (by decide) (h c hc).1
theorem uS {a:Nd} (h:a.sm):Pc (bz a):=by
 cases a with
 | aQ x=>exact jF (show QE x from h).1
 | cK x =>
  intro c hc;rw [show (bz (.cK x)).cps.toList=39 :: x.cps.toList by show (("'" : Str)++x).cps.toList=_;rw [az];rfl] at hc;rcases LJ.mp hc with rfl | hc
  .decide
  .exact jF (show Pe x/\x.length<=8 from h).1 c hc
 | num n =>
  intro c hc;rw [fq] at hc;rcases Mc.mp hc with hc | hc
  .split at hc
   .rw [LF.mp hc];decide
   .cases hc
  .exact LG (by decide) (mC _ c hc).1
def Av:List Str->Qq
 | [a,b,c]=>if (gc (.str a) 1&&(gc (.str b) 1&&fR (bB c)))=true then .tuple [.str a,.str b,bB c] else .none
 | _=>.none
theorem Gj:(ws:List Str)->(∃ a b c,ws=[a,b,c])\/(ws.length≠3/\Av ws=.none)
 | []=>.inr ⟨by decide,rfl⟩
 | [a]=>.inr ⟨by simp,rfl⟩
 | [a,b]=>.inr ⟨by simp,rfl⟩
 | [a,b,c]=>.inl ⟨a,b,c,rfl⟩
 | a :: b :: c :: d :: r=>.inr ⟨by simp,rfl⟩
def Rd (x:Str) (v:Qq):Prop:=x.length<=100/\∃ ps,Txt.split x sp=ps/\Av ps=v
theorem fZ {v:Qq} (h:Rd x v) (q:Q (.dat v) []):WF bO [.str x] Q:=by
 obtain ⟨hx,ws,hs,rfl⟩:=h;have hz:∀ w∈ws,w.length<=100:=fun w hw=>LG (jI (hs▸hw)) hx;refine cM rfl ?_;unfold fY;walk_at "P";refine nG rfl rfl (by decide) (by lia) hs ?_;clear hs;walk_at "P";rcases Gj ws with ⟨a,b,c,rfl⟩ | ⟨hn,hf⟩
 .have hc:=hz c (by simp);replace q:Q (.dat (if (gc (.str a) 1&&(gc (.str b) 1&&fR (bB c)))=true then .tuple [.str a,.str b,bB c] else .none)) []:=q;walk_at "P";refine ae (ds:=[.str c]) (is:=[]) rfl rfl (qL (d:=.str c) (fun y hy=>by cases hy;exact hc) ⟨rfl,?_⟩);walk_at "P";refine ae (ds:=[.tuple [.str a,.str b,bB c]]) (is:=[]) rfl rfl (jW ⟨rfl,?_⟩);have hf:x5 (.tuple [.str a,.str b,bB c])=(gc (.str a) 1&&(gc (.str b) 1&&fR (bB c))):=rfl;rw [hf];cases h:(gc (.str a) 1&&(gc (.str b) 1&&fR (bB c))) with
  | true =>
   rw [h,Lz rfl] at q;walk_at "P";exact q
  | false =>
   rw [h,Lw (by decide)] at q;walk_at "P";exact q
 .refine iH (by
   show (!PyData.eqv (.int (((ws.map PyData.str).length:Nat):Int)) (.int 3))=true;rw [Lo];simp only [PyData.eqv];have:((ws.length:Int)==3)=false:=beq_eq_false_iff_ne.mpr (by lia);rw [this]
   rfl) ?_
  rw [hf] at q;walk_at "P";exact q
def aB (f:Fc):Str:=f.t++sp++f.b++sp++bz f.n
theorem fz (f:Fc):(aB f).cps.toList=(Str.join sp [f.t,f.b,bz f.n]).cps.toList:=by rw [ao,ao];show _=f.t.cps.toList++(sp.cps.toList++(f.b.cps.toList++(sp.cps.toList++(bz f.n).cps.toList)));unfold aB;rw [az,az,az,az,LC,LC,LC]
theorem Ic (h:f.sm):∀ p∈[f.t,f.b,bz f.n],Pc p:=by
 intro p hp;simp only [LJ,MD,M5] at hp;rcases hp with rfl | rfl | rfl
 .exact jF h.1.1
 .exact jF h.2.1.1
 .exact uS h.2.2
theorem fu (h:f.sm):(aB f).length<=49:=by have h1:QE f.t:=h.1;have h2:QE f.b:=h.2.1;have:=iQ h.2.2;unfold aB;rw [aF,aF,aF,aF];have e:sp.length=1:=rfl;have:=h1.2.1;have:=h2.2.1;lia
theorem iT (h:f.sm):Rd (aB f) f.enc:=by refine ⟨LG (fu h) (by decide),_,ki (by simp) (fun p hp=>(Ic h p hp).no) (fz f),?_⟩;show (if (gc (.str f.t) 1&&(gc (.str f.b) 1&&fR (bB (bz f.n))))=true then PyData.tuple [.str f.t,.str f.b,bB (bz f.n)] else .none)=_;rw [qU h.2.2,dO h.1,dO h.2.1,o6 h.2.2];rfl
theorem yr {v w:Qq} (h:Rd x v) (g:Rd x w):v=w:=by obtain ⟨_,_,rfl,rfl⟩:=h;obtain ⟨_,_,rfl,rfl⟩:=g;rfl
theorem ya {g:Fc} (hf:f.sm) (hg:g.sm) (e:aB f=aB g):f=g :=
 oA (by rw [yr (iT hf) (e▸iT hg)];exact mw _)
noncomputable def ins (U:List Fc) (a:Fc):List Fc:=@ite _ (a∈U) (Classical.propDecidable _) U (U++[a])
def jh (U A:List Fc):List Fc:=A.foldl ins U
def once (A:List Fc):List Fc:=jh [] A
theorem A8 {a:Fc}:b∈ins U a↔b∈U\/b=a:=by
 unfold ins;split
 .rename_i h;exact ⟨.inl,fun z=>z.elim id fun e=>e▸h⟩
 .rw [Mc,LF]
theorem DJ {a:Fc} (h:U.Nodup):(ins U a).Nodup:=by
 unfold ins;split
 .exact h
 .rename_i n;refine Mf.mpr ⟨h,by simp,fun x hx y hy e=>?_⟩;rw [LF.mp hy] at e;exact n (e▸hx)
theorem Ax (U:List Fc) (a:Fc):U.length<=(ins U a).length/\(ins U a).length<=U.length+1:=by
 unfold ins;split
 .exact ⟨LA _,Nat.le_succ _⟩
 .rw [Ln];exact ⟨Nat.le_add_right ..,LA _⟩
theorem fE:(A U:List Fc)->U.Nodup->(jh U A).Nodup/\(∀ b,b∈jh U A↔b∈U\/b∈A)/\U.length<=(jh U A).length/\(jh U A).length<=U.length+A.length
 | [],U,h=>⟨h,fun b=>by simp [jh],LA _,LA _⟩
 | a :: A,U,h=>by obtain ⟨h1,h2,h3,h4⟩:=fE A (ins U a) (DJ h);have:=Ax U a;refine ⟨h1,fun b=>?_,LG this.1 h3,by rw [LN];show (jh (ins U a) A).length<=_;lia⟩;show b∈jh (ins U a) A↔_;rw [h2,A8,LJ,or_assoc]
theorem eL (A:List Fc):(once A).Nodup:=(fE A [] .nil).1
theorem lK:b∈once A↔b∈A:=by have:=(fE A [] .nil).2.1 b;unfold once;simpa using this
theorem eQ (A:List Fc) (a:Fc):once (A++[a])=ins (once A) a:=by unfold once jh;rw [List.foldl_append];rfl
theorem zH (A B:List Fc):(once A).length<=(once (A++B)).length:=by unfold once jh;rw [List.foldl_append];exact (fE B _ (eL A)).2.2.1
theorem AH (A:List Fc):(once A).length<=A.length:=by have:=(fE A [] .nil).2.2.2;unfold once;simpa using this
theorem c6 (A:List Fc) (i:Nat):(once (A.take i)).length<=(once A).length:=by have:=zH (A.take i) (A.drop i);rwa [List.take_append_drop] at this
abbrev Ub (g:Fc->Qq) (U:List Fc):List (Qq×Qq):=U.map fun a=>(g a,PyData.bool true)
theorem C2 {g:Fc->Qq} {a:Fc} (hr:PyData.eqv (g a) (g a)=true) (h:∀ b∈U,PyData.eqv (g b) (g a)=true->b=a):putD (Ub g U) (g a) (.bool true)=Ub g (ins U a):=by
 unfold putD;by_cases m:a∈U
 .rw [show ins U a=U from Lz m,Lz (by rw [N5];exact ⟨_,Mh.mpr ⟨a,m,rfl⟩,hr⟩),Na];refine List.map_congr_left fun b _=>?_;show (if PyData.eqv (g b) (g a)=true then (g b,PyData.bool true) else (g b,PyData.bool true))=_;split <;> rfl
 .rw [show ins U a=U++[a] from Lw m,Lw (fun z=>?_)]
  .unfold Ub;rw [Mw];rfl
  .rw [N5] at z;obtain ⟨x,hx,e⟩:=z;obtain ⟨b,hb,rfl⟩:=Mh.mp hx;exact m (h b hb e▸hb)
theorem A6 (U:List Fc) (a:Fc):putD (kvs U) a.enc (.bool true)=kvs (ins U a):=C2 (g:=Fc.enc) (mw a) fun _ _ e=>oA e
theorem B4 (A:List Fc):∃ L:List Fc,SX L/\(∀ a,a∈L↔a∈A)/\L.length=(once A).length:=by
 have p:=List.mergeSort_perm (once A) fun a b=>!jc b a;have s:=List.pairwise_mergeSort (le:=fun a b=>!jc b a) (fun a b c h1 h2=>?_) (fun a b=>?_) (once A)
 .refine ⟨_,(s.and (p.nodup_iff.mpr (eL A))).imp fun {a b} z=>?_,fun a=>p.mem_iff.trans lK,p.length_eq⟩;cases h:jc a b with
  | true=>rfl
  | false=>exact absurd (uq h (by simpa using z.1)) z.2
 .have h1:jc b a=false:=by simpa using h1
  have h2:jc c b=false:=by simpa using h2
  show (!jc c a)=true;cases h:jc c a with
  | false=>rfl
  | true =>
   cases g:jc b c with
   | true=>rw [yC g h] at h1;cases h1
   | false=>rw [uq g h2,h] at h1;cases h1
 .cases h:jc b a with
  | false=>rfl
  | true =>
   show (false||!jc a b)=true;cases g:jc a b with
   | false=>rfl
   | true=>have:=yC h g;rw [vQ] at this;cases this
theorem xN {ns:List Fc} (hl:ns.length<=1000) (hL:SX L) (hm:∀ a,a∈L↔a∈ns) (q:Q (.Oj (.list (L.map Fc.enc))) []):WF aY [.list (ns.map Fc.enc)] Q:=by
 refine cM rfl ?_;unfold b6;walk_at "P";refine .inl (qN rfl (eK (fun i e=>oX [some (.dat (.list (ns.map Fc.enc))),some (.own (.dict (kvs (once (ns.take i))))),none] e) (by walk_at "L") ?_ ?_))
 .rintro i d e hd _;walk_at "l";rw [LO] at hd;obtain ⟨a,ha,rfl⟩:=LZ.mp hd;have hz:=LG (c6 ns i) (AH ns);walk_at "f";walk_at "P";refine pz (v:=.bool true) (k:=a.enc) (kvs:=kvs (once (ns.take i))) rfl rfl (nu a) (by rw [Lo];show _ < 2 ^ 24;lia) ?_;rw [A6,<-eQ,N3 ha];walk_at "L"
 .rintro e _;walk_at "l";rw [Lo,Mx];have hz:=AH ns;have ek:(kvs (once ns)).map (·.1)=(once ns).map Fc.enc:=by unfold kvs;rw [Na];rfl
  walk_at "P";refine zS (S:=UC) (kvs:=kvs (once ns)) (ks:=(once ns).map Fc.key) rfl (by rw [ek];exact ly _) (by rw [Lo];lia) (lO (eL ns)) ?_;intro r hr;rw [ek] at hr;rw [show r=L.map Fc.enc from hr.trans (AI (eL ns) hL fun a=>(hm a).trans lK.symm)];walk_at "P";exact q
theorem Fv {ns:List Fc} (hs:∀ a∈ns,a.sm) (q:Q (.dat (.bool true)) []):WF bS [.list (ns.map Fc.enc)] Q:=by
 refine cM rfl ?_;unfold gh;walk_at "P";refine .inl (qN rfl (cp (fun j ys ec=>ys=(List.replicate j (PyData.bool true))/\ec=[]) ⟨rfl,rfl⟩ ?_ ?_))
 .rintro j d ys ec hd ⟨rfl,rfl⟩;rw [LO] at hd;obtain ⟨a,ha,rfl⟩:=LZ.mp hd;refine eR ?_;walk_at "P";refine ae (ds:=[a.enc]) (is:=[]) rfl rfl (jW ⟨rfl,?_⟩);rw [xY (hs a (LP ha))];walk_at "P";refine ⟨?_,rfl⟩;rw [List.replicate_succ'];rfl
 .rintro ys ec ⟨rfl,rfl⟩;walk_at "N";refine w_all (bs:=List.replicate _ true) (by rw [List.map_replicate];rfl) ?_;rw [show ∀ n,(List.replicate n true).all id=true from fun n=>by simp];walk_at "P";exact q
theorem rV {ns:List Fc} (hs:∀ a∈ns,a.sm) (hl:ns.length<=1000) (hL:SX L) (hm:∀ a,a∈L↔a∈ns) (h4:L.length<=400) (q:Q (.dat (.tuple (L.map Fc.enc))) []):WF bG [.list (ns.map Fc.enc)] Q:=by refine cM rfl ?_;unfold lx;walk_at "P";refine ae (ds:=[.list (ns.map Fc.enc)]) (is:=[]) rfl rfl (Fv hs ⟨rfl,?_⟩);walk_at "P";refine ae (ds:=[.list (ns.map Fc.enc)]) (is:=[]) rfl rfl (xN hl hL hm ⟨rfl,?_⟩);walk_at "P";refine i9 (LV (by rw [Lo];lia)) ?_;walk_at "P";exact q
theorem zQ (h:f.sm) (q:Q (.dat (.str (aB f))) []):WF fT [f.enc] Q:=by
 have l0:=fu h;have h1:f.t.length<=8:=(show QE f.t from h.1).2.1;have h2:f.b.length<=8:=(show QE f.b from h.2.1).2.1;have hn:=h.2.2;have fin:(z:Str)->z.cps.toList=(aB f).cps.toList->Q (.dat (.str z)) []:=fun z hz=>by rw [cS hz];exact q
 have s1:sp.length=1:=rfl;clear q h;obtain ⟨t,b,n⟩:=f;replace h1:t.length<=8:=h1;replace h2:b.length<=8:=h2;replace hn:n.sm:=hn;refine cM rfl ?_;unfold uK Fc.enc;have a1:(t++sp).length<=9:=by rw [aF];lia
 have a2:(t++sp++b).length<=17:=by rw [aF];lia
 cases n with
 | aQ x =>
  have hn:QE x:=hn;unfold Nd.enc;walk_at "P";refine bt rfl (by show _<=2 ^ 24;lia) ?_;walk_at "P";refine bt rfl (by show _<=2 ^ 24;lia) ?_;walk_at "P";refine bt rfl (by show _<=2 ^ 24;lia) ?_;walk_at "P";refine bt rfl (by show (t++sp++b++sp).length+_<=2 ^ 24;rw [aF];have:=hn.2.1;lia) ?_;walk_at "P";exact fin _ rfl
 | cK x =>
  have hn:Pe x/\x.length<=8:=hn;unfold Nd.enc;walk_at "P";refine bt rfl (by show _<=2 ^ 24;lia) ?_;walk_at "P";refine bt rfl (by show _<=2 ^ 24;lia) ?_;walk_at "P";refine bt rfl (by show _+2<=2 ^ 24;lia) ?_;walk_at "P";refine bt rfl (by show (t++sp++b++(" '" : Str)).length+_<=2 ^ 24;rw [aF,show (" '" : Str).length=2 from rfl];have:=hn.2;lia) ?_;walk_at "P";refine fin _ ?_;have e2:(" '" : Str).cps.toList=[32,39]:=by decide +kernel
  have e3:("'" : Str).cps.toList=[39]:=by decide +kernel
  show (t++sp++b++(" '" : Str)++x).cps.toList=(t++sp++b++sp++(("'" : Str)++x)).cps.toList;simp only [az,bW,e2,e3,LC,My,Mv]
 | num n =>
  have h:-1000000000000000000000000000000 < n/\n < 1000000000000000000000000000000:=hn;replace fin:(z:Str)->z.cps.toList=(t++sp++b++sp).cps.toList++((if n < 0 then [45] else [])++codes n.natAbs)->Q (.dat (.str z)) []:=fun z hz=>by refine fin z ?_;rw [hz,<-fq];exact (az _ _).symm
  unfold Nd.enc;walk_at "P";have ea:(if n < 0 then -n else n)=(n.natAbs:Int):=by split <;> lia
  refine rl rfl (Df (r:=(if n < 0 then -n else n) % 10) (by lia) (by lia)) ?_;walk_at "P";refine Kd (fun k e=>∃ (m:Nat) (z:Str),m < 10 ^ (k+1)/\z.length+k<=31/\codes n.natAbs=(if 9 < m then codes (m / 10) else [])++z.cps.toList/\e=([.dat (.tuple [.str t,.str b,.int n]),.dat (.str t),.dat (.str b),.dat (.int n),.dat (.int (m:Int)),.dat (.str z)]:En)) 29 (by decide) ⟨n.natAbs,⟨#[48+((if n < 0 then -n else n) % 10).toNat]⟩,by lia,(by decide:1+29<=31),?_,?_⟩ ?_
  .rw [a8,ea];have e5:48+n.natAbs % 10=48+((n.natAbs:Int) % 10).toNat:=by lia
   rw [e5]
  .rw [<- ea];rfl
  .rintro k e hk ⟨m,z,hm,hz,hc,rfl⟩;walk_at "P";refine Pd (fun c1=>?_) (fun c1=>?_)
   .have c1:(9:Int) < (m:Int):=L8 c1;have c1:9 < m:=by lia
    obtain ⟨k',rfl⟩:∃ k',k=k'+1:=by
     cases k with
     | zero=>simp at hm;lia
     | succ k=>exact ⟨k,rfl⟩
    have hp:10 ^ (k'+1+1)=10*10 ^ (k'+1):=by rw [Nat.pow_succ,Nat.mul_comm]
    walk_at "P";refine rl rfl (Df (r:=(m:Int) / 10 % 10) (by lia) (by lia)) ?_;walk_at "P";refine bt rfl (by rw [c8];show _<=2 ^ 24;lia) ?_;walk_at "P";refine ⟨k',MH k',m / 10,_,by rw [hp] at hm;lia,by rw [aF,c8];lia,?_,rfl⟩;rw [hc,Lz c1,a8 (m / 10),az,LC];have e5:48+m / 10 % 10=48+((m:Int) / 10 % 10).toNat:=by lia
    rw [e5]
   .have c1:¬(9:Int) < (m:Int):=Mz c1;rw [Lw (by lia)] at hc;walk_at "P";refine bt rfl (by show _<=2 ^ 24;lia) ?_;walk_at "P";refine bt rfl (by show _<=2 ^ 24;lia) ?_;walk_at "P";refine bt rfl (by show _<=2 ^ 24;lia) ?_;have a3:(t++sp++b++sp).length<=18:=by rw [aF];lia
    walk_at "P";refine nM (i:=if decide (n < 0)=true then 1 else 0) (xs:=[.str "", .str "-"]) (d:=.str (if n < 0 then Str.ofString "-" else Str.ofString "")) rfl ?_ ?_
    .by_cases hn:n < 0
     .rw [LH hn,Lz hn,Lz rfl];rfl
     .rw [LV hn,Lw hn,Lw (by decide)];rfl
    have a4:(if n < 0 then Str.ofString "-" else Str.ofString "").length<=1:=by split <;> decide
    walk_at "P";refine bt rfl (by show (t++sp++b++sp).length+_<=2 ^ 24;lia) ?_;walk_at "P";refine bt rfl (by show (t++sp++b++sp++(if n < 0 then Str.ofString "-" else Str.ofString "")).length+_<=2 ^ 24;rw [aF];lia) ?_;walk_at "P";refine fin _ ?_;show (t++sp++b++sp++(if n < 0 then Str.ofString "-" else Str.ofString "")++z).cps.toList=_;rw [az (t++sp++b++sp++_),az (t++sp++b++sp),hc,LC];by_cases hn:n < 0
    .rw [Lz hn,Lz hn];rfl
    .rw [Lw hn,Lw hn];rfl
theorem FP:∀ {ss:List Str},(∀ s∈ss,s.length<=k)->(ss.map (·.length)).sum<=k*ss.length
 | [],_=>Mk _
 | s :: ss,h=>by have h1:=h s Lq;have h2:=FP fun t ht=>h t (Ly s ht);rw [List.map_cons,List.sum_cons,LN,Nat.mul_succ];lia
theorem fK {r:RV} {ss:List Str} {Q:RV->En->Prop} (h1:r.view e=some (.str z)) (h2:aW e Ou=some [.list (ss.map .str)]) (hz:z.length=1) (hs:∀ s∈ss,s.length<=100) (hl:ss.length<=1000) (q:Q (.dat (.str (Str.join z ss))) e):Dj joinM r Ou e Q :=
 BX h1 h2 (by
  have:=FP hs;unfold iu;refine LH ?_;rw [hz]
  lia) (by
  unfold Txt.join;rw [PySem.StrLaws.glued_eq_join]
  exact q)
theorem mQ (h:f.sm) (q:Q (.dat (.str (aB f))) []):WF bQ [f.enc] Q:=by
 refine cM rfl ?_;unfold gG Fc.enc;have h1:f.t.length<=8:=(show QE f.t from h.1).2.1;have h2:f.b.length<=8:=(show QE f.b from h.2.1).2.1;have h3:=iQ h.2.2;walk_at "P";refine ae (ds:=[f.n.enc]) (is:=[]) rfl rfl (lE h.2.2 ⟨rfl,?_⟩);walk_at "N";refine fK (z:=sp) (ss:=[f.t,f.b,bz f.n]) rfl rfl rfl (fun s hs=>?_) (Of rfl) ?_
 .simp only [LJ,MD,M5] at hs;rcases hs with rfl | rfl | rfl
  .exact LG h1 (by decide)
  .exact LG h2 (by decide)
  .exact LG h3 (by decide)
 walk_at "P";rw [show Str.join sp [f.t,f.b,bz f.n]=aB f from cS (fz f).symm];exact q
abbrev ag (A:List Fc):List Str:=A.map aB
theorem iK (h:∀ f∈A,f.sm):∀ s∈ag A,s.length<=100:=fun s hs=>by obtain ⟨f,hf,rfl⟩:=Mh.mp hs;exact LG (fu (h f hf)) (by decide)
theorem nL (h:∀ f∈A,f.sm) (hl:A.length<=1000) (q:Q (.dat (.str (Str.join nl (ag A)))) []):WF cw [.tuple (A.map Fc.enc)] Q:=by
 refine cM rfl ?_;unfold iF;walk_at "P";refine cp (fun j ys ec=>ys=((ag (A.take j)).map .str)/\ec=[]) ⟨rfl,rfl⟩ ?_ ?_
 .rintro j d ys ec hd ⟨rfl,rfl⟩;rw [LO] at hd;obtain ⟨a,ha,rfl⟩:=LZ.mp hd;refine eR ?_;walk_at "P";refine ae (ds:=[a.enc]) (is:=[]) rfl rfl (mQ (h a (LP ha)) ⟨rfl,?_⟩);walk_at "P";refine ⟨?_,rfl⟩;rw [<- N3 ha];simp
 .rintro ys ec ⟨rfl,rfl⟩;rw [Lo,Mx];walk_at "N";refine fK (z:=nl) (ss:=ag A) rfl rfl rfl (iK h) (by rw [Lo];exact hl) ?_;walk_at "P";exact q
theorem Ge:∀ n < 1000,vW (.int ((n:Nat):Int))=true:=by decide +kernel
theorem lV {l:Nat} (h:Rd x .none) (hl:l < 1000) (q:Q (.dat (.int (l:Int))) []):WF bw [.str x,.int (l:Int)] Q:=by refine cM rfl ?_;unfold cZ;walk_at "P";refine ae (is:=[]) rfl rfl (fZ h ⟨rfl,?_⟩);walk_at "n";walk_at "ps";refine ⟨_,.dat (.int (l:Int)),rfl,Lz (Ge l hl),?_⟩;walk_at "P";exact q
theorem gC {l:Nat} (h:Rd x f.enc) (q:Q (.dat f.enc) []):WF bw [.str x,.int (l:Int)] Q:=by refine cM rfl ?_;unfold cZ;walk_at "P";refine ae (is:=[]) rfl rfl (fZ h ⟨rfl,?_⟩);walk_at "N";exact q
theorem yW {i:Nat} (hA:rows.take A.length=ag A) (hy:rows[i]?=some y) (hi:i < A.length):∃ f,A[i]?=some f/\y=aB f:=by
 have e:(rows.take A.length)[i]?=some y:=by rw [N2 hi];exact hy
 rw [hA,LO] at e;obtain ⟨f,hf,rfl⟩:=LZ.mp e;exact ⟨f,hf,rfl⟩
theorem vJ (U:List Fc):(kvs U).length=U.length:=Lo _
def Ends (rows:List Str) (A:List Fc) (bad:Str->Prop) (P N:Prop):Prop :=
 (∃ y,rows[A.length]?=some y/\(bad y\/∃ f,f.sm/\y=aB f/\400 < (ins (once A) f).length)/\P)\/(rows.length=A.length/\N)
theorem iz (hx:x.length<=1000000) (hr:(x.length=0/\rows=[])\/(x.length≠0/\Txt.split x nl=rows)) (hl:rows.length < 1000) (hA:rows.take A.length=ag A) (sA:∀ f∈A,f.sm) (nA:(once A).length<=400)
  (h:Ends rows A (fun y=>Rd y .none) (Q (.dat (.int (A.length:Int))) []) (∃ L,SX L/\(∀ a,a∈L↔a∈A)/\L.length<=400/\Q (.dat (.tuple (L.map Fc.enc))) [])):WF aJ [.str x] Q:=by
 refine cM rfl ?_;unfold eH;with_reducible refine z6 ?_
 walk_at "pz";with_reducible refine rK fun N eN=>?_
 have rest:N ([.dat (.str x),.dat (.list (rows.map .str)),.un,.un,.un,.un]:En):=by
  rw [eN];clear eN N;walk_at "P";refine eK (fun i e=>i<=A.length/\oX [some (.dat (.str x)),some (.dat (.list (rows.map .str))),some (.own (.dict (kvs (once (A.take i))))),none,none,none] e) ⟨Mk _,by walk_at "L"⟩ ?_ ?_
  .rintro i d e hd ⟨hi,_⟩;walk_at "l";obtain ⟨y,hy,rfl⟩:∃ y,rows[i]?=some y/\d=.tuple [.int (i:Int),.str y]:=by
    rw [LO,List.getElem?_zipIdx,LO] at hd;cases hy:rows[i]? with
    | none=>rw [hy] at hd;cases hd
    | some y=>rw [hy,Oa] at hd;cases hd;exact ⟨y,rfl,rfl⟩
   have hy1:i < rows.length:=(Ls.mp hy).1;have Rj:i < 1000:=Nat.lt_trans hy1 hl;have hz:=c6 A i;have zl:(kvs (once (A.take i))).length < sizeLine:=by rw [vJ];show _ < 2 ^ 24;lia
   walk_at "fT";walk_at "N";rcases Nat.lt_or_eq_of_le hi with hi | rfl
   .obtain ⟨f,hf,rfl⟩:=yW hA hy hi;have sf:=sA f (LP hf);refine ae (ds:=[.str (aB f),.int (i:Int)]) (is:=[]) rfl rfl (gC (iT sf) ⟨rfl,?_⟩);walk_at "N";refine pz (v:=.bool true) (k:=f.enc) (kvs:=kvs (once (A.take i))) rfl rfl (nu f) zl ?_;rw [A6,<-eQ,N3 hf];have hz2:=c6 A (i+1);walk_at "N";refine i9 (LV (by rw [vJ];lia)) ?_;walk_at "P";exact ⟨hi,by walk_at "L"⟩
   .rcases h with ⟨y',Qa,hb,q⟩ | ⟨e,_⟩
    .rw [hy] at Qa;cases Qa;rw [Mx] at zl ⊢;rcases hb with hb | ⟨f,sf,rfl,hf⟩
     .refine ae (ds:=[.str y,.int (A.length:Int)]) (is:=[]) rfl rfl (lV hb Rj ⟨rfl,?_⟩);walk_at "N";refine iH (Ge _ Rj) ?_;walk_at "P";exact q
     .refine ae (ds:=[.str (aB f),.int (A.length:Int)]) (is:=[]) rfl rfl (gC (iT sf) ⟨rfl,?_⟩);walk_at "N";refine pz (v:=.bool true) (k:=f.enc) (kvs:=kvs (once A)) rfl rfl (nu f) zl ?_;rw [A6];walk_at "N";refine iH (LH (by rw [vJ];lia)) ?_;walk_at "ps";refine ⟨_,.dat (.int (A.length:Int)),rfl,Lz (Ge _ Rj),?_⟩;walk_at "P";exact q
    .lia
  .rintro e ⟨hi,_⟩;walk_at "l";rw [Lo,List.length_zipIdx,Lo] at hi ⊢;rcases h with ⟨y',Qa,_⟩ | ⟨er,L,hL,hm,h4,q⟩
   .have:=(Ls.mp Qa).1;lia
   .rw [er,Mx];have ek:(kvs (once A)).map (·.1)=(once A).map Fc.enc:=by unfold kvs;rw [Na];rfl
    walk_at "P";rw [ek];refine ae (ds:=[.list ((once A).map Fc.enc)]) (is:=[]) rfl rfl (rV (L:=L) (fun a ha=>sA a (lK.mp ha)) (by lia) hL (fun a=>(hm a).trans lK.symm) h4 ⟨rfl,?_⟩);walk_at "N";exact q
 clear eN;rcases hr with ⟨e0,rfl⟩ | ⟨e0,hs⟩
 .walk_at "P";refine ⟨rfl,i9 (by show ((x.length:Int) != 0)=false;rw [e0];rfl) ?_⟩;walk_at "P";exact rest
 .walk_at "P";refine ⟨rfl,iH (by show ((x.length:Int) != 0)=true;exact bne_iff_ne.mpr (by lia)) ?_⟩;walk_at "P";refine nG rfl rfl (by decide) hx hs ?_;walk_at "P";exact rest
theorem kF {bad:Qq} (hb:ij bad=true) (hl:rows.length < 1000) (hA:rows.take A.length=ag A) (sA:∀ f∈A,f.sm) (nA:(once A).length<=400) (nb:∀ f∈A,PyData.eqv (.str (aB f)) bad=false)
  (h:Ends rows A (fun y=>PyData.eqv (.str y) bad=true) (Q (.dat (.int (A.length:Int))) []) (Q (.dat .none) [])):WF dQ [.list (rows.map .str),bad] Q:=by
 refine cM rfl ?_;unfold qa;walk_at "P";refine ⟨⟨by rw [Lo];lia,by rw [Lo];lia⟩,?_⟩;refine eK (fun i e=>i<=A.length/\oX [some (.dat (.list (rows.map .str))),some (.dat bad),some (.own (.dict (Ub (fun f=>.str (aB f)) (once (A.take i))))),none] e) ⟨Mk _,by walk_at "L"⟩ ?_ ?_
 .rintro i d e hd ⟨hi,_⟩;walk_at "l";obtain ⟨rfl,Rj⟩:=eG hd;have Rj:i < rows.length:=by rw [Lo] at Rj;lia
  obtain ⟨y,hy⟩:∃ y,rows[i]?=some y:=⟨_,Lp Rj⟩;have ey:Po (rows.map PyData.str) (i:Int)=some (.str y):=c5 (by rw [LO,hy];rfl);have hz:=c6 A i;have zl:(Ub (fun f=>.str (aB f)) (once (A.take i))).length < sizeLine:=by rw [Lo];show _ < 2 ^ 24;lia
  have pt:∀ f,f.sm->putD (Ub (fun f=>.str (aB f)) (once (A.take i))) (.str (aB f)) (.bool true)=Ub (fun f=>.str (aB f)) (ins (once (A.take i)) f):=fun f sf =>
   C2 (g:=fun f=>.str (aB f)) (by rw [cR];exact LH rfl) fun b hbm e=>by rw [cR] at e;exact ya (sA b (Nn (lK.mp hbm))) sf (L8 e)
  walk_at "f";walk_at "P";refine nM rfl ey ?_;walk_at "P";refine pz (v:=.bool true) (k:=.str y) (kvs:=Ub (fun f=>.str (aB f)) (once (A.take i))) rfl rfl rfl zl ?_;walk_at "n";walk_at "ps";refine nM rfl ey ?_;walk_at "ps";refine w_eq (d:=.str y) (d':=bad) rfl rfl hb ?_;walk_at "P";rcases Nat.lt_or_eq_of_le hi with hi | rfl
  .obtain ⟨f,hf,rfl⟩:=yW hA hy hi;have sf:=sA f (LP hf);rw [pt f sf,<-eQ,N3 hf];have hz2:=c6 A (i+1);refine i9 (nb f (LP hf)) ?_;walk_at "P";refine i9 (LV (by rw [Lo];lia)) ?_;walk_at "P";exact ⟨hi,by walk_at "L"⟩
  .rcases h with ⟨y',Qa,hc,q⟩ | ⟨e,_⟩
   .rw [hy] at Qa;cases Qa;refine Pd (fun c=>?_) (fun c=>?_)
    .walk_at "P";exact q
    .rcases hc with hc | ⟨f,sf,rfl,hf⟩
     .rw [hc] at c;cases c
     .rw [pt f sf,Mx];walk_at "P";refine iH (LH (by rw [Lo];lia)) ?_;walk_at "P";exact q
   .lia
 .rintro e ⟨hi,_⟩;walk_at "l";rw [kC,Lo] at hi;rcases h with ⟨y',Qa,_⟩ | ⟨er,q⟩
  .have:=(Ls.mp Qa).1;lia
  .walk_at "P";exact q
theorem zU (hk:k < 1000) (h:∀ Q':PR->List Qq->Prop,Q' (.dat (.int (k:Int))) []->WF aJ [d] Q') (q:Q (.Oj (.list [.str "refused", .int (k:Int)])) []):WF cm [d] Q:=by refine cM rfl ?_;unfold nj;walk_at "P";refine ae (is:=[]) rfl rfl (h _ ⟨rfl,?_⟩);walk_at "n";walk_at "ps";refine ⟨_,.Oj (.list [.str "refused", .int (k:Int)]),rfl,Lz (Ge k hk),?_⟩;walk_at "P";exact q
theorem wK {xs:List Qq} (h:∀ Q':PR->List Qq->Prop,Q' (.dat (.tuple xs)) []->WF aJ [d] Q') (q:Q (.Oj (.list [.str "web", .tuple xs])) []):WF cm [d] Q:=by refine cM rfl ?_;unfold nj;walk_at "P";refine ae (is:=[]) rfl rfl (h _ ⟨rfl,?_⟩);walk_at "N";exact q
theorem jC (hk:k < 1000) (h:∀ Q':PR->List Qq->Prop,Q' (.dat (.int (k:Int))) []->WF aJ [d] Q') (q:Q (.dat (.bool true)) []):WF a9 [d,.int (k:Int)] Q:=by refine cM rfl ?_;unfold jM;walk_at "P";refine ae (is:=[]) rfl rfl (zU hk h ⟨rfl,?_⟩);walk_at "N";rw [show PyData.eqv (.int (k:Int)) (.int (k:Int))=true by simp [PyData.eqv]];exact q
theorem qe (h:∀ x,d≠.str x) (q:Q (.dat (.int ((0:Nat):Int))) []):WF aJ [d] Q:=by
 refine cM rfl ?_;unfold eH;cases d with
 | str x=>exact absurd rfl (h x)
 | _ =>
  walk_at "P";exact q
theorem kL {s a:Str}:Str.join s [a]=a:=rfl
theorem ph {c:Nat}:∀ {ps:List Str},c∈(Str.join sp ps).cps.toList->c=32\/∃ p∈ps,c∈p.cps.toList
 | [],h=>by cases h
 | [a],h=>.inr ⟨a,Lq,h⟩
 | a :: b :: l,h=>by
  rw [ao,bW] at h;rcases Mc.mp h with h | h
  .exact .inr ⟨a,Lq,h⟩
  .rcases LJ.mp h with h | h
   .exact .inl h
   .rcases ph h with h | ⟨p,hp,h⟩
    .exact .inl h
    .exact .inr ⟨p,Ly _ hp,h⟩
theorem B3 (hp:∀ p∈ps,Pc p) (e:x.cps.toList=(Str.join sp ps).cps.toList):10 ∉ x.cps.toList:=fun h=>by
 rw [e] at h;rcases ph h with h | ⟨p,hq,h⟩
 .cases h
 .exact absurd (hp p hq 10 h) (by decide)
theorem Ay (h:f.sm):10 ∉ (aB f).cps.toList:=B3 (Ic h) (fz f)
def Bd (x:Str):Prop:=Rd x .none/\10 ∉ x.cps.toList
theorem iI (ps:List Str) (h0:ps≠[]) (hp:∀ p∈ps,Pc p) (hl:x.length<=100) (hw:Av ps=.none) (e:x.cps.toList=(Str.join sp ps).cps.toList):Bd x :=
 ⟨⟨hl,ps,ki h0 (fun p hq=>(hp p hq).no) e,hw⟩,B3 hp e⟩
theorem Pf {m n:Nat} (hx:x.length<=m) (hy:y.length<=n):(x++y).length<=m+n:=by rw [aF];exact Nat.add_le_add hx hy
theorem bK {x y:AV} {xs ys:Str} {Q:RV->En->Prop} {m n:Nat} (h1:aW e [x,y]=some [.str xs,.str ys]) (hx:xs.length<=m) (hy:ys.length<=n) (hm:m+n<=2 ^ 24) (q:Q (.dat (.str (xs++ys))) e):QJ bh [x,y] e Q :=
 bt h1 (LG (Nat.add_le_add hx hy) hm) q
abbrev ends:List Qq:=[.str "", .str "-0", .str "00", .str "A", .str "'A", .str "abcdefghi", .str "'abcdefghi", .str "1000000000000000000000000000000", .str "+1", .str "-"]
theorem Bg:∀ w∈ends,∃ z:Str,w=.str z/\Pc z/\z.length<=31/\fR (bB z)=false:=by intro w h;simp only [LJ,MD,M5] at h;rcases h with rfl | rfl | rfl | rfl | rfl | rfl | rfl | rfl | rfl | rfl <;> exact ⟨_,rfl,by unfold Pc;decide +kernel,by decide +kernel,by decide +kernel⟩
abbrev nms:List Qq:=[.str "", .str "abcdefghi", .str "A", .str "5", .str "'a", .str "^a"]
theorem D5:∀ w∈nms,∃ z:Str,w=.str z/\Pc z/\z.length<=9/\gc (.str z) 1=false:=by intro w h;simp only [LJ,MD,M5] at h;rcases h with rfl | rfl | rfl | rfl | rfl | rfl <;> exact ⟨_,rfl,by unfold Pc;decide +kernel,by decide +kernel,by decide +kernel⟩
theorem BL:Pc "" := by unfold Pc;decide +kernel
theorem JL:Pc "a" := by unfold Pc;decide +kernel
theorem K8:Pc "b" := by unfold Pc;decide +kernel
theorem uN:("" : Str).cps.toList=[]:=by decide +kernel
theorem Iw:(" a" : Str).cps.toList=[32,97]:=by decide +kernel
theorem D9:("  a b" : Str).cps.toList=[32,32,97,32,98]:=by decide +kernel
theorem E5:("a" : Str).cps.toList=[97]:=by decide +kernel
theorem GR:("b" : Str).cps.toList=[98]:=by decide +kernel
theorem all1 {P:Str->Prop} {a:Str} (ha:P a):∀ p∈[a],P p:=fun p hp=>by rw [LF.mp hp];exact ha
theorem k9 {P:Str->Prop} {a:Str} {l:List Str} (ha:P a) (h:∀ p∈l,P p):∀ p∈a :: l,P p:=fun p hp=>by
 rcases LJ.mp hp with rfl | hp
 .exact ha
 .exact h p hp
theorem oo (hP:bp cs (R+3) pn) (h:f.sm) (q:∀ x OH,bp cs R OH->Bd x->Q (.dat (.str x)) [OH]):WF cu [pn,.str (aB f)] Q:=by
 have l0:=fu h;have l1:f.t.length<=8:=(show QE f.t from h.1).2.1;have l2:f.b.length<=8:=(show QE f.b from h.2.1).2.1;have l3:=iQ h.2.2;have ls:sp.length<=1:=LA 1;have p1:=jF (show QE f.t from h.1).1;have p2:=jF (show QE f.b from h.2.1).1;have p3:=uS h.2.2;have p4:=Ic h;have e0:(aB f).cps.toList=f.t.cps.toList++32 :: (f.b.cps.toList++32 :: (bz f.n).cps.toList):=by rw [fz,ao,ao,bW];rfl
 have hs:=ki (ps:=[f.t,f.b,bz f.n]) (x:=aB f) (by simp) (fun p hp=>(p4 p hp).no) (fz f);refine cM rfl ?_;unfold iE;walk_at "P";refine nG rfl rfl (by decide) (LG l0 (by decide)) hs ?_;walk_at "n";walk_at "d";intro w1 Tz UO w10 w11;walk_at "N";obtain ⟨d1,QB,SY⟩:=Tn (xs:=ends) w10 w11;obtain ⟨z1,rfl,pz1,XH,nz1⟩:=Bg d1 QB;refine nM rfl SY ?_;clear SY QB;walk_at "n";walk_at "d";intro w2 Qe PU w20 w21;walk_at "N";obtain ⟨d2,hd2,Wu⟩:=Tn (xs:=nms) w20 w21;obtain ⟨z2,rfl,pz2,T9,nz2⟩:=D5 d2 hd2;refine nM rfl Wu ?_;clear Wu hd2;walk_at "N";refine bK rfl l0 ls (by decide) ?_;walk_at "P";refine bK rfl ls l0 (by decide) ?_;walk_at "P";refine bK (n:=2) rfl l0 (by decide) (by decide) ?_;walk_at "P";refine bK rfl l1 ls (by decide) ?_;walk_at "P";refine bK rfl (Pf l1 ls) l2 (by decide) ?_;walk_at "N";have lc:(lB (aB f) (some (f.t.length:Int)) none).cps.toList=32 :: (f.b.cps.toList++32 :: (bz f.n).cps.toList):=by rw [A0 (Int.natCast_nonneg _),e0,Int.toNat_natCast,<-aE,NV]
 have ll:(lB (aB f) (some (f.t.length:Int)) none).length<=49:=by
  rw [<- aE,lc];have:(aB f).cps.toList.length<=49:=by rw [aE];exact l0
  rw [e0,Ln] at this;exact LG (Nat.le_add_left ..) this
 refine bK rfl T9 ll (by decide) ?_;walk_at "N";refine bK rfl l1 ls (by decide) ?_;walk_at "P";refine bK rfl (Pf l1 ls) l2 (by decide) ?_;walk_at "P";refine bK rfl (Pf (Pf l1 ls) l2) ls (by decide) ?_;walk_at "P";refine bK rfl (Pf (Pf (Pf l1 ls) l2) ls) XH (by decide) ?_;walk_at "P";refine bK rfl l1 ls (by decide) ?_;walk_at "P";refine bK rfl (Pf l1 ls) T9 (by decide) ?_;walk_at "P";refine bK rfl (Pf (Pf l1 ls) T9) ls (by decide) ?_;walk_at "P";refine bK rfl (Pf (Pf (Pf l1 ls) T9) ls) l3 (by decide) ?_;walk_at "P";refine bK (n:=5) rfl l1 (by decide) (by decide) ?_;walk_at "N";refine zX (m:=11) (hi:=rfl) PU (by decide) (by decide) ?_;intro w3 Rp Rq w30 w31;walk_at "N";obtain ⟨d3,Su,ed3⟩:=Tn (xs:=([.str "", .str " ", .str (aB f++sp),.str (sp++aB f),.str (aB f ++ " a"),.str (f.t++sp++f.b),.str f.t,.str (z2++lB (aB f) (some (f.t.length:Int)) none),.str (f.t++sp++f.b++sp++z1),.str (f.t++sp++z2++sp++bz f.n),.str (f.t ++ "  a b")]:List Qq)) w30 w31;refine nM rfl ed3 ?_;clear ed3;have hb:∃ x,d3=.str x/\Bd x:=by
  simp only [LJ,MD,M5] at Su;rcases Su with rfl | rfl | rfl | rfl | rfl | rfl | rfl | rfl | rfl | rfl | rfl
  .exact ⟨_,rfl,iI [""] (by simp) (all1 BL) (by decide) rfl rfl⟩
  .exact ⟨_,rfl,iI ["", ""] (by simp) (k9 BL (all1 BL)) (by decide) rfl (by simp only [ao,kL,bW,uN,Mv];rfl)⟩
  .exact ⟨_,rfl,iI [f.t,f.b,bz f.n, ""] (by simp) (k9 p1 (k9 p2 (k9 p3 (all1 BL)))) (LG (Pf l0 ls) (by decide)) rfl (by simp only [az,e0,ao,kL,bW,uN,LC,My,Mv])⟩
  .exact ⟨_,rfl,iI ["", f.t,f.b,bz f.n] (by simp) (k9 BL p4) (LG (Pf ls l0) (by decide)) rfl (by simp only [az,e0,ao,kL,bW,uN,LC,My,Mv])⟩
  .exact ⟨_,rfl,iI [f.t,f.b,bz f.n, "a"] (by simp) (k9 p1 (k9 p2 (k9 p3 (all1 JL)))) (LG (Pf (n:=2) l0 (by decide)) (by decide)) rfl (by simp only [az,e0,ao,kL,bW,Iw,E5,LC,My,Mv])⟩
  .exact ⟨_,rfl,iI [f.t,f.b] (by simp) (k9 p1 (all1 p2)) (LG (Pf (Pf l1 ls) l2) (by decide)) rfl (by simp only [az,ao,kL,bW,LC,My,Mv])⟩
  .exact ⟨_,rfl,iI [f.t] (by simp) (all1 p1) (LG l1 (by decide)) rfl rfl⟩
  .exact ⟨_,rfl,iI [z2,f.b,bz f.n] (by simp) (k9 pz2 (k9 p2 (all1 p3))) (LG (Pf T9 ll) (by decide)) (Lw (by rw [nz2,Bool.false_and];decide)) (by simp only [az,lc,ao,kL,bW,LC,My,Mv])⟩
  .exact ⟨_,rfl,iI [f.t,f.b,z1] (by simp) (k9 p1 (k9 p2 (all1 pz1))) (LG (Pf (Pf (Pf (Pf l1 ls) l2) ls) XH) (by decide)) (Lw (by rw [nz1,Bool.and_false,Bool.and_false];decide)) (by simp only [az,ao,kL,bW,LC,My,Mv])⟩
  .exact ⟨_,rfl,iI [f.t,z2,bz f.n] (by simp) (k9 p1 (k9 pz2 (all1 p3))) (LG (Pf (Pf (Pf (Pf l1 ls) T9) ls) l3) (by decide)) (Lw (by rw [nz2,Bool.false_and,Bool.and_false];decide)) (by simp only [az,ao,kL,bW,LC,My,Mv])⟩
  .exact ⟨_,rfl,iI [f.t, "", "a", "b"] (by simp) (k9 p1 (k9 BL (k9 JL (all1 K8)))) (LG (Pf (n:=5) l1 (by decide)) (by decide)) rfl (by simp only [az,ao,kL,bW,uN,D9,E5,GR,LC,My,Mv])⟩
 obtain ⟨x,rfl,hx⟩:=hb;walk_at "P";exact q x Rp Rq hx
theorem D4 {W:Type} {xs:List W} {k:Int} (h:0<=k):L2.cutD xs (some k) none=xs.drop k.toNat:=by
 unfold L2.cutD;have e:HT.Ov xs.length 0 (some k)=min k.toNat xs.length:=Lw (by lia);rw [e,show HT.Ov xs.length xs.length none=xs.length from rfl,Mu (by rw [ME];exact LA _)];by_cases hk:k.toNat<=xs.length
 .rw [Nat.min_eq_left hk]
 .rw [Nat.min_eq_right (by lia),Oc (LA _),Oc (by lia)]
theorem uw:(C B:List Fc)->(once B).length<=400->(once (B++C)).length<=400\/∃ B' f D,B++C=B'++f :: D/\(once B').length<=400/\400 < (ins (once B') f).length
 | [],B,h=>.inl (by rw [L7];exact h)
 | f :: C,B,h=>by
  by_cases z:(ins (once B) f).length<=400
  .have:=uw C (B++[f]) (by rw [eQ];exact z);rw [LC] at this;exact this
  .exact .inr ⟨B,f,C,rfl,h,by lia⟩
def AX (rows:List Str) (A B:List Fc) (x:Str):Prop:=rows.take B.length=ag B/\(∀ f∈B,f∈A)/\(once B).length<=400/\∃ y,rows[B.length]?=some y/\(y=x\/∃ f∈A,y=aB f/\400 < (ins (once B) f).length)
theorem oU {D:List Fc} {T:List Str} (e:A=B++f :: D) (h:(once B).length<=400) (g:400 < (ins (once B) f).length):AX (ag A++T) A B x:=by
 subst e;have l:(ag B).length=B.length:=Lo _;have e2:ag (B++f :: D)++T=ag B++(aB f :: ag D++T):=by simp
 refine ⟨by rw [e2,List.take_left' l],fun g hg=>LY _ hg,h,aB f,?_,.inr ⟨f,by simp,rfl,g⟩⟩;rw [e2,Lr (by rw [l];exact LA _),l,M1];rfl
theorem Bu (A:List Fc) (x:Str) (T:List Str):∃ B,AX (ag A++x :: T) A B x:=by
 have l:(ag A).length=A.length:=Lo _;rcases uw A [] (Mk _) with h | ⟨B,f,D,e,h,g⟩
 .refine ⟨A,by rw [List.take_left' l],fun g hg=>hg,h,x,?_,.inl rfl⟩;rw [Lr (by rw [l];exact LA _),l,M1];rfl
 .exact ⟨B,oU e h g⟩
theorem AX.len (h:AX rows A B x):B.length < rows.length:=by obtain ⟨_,_,_,y,hy,_⟩:=h;exact (Ls.mp hy).1
theorem AX.ends {bad:Str->Prop} {P N:Prop} (h:AX rows A B x) (sA:∀ f∈A,f.sm) (hb:bad x) (p:P):Ends rows B bad P N:=by
 obtain ⟨_,_,_,y,hy,hc⟩:=h;refine .inl ⟨y,hy,?_,p⟩;rcases hc with rfl | ⟨f,hf,e,g⟩
 .exact .inl hb
 .exact .inr ⟨f,sA f hf,e,g⟩
theorem gU {ss:List Str}:(∀ s∈ss,s.length<=100)->(Str.join nl ss).length<=101*ss.length:=by
 induction ss with
 | nil=>exact fun _=>Mk _
 | cons a l ih =>
  intro h;have ha:=h a Lq;have hl:=ih fun s hs=>h s (Ly _ hs);cases l with
  | nil=>show a.length<=101*1;lia
  | cons b l =>
   rw [<- aE,ao,u0,Ln,Ln,aE,aE,MO,LN (a:=a)];lia
theorem tJ (h:rows≠[]) (h1:rows≠[("" : Str)]):(Str.join nl rows).length≠0:=fun e=>by
 cases rows with
 | nil=>exact h rfl
 | cons a l =>
  cases l with
  | nil =>
   have e:a.length=0:=e;rw [<- aE] at e;exact h1 (by rw [cS (x:=a) (y := "") (by rw [uN];exact L5 e)])
  | cons b l =>
   rw [<- aE,ao,u0,Ln,Ln] at e;have e:a.cps.toList.length+(1+_)=0:=e;lia
theorem tY (l:List Str):ij (.list (l.map .str))=true:=by
 refine tq ?_ (LG (jU (k:=1) fun d hd=>?_) (by decide))
 .simp only [O1];exact kQ.mpr fun d hd=>by obtain ⟨x,_,rfl⟩:=Mh.mp hd;rfl
 .obtain ⟨x,_,rfl⟩:=Mh.mp hd;simp [PyData.depth]
def Vj (rows:List Str):Prop:=rows.length < 1000/\∀ r∈rows,r.length<=100/\10 ∉ r.cps.toList
theorem fG (h:∀ f∈A,f.sm):∀ r∈ag A,r.length<=100/\10 ∉ r.cps.toList:=fun r hr=>by obtain ⟨f,hf,rfl⟩:=Mh.mp hr;exact ⟨LG (fu (h f hf)) (by decide),Ay (h f hf)⟩
theorem Vj.rd (h:Vj rows):(Str.join nl rows).length<=1000000 :=
 LG (gU fun s hs=>(h.2 s hs).1) (by have:=h.1;lia)
theorem gi (hR:Vj rows) (h1:rows≠[("" : Str)]) (h:AX rows A B x) (sA:∀ f∈A,f.sm) (hx:Rd x .none\/∃ f∈A,rows[B.length]?=some (aB f)/\400 < (ins (once B) f).length) (q:Q (.dat (.bool true)) []):WF a9 [.str (Str.join nl rows),.int (B.length:Int)] Q:=by
 have hl:=h.len;have O2:rows≠[]:=fun z=>by rw [z] at hl;cases hl
 refine jC (Nat.lt_trans hl hR.1) (fun Q' q'=>iz hR.rd (.inr ⟨tJ O2 h1,oZ O2 fun r hr=>(hR.2 r hr).2⟩) hR.1 h.1 (fun f hf=>sA f (h.2.1 f hf)) h.2.2.1 ?_) q;rcases hx with hx | ⟨f,hf,e,g⟩
 .exact h.ends sA hx q'
 .exact .inl ⟨_,e,.inr ⟨f,sA f hf,rfl,g⟩,q'⟩
theorem mF (hP:bp cs (R+6) pn) (sA:∀ f∈A,f.sm) (h0:0 < A.length) (hl:A.length<=450) (q:∀ OH,bp cs R OH->Q (.dat (.bool true)) [OH]):WF aU [pn,.list ((ag A).map .str)] Q:=by
 have el:((ag A).map PyData.str).length=A.length:=by rw [Lo,Lo]
 have m0:(0:Int) < ((((ag A).map PyData.str).length:Nat):Int):=by rw [el];lia
 have m1:((((ag A).map PyData.str).length:Nat):Int) < 2 ^ 199:=by rw [el];lia
 refine cM rfl ?_;unfold cT;walk_at "d";intro w1 Tz UO w10 w11;walk_at "N";obtain ⟨d1,QB,SY⟩:=Tn (xs:=(ag A).map PyData.str) w10 w11;obtain ⟨y,hy,rfl⟩:=Mh.mp QB;obtain ⟨f,hf,rfl⟩:=Mh.mp hy;refine nM rfl SY ?_;clear SY QB hy;walk_at "P";refine ae (ds:=[Tz,.str (aB f)]) (is:=[0]) rfl rfl (oo (R:=R+2) UO (sA f hf) fun x Qe PU hx=>⟨rfl,?_⟩);walk_at "n";walk_at "d";intro w2 Rp Rq w20 w21;walk_at "N";rw [pG w20,<-List.map_take,<-List.map_take];have ha:w2.toNat<=A.length:=by rw [el] at w21;lia
 generalize w2.toNat=k at ha;have lt:((ag (A.take k)).map PyData.str).length<=450:=by rw [Lo,Lo,Mi];lia
 refine uH rfl (by show _+1<=2 ^ 24;lia) ?_;walk_at "d";intro w3 Wv Ww w30 w31;walk_at "N";rw [D4 (by lia),<-List.map_drop,<-List.map_drop];have ld:∀ j,((ag (A.drop j)).map PyData.str).length<=450:=fun j=>by rw [Lo,Lo,ME];lia
 generalize (w2+w3).toNat=j;have ld:=ld j;refine uH rfl (by rw [Ln];show _+1+_<=2 ^ 24;lia) ?_;rw [show (ag (A.take k)).map PyData.str++[.str x]++(ag (A.drop j)).map PyData.str=(ag (A.take k)++x :: ag (A.drop j)).map PyData.str by rw [Mw,List.map_cons,LC];rfl];rw [Lo] at lt ld;have hR:Vj (ag (A.take k)++x :: ag (A.drop j)):=by
  refine ⟨by rw [Ln,LN];lia,fun r hr=>?_⟩;rcases Mc.mp hr with hr | hr
  .exact fG (fun f hf=>sA f (Nn hf)) r hr
  .rcases LJ.mp hr with rfl | hr
   .exact ⟨hx.1.1,hx.2⟩
   .exact fG (fun f hf=>sA f (List.mem_of_mem_drop hf)) r hr
 obtain ⟨B,hB⟩:=Bu (A.take k) x (ag (A.drop j));have sB:∀ f∈A.take k,f.sm:=fun f hf=>sA f (Nn hf);generalize ag (A.take k)++x :: ag (A.drop j)=rows at hR hB;have nb:∀ f∈B,PyData.eqv (.str (aB f)) (.str x)=false:=fun f hf=>by rw [cR];refine LV fun e=>?_;have:=yr (iT (sB f (hB.2.1 f hf))) (e▸hx.1);cases this
 walk_at "n";walk_at "ps";refine w_eq (d:=.list (rows.map .str)) (d':=.list [.str ""]) rfl (tY _) rfl ?_;walk_at "P";refine Pd (fun c=>?_) (fun c=>?_)
 .walk_at "P";exact q Wv Ww
 .walk_at "P";refine fK (z:=nl) (ss:=rows) rfl rfl rfl (fun s hs=>(hR.2 s hs).1) (NC hR.1) ?_;walk_at "P";refine ae (ds:=[.list (rows.map .str),.str x]) (is:=[]) rfl rfl (kF (A:=B) rfl hR.1 hB.1 (fun f hf=>sB f (hB.2.1 f hf)) hB.2.2.1 nb (hB.ends sB (by rw [cR];exact LH rfl) ⟨rfl,?_⟩));walk_at "N";refine ae (ds:=[.str (Str.join nl rows),.int (B.length:Int)]) (is:=[]) rfl rfl (gi hR (fun z=>by rw [z] at c;cases c) hB sB (.inl hx.1) ⟨rfl,?_⟩);walk_at "N";exact q Wv Ww
theorem zT:aB f ≠ "" := fun e=>by have e:=congrArg (fun z:Str=>z.length) e;have e:(aB f).length=0:=e;unfold aB at e;rw [aF,aF,aF,aF] at e;have:sp.length=1:=rfl;lia
theorem qF (sA:∀ f∈A,f.sm) (hl:A.length < 1000) (nA:(once A).length<=400) (hL:SX L) (hm:∀ a,a∈L↔a∈A) (h4:L.length<=400):∀ Q':PR->List Qq->Prop,Q' (.dat (.tuple (L.map Fc.enc))) []->WF aJ [.str (Str.join nl (ag A))] Q':=fun Q' q=>by
 have hR:Vj (ag A):=⟨by rw [Lo];exact hl,fG sA⟩;have el:(ag A).length=A.length:=Lo _;refine iz (rows:=ag A) hR.rd ?_ hR.1 (by rw [<- el,Mx]) sA nA (.inr ⟨el,L,hL,hm,h4,q⟩);cases A with
 | nil=>exact .inl ⟨rfl,rfl⟩
 | cons f A =>
  refine .inr ⟨tJ (by simp) (fun z=>?_),oZ (by simp) fun r hr=>(hR.2 r hr).2⟩;exact zT (List.cons.inj z).1
theorem jo:ij (.list [.str "web", .tuple (A.map Fc.enc)])=true/\PyData.eqv (.list [.str "web", .tuple (A.map Fc.enc)]) (.list [.str "web", .tuple (A.map Fc.enc)])=true:=by
 have n:O1 (.list [.str "web", .tuple (A.map Fc.enc)])=true:=by
  have h:jB (A.map Fc.enc)=true:=kQ.mpr fun d hd=>by obtain ⟨x,_,rfl⟩:=Mh.mp hd;exact xI x
  simp only [O1,jB,h];rfl
 refine ⟨tq n (LG (jU (k:=4) fun d hd=>?_) (by decide)),eqv_refl _ n⟩;simp only [LJ,MD,M5] at hd;rcases hd with rfl | rfl
 .simp [PyData.depth]
 .exact ip (k:=3) fun d hd=>by obtain ⟨x,_,rfl⟩:=Mh.mp hd;exact pq x
theorem jH (sA:∀ f∈A,f.sm) (hl:A.length < 1000) (nA:(once A).length<=400) (hL:SX L) (hm:∀ a,a∈L↔a∈A) (h4:L.length<=400) (q:Q (.Oj (.list [.str "web", .tuple (L.map Fc.enc)])) []):WF cm [.str (Str.join nl (ag A))] Q :=
 wK (qF sA hl nA hL hm h4) q
theorem lZ {Q:RV->En->Prop} (sA:∀ f∈A,f.sm) (q:Q (.Oj (.list ((ag A).map .str))) (aK e [] [])):GI (fW (dT OP .yes) (dE OP (.call fT (.cons (.var 0) .nil)))) [] (A.map Fc.enc) none e Q:=by
 refine cp (fun j ys ec=>ys=((ag (A.take j)).map .str)/\ec=[]) ⟨rfl,rfl⟩ ?_ ?_
 .rintro j d ys ec hd ⟨rfl,rfl⟩;rw [LO] at hd;obtain ⟨a,ha,rfl⟩:=LZ.mp hd;refine eR ?_;walk_at "P";refine ae (ds:=[a.enc]) (is:=[]) rfl rfl (zQ (sA a (LP ha)) ⟨rfl,?_⟩);walk_at "P";refine ⟨?_,rfl⟩;rw [<- N3 ha];simp
 .rintro ys ec ⟨rfl,rfl⟩;rw [Lo,Mx];exact q
theorem oI (hL:SX L) (hm:∀ a,a∈L↔a∈A):L.length=(once A).length :=
 ((List.perm_ext_iff_of_nodup (lL hL) (eL A)).mpr fun a=>(hm a).trans lK.symm).length_eq
theorem rL (h:∀ a,a∈A↔a∈B):(once A).length=(once B).length :=
 ((List.perm_ext_iff_of_nodup (eL A) (eL B)).mpr fun a=>lK.trans ((h a).trans lK.symm)).length_eq
theorem xK {ns:List Int} (_:ns.length<=63):WF sQ [.list (ns.map .int)] fun pr outs=>pr=.dat (.bool true)/\outs=[]:=by
 have hP0:bp ns (5000+2000) (BA ns 0 0):=⟨0,0,rfl,by decide,by decide,by decide⟩;refine cM rfl ?_;unfold zt;walk_at "P";refine ae (ds:=[.list (ns.map .int)]) (is:=[]) rfl rfl (Fl ⟨rfl,?_⟩);walk_at "N";refine ae (ds:=[BA ns 0 0]) (is:=[1]) rfl rfl (xy (R:=5000) hP0 fun fs Tz UO Tx Qf=>⟨rfl,?_⟩);walk_at "N";refine qN rfl ?_;refine lZ Qf ?_;walk_at "N";have hR:Vj (ag fs):=⟨by rw [Lo];lia,fG Qf⟩;have el:(ag fs).length=fs.length:=Lo _;rcases uw fs [] (Mk _) with h4 | ⟨B,f,D,e,h,g⟩
 case inr =>
  have hU:=oU (T:=[]) (x := "") e h g;rw [L7] at hU;have hB:∀ f∈B,f.sm:=fun b hb=>Qf b (hU.2.1 b hb);have hy:(ag fs)[B.length]?=some (aB f):=by rw [show fs=B++f :: D from e,LO,Lr (LA _),M1];rfl
  have hf:f∈fs:=by rw [show fs=B++f :: D from e];simp
  refine ae (ds:=[.list ((ag fs).map .str),.none]) (is:=[]) rfl rfl (kF (A:=B) rfl hR.1 hU.1 hB hU.2.2.1 (fun _ _=>rfl) (.inl ⟨_,hy,.inr ⟨f,Qf f hf,rfl,g⟩,rfl,?_⟩));walk_at "N";refine fK (z:=nl) (ss:=ag fs) rfl rfl rfl (fun s hs=>(hR.2 s hs).1) (NC hR.1) ?_;walk_at "P";refine ae (ds:=[.str (Str.join nl (ag fs)),.int (B.length:Int)]) (is:=[]) rfl rfl (gi hR (fun z=>?_) hU Qf (.inr ⟨f,hf,hy,g⟩) ⟨rfl,?_⟩)
  .have:=Ax (once B) f;have l2:B.length < (ag fs).length:=hU.len;rw [z] at l2;have:once B=[]:=by rw [L5 (Nat.lt_one_iff.mp l2)];rfl
   rw [this] at g;have:=(Ax [] f).2;simp at this;lia
  walk_at "P";refine ⟨by decide,?_⟩;refine cp (fun j ys ec=>∃ OH,bp ns (4000+6*(4 - j)) OH/\ys=List.replicate j (PyData.bool true)/\ec=[.GG OH,.dat (.list ((ag fs).map .str))]) ⟨Tz,UO.le (by lia),rfl,rfl⟩ ?_ ?_
  .rintro j d ys ec hd ⟨OH,hP,rfl,rfl⟩;obtain ⟨rfl,hj⟩:=eG hd;have hj:j < 4:=hj;refine eR ?_;walk_at "P";refine ae (ds:=[OH,.list ((ag fs).map .str)]) (is:=[1]) rfl rfl (mF (R:=4000+6*(4 - (j+1))) (hP.le (by lia)) Qf (List.length_pos_of_mem hf) (by lia) fun Qe PU=>⟨rfl,?_⟩);walk_at "P";exact ⟨Qe,PU,by rw [List.replicate_succ'];rfl,rfl⟩
  .rintro ys ec ⟨OH,hP,rfl,rfl⟩;walk_at "N";exact ⟨rfl,rfl⟩
 rw [Mv] at h4;refine ae (ds:=[.list ((ag fs).map .str),.none]) (is:=[]) rfl rfl (kF (A:=fs) rfl hR.1 (by rw [<- el,Mx]) Qf h4 (fun _ _=>rfl) (.inr ⟨el,rfl,?_⟩));obtain ⟨L,hL,hm,hLl⟩:=B4 fs;have sL:∀ f∈L,f.sm:=fun f hf=>Qf f ((hm f).mp hf);have Zz:L.length<=400:=by lia
 walk_at "N";refine ae (ds:=[.list (fs.map Fc.enc)]) (is:=[]) rfl rfl (rV Qf (by lia) hL hm Zz ⟨rfl,?_⟩);walk_at "N";refine ⟨⟨by rw [Lo];lia,by rw [Lo];lia⟩,?_⟩;refine eK (fun i e=>oX [some (.dat (.list (ns.map .int))),some (.own Tz),some (.dat (.list (fs.map Fc.enc))),some (.dat (.list ((ag fs).map .str))),none,some (.dat (.tuple (L.map Fc.enc))),some (.dat (.list (L.map Fc.enc))),none,none,none,none,none,none] e) (by walk_at "L") ?_ ?_
 .rintro i d e hd _;walk_at "l";obtain ⟨rfl,hi⟩:=eG hd;rw [Lo] at hi;have hi:i+1 < L.length:=by lia
  have g0:=Lp (Nat.lt_of_succ_lt hi);have g1:=Lp hi;walk_at "f";walk_at "P";refine nM rfl (c5 (v:=(L[i]).enc) (by rw [LO,g0];rfl)) ?_;walk_at "P";refine nM (i:=((i+1:Nat):Int)) rfl (c5 (v:=(L[i+1]).enc) (by rw [LO,g1];rfl)) ?_;walk_at "P";refine ae (ds:=[(L[i]).enc,(L[i+1]).enc]) (is:=[]) rfl rfl (uI ⟨rfl,?_⟩);rw [MM.mp hL i (i+1) (Nat.lt_of_succ_lt hi) hi (MH i)];walk_at "P";walk_at "L"
 rintro e _;walk_at "l";walk_at "P";refine qN rfl ?_;refine lZ sL ?_;walk_at "N";refine fK (z:=nl) (ss:=ag L) rfl rfl rfl (iK sL) (by rw [Lo];lia) ?_;walk_at "P";refine ae (ds:=[.tuple (L.map Fc.enc)]) (is:=[]) rfl rfl (nL sL (by lia) ⟨rfl,?_⟩);walk_at "n";walk_at "ps";refine F8 (d:=.str (Str.join nl (ag L))) (d':=.str (Str.join nl (ag L))) rfl rfl rfl ?_;walk_at "P";refine i9 (by rw [cR,LH rfl];rfl) ?_;walk_at "ps";have hmL:∀ a,a∈L↔a∈L:=fun _=>Iff.rfl;refine ae (ds:=[.str (Str.join nl (ag L))]) (is:=[]) rfl rfl (jH (L:=L) sL (by lia) (by rw [<- oI hL hmL];exact Zz) hL hmL Zz ⟨rfl,?_⟩);walk_at "ps";refine F8 (d:=.list [.str "web", .tuple (L.map Fc.enc)]) (d':=.list [.str "web", .tuple (L.map Fc.enc)]) rfl jo.1 jo.1 ?_;rw [jo.2];walk_at "pz";with_reducible refine rK fun N eN=>?_
 have rest:(A M:List Fc)->(∀ f∈A,f.sm)->0 < A.length->A.length<=405->(once A).length<=400->SX M->(∀ a,a∈M↔a∈A)->∀ e,oX [some (.dat (.list (ns.map .int))),some (.own Tz),none,some (.dat (.list ((ag A).map .str))),none,some (.dat (.tuple (M.map Fc.enc))),none,none,none,none,none,none,none] e->N e:=by
  intro A M sA a0 al a4 hM hmM e hL;have h4M:M.length<=400:=by rw [oI hM hmM];exact a4
  have ZA:((ag A).map PyData.str).length=A.length:=by rw [Lo,Lo]
  rw [eN];clear eN;revert hL;intro _;walk_at "l";walk_at "d";intro w1 Qe PU w10 w11;walk_at "N";refine ⟨⟨by lia,by lia⟩,?_⟩;refine cp (fun j ys ec=>∃ (P:List Fc) (OH:Qq),bp ns (4000+(3 - j)) OH/\ys=(ag P).map .str/\P.length=j/\(∀ f∈P,f∈A)/\ec=[.dat (.list ((ag A).map .str)),.GG OH]) ⟨[],Qe,PU.le (by lia),rfl,rfl,(fun f hf=>nomatch hf),rfl⟩ ?_ ?_
  .rintro j d ys ec hd ⟨P,OH,hP,rfl,ZC,ZD,rfl⟩;obtain ⟨rfl,hj⟩:=eG hd;have hP:bp ns (4000+(3 - (j+1))+1) OH:=hP.le (by lia);have m0:(0:Int) < ((((ag A).map PyData.str).length:Nat):Int):=by rw [ZA];lia
   have m1:((((ag A).map PyData.str).length:Nat):Int) < 2 ^ 199:=by rw [ZA];lia
   refine eR ?_;walk_at "d";intro w2 Rp Rq w20 w21;walk_at "N";obtain ⟨d1,QB,SY⟩:=Tn (xs:=(ag A).map PyData.str) w20 w21;obtain ⟨y,hy,rfl⟩:=Mh.mp QB;obtain ⟨f,hf,rfl⟩:=Mh.mp hy;refine nM rfl SY ?_;walk_at "P";exact ⟨P++[f],Rp,Rq,by simp,by rw [Ln,ZC];rfl,fm ZD hf,rfl⟩
  rintro ys ec ⟨P,OH,hP,rfl,ZC,ZD,rfl⟩;rw [kC] at ZC;have hP9:bp ns 4000 OH:=hP.dn;walk_at "N";refine uH rfl (by rw [MX,ZA,Lo,Lo];show _<=2 ^ 24;lia) ?_;rw [show ((ag A).map PyData.str).reverse++(ag P).map PyData.str=(ag (A.reverse++P)).map PyData.str by rw [<- List.map_reverse,<-List.map_reverse];simp];have ZE:∀ a,a∈A.reverse++P↔a∈A:=fun a=>by rw [Mc,MR];exact ⟨fun h=>h.elim id (ZD a),.inl⟩
  have ZF:∀ f∈A.reverse++P,f.sm:=fun f hf=>sA f ((ZE f).mp hf);have l2:(A.reverse++P).length<=407:=by rw [Ln,MX];lia
  have a42:(once (A.reverse++P)).length<=400:=by rw [rL ZE];exact a4
  have Wx:∀ a,a∈M↔a∈A.reverse++P:=fun a=>(hmM a).trans (ZE a).symm;generalize A.reverse++P=A2 at ZF l2 a42 Wx;walk_at "N";refine fK (z:=nl) (ss:=ag A2) rfl rfl rfl (iK ZF) (by rw [Lo];lia) ?_;walk_at "P";refine ae (ds:=[.str (Str.join nl (ag A2))]) (is:=[]) rfl rfl (jH (L:=M) ZF (by lia) a42 hM Wx h4M ⟨rfl,?_⟩);walk_at "n";walk_at "ps";refine F8 (d:=.list [.str "web", .tuple (M.map Fc.enc)]) (d':=.list [.str "web", .tuple (M.map Fc.enc)]) rfl jo.1 jo.1 ?_;rw [jo.2];walk_at "P";refine ⟨by decide,?_⟩;refine eK (fun i e=>∃ OH,bp ns (3000+6*(8 - i)) OH/\oX [some (.dat (.list (ns.map .int))),some (.own OH),none,some (.dat (.list ((ag A).map .str))),none,none,none,none,none,none,none,none,none] e) ⟨OH,hP9.le (by lia),by walk_at "L"⟩ ?_ ?_
  .rintro i d e hd ⟨OH,hP,_⟩;walk_at "l";obtain ⟨rfl,hi⟩:=eG hd;have hi:i < 8:=hi;walk_at "f";walk_at "P";refine ae (ds:=[OH,.list ((ag A).map .str)]) (is:=[1]) rfl rfl (mF (R:=3000+6*(8 - (i+1))) (hP.le (by lia)) sA a0 (by lia) fun Qe PU=>⟨rfl,?_⟩);walk_at "P";exact ⟨Qe,PU,by walk_at "L"⟩
  rintro e ⟨OH,hP,_⟩;walk_at "l";walk_at "P";refine qN rfl ?_;refine eK (fun i e=>oX [some (.dat (.list (ns.map .int))),none,none,none,none,none,none,none,none,none,none,none,none] e) (by walk_at "L") ?_ ?_
  .rintro i d e hd _;walk_at "l";have hx:∀ x,d≠.str x:=by have hd:=LP hd;simp only [LJ,MD,M5] at hd;rcases hd with rfl | rfl | rfl | rfl | rfl | rfl <;> exact fun x e=>by cases e
   walk_at "f";walk_at "P";refine ae (ds:=[d,.int ((0:Nat):Int)]) (is:=[]) rfl rfl (jC (k:=0) (by decide) (fun Q' q'=>qe hx q') ⟨rfl,?_⟩);walk_at "P";walk_at "L"
  .rintro e _;walk_at "l";walk_at "P";exact ⟨rfl,rfl⟩
 clear eN;walk_at "ps";refine w_eq (d:=.list ((ag fs).map .str)) (d':=.list []) rfl (tY _) rfl ?_;cases fs with
 | nil =>
  walk_at "P";have sA:∀ f∈[(⟨"a", "b", .num 1⟩:Fc)],f.sm:=fun f hf=>by rw [LF.mp hf];exact ⟨⟨by unfold Pe;decide,by decide,by decide⟩,⟨by unfold Pe;decide,by decide,by decide⟩,by decide,by decide⟩
  refine ae (ds:=[.list ([(⟨"a", "b", .num 1⟩:Fc)].map Fc.enc)]) (is:=[]) rfl rfl (rV sA (by decide) (N4 ..) (fun _=>Iff.rfl) (by decide) ⟨rfl,?_⟩);walk_at "N";exact rest [⟨"a", "b", .num 1⟩] [⟨"a", "b", .num 1⟩] sA (by decide) (by decide) (LG (AH _) (by decide)) (N4 ..) (fun _=>Iff.rfl) _ (by walk_at "L")
 | cons f fs =>
  walk_at "P";exact rest (f :: fs) L Qf (Nat.zero_lt_succ _) Tx h4 hL hm _ (by walk_at "L")
end K11
end
namespace PySem.W.Fast
def tw17561600796414716518:=()
def tw6595858088806019743:=()
def tw5213886940584934687:=()
def tw7302488829597295706:=()
def tw10941366955159811896:=()
def tw15922128145648645025:=()
def tw5365563429296117598:=()
def tw7509701086841319180:=()
def tw14409599261862599977:=()
def tw3854964440604151661:=()
def tw1741883564540854039:=()
def tw5263253104484379559:=()
def tw18315673485468157382:=()
def tw8058582549051023879:=()
def tw12893307038942721455:=()
def tw15182520804098107376:=()
def tw10072550829063290626:=()
def tw5841610775508299237:=()
def tw4110470356547839629:=()
def tw5387803090930920796:=()
def tw2134468927340612480:=()
def tw8150779485552951290:=()
def tw8040331346678179987:=()
def tw6292545961949116057:=()
def tw12140896311790628621:=()
def tw6549477748078028255:=()
def tw16628180991499326172:=()
def tw7153818663411837881:=()
def tw14044666179279655694:=()
def tw13756943770043894135:=()
def tw14062252532366760786:=()
def tw37084849156032470:=()
def tw5459084552300233054:=()
def tw8219112883607040218:=()
def tw4877200499441989666:=()
def tw10177808367961069814:=()
def tw4695615945487322623:=()
def tw11114637017453150316:=()
def tw17139641047548445661:=()
def tw10364843334502534442:=()
def tw9181086917610520749:=()
def tw4735088860789569221:=()
def tw5079316414597999954:=()
def tw4371939222674186801:=()
def tw148752134201020188:=()
def tw12142279257957099736:=()
def tw14892402979880936540:=()
def tw13413338200838556179:=()
def tw12119276177693702462:=()
def tw2013685042194505348:=()
def tw4552427586295230235:=()
def tw1269058627132566399:=()
def tw8351520439034579575:=()
def tw1905558256444879290:=()
def tw4358595137658396253:=()
def tw8871791756710109627:=()
def tw11526551290225448040:=()
def tw15835912447091433112:=()
def tw17310143142164632060:=()
def tw12999359453607559767:=()
def tw2519826614531653600:=()
def tw8305746460340832373:=()
def tw15325167495580076070:=()
def tw6188234249901564854:=()
def tw7111181321284017403:=()
def tw662393983735873659:=()
def tw13759704310247837653:=()
def tw14862056547853456214:=()
def tw14337115523731096602:=()
def tw3995450111031209646:=()
def tw12217645576565794328:=()
def tw985258401916672444:=()
def tw2720074731579979420:=()
def tw7607235852839622347:=()
def tw1428617008005647777:=()
def tw15195505440997576605:=()
def tw17651261057326496408:=()
def tw13955596833295748651:=()
def tw10787304432448392062:=()
def tw13206083793798504148:=()
def tw13017502320438748146:=()
def tw18239332386348872879:=()
def tw2172817838266662996:=()
def tw14445455841146696794:=()
def tw17022014884588209253:=()
def tw3964850955407674292:=()
def tw6356547519764910423:=()
def tw7568016212790726070:=()
def tw430193551032483777:=()
def tw4892185932558157352:=()
def tw16864970885291640376:=()
def tw12325947370808515863:=()
def tw8769753678680509785:=()
def tw14348469639178934655:=()
def tw468747559191738033:=()
def tw13753686138154752185:=()
def tw10750122049631703250:=()
def tw14369453239644684028:=()
def tw1819355573071736755:=()
end PySem.W.Fast
end
open PySem PySem.W PyProof.Rows
set_option maxRecDepth 100000 in
set_option maxHeartbeats 0 in
theorem PySem.Challenge.cw_webshapes_k11_webs_as_texts_holds : PySem.Challenge.rw_webshapes_k11_webs_as_texts.Holds := by
  w_on; (refine holds_law L2.ws fun cK => ?_); k_head; (case hw => w_witness2)
  k_fill
  refine L2.wq (l := PySem.Challenge.rw_webshapes_k11_webs_as_texts) (n := 63) (k := 14) (x := "_law_script") (CX := L2.CX0) (sp := K11.zu) rfl (by decide) rfl ⟨rfl, by decide, by decide, rfl⟩ (fun w h Y => PySem.W.kIn_of Y) ?F ?S ?C
  case F =>
    intro w mg fa h KX G hmg;have TT : ∃ t : K11.Adr, (∀ (s : Qx) (u : Qj), BindsTo s (t.f 34).2 ⟨[u], []⟩ [("_law_script", u)]) ∧ K11.Txt (L2.KOf KX) mg t := by
      dsimp only [L2.KOf];refine' K11.DR KX G ?D ?va ?vb ?vc ?vd ?ve ?vf ?vg ?vh ?vi ?vj ?vk ?vl ?vm ?vo ?vq ?vs ?vu ?xul ?xum ?xuh ?xut ?xun ?xuj ?v2 ?v3 ?v4 ?xbl ?xbm ?xbh ?xbt ?xbn ?xbj ?uc ?ud ?ue ?xvl ?xvm ?xvh ?xvt ?xvn ?xvj ?um ?un ?uo ?gxa ?gxb ?gxn ?sa ?po ?tk ?hd ?sp ?rd ?na ?fc ?kpx ?lI ?cI ?kI ?mr ?mv ?mn ?Y
      (case D => (iterate 35 refine L2.II KX G (by k_is) (by k_is) (by k_is) (by k_is) (by first | exact fun _ _ _ _ _ _ => L2.us1 fun _ => rfl | exact fun _ _ _ _ _ _ => L2.us2 fun _ _ => rfl) ?_); exact True.intro)
      case gxa|gxb|gxn|va|vb|vc|vd|ve|vf|vg|vh|vi|vj|vk|vl|vm|vo|vq|vs|vu|xul => k_is
      case xum|xuh => rfl
      case xut|xun => kernel_rfl
      case xuj|v2|v3|v4|xbl => k_is
      case xbm|xbh => rfl
      case xbt|xbn => kernel_rfl
      case xbj|uc|ud|ue|xvl => k_is
      case xvm|xvh => rfl
      case xvt|xvn => kernel_rfl
      case xvj|um|un|uo|sa => k_is
      case po => kernel_rfl
      case tk|hd|sp|rd|na|fc|kpx|lI|cI|kI|mr|mv|mn => k_is
      (case Y => (intro xC; (iterate 3 refine L2.Ii KX G xC (by k_is) (by k_is) (by k_is) ?_); exact True.intro))
    obtain ⟨t, hb, T⟩ := TT;have e : some (Value.ref fa) = some (Value.ref (t.f 34).1) := hmg.symm.trans (T.d 34 rfl).m;have e' : fa = (t.f 34).1 := by injection e with e; injection e
    subst e';exact ⟨(t.f 34).2, hb, fun base _ _ => K11.Dv T⟩
  case S => exact fun K H a ns hl _ hS => L2.Ds rfl hl hS (by obtain ⟨pr, outs, h, rfl, rfl⟩ := K11.xK hl; exact h)
  case C => exact fun _ _ _ _ z => z

