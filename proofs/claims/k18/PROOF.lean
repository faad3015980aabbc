import PyProof.Rows.All
import Wide.All
import OpenK.AllK
import Wide.FinOn
import Lean
import PyProof.EqAt
import PyProof.EqKinds
import PyProof.TupleCall
import PyProof.ConsumeWalk
import PyProof.EqLayable
import PyProof.ReprRoads
import PyProof.StrWalks
import PyProof.SliceStr2
import PyProof.StrLawsIn
import PyProof.StrLawsRepr
import PyProof.SliceList
import PyProof.Rows.FStr
import PyProof.CallStr
import PySem.Challenge.RW_webshapes_k18_forms_shown
section
-- CHANGE: your row's module here, as the last of these rows
set_option Elab.async false
set_option linter.all false
set_option maxRecDepth 100000
/-! THE HAND LAYER, for ints, bools, texts, own classes, LISTS and tuples (index, slices, in, append, pop ..), calls, loops. Paste it whole ahead of your own text; what your proof does not reach may be deleted. -/
namespace L2
open PySem PySem.Spec PyProof.Rows

/-- a key: an int or a str -/
abbrev Key := Sum Int Str
def keyIs : Key → Value → Bool
  | .inl k, v => Value.isInt k v
  | .inr x, v => Value.isStrOf x v
def keyH (w : World) : Key → Int
  | .inl k => hashInt k
  | .inr x => hashStr w x
theorem keyIs_shape : ∀ {k : Key} {v : Value}, keyIs k v = true → (∃ i t, k = Sum.inl i ∧ v = Value.int i t) ∨ (∃ x t, k = Sum.inr x ∧ v = Value.str x t)
  | .inl i, v, h => by
    obtain ⟨t, e⟩ := Value.isInt_shape (k := i) (v := v) h
    exact .inl ⟨i, t, rfl, e⟩
  | .inr x, v, h => by
    obtain ⟨t, e⟩ := Value.isStrOf_shape (x := x) (v := v) h
    exact .inr ⟨x, t, rfl, e⟩
theorem keyIs_int (i : Int) (t : Tok) : keyIs (.inl i) (.int i t) = true := by simp [keyIs, Value.isInt]
theorem keyIs_str (x : Str) (t : Tok) : keyIs (.inr x) (.str x t) = true := by simp [keyIs, Value.isStrOf]
theorem key_ll (a b : Int) : decide ((Sum.inl a : Key) = Sum.inl b) = (a == b) := by
  by_cases e : a = b
  · subst e; simp
  · have h : ¬ (Sum.inl a : Key) = Sum.inl b := fun q => e (Sum.inl.inj q)
    rw [decide_eq_false h]
    exact (beq_eq_false_iff_ne.mpr e).symm
theorem key_rr (a b : Str) : decide ((Sum.inr a : Key) = Sum.inr b) = decide (a = b) := by
  by_cases e : a = b
  · subst e; simp
  · have h : ¬ (Sum.inr a : Key) = Sum.inr b := fun q => e (Sum.inr.inj q)
    rw [decide_eq_false h, decide_eq_false e]
theorem key_lr (a : Int) (b : Str) : decide ((Sum.inl a : Key) = Sum.inr b) = false := decide_eq_false (fun q => nomatch q)
theorem key_rl (a : Str) (b : Int) : decide ((Sum.inr a : Key) = Sum.inl b) = false := decide_eq_false (fun q => nomatch q)

def mixKind (prog : Program) (w : World) : PySem.KeyKind prog w Key where
  is := keyIs
  hash := keyH w
  inj := fun v a b ha hb => by
    rcases keyIs_shape ha with ⟨i, t, rfl, rfl⟩ | ⟨x, t, rfl, rfl⟩
    · rcases keyIs_shape hb with ⟨j, u, rfl, e⟩ | ⟨y, u, rfl, e⟩
      · injection e with e1 _; rw [e1]
      · exact nomatch e
    · rcases keyIs_shape hb with ⟨j, u, rfl, e⟩ | ⟨y, u, rfl, e⟩
      · exact nomatch e
      · injection e with e1 _; rw [e1]
  byValue := fun k v h => by
    rcases keyIs_shape h with ⟨i, t, rfl, rfl⟩ | ⟨x, t, rfl, rfl⟩ <;> rfl
  pyHash := fun hv h => by
    rcases keyIs_shape hv with ⟨i, t, rfl, rfl⟩ | ⟨x, t, rfl, rfl⟩
    · exact wpAny_pyHash_int h
    · exact wpAny_pyHash_str h
  eqBool := fun hu hv h => by
    rcases keyIs_shape hu with ⟨i, t, rfl, rfl⟩ | ⟨x, t, rfl, rfl⟩
    · rcases keyIs_shape hv with ⟨j, u, rfl, rfl⟩ | ⟨y, u, rfl, rfl⟩
      · rw [key_ll] at h; exact wpAny_eqBool_int h
      · rw [key_lr] at h; exact SeqAt.EqAt.int_str i t y u _ _ _ _ h
    · rcases keyIs_shape hv with ⟨j, u, rfl, rfl⟩ | ⟨y, u, rfl, rfl⟩
      · rw [key_rl] at h; exact SeqAt.EqAt.str_int x t j u _ _ _ _ h
      · rw [key_rr] at h; exact wpAny_eqBool_str h
  «strs» := fun k x t v h => by
    rcases keyIs_shape h with ⟨i, u, rfl, e⟩ | ⟨y, u, rfl, e⟩
    · exact nomatch e
    · injection e with e1 _
      subst e1
      cases v <;> rfl

theorem mixKind_is (prog : Program) (w : World) (k : Key) (v : Value) : (mixKind prog w).is k v = keyIs k v := rfl
theorem mixKind_int (prog : Program) (w : World) (i : Int) (t : Tok) : (mixKind prog w).is (.inl i) (.int i t) = true := keyIs_int i t
theorem mixKind_str (prog : Program) (w : World) (x : Str) (t : Tok) : (mixKind prog w).is (.inr x) (.str x t) = true := keyIs_str x t
end L2

namespace L2
open PySem PySem.Spec PyProof.Rows

/-- a value, without the heap -/
inductive V where
  | non | bl (b : Bool) | int (i : Int) | str (x : Str) | byt (b : Array UInt8) | flt (b : UInt64) | ref (a : Addr) | ty (n : String)
  deriving DecidableEq

def RelV : V → Value → Prop
  | .non, u => u = Value.none
  | .bl b, u => u = Value.bool b
  | .int i, u => ∃ t, u = Value.int i t
  | .str x, u => ∃ t, u = Value.str x t
  | .byt b, u => ∃ t, u = Value.bytes b t
  | .flt b, u => ∃ t, u = Value.float b t
  | .ref a, u => u = Value.ref a
  | .ty n, u => u = Value.type n

abbrev Vals : List V → List Value → Prop := Paired RelV
theorem Vals.length {xs : List V} {us : List Value} (r : Vals xs us) : xs.length = us.length := Paired.length r
theorem Vals.get : ∀ {xs : List V} {us : List Value} {i : Nat} {x : V}, Vals xs us → xs[i]? = some x → ∃ u, us[i]? = some u ∧ RelV x u
  | _, _, _, _, .nil, e => by simp at e
  | _, _, 0, _, .cons r _, e => by simp at e; subst e; exact ⟨_, rfl, r⟩
  | _, _, i + 1, x, .cons _ t, e => by
    obtain ⟨u, h1, h2⟩ := Vals.get (i := i) (x := x) t (by simpa using e)
    exact ⟨u, by simpa using h1, h2⟩
theorem Vals.set {x : V} {u : Value} (r : RelV x u) : ∀ {xs : List V} {us : List Value} (i : Nat), Vals xs us → Vals (xs.set i x) (us.set i u)
  | _, _, _, .nil => .nil
  | _, _, 0, .cons _ t => .cons r t
  | _, _, i + 1, .cons q t => .cons q (Vals.set r i t)
theorem Vals.append : ∀ {xs ys : List V} {us ws : List Value}, Vals xs us → Vals ys ws → Vals (xs ++ ys) (us ++ ws)
  | _, _, _, _, .nil, s => s
  | _, _, _, _, .cons r t, s => .cons r (Vals.append t s)
theorem Vals.take : ∀ {xs : List V} {us : List Value} (n : Nat), Vals xs us → Vals (xs.take n) (us.take n)
  | _, _, 0, _ => .nil
  | _, _, _ + 1, .nil => .nil
  | _, _, n + 1, .cons r t => .cons r (Vals.take n t)
theorem Vals.drop : ∀ {xs : List V} {us : List Value} (n : Nat), Vals xs us → Vals (xs.drop n) (us.drop n)
  | _, _, 0, r => r
  | _, _, _ + 1, .nil => .nil
  | _, _, n + 1, .cons _ t => Vals.drop n t
theorem Vals.none_of : ∀ {xs : List V} {us : List Value} {i : Nat}, Vals xs us → xs[i]? = none → us[i]? = none := fun {xs us i} r e => by
  have h1 := r.length
  have h2 : xs.length ≤ i := List.getElem?_eq_none_iff.mp e
  exact List.getElem?_eq_none_iff.mpr (by omega)

def RelO : Option V → Option Value → Prop
  | some v, some u => RelV v u
  | none, none => True
  | _, _ => False
def KV {κ : Type} : List (κ × V) → List (κ × Value) → Prop := Paired fun (p : κ × V) (q : κ × Value) => p.1 = q.1 ∧ RelV p.2 q.2

/-- a key of a dict (00_mix): an int or a text -/
def kV : Key → V
  | .inl i => .int i
  | .inr x => .str x

/-- what stands at a tracked address -/
inductive HO where
  /-- a list -/
  | lst (xs : List V)
  /-- a tuple (never changes) -/
  | tup (xs : List V)
  /-- a dict whose keys are ints and texts; one whose keys are tuples of ints and texts (the empty one is both) -/
  | dK (kvs : List (Key × V)) | dT (kvs : List (List Key × V))
  /-- a set of ints: its members, its size -/
  | set (S : Int → Bool) (n : Nat)
  /-- an instance of the class at C, its dict at dx, its attributes -/
  | ins (C dx : Addr) (fs : List (Str × V))
  /-- the dict of the instance at x -/
  | own (x : Addr)
  /-- the dict of an exception -/
  | xd (fs : List (Str × V))
  /-- a bound method, f of x -/
  | met (f x : Addr)
  /-- a range object lo, lo + 1, .. below hi -/
  | rng (lo hi : Int)
  /-- a thing that is known to the object (the script; a dict while a loop walks it): read, never written while it is so -/
  | frz (o : Obj) (u : HO)
  /-- a code object's table -/
  | tbl (ps : Array Value)
  /-- any other thing, by what is true of its one object (a def of one's own: SetO a S n := HO.ext fun h => ..) -/
  | ext (φ : Heap → Prop)

abbrev Hp := Addr → Option HO
def upd (H : Hp) (a : Addr) (o : HO) : Hp := fun b => if b = a then some o else H b
theorem upd_same {H : Hp} {a : Addr} {o : HO} : upd H a o a = some o := by unfold upd; rw [if_pos rfl]
theorem upd_ne {H : Hp} {a b : Addr} {o : HO} (h : b ≠ a) : upd H a o b = H b := by unfold upd; rw [if_neg h]
theorem upd_upd {H : Hp} {a : Addr} {o u : HO} : upd (upd H a o) a u = upd H a u := by
  funext b; unfold upd; split <;> rfl
/-- two objects of different content stand apart -/
theorem ne_of {H : Hp} {a b : Addr} {o u : HO} (h : H a = some o) (h' : H b = some u) (d : o ≠ u) : a ≠ b := by
  intro e; subst e; rw [h] at h'; exact d (Option.some.inj h')
theorem ne_of_none {H : Hp} {a b : Addr} {o : HO} (h : H a = some o) (h' : H b = none) : a ≠ b := by
  intro e; subst e; rw [h] at h'; cases h'

section
variable (P : Program) (w : World)
def ObjOk (H : Hp) (h : Heap) (a : Addr) : HO → Prop
  | .lst xs => xs.length ≤ sizeLine ∧ ∃ (its : List Value) (n : Nat), Vals xs its ∧ h.get? a = some { cls := .type "list", data := .seq its.toArray n }
  | .tup xs => xs.length ≤ sizeLine ∧ ∃ its : List Value, Vals xs its ∧ IsTup h a its.toArray
  | .dK kvs => kvs.length ≤ sizeLine ∧ (a == sysModules) = false ∧ ∃ vs, KV kvs vs ∧ h.DictOf (mixKind P w) a vs
  | .dT kvs => kvs.length ≤ sizeLine ∧ (a == sysModules) = false ∧ ∃ xs : List (List Key × Addr × Value),
      Paired (fun (p : List Key × V) (q : List Key × Addr × Value) => p.1 = q.1 ∧ H q.2.1 = some (.tup (p.1.map kV)) ∧ RelV p.2 q.2.2) kvs xs ∧
      ∃ o es ep, h.get? a = some o ∧ o.ExactDict ∧ o.data = .dict es ep ∧ es.toList = xs.map (entryOfKey (tupleKind (mixKind P w))) ∧ (xs.map (·.1)).Nodup
  | .set S n => h.SetOf (intKind P w) a S n
  | .ins C dx fs => H dx = some (.own a) ∧ fs.length ≤ 1000 ∧ dx ≠ a ∧ h.get? a = some (PySem.W.instObj C dx) ∧
      ∃ mA, h.Ns1 dx mA ∧ (∀ f, RelO (fs.lookup f) (mA f)) ∧ PySem.Within mA (fs.map (·.1))
  | .own _ => ∃ o, h.get? a = some o
  | .xd fs => ∃ mA, h.Ns1 a mA ∧ ∀ f, RelO (fs.lookup f) (mA f)
  | .rng lo hi => ∃ t u v, h.get? a = some { cls := .type "range", data := .fields #[.int lo t, .int hi u, .int 1 v] }
  | .frz o u => h.get? a = some o ∧ ObjOk H h a u
  | .tbl ps => h.get? a = some { cls := .none, data := .fields ps }
  | .met f x => h.get? a = some (PySem.W.methodObj (.ref f) (.ref x))
  | .ext φ => φ h ∧ (∃ o, h.get? a = some o) ∧ ∀ h1 h2 : Heap, φ h1 → (∀ o, h1.get? a = some o → h2.get? a = some o) → φ h2
/-- the abstract heap is held -/
def HOk (H : Hp) (h : Heap) : Prop := ∀ a o, H a = some o → ObjOk P w H h a o
end

section
variable {P : Program} {w : World} {H H' : Hp} {h h' : Heap} {a : Addr} {o : HO}
theorem ObjOk.lt (x : ObjOk P w H h a o) : a < h.objs.size := by
  cases o with
  | lst xs => obtain ⟨_, _, _, _, e⟩ := x; exact Heap.lt_size e
  | tup xs => obtain ⟨_, _, _, p⟩ := x; exact p.lt
  | dK kvs => obtain ⟨_, _, _, _, o, _, _, e, _⟩ := x; exact Heap.lt_size e
  | dT kvs => obtain ⟨_, _, _, _, o, _, _, e, _⟩ := x; exact Heap.lt_size e
  | set S n => obtain ⟨o, _, _, _, e, _⟩ := x; exact Heap.lt_size e
  | ins C dx fs => obtain ⟨_, _, _, e, _⟩ := x; exact Heap.lt_size e
  | own y => obtain ⟨_, e⟩ := x; exact Heap.lt_size e
  | xd fs => obtain ⟨_, ⟨_, _, _, e, _⟩, _⟩ := x; exact Heap.lt_size e
  | rng lo hi => obtain ⟨_, _, _, e⟩ := x; exact Heap.lt_size e
  | frz ob u => obtain ⟨e, _⟩ := x; exact Heap.lt_size e
  | tbl ps => exact Heap.lt_size (show h.get? a = some _ from x)
  | met f y => exact Heap.lt_size (show h.get? a = some _ from x)
  | ext φ => obtain ⟨_, ⟨_, e⟩, _⟩ := x; exact Heap.lt_size e
theorem Paired.mapP {α β : Type} {F G : α → β → Prop} : ∀ {l₁ : List α} {l₂ : List β}, Paired F l₁ l₂ → (∀ a b, F a b → G a b) → Paired G l₁ l₂
  | _, _, .nil, _ => .nil
  | _, _, .cons r t, f => .cons (f _ _ r) (Paired.mapP t f)
theorem Paired.imp' {α β : Type} {F G : α → β → Prop} (f : ∀ a b, F a b → G a b) {l₁ : List α} {l₂ : List β} (r : Paired F l₁ l₂) : Paired G l₁ l₂ := Paired.mapP r f
/-- what an object's description leans on: its own object, its own dict, the tuples -/
theorem ObjOk.stay (x : ObjOk P w H h a o) (k : ∀ b u, (b = a ∨ H b = some (.own a)) → h.get? b = some u → h'.get? b = some u)
    (ho : ∀ b, H b = some (.own a) → H' b = some (.own a)) (ht : ∀ b xs, H b = some (.tup xs) → H' b = some (.tup xs)) : ObjOk P w H' h' a o := by
  induction o with
  | lst xs => obtain ⟨z, its, n, r, e⟩ := x; exact ⟨z, its, n, r, k _ _ (.inl rfl) e⟩
  | tup xs => obtain ⟨z, its, r, ob, e, c⟩ := x; exact ⟨z, its, r, ob, k _ _ (.inl rfl) e, c⟩
  | dK kvs => obtain ⟨z, y, vs, r, ob, es, ep, e, c⟩ := x; exact ⟨z, y, vs, r, ob, es, ep, k _ _ (.inl rfl) e, c⟩
  | dT kvs =>
    obtain ⟨z, y, xs, r, ob, es, ep, e, c⟩ := x
    exact ⟨z, y, xs, Paired.mapP r fun p q z => ⟨z.1, ht _ _ z.2.1, z.2.2⟩, ob, es, ep, k _ _ (.inl rfl) e, c⟩
  | set S n => obtain ⟨ob, es, ep, t, e, c⟩ := x; exact ⟨ob, es, ep, t, k _ _ (.inl rfl) e, c⟩
  | ins C dx fs =>
    obtain ⟨d, z, ne, e, mA, ⟨od, es, ep, e2, c⟩, r⟩ := x
    exact ⟨ho _ d, z, ne, k _ _ (.inl rfl) e, mA, ⟨od, es, ep, k _ _ (.inr d) e2, c⟩, r⟩
  | own y => obtain ⟨ob, e⟩ := x; exact ⟨ob, k _ _ (.inl rfl) e⟩
  | xd fs => obtain ⟨mA, ⟨od, es, ep, e, c⟩, r⟩ := x; exact ⟨mA, ⟨od, es, ep, k _ _ (.inl rfl) e, c⟩, r⟩
  | rng lo hi => obtain ⟨t, u, v, e⟩ := x; exact ⟨t, u, v, k _ _ (.inl rfl) e⟩
  | frz ob u ih => obtain ⟨e, q⟩ := x; exact ⟨k _ _ (.inl rfl) e, ih q⟩
  | tbl ps =>
    have e : h.get? a = some { cls := .none, data := .fields ps } := x
    show h'.get? a = some { cls := .none, data := .fields ps }
    exact k a _ (.inl rfl) e
  | met f y =>
    have e : h.get? a = some (PySem.W.methodObj (.ref f) (.ref y)) := x
    show h'.get? a = some (PySem.W.methodObj (.ref f) (.ref y))
    exact k a _ (.inl rfl) e
  | ext φ => obtain ⟨p, ⟨o, e⟩, st⟩ := x; exact ⟨st _ _ p fun o q => k _ _ (.inl rfl) q, ⟨o, k _ _ (.inl rfl) e⟩, st⟩
theorem HOk.lt (x : HOk P w H h) (e : H a = some o) : a < h.objs.size := (x a o e).lt
theorem HOk.fresh (x : HOk P w H h) (e : h.objs.size ≤ a) : H a = none := by
  cases q : H a with
  | none => rfl
  | some u => exact absurd (Nat.lt_of_lt_of_le (x.lt q) e) (Nat.lt_irrefl _)
/-- every object of the heap is kept -/
theorem HOk.kept (x : HOk P w H h) (k : ∀ b u, h.get? b = some u → h'.get? b = some u) : HOk P w H h' := fun a o e =>
  (x a o e).stay (fun b u _ q => k b u q) (fun _ q => q) fun _ _ q => q
/-- a new object is laid and tracked -/
theorem HOk.laid (x : HOk P w H h) (k : ∀ b u, h.get? b = some u → h'.get? b = some u) (hp : h.objs.size ≤ a) (new : ObjOk P w (upd H a o) h' a o) : HOk P w (upd H a o) h' := fun b u e => by
  have hn := x.fresh hp
  by_cases hb : b = a
  · subst hb; rw [upd_same] at e; cases e; exact new
  · rw [upd_ne hb] at e
    exact (x b u e).stay (fun c v _ q => k c v q) (fun c q => by rw [upd_ne (ne_of_none q hn)]; exact q) fun c xs q => by rw [upd_ne (ne_of_none q hn)]; exact q
end

/-- what may be read as u: it is u, or a known u -/
def Rd (H : Hp) (a : Addr) (u : HO) : Prop := H a = some u ∨ ∃ o, H a = some (.frz o u)
theorem Rd.of {H : Hp} {a : Addr} {u : HO} (h : H a = some u) : Rd H a u := .inl h
theorem Rd.ok {P : Program} {w : World} {H : Hp} {h : Heap} {a : Addr} {u : HO} (r : Rd H a u) (x : HOk P w H h) : ObjOk P w H h a u := by
  rcases r with r | ⟨o, r⟩
  · exact x a u r
  · obtain ⟨_, q⟩ := x a _ r
    exact q
/-- what may be written -/
def Mut : Option HO → Prop
  | some (.lst _) => True
  | some (.dK _) => True
  | some (.dT _) => True
  | some (.set _ _) => True
  | some (.ins _ _ _) => True
  | some (.ext _) => True
  | _ => False
section
variable {P : Program} {w : World} {H : Hp} {h h' : Heap} {x e : Addr} {o' : HO}
/-- the object at e is changed: x itself, or the dict of the instance x -/
theorem HOk.write (ok : HOk P w H h) (mu : Mut (H x)) (he : e = x ∨ H e = some (.own x)) (k : ∀ b u, b ≠ e → h.get? b = some u → h'.get? b = some u) (heo : ∃ u, h'.get? e = some u)
    (new : ObjOk P w (upd H x o') h' x o') : HOk P w (upd H x o') h' := fun b u q => by
  have nown : ∀ c y, H c = some (.own y) → c ≠ x := fun c y r z => by subst z; rw [r] at mu; exact mu
  have ntup : ∀ c xs, H c = some (.tup xs) → c ≠ x := fun c xs r z => by subst z; rw [r] at mu; exact mu
  by_cases hb : b = x
  · subst hb; rw [upd_same] at q; cases q; exact new
  · rw [upd_ne hb] at q
    by_cases hbe : b = e
    · have q' : H b = some (.own x) := by
        rcases he with z | z
        · exact absurd (hbe.trans z) hb
        · rw [hbe]; exact z
      rw [q] at q'; cases q'
      obtain ⟨v, hv⟩ := heo
      exact ⟨v, by rw [hbe]; exact hv⟩
    · refine (ok b u q).stay (fun c v hc r => k c v ?_ r) (fun c r => by rw [upd_ne (nown c b r)]; exact r) fun c xs r => by rw [upd_ne (ntup c xs r)]; exact r
      rcases hc with rfl | hc
      · exact hbe
      · rintro rfl
        rcases he with z | z
        · exact nown c b hc z
        · rw [hc] at z; cases z; exact hb rfl
end

/-! ### kept unless tracked; of the frames at fs (the callers') the slots may change (an exception that passes writes there); of the records at ex (iterators) nothing is said -/
structure Un (fs ex : List Addr) (H H' : Hp) (h h' : Heap) : Prop where
  keep : ∀ b o, h.get? b = some o → H b = none → b ∉ fs → b ∉ ex → h'.get? b = some o
  slot : ∀ b o, h.get? b = some o → H b = none → b ∈ fs → b ∉ ex → ∃ sl, h'.get? b = some { o with slots := sl }
  free : ∀ b o, h.get? b = some o → H b = none → b ∉ ex → H' b = none
  there : ∀ b o, h.get? b = some o → b ∉ ex → ∃ o', h'.get? b = some o'
  tups : ∀ b xs, H b = some (.tup xs) → H' b = some (.tup xs)
  frzs : ∀ b o u, H b = some (.frz o u) → H' b = some (.frz o u)
  tbls : ∀ b ps, H b = some (.tbl ps) → ∃ more, H' b = some (.tbl (ps ++ more))
section
variable {fs fs' ex ex' : List Addr} {H H1 H2 : Hp} {h h1 h2 h' : Heap} {a x e : Addr} {o : HO}
theorem Un.any (u : Un fs ex H H1 h h1) {b : Addr} {ob : Obj} (q : h.get? b = some ob) (n : H b = none) (hx : b ∉ ex) : ∃ sl, h1.get? b = some { ob with slots := sl } := by
  by_cases hb : b ∈ fs
  · exact u.slot b ob q n hb hx
  · exact ⟨ob.slots, u.keep b ob q n hb hx⟩
theorem Un.trans (a : Un fs ex H H1 h h1) (b : Un fs ex H1 H2 h1 h2) : Un fs ex H H2 h h2 where
  keep := fun c ob q n hc hx => b.keep c ob (a.keep c ob q n hc hx) (a.free c ob q n hx) hc hx
  slot := fun c ob q n hc hx => by
    obtain ⟨sl, e1⟩ := a.slot c ob q n hc hx
    obtain ⟨sl', e2⟩ := b.slot c _ e1 (a.free c ob q n hx) hc hx
    exact ⟨sl', e2⟩
  free := fun c ob q n hx => by
    obtain ⟨o', e1⟩ := a.there c ob q hx
    exact b.free c o' e1 (a.free c ob q n hx) hx
  there := fun c ob q hx => by
    obtain ⟨o', e1⟩ := a.there c ob q hx
    exact b.there c o' e1 hx
  tups := fun c xs q => b.tups c xs (a.tups c xs q)
  frzs := fun c ob xs q => b.frzs c ob xs (a.frzs c ob xs q)
  tbls := fun c ps q => by
    obtain ⟨m1, e1⟩ := a.tbls c ps q
    obtain ⟨m2, e2⟩ := b.tbls c _ e1
    exact ⟨m1 ++ m2, by rw [e2, Array.append_assoc]⟩
theorem Un.kept (k : ∀ b u, h.get? b = some u → h'.get? b = some u) : Un fs ex H H h h' :=
  ⟨fun b ob q _ _ _ => k b ob q, fun b ob q _ _ _ => ⟨ob.slots, k b ob q⟩, fun _ _ _ n _ => n, fun b ob q _ => ⟨ob, k b ob q⟩, fun _ _ q => q, fun _ _ _ q => q, fun _ ps q => ⟨#[], by rw [q]; simp⟩⟩
theorem Un.refl : Un fs ex H H h h := Un.kept fun _ _ q => q
theorem Un.laid (k : ∀ b u, h.get? b = some u → h'.get? b = some u) (hp : h.objs.size ≤ a) (hn : H a = none) : Un fs ex H (upd H a o) h h' where
  keep := fun b u q _ _ _ => k b u q
  slot := fun b u q _ _ _ => ⟨u.slots, k b u q⟩
  free := fun b u q n _ => by rw [upd_ne (Nat.ne_of_lt (Nat.lt_of_lt_of_le (Heap.lt_size q) hp))]; exact n
  there := fun b u q _ => ⟨u, k b u q⟩
  tups := fun b xs q => by rw [upd_ne (ne_of_none q hn)]; exact q
  frzs := fun b u xs q => by rw [upd_ne (ne_of_none q hn)]; exact q
  tbls := fun b ps q => ⟨#[], by rw [upd_ne (ne_of_none q hn), q]; simp⟩
theorem Un.write (mu : Mut (H x)) (he : e = x ∨ H e = some (.own x)) (k : ∀ b u, b ≠ e → h.get? b = some u → h'.get? b = some u) (heo : ∃ u, h'.get? e = some u) : Un fs ex H (upd H x o) h h' := by
  have hx : ∀ b, H b = none → b ≠ x := fun b n z => by subst z; rw [n] at mu; exact mu
  have hb : ∀ b, H b = none → b ≠ e := fun b n z => by
    subst z
    rcases he with r | r
    · exact hx b n r
    · rw [n] at r; cases r
  have hm : ∀ b u, H b = some u → ¬ Mut (some u) → b ≠ x := fun b u q nm z => by subst z; rw [q] at mu; exact nm mu
  refine ⟨fun b u q n _ _ => k b u (hb b n) q, fun b u q n _ _ => ⟨u.slots, k b u (hb b n) q⟩, fun b u q n _ => by rw [upd_ne (hx b n)]; exact n, fun b u q _ => ?_,
    fun b xs q => by rw [upd_ne (hm b _ q fun z => z)]; exact q, fun b u xs q => by rw [upd_ne (hm b _ q fun z => z)]; exact q, fun b ps q => ⟨#[], by rw [upd_ne (hm b _ q fun z => z), q]; simp⟩⟩
  by_cases hbe : b = e
  · subst hbe; exact heo
  · exact ⟨u, k b u hbe q⟩
theorem Un.mono (u : Un fs ex H H1 h h1) (hs : ∀ b ∈ fs, b ∈ fs') (hx : ∀ b ∈ ex, b ∈ ex') : Un fs' ex' H H1 h h1 :=
  ⟨fun b ob q n hb he => u.keep b ob q n (fun z => hb (hs b z)) fun z => he (hx b z), fun _ _ q n _ he => u.any q n fun z => he (hx _ z), fun b ob q n he => u.free b ob q n fun z => he (hx b z), fun b ob q he => u.there b ob q fun z => he (hx b z), u.tups, u.frzs, u.tbls⟩
end

/-! ### the heap without what is tracked -/
def trk (h : Heap) (H : Hp) : List Addr := (List.range h.objs.size).filter fun a => (H a).isSome
def hidT (h : Heap) (H : Hp) : Heap := PySem.W.hideAll h (trk h H)
theorem hidT_size (h : Heap) (H : Hp) : (hidT h H).objs.size = h.objs.size := PySem.W.hideAll_size _ _
theorem hidT_get {h : Heap} {H : Hp} {b : Addr} {o : Obj} (e : h.get? b = some o) (n : H b = none) : (hidT h H).get? b = some o :=
  PySem.W.hideAll_get _ e fun hm => by
    have q : (H b).isSome = true := (List.mem_filter.mp hm).2
    rw [n] at q; simp at q
theorem of_hidT {h : Heap} {H : Hp} {b : Addr} {o : Obj} (e : (hidT h H).get? b = some o) : h.get? b = some o ∧ H b = none := by
  have e' : h.get? b = some o := PySem.W.of_hideAll (trk h H) e
  refine ⟨e', ?_⟩
  cases q : H b with
  | none => rfl
  | some x =>
    have hm : b ∈ trk h H := List.mem_filter.mpr ⟨List.mem_range.mpr (Heap.lt_size e'), by simp [q]⟩
    have z : (hidT h H).get? b = none := PySem.W.hideAll_none (trk h H) hm
    rw [z] at e; cases e

/-! ### OpenK's ledger, filled with every new object but one -/
def allNews (g h : Heap) (L : Addr) : List (Addr × Obj) := (List.range h.objs.size).filterMap fun a => if a = L ∨ (g.get? a).isSome = true then none else (h.get? a).map fun o => (a, o)
theorem mem_allNews {g h : Heap} {L a : Addr} {o : Obj} (h1 : a ≠ L) (h2 : g.get? a = none) (h3 : h.get? a = some o) : (a, o) ∈ allNews g h L :=
  List.mem_filterMap.mpr ⟨a, List.mem_range.mpr (Heap.lt_size h3), by simp [h1, h2, h3]⟩
theorem of_mem_allNews {g h : Heap} {L : Addr} {p : Addr × Obj} (hp : p ∈ allNews g h L) : p.1 ≠ L ∧ g.get? p.1 = none ∧ h.get? p.1 = some p.2 := by
  obtain ⟨b, _, e⟩ := List.mem_filterMap.mp hp
  split at e
  · cases e
  · rename_i hn
    cases q : h.get? b with
    | none => rw [q] at e; simp at e
    | some u =>
      rw [q] at e
      simp only [Option.map_some, Option.some.injEq] at e
      subst e
      refine ⟨fun z => hn (.inl z), ?_, q⟩
      show g.get? b = none
      cases r : g.get? b with
      | none => rfl
      | some v => exact (hn (.inr (by simp [r]))).elim
def rest (g h : Heap) (L d : Addr) : List (Addr × Obj) := (allNews g h L).filter fun p => decide (p.1 ≠ d)
theorem rest_ne {g h : Heap} {L d : Addr} : ∀ p ∈ rest g h L d, p.1 ≠ d := fun p hp => of_decide_eq_true (List.mem_filter.mp hp).2
theorem mem_rest {g h : Heap} {L d a : Addr} {o : Obj} (h1 : a ≠ L) (h2 : g.get? a = none) (h3 : h.get? a = some o) (h4 : a ≠ d) : (a, o) ∈ rest g h L d :=
  List.mem_filter.mpr ⟨mem_allNews h1 h2 h3, decide_eq_true h4⟩
theorem news_all {g h : Heap} {L : Addr} : News g L h (allNews g h L) := fun p hp => let ⟨a, b, c⟩ := of_mem_allNews hp; ⟨c, a, b⟩
theorem news_at {g h : Heap} {L d : Addr} {o : Obj} (h1 : d ≠ L) (h2 : g.get? d = none) (h3 : h.get? d = some o) : News g L h ((d, o) :: rest g h L d) := fun p hp => by
  rcases List.mem_cons.mp hp with rfl | hp
  · exact ⟨h3, h1, h2⟩
  · exact news_all p (List.mem_filter.mp hp).1
/-- behind a rule that changed d alone: all else but the frame is kept -/
theorem kept_of_news {g h h' : Heap} {L d : Addr} {m : Str → Option Value} (k : ∀ b o, g.get? b = some o → h.get? b = some o) (F : Fr g L h' m) (N : News g L h' (rest g h L d)) :
    ∀ b o, b ≠ L → b ≠ d → h.get? b = some o → h'.get? b = some o := fun b o h1 h2 e => by
  cases q : g.get? b with
  | some u =>
    have := k b u q
    rw [e] at this; cases this
    exact F.keep b _ q
  | none => exact (N (b, o) (mem_rest h1 q e h2)).1
end L2

namespace L2
open PySem PySem.Spec PyProof.Rows

/-- the module's facts, over the base: the heap at the law's entry without what is tracked there -/
structure Mod (K : PySem.W.Frag) (mg : Str → Option Value) (base : Heap) : Prop where
  kin : K.In base
  glob : base.Ns mainGlobals mg
  blt : ∃ mb, base.Ns builtinsNs mb ∧ ∀ x : Str, x ≠ "__name__" → mb x = bootBuiltins x
  nolimit : base.NoLimit

/-- the context: a def's body (or a comprehension's block) running. base: fixed through the whole law; s₀, H₀: the entry; outer: the frames whose slots others may change (a def's callers); stack: all frames that run;
   ex: iterators that were made ahead of the entry and are walked here (a comprehension's); fn: the names whose cells were made at the entry (a def: all; a comprehension's block: its own); calm: not within an except suite; pn: pins that every state bears; xe: what is wanted of an exception that leaves the code -/
structure Cx where
  prog : Program
  w : World
  K : PySem.W.Frag
  mg : Str → Option Value
  base : Heap
  A : Around
  N : List Str
  s₀ : Shared
  H₀ : Hp
  env : Env
  outer : List Env
  stack : List Env
  ex : List Addr
  fn : Str → Bool
  calm : Bool
  pn : List (Addr × Obj)
  xe : Value → Shared → Prop
/-- the callers' frames -/
def frs (l : List Env) : List Addr := l.filterMap (·.frame)
abbrev Cx.fs (X : Cx) : List Addr := frs X.outer

def Vis (sc : Scope) (x : Str) : Prop := sc.names.lookup x = some .local ∨ sc.names.lookup x = some .cell ∨ sc.names.lookup x = some .free
def Loc (sc : Scope) (x : Str) : Prop := sc.names.lookup x = some .local ∨ sc.names.lookup x = some .cell
def Look (env : Env) (h : Heap) (m : Str → Option Value) (x : Str) (u : Value) : Prop :=
  (env.kindOf x = some .local ∧ m x = some u) ∨ ((env.kindOf x = some .cell ∨ env.kindOf x = some .free) ∧ ∃ c, env.cells.lookup x = some c ∧ h.IsCell c (some u))

structure Cx.Ok (X : Cx) : Prop where
  mod : Mod X.K X.mg X.base
  kind : X.env.scope.kind = .function
  glob : X.env.globals = mainGlobals
  blt : X.env.builtins = builtinsNs
  above : X.s₀.heap.objs.size ≤ X.env.locals
  inj : ∀ x y c, X.env.cells.lookup x = some c → X.env.cells.lookup y = some c → x = y
  has : ∀ x, (X.env.kindOf x = some .cell ∨ X.env.kindOf x = some .free) → ∃ c, X.env.cells.lookup x = some c
  cab : ∀ x c, X.fn x = true → X.env.cells.lookup x = some c → X.s₀.heap.objs.size ≤ c
  hd : X.calm = true → X.A.handled = none
  frames : X.A.frames = some X.stack
  stk : X.stack = X.outer ∨ (X.stack = X.env :: X.outer ∧ X.env.frame = some X.env.locals)
  exf : ∀ b ∈ X.ex, b ≠ X.env.locals ∧ ∀ x c, X.env.cells.lookup x = some c → c ≠ b
  bs : ∀ b o, X.base.get? b = some o → X.s₀.heap.get? b = some o ∧ X.H₀ b = none
  bsz : X.base.objs.size ≤ X.s₀.heap.objs.size
  noex : ∀ b o, X.base.get? b = some o → b ∉ X.ex
  exfs : ∀ b ∈ X.ex, b ∉ X.fs
  funs : X.s₀.heap.FunFrames X.base X.outer
  frf : ∀ b ∈ X.fs, X.H₀ b = none

structure Inv (X : Cx) (pins : List (Addr × Obj)) (σ : List (Option V)) (H : Hp) (s : Shared) : Prop where
  ok : X.Ok
  os : s.os = X.s₀.os
  bare : AllBare s.gens
  base : Un X.fs X.ex X.H₀ H X.s₀.heap s.heap
  loc : ∃ m, s.heap.Ns X.env.locals m ∧ ∀ (i : Nat) (x : Str) (v : V), X.N[i]? = some x → σ[i]? = some (some v) → Vis X.env.scope x → ∃ u, RelV v u ∧ Look X.env s.heap m x u
  cell : ∀ x c, X.env.cells.lookup x = some c → ∃ v, s.heap.IsCell c v
  free : H X.env.locals = none
  freeC : ∀ x c, X.env.cells.lookup x = some c → H c = none
  pin : ∀ p ∈ X.pn ++ pins, s.heap.get? p.1 = some p.2 ∧ H p.1 = none ∧ p.1 ≠ X.env.locals ∧ p.1 ∉ X.fs ∧ ∀ v, p.2.data ≠ .cell v
  hok : HOk X.prog X.w H s.heap
  len : σ.length = X.N.length

section
variable {X : Cx} {pins : List (Addr × Obj)} {σ : List (Option V)} {H H' : Hp} {s : Shared} {h' : Heap}

theorem Cx.Ok.nofr (ok : X.Ok) {b : Addr} {o : Obj} (e : X.base.get? b = some o) : b ∉ X.fs := fun hb => by
  have := (ok.funs.mem hb).1
  rw [e] at this; cases this
theorem Inv.bs (I : Inv X pins σ H s) : ∀ b o, X.base.get? b = some o → s.heap.get? b = some o ∧ H b = none := fun b o e =>
  ⟨I.base.keep b o (I.ok.bs b o e).1 (I.ok.bs b o e).2 (I.ok.nofr e) (I.ok.noex b o e), I.base.free b o (I.ok.bs b o e).1 (I.ok.bs b o e).2 (I.ok.noex b o e)⟩
theorem Inv.bk (I : Inv X pins σ H s) : ∀ b o, X.base.get? b = some o → s.heap.get? b = some o := fun b o e => (I.bs b o e).1
theorem Inv.mod (I : Inv X pins σ H s) : Mod X.K X.mg X.base := I.ok.mod
theorem Inv.kIn (I : Inv X pins σ H s) : X.K.In s.heap := I.ok.mod.kin.keeps I.bk
theorem Inv.nolimit (I : Inv X pins σ H s) : s.heap.NoLimit := I.ok.mod.nolimit.keeps I.bk
/-- the frame over the base: for OpenK's rules (K.In X.base is I.mod.kin) -/
theorem Inv.fr (I : Inv X pins σ H s) : ∃ m, Fr X.base X.env.locals s.heap m :=
  let ⟨m, hn, _⟩ := I.loc
  ⟨m, hn, I.bk, Nat.le_trans I.ok.bsz I.ok.above⟩
theorem Inv.lt (I : Inv X pins σ H s) : X.env.locals < s.heap.objs.size := let ⟨_, hn, _⟩ := I.loc; hn.lt
theorem Inv.sz (I : Inv X pins σ H s) : X.s₀.heap.objs.size ≤ s.heap.objs.size := Nat.le_trans I.ok.above (Nat.le_of_lt I.lt)
theorem Inv.nofs (I : Inv X pins σ H s) {a : Addr} (h : s.heap.objs.size ≤ a) : a ∉ X.fs := fun hb => by
  obtain ⟨_, o, ho, _⟩ := I.ok.funs.mem hb
  exact absurd (Nat.lt_of_lt_of_le (Heap.lt_size ho) (Nat.le_trans I.sz h)) (Nat.lt_irrefl _)
theorem Inv.cne (I : Inv X pins σ H s) : ∀ x c, X.env.cells.lookup x = some c → c ≠ X.env.locals := fun x c e z => by
  obtain ⟨v, o, ho, hd⟩ := I.cell x c e
  obtain ⟨m, ⟨o', es, ep, ho', hd', _⟩, _⟩ := I.loc
  rw [z, ho'] at ho; cases ho; rw [hd'] at hd; cases hd
theorem Inv.funs (I : Inv X pins σ H s) : s.heap.FunFrames X.base X.outer := by
  have all : ∀ (l : List Env), (∀ b ∈ frs l, b ∈ X.fs) → X.s₀.heap.FunFrames X.base l → s.heap.FunFrames X.base l := by
    intro l
    induction l with
    | nil => intro _ _; trivial
    | cons env r ih =>
      intro hs hl
      obtain ⟨hk, ⟨L, o, hf, hn, ho, hd⟩, hr⟩ := hl
      have hL : L ∈ X.fs := hs L (by unfold frs; rw [List.filterMap_cons, hf]; exact List.mem_cons_self)
      obtain ⟨sl, e⟩ := I.base.slot L o ho (I.ok.frf L hL) hL fun z => I.ok.exfs L z hL
      exact ⟨hk, ⟨L, _, hf, hn, e, hd⟩, ih (fun b hb => hs b (by unfold frs; rw [List.filterMap_cons, hf]; exact List.mem_cons_of_mem _ hb)) hr⟩
  exact all X.outer (fun _ hb => hb) I.ok.funs

/-- the frames that run, for a call -/
theorem Inv.stack (I : Inv X pins σ H s) : s.heap.FunFrames X.base X.stack := by
  rcases I.ok.stk with e | ⟨e, hf⟩
  · rw [e]; exact I.funs
  · rw [e]
    obtain ⟨m, hn, _⟩ := I.loc
    refine .cons (by rw [I.ok.kind]; decide) hf hn ?_ I.funs
    exact Heap.get?_none_of_le (Nat.le_trans I.ok.bsz I.ok.above)
theorem Inv.stkSub (I : Inv X pins σ H s) : ∀ b ∈ frs X.stack, b ∈ X.env.locals :: X.fs := fun b hb => by
  rcases I.ok.stk with e | ⟨e, hf⟩
  · rw [e] at hb; exact List.mem_cons_of_mem _ hb
  · rw [e] at hb
    unfold frs at hb
    rw [List.filterMap_cons, hf] at hb
    exact hb
theorem Inv.stkFree (I : Inv X pins σ H s) : ∀ b ∈ frs X.stack, H b = none := fun b hb => by
  rcases List.mem_cons.mp (I.stkSub b hb) with e | hb
  · rw [e]; exact I.free
  · obtain ⟨_, o, ho, _⟩ := I.ok.funs.mem hb
    exact I.base.free b o ho (I.ok.frf b hb) fun z => I.ok.exfs b z hb

/-- THE STEP: the untracked objects but the frame and the records at ch are kept (the callers' frames up to slots), the frame's map is kept, the new abstract heap is held -/
theorem Inv.step {g' : Array GenState} {t' : Nat} {d' : Drawn} {ch : List Addr} (I : Inv X pins σ H s)
    (hch : ∀ b ∈ ch, (b ∈ X.ex ∨ X.s₀.heap.objs.size ≤ b) ∧ b ≠ X.env.locals ∧ (∀ x c, X.env.cells.lookup x = some c → c ≠ b) ∧ ∀ p ∈ X.pn ++ pins, p.1 ≠ b)
    (keep : ∀ b o, b ≠ X.env.locals → b ∉ X.fs → b ∉ ch → s.heap.get? b = some o → H b = none → h'.get? b = some o)
    (slot : ∀ b o, b ≠ X.env.locals → b ∈ X.fs → b ∉ ch → s.heap.get? b = some o → H b = none → ∃ sl, h'.get? b = some { o with slots := sl }) (free : ∀ b o, b ∉ ch → s.heap.get? b = some o → H b = none → H' b = none)
    (there : ∀ b o, b ∉ ch → s.heap.get? b = some o → ∃ o', h'.get? b = some o')
    (tups : ∀ b xs, H b = some (.tup xs) → H' b = some (.tup xs)) (frzs : ∀ b o u, H b = some (.frz o u) → H' b = some (.frz o u)) (tbls : ∀ b ps, H b = some (.tbl ps) → ∃ more, H' b = some (.tbl (ps ++ more)))
    (ns : ∀ m, s.heap.Ns X.env.locals m → h'.Ns X.env.locals m) (hok : HOk X.prog X.w H' h') (hg : AllBare g') :
    Inv X pins σ H' { s with heap := h', gens := g', drawn := d', toks := t' } := by
  have neL : ∀ b o, X.s₀.heap.get? b = some o → b ≠ X.env.locals := fun b o e => Nat.ne_of_lt (Nat.lt_of_lt_of_le (Heap.lt_size e) I.ok.above)
  have neC : ∀ b o, X.s₀.heap.get? b = some o → b ∉ X.ex → b ∉ ch := fun b o e hx hb => by
    rcases (hch b hb).1 with z | z
    · exact hx z
    · exact absurd (Nat.lt_of_lt_of_le (Heap.lt_size e) z) (Nat.lt_irrefl _)
  have cellK : ∀ x c, X.env.cells.lookup x = some c → ∀ v, s.heap.IsCell c v → h'.IsCell c v := fun x c e v ⟨o, ho, hd⟩ => by
    have nch : c ∉ ch := fun z => (hch c z).2.2.1 x c e rfl
    by_cases hc : c ∈ X.fs
    · obtain ⟨sl, q⟩ := slot c o (I.cne x c e) hc nch ho (I.freeC x c e)
      exact ⟨_, q, hd⟩
    · exact ⟨o, keep c o (I.cne x c e) hc nch ho (I.freeC x c e), hd⟩
  refine ⟨I.ok, I.os, hg, ⟨fun b o e n hb hx => ?_, fun b o e n hb hx => ?_, fun b o e n hx => ?_, fun b o e hx => ?_, fun b xs e => tups b xs (I.base.tups b xs e), fun b o xs e => frzs b o xs (I.base.frzs b o xs e), fun b ps e => ?_⟩, ?_, fun x c e => ?_, ?_, fun x c e => ?_, fun p hp => ?_, hok, I.len⟩
  · exact keep b o (neL b o e) hb (neC b o e hx) (I.base.keep b o e n hb hx) (I.base.free b o e n hx)
  · obtain ⟨sl, e1⟩ := I.base.slot b o e n hb hx
    obtain ⟨sl', e2⟩ := slot b _ (neL b o e) hb (neC b o e hx) e1 (I.base.free b o e n hx)
    exact ⟨sl', e2⟩
  · obtain ⟨o', e1⟩ := I.base.there b o e hx
    exact free b o' (neC b o e hx) e1 (I.base.free b o e n hx)
  · obtain ⟨o', e1⟩ := I.base.there b o e hx
    exact there b o' (neC b o e hx) e1
  · obtain ⟨m1, e1⟩ := I.base.tbls b ps e
    obtain ⟨m2, e2⟩ := tbls b _ e1
    exact ⟨m1 ++ m2, by rw [e2, Array.append_assoc]⟩
  · obtain ⟨m, hn, hl⟩ := I.loc
    refine ⟨m, ns m hn, fun i x v e1 e2 e3 => ?_⟩
    obtain ⟨u, r, l⟩ := hl i x v e1 e2 e3
    refine ⟨u, r, ?_⟩
    rcases l with l | ⟨k, c, e, z⟩
    · exact .inl l
    · exact .inr ⟨k, c, e, cellK x c e _ z⟩
  · obtain ⟨v, z⟩ := I.cell x c e
    exact ⟨v, cellK x c e v z⟩
  · obtain ⟨m, ⟨o, _, _, ho, _⟩, _⟩ := I.loc
    exact free _ o (fun z => (hch _ z).2.1 rfl) ho I.free
  · obtain ⟨v, o, ho, hd⟩ := I.cell x c e
    exact free c o (fun z => (hch c z).2.2.1 x c e rfl) ho (I.freeC x c e)
  · obtain ⟨e, n, ne, nf, d⟩ := I.pin p hp
    have nch : p.1 ∉ ch := fun z => (hch p.1 z).2.2.2 p hp rfl
    exact ⟨keep p.1 p.2 ne nf nch e n, free p.1 p.2 nch e n, ne, nf, d⟩
/-- .. where the frame's own object is kept too -/
theorem Inv.un {t' : Nat} (I : Inv X pins σ H s) (u : Un X.fs [] H H' s.heap h') (hok : HOk X.prog X.w H' h') : Inv X pins σ H' { s with heap := h', toks := t' } := by
  obtain ⟨m, ⟨o, es, ep, ho, r⟩, _⟩ := id I.loc
  obtain ⟨sl, hL⟩ := u.any ho I.free (by simp)
  exact I.step (g' := s.gens) (d' := s.drawn) (ch := []) (fun _ z => nomatch z) (fun b o _ hb _ e n => u.keep b o e n hb (by simp)) (fun b o _ hb _ e n => u.slot b o e n hb (by simp)) (fun b o _ e n => u.free b o e n (by simp)) (fun b o _ e => u.there b o e (by simp)) u.tups u.frzs u.tbls (fun m' hm => by
    obtain ⟨o', es', ep', ho', r'⟩ := hm
    rw [ho] at ho'; cases ho'
    exact ⟨_, es', ep', hL, r'⟩) hok I.bare
/-- behind a call (or a comprehension's block): the slots of this frame may have changed too, the records at ch may have turned -/
theorem Inv.call {g' : Array GenState} {t' : Nat} {d' : Drawn} {ch : List Addr} (I : Inv X pins σ H s) (u : Un (frs X.stack) ch H H' s.heap h') (hok : HOk X.prog X.w H' h') (hg : AllBare g')
    (hch : ∀ b ∈ ch, (b ∈ X.ex ∨ X.s₀.heap.objs.size ≤ b) ∧ b ≠ X.env.locals ∧ (∀ x c, X.env.cells.lookup x = some c → c ≠ b) ∧ ∀ p ∈ X.pn ++ pins, p.1 ≠ b) :
    Inv X pins σ H' { s with heap := h', gens := g', drawn := d', toks := t' } := by
  obtain ⟨m, ⟨o, es, ep, ho, r⟩, _⟩ := id I.loc
  obtain ⟨sl, hL⟩ := u.any ho I.free fun z => (hch _ z).2.1 rfl
  exact I.step (ch := ch) hch (fun b o hL hb hc e n => u.keep b o e n (fun z => (List.mem_cons.mp (I.stkSub b z)).elim hL hb) hc) (fun b o _ _ hc e n => u.any e n hc) (fun b o hc e n => u.free b o e n hc) (fun b o hc e => u.there b o e hc) u.tups u.frzs u.tbls (fun m' hm => by
    obtain ⟨o', es', ep', ho', r'⟩ := hm
    rw [ho] at ho'; cases ho'
    exact ⟨_, es', ep', hL, r'⟩) hok hg
/-- an untracked record of ours (an iterator) has turned -/
theorem Inv.turned {t' : Nat} {it : Addr} (I : Inv X pins σ H s) (k : ∀ b o, b ≠ it → s.heap.get? b = some o → h'.get? b = some o) (hn : H it = none) (hL : it ≠ X.env.locals)
    (h1 : it ∈ X.ex ∨ X.s₀.heap.objs.size ≤ it) (h2 : ∀ x c, X.env.cells.lookup x = some c → c ≠ it) (h3 : ∀ p ∈ X.pn ++ pins, p.1 ≠ it) : Inv X pins σ H { s with heap := h', toks := t' } := by
  have nit : ∀ b u, H b = some u → b ≠ it := fun b u e z => by rw [z, hn] at e; cases e
  refine I.step (g' := s.gens) (d' := s.drawn) (ch := [it]) (fun b hb => ?_) (fun b o _ _ hc e _ => k b o (fun z => hc (by simp [z])) e) (fun b o _ _ hc e _ => ⟨o.slots, k b o (fun z => hc (by simp [z])) e⟩) (fun _ _ _ _ n => n)
    (fun b o hc e => ⟨o, k b o (fun z => hc (by simp [z])) e⟩) (fun _ _ e => e) (fun _ _ _ e => e) (fun b ps e => ⟨#[], by rw [e]; simp⟩) (fun m hm => ?_) (fun b u e => ?_) I.bare
  · have e : b = it := by simpa using hb
    subst e
    exact ⟨h1, hL, h2, h3⟩
  · obtain ⟨o, es, ep, ho, r⟩ := hm
    exact ⟨o, es, ep, k _ o (Ne.symm hL) ho, r⟩
  · refine (I.hok b u e).stay (fun c v hc q => k c v ?_ q) (fun _ q => q) fun _ _ q => q
    rcases hc with z | z
    · rw [z]; exact nit b u e
    · exact nit c _ z
theorem Inv.tok (I : Inv X pins σ H s) (t : Nat) : Inv X pins σ H { s with toks := t } := I.un (h' := s.heap) (t' := t) Un.refl I.hok
/-- all objects kept -/
theorem Inv.kept {t' : Nat} (I : Inv X pins σ H s) (k : ∀ b u, s.heap.get? b = some u → h'.get? b = some u) : Inv X pins σ H { s with heap := h', toks := t' } := I.un (Un.kept k) (I.hok.kept k)
/-- a new object laid and tracked -/
theorem Inv.laid {a : Addr} {o : HO} {t' : Nat} (I : Inv X pins σ H s) (k : ∀ b u, s.heap.get? b = some u → h'.get? b = some u) (hp : s.heap.objs.size ≤ a) (new : ObjOk X.prog X.w (upd H a o) h' a o) :
    Inv X pins σ (upd H a o) { s with heap := h', toks := t' } := I.un (Un.laid k hp (I.hok.fresh hp)) (I.hok.laid k hp new)
/-- an object written -/
theorem Inv.write {x e : Addr} {o : HO} {t' : Nat} (I : Inv X pins σ H s) (mu : Mut (H x)) (he : e = x ∨ H e = some (.own x)) (k : ∀ b u, b ≠ e → s.heap.get? b = some u → h'.get? b = some u) (heo : ∃ u, h'.get? e = some u)
    (new : ObjOk X.prog X.w (upd H x o) h' x o) : Inv X pins σ (upd H x o) { s with heap := h', toks := t' } := I.un (Un.write mu he k heo) (I.hok.write mu he k heo new)
/-- forgetting slots, pins -/
theorem Inv.weak {σ' : List (Option V)} (I : Inv X pins σ H s) (hl : σ'.length = σ.length) (w : ∀ (i : Nat) v, σ'[i]? = some (some v) → σ[i]? = some (some v)) : Inv X pins σ' H s :=
  ⟨I.ok, I.os, I.bare, I.base, let ⟨m, hn, hl'⟩ := I.loc; ⟨m, hn, fun i x v e1 e2 e3 => hl' i x v e1 (w i v e2) e3⟩, I.cell, I.free, I.freeC, I.pin, I.hok, hl.trans I.len⟩
theorem Inv.pins_of {pins' : List (Addr × Obj)} (I : Inv X pins σ H s) (h : ∀ p ∈ pins', s.heap.get? p.1 = some p.2 ∧ H p.1 = none ∧ p.1 ≠ X.env.locals ∧ p.1 ∉ X.fs ∧ ∀ v, p.2.data ≠ .cell v) : Inv X pins' σ H s :=
  ⟨I.ok, I.os, I.bare, I.base, I.loc, I.cell, I.free, I.freeC, fun p hp => (List.mem_append.mp hp).elim (fun z => I.pin p (List.mem_append_left _ z)) (h p), I.hok, I.len⟩

theorem nodup_ix {N : List Str} (hN : N.Nodup) {i j : Nat} {x : Str} (a : N[i]? = some x) (b : N[j]? = some x) : i = j := by
  obtain ⟨h1, e1⟩ := List.getElem?_eq_some_iff.mp a
  obtain ⟨h2, e2⟩ := List.getElem?_eq_some_iff.mp b
  exact (List.getElem_inj hN).mp (e1.trans e2.symm)

/-- a name is stored; what changed -/
theorem store_ok2 {M : Model} {A : Around} {E : Value → Shared → Prop} {i : Nat} {x : Str} {v : V} {u : Value} {Q : Unit → Shared → Prop} (I : Inv X pins σ H s) (hN : X.N.Nodup) (hi : X.N[i]? = some x) (hx : Loc X.env.scope x) (r : RelV v u)
    (h : ∀ s', Inv X pins (σ.set i (some v)) H s' → (∃ a, Heap.SameBut a s.heap s'.heap ∧ (a = X.env.locals ∨ X.env.cells.lookup x = some a)) → Q () s') (hf : X.fn x = true ∨ X.env.scope.names.lookup x = some .local := by first | exact .inl rfl | exact .inr rfl | assumption) : wpAny M A (storeName X.env x u) Q E s := by
  obtain ⟨m, hn, hl⟩ := id I.loc
  have hcls : (X.env.scope.kind == .class || (X.env.scope.kind == .module && X.env.locals != X.env.globals)) = false := by rw [I.ok.kind]; rfl
  have hiσ : i < σ.length := by rw [I.len]; exact (List.getElem?_eq_some_iff.mp hi).1
  have cne := I.cne
  have tracked : ∀ {a : Addr} {h' : Heap}, (∃ o, s.heap.get? a = some o ∧ H a = none) → Heap.SameBut a s.heap h' → HOk X.prog X.w H h' := fun {a h'} ha hs b ob e => by
    obtain ⟨_, _, hfree⟩ := ha
    refine (I.hok b ob e).stay (fun c w' hc q => (hs.2 c ?_).trans q) (fun _ q => q) fun _ _ q => q
    rintro rfl
    rcases hc with rfl | hc
    · rw [hfree] at e; cases e
    · rw [hfree] at hc; cases hc
  rcases hx with hk | hk
  · refine wpAny_storeName_local hk hn (fun h' hn' hs => ?_) hcls
    obtain ⟨oL, _, _, hoL, _⟩ := id hn
    refine h _ ⟨I.ok, I.os, I.bare, ⟨fun b o e n hb hx => ?_, fun b o e n hb hx => ?_, I.base.free, fun b o e hx => ?_, I.base.tups, I.base.frzs, I.base.tbls⟩, ⟨_, hn', fun j y v' e1 e2 e3 => ?_⟩, fun y c e => ?_, I.free, I.freeC, fun p hp => ?_, tracked ⟨oL, hoL, I.free⟩ hs, by simpa using I.len⟩ ⟨_, hs, .inl rfl⟩
    · exact (hs.2 b (Nat.ne_of_lt (Nat.lt_of_lt_of_le (Heap.lt_size e) I.ok.above))).trans (I.base.keep b o e n hb hx)
    · obtain ⟨sl, e1⟩ := I.base.slot b o e n hb hx
      exact ⟨sl, (hs.2 b (Nat.ne_of_lt (Nat.lt_of_lt_of_le (Heap.lt_size e) I.ok.above))).trans e1⟩
    · obtain ⟨o', e1⟩ := I.base.there b o e hx
      exact ⟨o', (hs.2 b (Nat.ne_of_lt (Nat.lt_of_lt_of_le (Heap.lt_size e) I.ok.above))).trans e1⟩
    · by_cases hj : j = i
      · subst hj
        rw [hi] at e1; cases e1
        rw [List.getElem?_set_self hiσ] at e2
        cases e2
        exact ⟨u, r, .inl ⟨hk, by simp⟩⟩
      · rw [List.getElem?_set_ne (Ne.symm hj)] at e2
        obtain ⟨u', r', q⟩ := hl j y v' e1 e2 e3
        refine ⟨u', r', ?_⟩
        rcases q with ⟨k, e⟩ | ⟨k, c, e, z⟩
        · refine .inl ⟨k, ?_⟩
          have : y ≠ x := fun e => hj (nodup_ix hN e1 (e ▸ hi))
          simp [this, e]
        · exact .inr ⟨k, c, e, z.sameBut hs (cne y c e)⟩
    · obtain ⟨w', z⟩ := I.cell y c e
      exact ⟨w', z.sameBut hs (cne y c e)⟩
    · obtain ⟨e, n, ne, nf, d⟩ := I.pin p hp
      exact ⟨(hs.2 p.1 ne).trans e, n, ne, nf, d⟩
  · have hfn : X.fn x = true := by
      rcases hf with z | z
      · exact z
      · rw [z] at hk; cases hk
    obtain ⟨c, hc⟩ := I.ok.has x (.inl hk)
    obtain ⟨w', z⟩ := I.cell x c hc
    refine wpAny_storeName_cell I.ok.kind hk hc z (fun h' hc' hs => ?_)
    obtain ⟨oc, hoc, hocd⟩ := id z
    refine h { s with heap := h' } ⟨I.ok, I.os, I.bare, ⟨fun b o e n hb hx => ?_, fun b o e n hb hx => ?_, I.base.free, fun b o e hx => ?_, I.base.tups, I.base.frzs, I.base.tbls⟩, ⟨m, hn.sameBut hs (Ne.symm (cne x c hc)), fun j y v' e1 e2 e3 => ?_⟩, fun y c' e => ?_, I.free, I.freeC, fun p hp => ?_, tracked ⟨oc, hoc, I.freeC x c hc⟩ hs, by simpa using I.len⟩ ⟨c, hs, .inr hc⟩
    · exact (hs.2 b (Nat.ne_of_lt (Nat.lt_of_lt_of_le (Heap.lt_size e) (I.ok.cab x c hfn hc)))).trans (I.base.keep b o e n hb hx)
    · obtain ⟨sl, e1⟩ := I.base.slot b o e n hb hx
      exact ⟨sl, (hs.2 b (Nat.ne_of_lt (Nat.lt_of_lt_of_le (Heap.lt_size e) (I.ok.cab x c hfn hc)))).trans e1⟩
    · obtain ⟨o', e1⟩ := I.base.there b o e hx
      exact ⟨o', (hs.2 b (Nat.ne_of_lt (Nat.lt_of_lt_of_le (Heap.lt_size e) (I.ok.cab x c hfn hc)))).trans e1⟩
    · by_cases hj : j = i
      · subst hj
        rw [hi] at e1; cases e1
        rw [List.getElem?_set_self hiσ] at e2
        cases e2
        exact ⟨u, r, .inr ⟨.inl hk, c, hc, hc'⟩⟩
      · rw [List.getElem?_set_ne (Ne.symm hj)] at e2
        obtain ⟨u', r', q⟩ := hl j y v' e1 e2 e3
        refine ⟨u', r', ?_⟩
        rcases q with q | ⟨k, c', e, z'⟩
        · exact .inl q
        · refine .inr ⟨k, c', e, z'.sameBut hs ?_⟩
          rintro rfl
          exact hj (nodup_ix hN e1 (I.ok.inj _ _ _ e hc ▸ hi))
    · by_cases hcc : c' = c
      · subst hcc; exact ⟨_, hc'⟩
      · obtain ⟨w2, z2⟩ := I.cell y c' e
        exact ⟨w2, z2.sameBut hs hcc⟩
    · obtain ⟨e, n, ne, nf, d⟩ := I.pin p hp
      refine ⟨(hs.2 p.1 ?_).trans e, n, ne, nf, d⟩
      intro q
      rw [q, hoc] at e
      have q' : oc = p.2 := Option.some.inj e
      exact d w' (by rw [← q']; exact hocd)
theorem store_ok {M : Model} {A : Around} {E : Value → Shared → Prop} {i : Nat} {x : Str} {v : V} {u : Value} {Q : Unit → Shared → Prop} (I : Inv X pins σ H s) (hN : X.N.Nodup) (hi : X.N[i]? = some x) (hx : Loc X.env.scope x) (r : RelV v u)
    (h : ∀ s', Inv X pins (σ.set i (some v)) H s' → Q () s') (hf : X.fn x = true ∨ X.env.scope.names.lookup x = some .local := by first | exact .inl rfl | exact .inr rfl | assumption) : wpAny M A (storeName X.env x u) Q E s :=
  store_ok2 I hN hi hx r (fun s' I' _ => h s' I') hf
/-- behind a call or a block, the state as it is -/
theorem Inv.call' {s' : Shared} {ch : List Addr} (I : Inv X pins σ H s) (ho : s'.os = s.os) (u : Un (frs X.stack) ch H H' s.heap s'.heap) (hok : HOk X.prog X.w H' s'.heap) (hg : AllBare s'.gens)
    (hch : ∀ b ∈ ch, (b ∈ X.ex ∨ X.s₀.heap.objs.size ≤ b) ∧ b ≠ X.env.locals ∧ (∀ x c, X.env.cells.lookup x = some c → c ≠ b) ∧ ∀ p ∈ X.pn ++ pins, p.1 ≠ b) : Inv X pins σ H' s' := by
  obtain ⟨h', g', d', t', o'⟩ := s'
  have e : o' = s.os := ho
  subst e
  exact I.call (g' := g') (t' := t') (d' := d') u hok hg hch
end

/-! ### the judgements -/
/-- an exception: its class, its own dict's address (where it has one), the abstract heap behind it -/
abbrev XK := Value → Option Addr → Hp → Prop
abbrev St := List (Option V)
abbrev VK := V → Hp → Prop
/-- an expression's reading; a test's; an argument list's -/
abbrev TE := St → Hp → VK → Prop
abbrev TT := St → Hp → (Bool → Hp → Prop) → Prop
abbrev TA := St → Hp → (List V → Hp → Prop) → Prop
/-- what is wanted behind a statement -/
structure Ends where
  nx : St → Hp → Prop
  rt : VK
  bk : St → Hp → Prop := fun _ _ => False
  ct : St → Hp → Prop := fun _ _ => False
abbrev TS := Ends → St → Hp → Prop

def EP (X : Cx) (pins : List (Addr × Obj)) (σ : St) (Q : VK) (u : Value) (s' : Shared) : Prop := ∃ v H', Inv X pins σ H' s' ∧ RelV v u ∧ Q v H'
def TP (X : Cx) (pins : List (Addr × Obj)) (σ : St) (Q : Bool → Hp → Prop) (b : Bool) (s' : Shared) : Prop := ∃ H', Inv X pins σ H' s' ∧ Q b H'
def AP (X : Cx) (pins : List (Addr × Obj)) (σ : St) (Q : List V → Hp → Prop) (us : List Value) (s' : Shared) : Prop := ∃ vs H', Inv X pins σ H' s' ∧ Vals vs us ∧ Q vs H'
def SP (X : Cx) (pins : List (Addr × Obj)) (D : Ends) (f : Flow) (s' : Shared) : Prop :=
  match f with
  | .next => ∃ σ' H', Inv X pins σ' H' s' ∧ D.nx σ' H'
  | .brk => ∃ σ' H', Inv X pins σ' H' s' ∧ D.bk σ' H'
  | .cont => ∃ σ' H', Inv X pins σ' H' s' ∧ D.ct σ' H'
  | .ret u => ∃ v σ' H', Inv X pins σ' H' s' ∧ RelV v u ∧ D.rt v H'

def PE (X : Cx) (e : Expr) (t : TE) : Prop :=
  ∀ (pins : List (Addr × Obj)) (s : Shared) (σ : St) (H : Hp) (Q : VK), Inv X pins σ H s → t σ H Q → wpAny (model X.prog X.w) X.A (eval e X.env) (EP X pins σ Q) X.xe s
def PT (X : Cx) (e : Expr) (t : TT) : Prop :=
  ∀ (pins : List (Addr × Obj)) (s : Shared) (σ : St) (H : Hp) (Q : Bool → Hp → Prop), Inv X pins σ H s → t σ H Q → wpAny (model X.prog X.w) X.A (isTrue e X.env (eval e X.env)) (TP X pins σ Q) X.xe s
/-- a test whatever its 'whole' is (and, or) -/
def PW (X : Cx) (e : Expr) (t : TT) : Prop :=
  ∀ (whole : Sem Value) (pins : List (Addr × Obj)) (s : Shared) (σ : St) (H : Hp) (Q : Bool → Hp → Prop), Inv X pins σ H s → t σ H Q → wpAny (model X.prog X.w) X.A (isTrue e X.env whole) (TP X pins σ Q) X.xe s
theorem PW.pt {X : Cx} {e : Expr} {t : TT} (h : PW X e t) : PT X e t := h _
/-- an argument list (no star), from the left -/
def PA (X : Cx) (es : List Expr) (t : TA) : Prop :=
  ∀ (pos : Pos) (pins : List (Addr × Obj)) (s : Shared) (σ : St) (H : Hp) (Q : List V → Hp → Prop), Inv X pins σ H s → t σ H Q → wpAny (model X.prog X.w) X.A (spliced (backTo pos (starEach es X.env))) (AP X pins σ Q) X.xe s
def PS (X : Cx) (st : Stmt) (t : TS) : Prop :=
  ∀ (pins : List (Addr × Obj)) (s : Shared) (σ : St) (H : Hp) (D : Ends), Inv X pins σ H s → t D σ H → wpAny (model X.prog X.w) X.A (exec st X.env) (SP X pins D) X.xe s
def PSs (X : Cx) (st : List Stmt) (t : TS) : Prop :=
  ∀ (pins : List (Addr × Obj)) (s : Shared) (σ : St) (H : Hp) (D : Ends), Inv X pins σ H s → t D σ H → wpAny (model X.prog X.w) X.A (execs st X.env) (SP X pins D) X.xe s
/-- weaken the end -/
theorem thn {α : Type} {t : Sem α} {Q Q' : α → Shared → Prop} {M : Model} {A : Around} {E : Value → Shared → Prop} {s : Shared} (h : wpAny M A t Q E s) (hQ : ∀ a s, Q a s → Q' a s) : wpAny M A t Q' E s := wpAny_mono h hQ fun _ _ x => x
end L2

namespace L2
open PySem PySem.Spec PyProof.Rows
section
variable {X : Cx}

/-- two expressions in a row -/
theorem bin {a b : Expr} {ta tb : TE} (ha : PE X a ta) (hb : PE X b tb) {pins : List (Addr × Obj)} {s : Shared} {σ : St} {H : Hp} {R : V → V → Hp → Prop} (I : Inv X pins σ H s) (h : ta σ H fun x H1 => tb σ H1 fun y H2 => R x y H2)
    {α : Type} {Q : α → Shared → Prop} {f : Value → Value → Sem α}
    (hf : ∀ v u s2 x y H2, Inv X pins σ H2 s2 → RelV x v → RelV y u → R x y H2 → wpAny (model X.prog X.w) X.A (f v u) Q X.xe s2) :
    wpAny (model X.prog X.w) X.A (eval a X.env) (fun v s₁ => wpAny (model X.prog X.w) X.A (eval b X.env) (fun u s₂ => wpAny (model X.prog X.w) X.A (f v u) Q X.xe s₂) X.xe s₁) X.xe s := by
  refine thn (ha pins s σ H _ I h) fun v s1 ⟨x, H1, I1, r1, q1⟩ => ?_
  refine thn (hb pins s1 σ H1 _ I1 q1) fun u s2 ⟨y, H2, I2, r2, q2⟩ => ?_
  exact hf v u s2 x y H2 I2 r1 r2 q2

/-! ### names and constants -/
def tVar (i : Nat) : TE := fun σ H Q => ∃ v, σ[i]? = some (some v) ∧ Q v H
def tC (v : V) : TE := fun _ H Q => Q v H
theorem pe_var {i : Nat} {x : Str} {pos : Pos} (hN : X.N[i]? = some x) (hv : Vis X.env.scope x) (hd : (x == ("__debug__" : Str)) = false := by decide) (hcd : (x == ("__classdict__" : Str)) = false := by decide) : PE X (.Name x pos) (tVar i) := by
  intro pins s σ H Q I h
  obtain ⟨v, e, h⟩ := h
  obtain ⟨m, hn, hl⟩ := I.loc
  obtain ⟨u, r, l⟩ := hl i x v hN e hv
  have fin : EP X pins σ Q u s := ⟨v, H, I, r, h⟩
  rcases l with ⟨hk, hm⟩ | ⟨hk, c, hc, hcell⟩
  · exact wpAny_Name (wpAny_loadName_local I.ok.kind hk hn hm fin) hd
  · rcases hk with hk | hk
    · exact wpAny_Name (wpAny_loadName_cell I.ok.kind hk hc hcell fin) hd
    · exact wpAny_Name (wpAny_loadName_free I.ok.kind hk hc hcell fin hcd) hd
theorem pe_int {i j pos} : PE X (.Constant (.int i) j pos) (tC (.int i)) := fun _ _ _ H _ I h => wpAny_Constant_int ⟨.int i, H, I.tok _, ⟨_, rfl⟩, h⟩
theorem pe_bl {b j pos} : PE X (.Constant (.bool b) j pos) (tC (.bl b)) := fun _ _ _ H _ I h => Constant_bool ⟨.bl b, H, I, rfl, h⟩
theorem pe_non {j pos} : PE X (.Constant .none j pos) (tC .non) := fun _ _ _ H _ I h => Constant_none ⟨.non, H, I, rfl, h⟩
theorem pe_str {x j pos} : PE X (.Constant (.str x) j pos) (tC (.str x)) := fun _ _ _ H _ I h => Calls.Constant_str ⟨.str x, H, I.tok _, ⟨_, rfl⟩, h⟩

/-- a global name of the def -/
def Gl (X : Cx) (x : Str) : Prop := X.env.kindOf x = some .globalImplicit
theorem ld_glob {E : Value → Shared → Prop} {pins : List (Addr × Obj)} {s : Shared} {σ : St} {H : Hp} {x : Str} {u : Value} {pos : Pos} {Q : Value → Shared → Prop} (I : Inv X pins σ H s) (hg : Gl X x) (hm : X.mg x = some u) (h : Q u s)
    (hd : (x == ("__debug__" : Str)) = false := by decide) : wpAny (model X.prog X.w) X.A (eval (.Name x pos) X.env) Q E s :=
  Calls.Name_function_global I.ok.kind hg (Calls.loadGlobal_global (by rw [I.ok.glob]; exact I.mod.glob.keeps I.bk) hm h) hd
theorem ld_blt {E : Value → Shared → Prop} {pins : List (Addr × Obj)} {s : Shared} {σ : St} {H : Hp} {x : Str} {u : Value} {pos : Pos} {Q : Value → Shared → Prop} (I : Inv X pins σ H s) (hg : Gl X x) (hm : X.mg x = none) (hv : bootBuiltins x = some u) (h : Q u s)
    (hn : x ≠ "__name__" := by decide) (hd : (x == ("__debug__" : Str)) = false := by decide) : wpAny (model X.prog X.w) X.A (eval (.Name x pos) X.env) Q E s := by
  obtain ⟨mb, h1, h2⟩ := I.mod.blt
  exact Calls.Name_function_global I.ok.kind hg (Calls.loadGlobal_builtin (by rw [I.ok.glob]; exact I.mod.glob.keeps I.bk) hm (by rw [I.ok.blt]; exact h1.keeps I.bk) ((h2 x hn).trans hv) h) hd
/-- a module's constant, a class, a function, as a value -/
theorem pe_glob {x : Str} {v : V} {u : Value} {pos : Pos} (hg : Gl X x) (hm : X.mg x = some u) (r : RelV v u) (hd : (x == ("__debug__" : Str)) = false := by decide) : PE X (.Name x pos) (tC v) :=
  fun _ _ _ H _ I h => ld_glob I hg hm ⟨v, H, I, r, h⟩ hd
theorem pe_bltn {x : Str} {v : V} {u : Value} {pos : Pos} (hg : Gl X x) (hm : X.mg x = none) (hv : bootBuiltins x = some u) (r : RelV v u) (hn : x ≠ "__name__" := by decide) (hd : (x == ("__debug__" : Str)) = false := by decide) : PE X (.Name x pos) (tC v) :=
  fun _ _ _ H _ I h => ld_blt I hg hm hv ⟨v, H, I, r, h⟩ hn hd

/-! ### arithmetic -/
/-- two ints -/
def t2I (ta tb : TE) (k : Int → Int → Hp → Prop) : St → Hp → Prop := fun σ H => ta σ H fun x H1 => tb σ H1 fun y H2 => ∃ i j, x = .int i ∧ y = .int j ∧ k i j H2
def tAdd (ta tb : TE) : TE := fun σ H Q => t2I ta tb (fun i j H2 => Q (.int (i + j)) H2) σ H
def tSub (ta tb : TE) : TE := fun σ H Q => t2I ta tb (fun i j H2 => Q (.int (i - j)) H2) σ H
/-- the left factor below 2^64 -/
def tMul (ta tb : TE) : TE := fun σ H Q => t2I ta tb (fun i j H2 => (-(2 ^ 64) < i ∧ i < 2 ^ 64) ∧ Q (.int (i * j)) H2) σ H
variable {a b : Expr} {ta tb : TE} {pos : Pos}
theorem pe_add (ha : PE X a ta) (hb : PE X b tb) : PE X (.BinOp a .Add b pos) (tAdd ta tb) := by
  intro pins s σ H Q I h
  refine wpAny_BinOp (bin ha hb I h fun v u s2 x y H2 I2 rx ry q => ?_)
  obtain ⟨i, j, rfl, rfl, q⟩ := q
  obtain ⟨t, rfl⟩ := rx
  obtain ⟨t', rfl⟩ := ry
  exact add_int ⟨.int _, H2, I2.tok _, ⟨_, rfl⟩, q⟩
theorem pe_sub (ha : PE X a ta) (hb : PE X b tb) : PE X (.BinOp a .Sub b pos) (tSub ta tb) := by
  intro pins s σ H Q I h
  refine wpAny_BinOp (bin ha hb I h fun v u s2 x y H2 I2 rx ry q => ?_)
  obtain ⟨i, j, rfl, rfl, q⟩ := q
  obtain ⟨t, rfl⟩ := rx
  obtain ⟨t', rfl⟩ := ry
  exact sub_int ⟨.int _, H2, I2.tok _, ⟨_, rfl⟩, q⟩
theorem pe_mul (ha : PE X a ta) (hb : PE X b tb) : PE X (.BinOp a .Mult b pos) (tMul ta tb) := by
  intro pins s σ H Q I h
  refine wpAny_BinOp (bin ha hb I h fun v u s2 x y H2 I2 rx ry q => ?_)
  obtain ⟨i, j, rfl, rfl, ⟨q1, q2⟩, q⟩ := q
  obtain ⟨t, rfl⟩ := rx
  obtain ⟨t', rfl⟩ := ry
  exact mul_int ⟨.int _, H2, I2.tok _, ⟨_, rfl⟩, q⟩ (.of_left (intBits_le_64 q1 q2))

/-! ### comparisons -/
def PC (X : Cx) (op : CmpOp) (a b : Expr) (t : TE) : Prop :=
  ∀ (pins : List (Addr × Obj)) (s : Shared) (σ : St) (H : Hp) (Q : VK), Inv X pins σ H s → t σ H Q →
    wpAny (model X.prog X.w) X.A (eval a X.env) (fun v s₁ => wpAny (model X.prog X.w) X.A (eval b X.env) (fun u s₂ => wpAny (model X.prog X.w) X.A (compareOp op v u) (EP X pins σ Q) X.xe s₂) X.xe s₁) X.xe s
theorem nobehind (b : Expr) {op : CmpOp} (h : op ≠ .In) (h2 : op ≠ .NotIn) : behindInMarks op b = false := by
  have e1 : (op == CmpOp.In) = false := by cases op <;> first | rfl | exact absurd rfl h
  have e2 : (op == CmpOp.NotIn) = false := by cases op <;> first | rfl | exact absurd rfl h2
  cases b <;> simp [behindInMarks, e1, e2]
def tCmp (p : Int → Int → Bool) (ta tb : TE) : TE := fun σ H Q => t2I ta tb (fun i j H2 => Q (.bl (p i j)) H2) σ H
abbrev tLt : TE → TE → TE := tCmp fun i j => decide (i < j)
abbrev tLe : TE → TE → TE := tCmp fun i j => decide (i ≤ j)
abbrev tGt : TE → TE → TE := tCmp fun i j => decide (j < i)
abbrev tGe : TE → TE → TE := tCmp fun i j => decide (j ≤ i)
abbrev tEqI : TE → TE → TE := tCmp fun i j => decide (i = j)
abbrev tNeI : TE → TE → TE := tCmp fun i j => !decide (i = j)
/-- a comparison of two ints, by its rule -/
theorem pc_int {op : CmpOp} {p : Int → Int → Bool} (ha : PE X a ta) (hb : PE X b tb)
    (rule : ∀ (i j : Int) (t u : Tok) (Q : Value → Shared → Prop) (s : Shared), Q (.bool (p i j)) s → wpAny (model X.prog X.w) X.A (compareOp op (.int i t) (.int j u)) Q X.xe s) : PC X op a b (tCmp p ta tb) := by
  intro pins s σ H Q I h
  refine bin ha hb I h fun v u s2 x y H2 I2 rx ry q => ?_
  obtain ⟨i, j, rfl, rfl, q⟩ := q
  obtain ⟨t, rfl⟩ := rx
  obtain ⟨t', rfl⟩ := ry
  exact rule i j t t' _ s2 ⟨.bl _, H2, I2, rfl, q⟩
theorem pc_lt (ha : PE X a ta) (hb : PE X b tb) : PC X .Lt a b (tLt ta tb) := pc_int ha hb fun _ _ _ _ _ _ h => lt_int h
theorem pc_le (ha : PE X a ta) (hb : PE X b tb) : PC X .LtE a b (tLe ta tb) := pc_int ha hb fun _ _ _ _ _ _ h => le_int h
theorem pc_gt (ha : PE X a ta) (hb : PE X b tb) : PC X .Gt a b (tGt ta tb) := pc_int ha hb fun _ _ _ _ _ _ h => gt_int h
theorem pc_ge (ha : PE X a ta) (hb : PE X b tb) : PC X .GtE a b (tGe ta tb) := pc_int ha hb fun _ _ _ _ _ _ h => ge_int h
theorem pc_eqI (ha : PE X a ta) (hb : PE X b tb) : PC X .Eq a b (tEqI ta tb) := pc_int ha hb fun _ _ _ _ _ _ h => eq_int (by rw [Bool.beq_eq_decide_eq]; exact h)
theorem pc_neI (ha : PE X a ta) (hb : PE X b tb) : PC X .NotEq a b (tNeI ta tb) := pc_int ha hb fun _ _ _ _ _ _ h => ne_int (by rw [bne, Bool.beq_eq_decide_eq]; exact h)
/-- is None -/
def tIsN (ta : TE) : TE := fun σ H Q => ta σ H fun x H1 => Q (.bl (decide (x = .non))) H1
def tNotN (ta : TE) : TE := fun σ H Q => ta σ H fun x H1 => Q (.bl (!decide (x = .non))) H1
theorem RelV.none_iff {x : V} {v : Value} (r : RelV x v) : (v == Value.none) = decide (x = .non) := by
  cases x with
  | non => cases r; rfl
  | bl _ => cases r; rfl
  | int _ => obtain ⟨t, rfl⟩ := r; rfl
  | str _ => obtain ⟨t, rfl⟩ := r; rfl
  | byt _ => obtain ⟨t, rfl⟩ := r; rfl
  | flt _ => obtain ⟨t, rfl⟩ := r; rfl
  | ref _ => cases r; rfl
  | ty _ => cases r; rfl
theorem pc_isN {j pos'} (ha : PE X a ta) : PC X .Is a (.Constant .none j pos') (tIsN ta) := by
  intro pins s σ H Q I h
  refine thn (ha pins s σ H _ I h) fun v s1 ⟨x, H1, I1, r1, q1⟩ => ?_
  exact Constant_none (is_none_gen ⟨.bl _, H1, I1, by rw [r1.none_iff]; rfl, q1⟩)
theorem pc_notN {j pos'} (ha : PE X a ta) : PC X .IsNot a (.Constant .none j pos') (tNotN ta) := by
  intro pins s σ H Q I h
  refine thn (ha pins s σ H _ I h) fun v s1 ⟨x, H1, I1, r1, q1⟩ => ?_
  exact Constant_none (isnot_none_gen ⟨.bl _, H1, I1, by rw [r1.none_iff]; rfl, q1⟩)
/-- a comparison as a value, as a test -/
def tB (t : TE) : TT := fun σ H Q => t σ H fun x H1 => ∃ c, x = .bl c ∧ Q c H1
theorem pe_cmp {op : CmpOp} {t : TE} (h : PC X op a b t) (h1 : behindInMarks op b = false := by first | exact nobehind _ (by decide) (by decide) | rfl) : PE X (.Compare a [op] [b] pos) t := fun pins s σ H Q I hw => wpAny_Compare1 (h pins s σ H Q I hw) h1
theorem pt_cmp {op : CmpOp} {t : TE} (h : PC X op a b t) (h1 : behindInMarks op b = false := by first | exact nobehind _ (by decide) (by decide) | rfl) : PT X (.Compare a [op] [b] pos) (tB t) := by
  intro pins s σ H Q I hw
  refine wpAny_isTrue_Compare1 (thn (h pins s σ H _ I hw) fun v s1 h1 => thn h1 fun u s2 h2 => thn h2 fun c s3 ⟨x, H1, I1, r1, q1⟩ => ?_) h1
  obtain ⟨d, rfl, q⟩ := q1
  cases r1
  exact wpAny_truthy_bool ⟨H1, I1, q⟩
/-- an expression whose value is a bool, as a test -/
theorem pt_val {e : Expr} {t : TE} (h : PE X e t) (he : ∀ whole, isTrue e X.env whole = (do let v ← whole; standAt e.pos; holding [v] (truthy v)) := by intro _; rfl) : PT X e (tB t) := by
  intro pins s σ H Q I hw
  refine isTrue_plain (thn (h pins s σ H _ I hw) fun v s1 ⟨x, H1, I1, r1, q1⟩ => ?_) (he _)
  obtain ⟨d, rfl, q⟩ := q1
  cases r1
  exact wpAny_truthy_bool ⟨H1, I1, q⟩

/-! ### and, or, not -/
variable {tA tB' : TT} {rest : List Expr}
def tAnd (t u : TT) : TT := fun σ H Q => t σ H fun c H1 => if c = true then u σ H1 Q else Q false H1
def tOr (t u : TT) : TT := fun σ H Q => t σ H fun c H1 => if c = true then Q true H1 else u σ H1 Q
def tNot (t : TT) : TT := fun σ H Q => t σ H fun c H1 => Q (!c) H1
theorem pw_and1 (ha : PT X a tA) : PW X (.BoolOp .And [a] pos) tA := by
  intro wh pins s σ H Q I h
  refine isTrue_and (thn (ha pins s σ H Q I h) fun c s1 e => ?_)
  cases c with
  | true => exact isTrue_and_nil e
  | false => exact e
theorem pw_or1 (ha : PT X a tA) : PW X (.BoolOp .Or [a] pos) tA := by
  intro wh pins s σ H Q I h
  refine isTrue_or (thn (ha pins s σ H Q I h) fun c s1 e => ?_)
  cases c with
  | false => exact isTrue_or_nil e
  | true => exact e
theorem pw_and (ha : PT X a tA) (hb : PW X (.BoolOp .And (b :: rest) pos) tB') : PW X (.BoolOp .And (a :: b :: rest) pos) (tAnd tA tB') := by
  intro wh pins s σ H Q I h
  refine isTrue_and (thn (ha pins s σ H _ I h) fun c s1 ⟨H1, I1, q1⟩ => ?_)
  cases c with
  | true => exact hb wh pins s1 σ H1 Q I1 q1
  | false => exact ⟨H1, I1, q1⟩
theorem pw_or (ha : PT X a tA) (hb : PW X (.BoolOp .Or (b :: rest) pos) tB') : PW X (.BoolOp .Or (a :: b :: rest) pos) (tOr tA tB') := by
  intro wh pins s σ H Q I h
  refine isTrue_or (thn (ha pins s σ H _ I h) fun c s1 ⟨H1, I1, q1⟩ => ?_)
  cases c with
  | true => exact ⟨H1, I1, q1⟩
  | false => exact hb wh pins s1 σ H1 Q I1 q1
theorem pt_not (ha : PT X a tA) : PT X (.UnaryOp .Not a pos) (tNot tA) := by
  intro pins s σ H Q I h
  exact isTrue_not (ha pins s σ H (fun c H1 => Q (!c) H1) I h)
/-- .. as values (bools) -/
def tAndV (ta tb : TE) : TE := fun σ H Q => ta σ H fun x H1 => ∃ c, x = .bl c ∧ if c = true then tb σ H1 Q else Q (.bl false) H1
def tOrV (ta tb : TE) : TE := fun σ H Q => ta σ H fun x H1 => ∃ c, x = .bl c ∧ if c = true then Q (.bl true) H1 else tb σ H1 Q
def tNotV (ta : TE) : TE := fun σ H Q => ta σ H fun x H1 => ∃ c, x = .bl c ∧ Q (.bl (!c)) H1
theorem pe_one {op} {t : TE} (h : PE X a t) : PE X (.BoolOp op [a] pos) t := fun pins s σ H Q I hw => BoolOp_one (h pins s σ H Q I hw)
theorem pe_and (ha : PE X a ta) (hb : PE X (.BoolOp .And (b :: rest) pos) tb) : PE X (.BoolOp .And (a :: b :: rest) pos) (tAndV ta tb) := by
  intro pins s σ H Q I h
  refine BoolOp_and (thn (ha pins s σ H _ I h) fun v s1 ⟨x, H1, I1, r1, q1⟩ => ?_)
  obtain ⟨c, rfl, q1⟩ := q1
  cases r1
  refine wpAny_truthy_bool ?_
  cases c with
  | true => exact hb pins s1 σ H1 Q I1 q1
  | false => exact ⟨.bl false, H1, I1, rfl, q1⟩
theorem pe_or (ha : PE X a ta) (hb : PE X (.BoolOp .Or (b :: rest) pos) tb) : PE X (.BoolOp .Or (a :: b :: rest) pos) (tOrV ta tb) := by
  intro pins s σ H Q I h
  refine BoolOp_or (thn (ha pins s σ H _ I h) fun v s1 ⟨x, H1, I1, r1, q1⟩ => ?_)
  obtain ⟨c, rfl, q1⟩ := q1
  cases r1
  refine wpAny_truthy_bool ?_
  cases c with
  | false => exact hb pins s1 σ H1 Q I1 q1
  | true => exact ⟨.bl true, H1, I1, rfl, q1⟩
theorem pe_not (ha : PE X a ta) : PE X (.UnaryOp .Not a pos) (tNotV ta) := by
  intro pins s σ H Q I h
  refine UnaryOp_ (thn (ha pins s σ H _ I h) fun v s1 ⟨x, H1, I1, r1, q1⟩ => ?_)
  obtain ⟨c, rfl, q1⟩ := q1
  cases r1
  exact not_of (wpAny_truthy_bool ⟨.bl (!c), H1, I1, rfl, q1⟩)
/-- a if t else b -/
def tIf (t : TT) (ta tb : TE) : TE := fun σ H Q => t σ H fun c H1 => if c = true then ta σ H1 Q else tb σ H1 Q
theorem pe_ifExp {c : Expr} (hc : PT X c tA) (ha : PE X a ta) (hb : PE X b tb) : PE X (.IfExp c a b pos) (tIf tA ta tb) := by
  intro pins s σ H Q I h
  refine wpAny_IfExp (thn (hc pins s σ H _ I h) fun d s1 ⟨H1, I1, q1⟩ => ?_)
  cases d with
  | true => exact ha pins s1 σ H1 Q I1 q1
  | false => exact hb pins s1 σ H1 Q I1 q1
end
end L2

namespace L2
open PySem PySem.Spec PyProof.Rows

/-! ### a list, a tuple that is read: tracked, frozen, or an object of the module -/
def SqL (K : PySem.W.Frag) (H : Hp) (a : Addr) (xs : List V) : Prop :=
  Rd H a (.lst xs) ∨
    ∃ (o : Obj) (its : Array Value) (n : Nat), K.lookup a = some o ∧ o.cls = .type "list" ∧ o.dict = none ∧ o.data = .seq its n ∧ its.size ≤ sizeLine ∧ Vals xs its.toList
def SqT (K : PySem.W.Frag) (H : Hp) (a : Addr) (xs : List V) : Prop :=
  Rd H a (.tup xs) ∨
    ∃ (o : Obj) (its : Array Value) (n : Nat), K.lookup a = some o ∧ o.cls = .type "tuple" ∧ o.data = .seq its n ∧ its.size ≤ sizeLine ∧ Vals xs its.toList
def absV : Value → Option V
  | .none => some .non
  | .bool b => some (.bl b)
  | .int i _ => some (.int i)
  | .str x _ => some (.str x)
  | .bytes b _ => some (.byt b)
  | .float b _ => some (.flt b)
  | .ref a => some (.ref a)
  | .type n => some (.ty n)
  | _ => none
theorem RelV.abs {x : V} {u : Value} (r : RelV x u) : absV u = some x := by
  cases x with
  | non => cases r; rfl
  | bl _ => cases r; rfl
  | int _ => obtain ⟨t, rfl⟩ := r; rfl
  | str _ => obtain ⟨t, rfl⟩ := r; rfl
  | byt _ => obtain ⟨t, rfl⟩ := r; rfl
  | flt _ => obtain ⟨t, rfl⟩ := r; rfl
  | ref _ => cases r; rfl
  | ty _ => cases r; rfl
theorem RelV.inj {x y : V} {u : Value} (r : RelV x u) (q : RelV y u) : x = y := Option.some.inj (r.abs.symm.trans q.abs)
theorem Vals.inj : ∀ {xs ys : List V} {us : List Value}, Vals xs us → Vals ys us → xs = ys
  | _, _, _, .nil, .nil => rfl
  | _, _, _, .cons r t, .cons r' t' => by rw [r.inj r', Vals.inj t t']
section
variable {X : Cx} {pins : List (Addr × Obj)} {σ : St} {H : Hp} {s : Shared} {a : Addr} {xs ys : List V}
theorem SqL.of {K : PySem.W.Frag} (h : H a = some (.lst xs)) : SqL K H a xs := .inl (.inl h)
theorem SqT.of {K : PySem.W.Frag} (h : H a = some (.tup xs)) : SqT K H a xs := .inl (.inl h)
theorem Inv.list (I : Inv X pins σ H s) (h : SqL X.K H a xs) : ∃ its : List Value, Vals xs its ∧ PlainL s.heap a its.toArray ∧ xs.length ≤ sizeLine := by
  rcases h with h | ⟨o, its, n, hk, hc, hd, hs, hz, r⟩
  · obtain ⟨z, its, n, r, e⟩ := h.ok I.hok
    exact ⟨its, r, ⟨_, n, e, rfl, rfl, rfl⟩, z⟩
  · refine ⟨its.toList, r, ⟨o, n, I.kIn a o hk, hc, hd, by simpa using hs⟩, ?_⟩
    have e := r.length
    simp only [Array.length_toList] at e
    omega
theorem Inv.tuple (I : Inv X pins σ H s) (h : SqT X.K H a xs) : ∃ its : List Value, Vals xs its ∧ IsTup s.heap a its.toArray ∧ xs.length ≤ sizeLine := by
  rcases h with h | ⟨o, its, n, hk, hc, hs, hz, r⟩
  · obtain ⟨z, its, r, p⟩ := h.ok I.hok
    exact ⟨its, r, p, z⟩
  · refine ⟨its.toList, r, ⟨o, I.kIn a o hk, hc, n, by simpa using hs⟩, ?_⟩
    have e := r.length
    simp only [Array.length_toList] at e
    omega
theorem Inv.list_inj (I : Inv X pins σ H s) (h : SqL X.K H a xs) (h' : SqL X.K H a ys) : xs = ys := by
  obtain ⟨its, r, ⟨o, n, e, _, _, d⟩, _⟩ := I.list h
  obtain ⟨its', r', ⟨o', n', e', _, _, d'⟩, _⟩ := I.list h'
  rw [e] at e'; cases e'
  rw [d] at d'
  injection d' with d1 _
  have : its = its' := by simpa using congrArg Array.toList d1
  subst this
  exact r.inj r'
theorem Inv.tuple_inj (I : Inv X pins σ H s) (h : SqT X.K H a xs) (h' : SqT X.K H a ys) : xs = ys := by
  obtain ⟨its, r, ⟨o, e, _, n, d⟩, _⟩ := I.tuple h
  obtain ⟨its', r', ⟨o', e', _, n', d'⟩, _⟩ := I.tuple h'
  rw [e] at e'; cases e'
  rw [d] at d'
  injection d' with d1 _
  have : its = its' := by simpa using congrArg Array.toList d1
  subst this
  exact r.inj r'
end

/-! ### another wish about exceptions -/
abbrev Cx.wish (X : Cx) (E : Value → Shared → Prop) : Cx := { X with xe := E }
/-- no exception leaves -/
abbrev Cx.nox (X : Cx) : Cx := X.wish fun _ _ => False
theorem Cx.Ok.wish {X : Cx} (ok : X.Ok) (E : Value → Shared → Prop) : (X.wish E).Ok :=
  ⟨ok.mod, ok.kind, ok.glob, ok.blt, ok.above, ok.inj, ok.has, ok.cab, ok.hd, ok.frames, ok.stk, ok.exf, ok.bs, ok.bsz, ok.noex, ok.exfs, ok.funs, ok.frf⟩
theorem Cx.Ok.unwish {X : Cx} {E : Value → Shared → Prop} (ok : (X.wish E).Ok) : X.Ok :=
  ⟨ok.mod, ok.kind, ok.glob, ok.blt, ok.above, ok.inj, ok.has, ok.cab, ok.hd, ok.frames, ok.stk, ok.exf, ok.bs, ok.bsz, ok.noex, ok.exfs, ok.funs, ok.frf⟩
section
variable {X : Cx} {pins : List (Addr × Obj)} {σ : St} {H : Hp} {s : Shared} {E : Value → Shared → Prop}
theorem Inv.wish (I : Inv X pins σ H s) (E : Value → Shared → Prop) : Inv (X.wish E) pins σ H s := ⟨I.ok.wish E, I.os, I.bare, I.base, I.loc, I.cell, I.free, I.freeC, I.pin, I.hok, I.len⟩
theorem Inv.unwish (I : Inv (X.wish E) pins σ H s) : Inv X pins σ H s := ⟨I.ok.unwish, I.os, I.bare, I.base, I.loc, I.cell, I.free, I.freeC, I.pin, I.hok, I.len⟩
theorem SP.unwish {D : Ends} {f : Flow} {s' : Shared} (h : SP (X.wish E) pins D f s') : SP X pins D f s' := by
  cases f with
  | next => obtain ⟨σ', H', I, q⟩ := h; exact ⟨σ', H', I.unwish, q⟩
  | brk => obtain ⟨σ', H', I, q⟩ := h; exact ⟨σ', H', I.unwish, q⟩
  | cont => obtain ⟨σ', H', I, q⟩ := h; exact ⟨σ', H', I.unwish, q⟩
  | ret u => obtain ⟨v, σ', H', I, r, q⟩ := h; exact ⟨v, σ', H', I.unwish, r, q⟩
theorem PE.nox {e : Expr} {t : TE} (h : PE X.nox e t) : PE X e t := fun pins s σ H Q I hw =>
  wpAny_mono (h pins s σ H Q (I.wish _) hw) (fun _ _ ⟨v, H', I', r, q⟩ => ⟨v, H', I'.unwish, r, q⟩) fun _ _ z => False.elim z
theorem PT.nox {e : Expr} {t : TT} (h : PT X.nox e t) : PT X e t := fun pins s σ H Q I hw =>
  wpAny_mono (h pins s σ H Q (I.wish _) hw) (fun _ _ ⟨H', I', q⟩ => ⟨H', I'.unwish, q⟩) fun _ _ z => False.elim z
theorem PSs.nox {st : List Stmt} {t : TS} (h : PSs X.nox st t) : PSs X st t := fun pins s σ H D I hw =>
  wpAny_mono (h pins s σ H D (I.wish _) hw) (fun _ _ q => q.unwish) fun _ _ z => False.elim z
end

/-! ### blocks and small statements -/
section
variable {X : Cx} {st : Stmt} {rest : List Stmt} {t u : TS} {e : Expr} {te : TE} {pos : Pos}
def tNext : TS := fun D σ H => D.nx σ H
def tSeq (t u : TS) : TS := fun D σ H => t { D with nx := u D } σ H
theorem pss_nil : PSs X [] tNext := fun _ _ σ H _ I h => wpAny_execs_nil ⟨σ, H, I, h⟩
theorem pss_cons (h1 : PS X st t) (h2 : PSs X rest u) : PSs X (st :: rest) (tSeq t u) := by
  intro pins s σ H D I h
  refine wpAny_execs_cons (thn (h1 pins s σ H { D with nx := u D } I h) fun f s1 q => ?_)
  cases f with
  | next =>
    obtain ⟨σ', H', I', q⟩ := q
    exact h2 pins s1 σ' H' D I' q
  | ret v => exact q
  | brk => exact q
  | cont => exact q
theorem pss_one (h1 : PS X st t) : PSs X [st] t := by
  intro pins s σ H D I h
  refine wpAny_execs_cons (thn (h1 pins s σ H D I h) fun f s1 q => ?_)
  cases f with
  | next => exact wpAny_execs_nil q
  | ret v => exact q
  | brk => exact q
  | cont => exact q
def tBreak : TS := fun D σ H => D.bk σ H
def tCont : TS := fun D σ H => D.ct σ H
theorem ps_pass : PS X (.Pass pos) tNext := fun _ _ σ H _ I h => wpAny_Pass ⟨σ, H, I, h⟩
theorem ps_break : PS X (.Break pos) tBreak := fun _ _ σ H _ I h => wpAny_Break ⟨σ, H, I, h⟩
theorem ps_continue : PS X (.Continue pos) tCont := fun _ _ σ H _ I h => wpAny_Continue ⟨σ, H, I, h⟩
/-- in a def's body nothing is shown -/
theorem Inv.quiet {pins : List (Addr × Obj)} {σ : St} {H : Hp} {s : Shared} (I : Inv X pins σ H s) : interactive X.env = false := by simp [interactive, I.ok.kind]
/-- a docstring -/
theorem ps_doc {x j pos pos'} : PS X (.Expr (.Constant (.str x) j pos) pos') tNext := fun _ s σ H _ I h => wpAny_Expr (Calls.Constant_str (show SP X _ _ .next { s with toks := s.toks + 1 } from ⟨σ, H, I.tok _, h⟩)) I.quiet
/-- an expression whose value is dropped -/
def tDrop (te : TE) : TS := fun D σ H => te σ H fun _ H1 => D.nx σ H1
theorem ps_expr (he : PE X e te) (hs : swapsWith e none pos.line X.env = pure false := by rfl) : PS X (.Expr e pos) (tDrop te) := by
  intro pins s σ H D I h
  exact wpAny_Expr_any (thn (he pins s σ H _ I h) fun v s1 ⟨x, H1, I1, r1, q1⟩ => ⟨σ, H1, I1, q1⟩) I.quiet hs
def tRet (te : TE) : TS := fun D σ H => te σ H D.rt
theorem ps_ret (he : PE X e te) : PS X (.Return (some e) pos) (tRet te) := by
  intro pins s σ H D I h
  exact wpAny_Return_some (thn (he pins s σ H _ I h) fun v s1 ⟨x, H1, I1, r1, q1⟩ => ⟨x, σ, H1, I1, r1, q1⟩)
def tRetN : TS := fun D _ H => D.rt .non H
theorem ps_retN : PS X (.Return none pos) tRetN := fun _ _ σ H _ I h => wpAny_Return_none ⟨.non, σ, H, I, rfl, h⟩
def tIfS (c : TT) (t u : TS) : TS := fun D σ H => c σ H fun b H1 => if b = true then t D σ H1 else u D σ H1
theorem ps_if {c : Expr} {a b : List Stmt} {tc : TT} (hc : PT X c tc) (ha : PSs X a t) (hb : PSs X b u) : PS X (.If c a b pos) (tIfS tc t u) := by
  intro pins s σ H D I h
  refine wpAny_If (thn (hc pins s σ H _ I h) fun d s1 ⟨H1, I1, q1⟩ => ?_)
  cases d with
  | true => exact ha pins s1 σ H1 D I1 q1
  | false => exact hb pins s1 σ H1 D I1 q1
/-- code that the proof never comes to -/
def tNever : TS := fun _ _ _ => False
theorem ps_never : PS X st tNever := fun _ _ _ _ _ _ h => h.elim
theorem pss_never {sts : List Stmt} : PSs X sts tNever := fun _ _ _ _ _ _ h => h.elim
end

/-! ### targets -/
abbrev TG := V → St → Hp → (St → Hp → Prop) → Prop
abbrev TGs := List V → St → Hp → (St → Hp → Prop) → Prop
def PG (X : Cx) (target : Expr) (t : TG) : Prop :=
  ∀ (pins : List (Addr × Obj)) (s : Shared) (σ : St) (H : Hp) (v : V) (u : Value) (Q : St → Hp → Prop), Inv X pins σ H s → RelV v u → t v σ H Q →
    wpAny (model X.prog X.w) X.A (assign target X.env u) (fun _ s' => ∃ σ' H', Inv X pins σ' H' s' ∧ Q σ' H') X.xe s
/-- several targets, one after another -/
def PGs (X : Cx) (ts : List Expr) (t : TGs) : Prop :=
  ∀ (pins : List (Addr × Obj)) (s : Shared) (σ : St) (H : Hp) (vs : List V) (us : List Value) (Q : St → Hp → Prop), Inv X pins σ H s → Vals vs us → t vs σ H Q →
    wpAny (model X.prog X.w) X.A (assignInOrder ((assignEach ts X.env).map (·.2)) us) (fun _ s' => ∃ σ' H', Inv X pins σ' H' s' ∧ Q σ' H') X.xe s
/-- o[i] = v, by values -/
abbrev TSet := V → V → V → Hp → (Hp → Prop) → Prop
def PSet (X : Cx) (t : TSet) : Prop :=
  ∀ (pins : List (Addr × Obj)) (s : Shared) (σ : St) (H : Hp) (o i v : V) (ov iv u : Value) (Q : Hp → Prop), Inv X pins σ H s → RelV o ov → RelV i iv → RelV v u → t o i v H Q →
    wpAny (model X.prog X.w) X.A (setItem ov iv u) (fun _ s' => ∃ H', Inv X pins σ H' s' ∧ Q H') X.xe s
/-- a op= b, by values -/
abbrev TIp := V → V → Hp → VK → Prop
def PIp (X : Cx) (op : Operator) (t : TIp) : Prop :=
  ∀ (pins : List (Addr × Obj)) (s : Shared) (σ : St) (H : Hp) (x y : V) (v u : Value) (Q : VK), Inv X pins σ H s → RelV x v → RelV y u → t x y H Q →
    wpAny (model X.prog X.w) X.A (inplaceOp op v u) (EP X pins σ Q) X.xe s
section
variable {X : Cx} {pos : Pos}
def gName (i : Nat) : TG := fun v σ H Q => Q (σ.set i (some v)) H
theorem pg_name {i : Nat} {x : Str} (hN : X.N.Nodup) (hi : X.N[i]? = some x) (hx : Loc X.env.scope x) (hf : X.fn x = true ∨ X.env.scope.names.lookup x = some .local := by first | exact .inl rfl | exact .inr rfl | assumption) : PG X (.Name x pos) (gName i) := by
  intro pins s σ H v u Q I r h
  exact wpAny_assign_Name (store_ok I hN hi hx r (fun s' I' => ⟨_, H, I', h⟩) hf)
def gNil : TGs := fun vs σ H Q => vs = [] ∧ Q σ H
def gCons (t : TG) (u : TGs) : TGs := fun vs σ H Q => ∃ v r, vs = v :: r ∧ t v σ H fun σ' H' => u r σ' H' Q
theorem pgs_nil : PGs X [] gNil := by
  intro pins s σ H vs us Q I r h
  obtain ⟨e, h⟩ := h
  subst e
  cases r
  exact assignInOrder_nil ⟨σ, H, I, h⟩
theorem pgs_cons {e : Expr} {es : List Expr} {t : TG} {u : TGs} (h1 : PG X e t) (h2 : PGs X es u)
    (hs : (assignEach (e :: es) X.env).map (·.2) = assign e X.env :: (assignEach es X.env).map (·.2) := by rfl) : PGs X (e :: es) (gCons t u) := by
  intro pins s σ H vs us Q I r h
  obtain ⟨v, vr, e1, h⟩ := h
  subst e1
  cases r with
  | cons r rr =>
    rw [hs]
    refine assignInOrder_cons (thn (h1 pins s σ H _ _ _ I r h) fun _ s1 ⟨σ1, H1, I1, q1⟩ => ?_)
    exact h2 pins s1 σ1 H1 _ _ Q I1 rr q1
/-- (a, b, ..) = a tuple of that length -/
def gTup (K : PySem.W.Frag) (n : Nat) (t : TGs) : TG := fun v σ H Q => ∃ a xs, v = .ref a ∧ SqT K H a xs ∧ xs.length = n ∧ t xs σ H Q
theorem pg_tup {es : List Expr} {k : Nat} {t : TGs} {n : Nat} (hc : X.calm = true) (h : PGs X es t)
    (hn : (assignEach es X.env).length = n := by rfl) (hst : (assignEach es X.env).findIdx? (·.1) = none := by rfl) : PG X (.Tuple es k pos) (gTup X.K n t) := by
  intro pins s σ H v u Q I r hw
  obtain ⟨a, xs, e1, hq, hl, hw⟩ := hw
  subst e1
  cases r
  obtain ⟨its, rv, ht, hz⟩ := I.tuple hq
  refine assign_Tuple_tuple (I.ok.hd hc) ht (by simp [hn, ← hl, rv.length]) hst fun h' hx => ?_
  have I1 : Inv X pins σ H { s with heap := h' } := I.kept (t' := s.toks) fun b o e => hx b o (Nat.ne_of_lt (Heap.lt_size e)) e
  exact h pins _ σ H xs _ Q I1 (by simpa using rv) hw
/-- o[i] = .. -/
def gSub (to ti : TE) (t : TSet) : TG := fun v σ H Q => to σ H fun o H1 => ti σ H1 fun i H2 => t o i v H2 fun H3 => Q σ H3
theorem pg_sub {o i : Expr} {to ti : TE} {t : TSet} (ho : PE X o to) (hi : PE X i ti) (hs : PSet X t)
    (ha : ∀ v, assign (.Subscript o i pos) X.env v = (do
      let ov ← holding [v] (eval o X.env)
      let iv ← holding [v, ov] (eval i X.env)
      standAt pos
      holding [v, ov, iv] (setItem ov iv v)
      release [v, ov, iv] []) := by intro _; rfl) : PG X (.Subscript o i pos) (gSub to ti t) := by
  intro pins s σ H v u Q I r h
  rw [ha]
  refine wpAny_bind (wpAny_holding (thn (ho pins s σ H _ I h) fun ov s1 ⟨x, H1, I1, r1, q1⟩ => ?_))
  refine wpAny_bind (wpAny_holding (thn (hi pins s1 σ H1 _ I1 q1) fun iv s2 ⟨y, H2, I2, r2, q2⟩ => ?_))
  refine wpAny_bind (wpAny_standAt (wpAny_bind (wpAny_holding (thn (hs pins s2 σ H2 x y v ov iv u _ I2 r1 r2 r q2) fun _ s3 ⟨H3, I3, q3⟩ => ?_))))
  exact wpAny_release ⟨σ, H3, I3, q3⟩
/-- target = value -/
def tAsg (te : TE) (g : TG) : TS := fun D σ H => te σ H fun x H1 => g x σ H1 D.nx
theorem ps_asg {tg e : Expr} {te : TE} {g : TG} (he : PE X e te) (hg : PG X tg g) (hs : swapsWithSole [tg] e pos.line X.env = pure false := by rfl) (hw : swappedStores [tg] e X.env = pure none := by rfl)
    (h1 : (assignEach [tg] X.env).map (·.2) = [assign tg X.env] := by rfl) : PS X (.Assign [tg] e pos) (tAsg te g) := by
  intro pins s σ H D I h
  refine wpAny_Assign_stores (thn (he pins s σ H _ I h) fun v s1 ⟨x, H1, I1, r1, q1⟩ => ?_) hs hw
  rw [h1]
  exact thn (hg pins s1 σ H1 x v _ I1 r1 q1) fun _ s2 q => q
/-- name = value -/
theorem ps_set {i : Nat} {x : Str} {e : Expr} {te : TE} {pos' : Pos} (hN : X.N.Nodup) (hi : X.N[i]? = some x) (hx : Loc X.env.scope x) (he : PE X e te) (hs : swapsWith e (some (.Name x pos')) pos.line X.env = pure false := by rfl) (hf : X.fn x = true ∨ X.env.scope.names.lookup x = some .local := by first | exact .inl rfl | exact .inr rfl | assumption) :
    PS X (.Assign [.Name x pos'] e pos) (tAsg te (gName i)) := by
  intro pins s σ H D I h
  refine wpAny_Assign_Name (thn (he pins s σ H _ I h) fun v s1 ⟨y, H1, I1, r1, q1⟩ => ?_) hs
  exact store_ok I1 hN hi hx r1 (fun s2 I2 => ⟨_, H1, I2, q1⟩) hf
/-- a, b = x, y with plain local names: stored from the right; the pair itself is not tracked (the opening rows as in PyProof/Rows/TupAssign.lean:23) -/
def tPar (i j : Nat) (ta : TA) : TS := fun D σ H => ta σ H fun vs H1 => ∃ v w, vs = [v, w] ∧ D.nx ((σ.set i (some v)).set j (some w)) H1
theorem ps_par {i j : Nat} {x y : Str} {a b : Expr} {ta : TA} {px py pt : Pos} {kt k2 pt2} (hc : X.calm = true) (hN : X.N.Nodup) (hi : X.N[i]? = some x) (hj : X.N[j]? = some y) (hij : i ≠ j)
    (hx : X.env.scope.names.lookup x = some .local) (hy : X.env.scope.names.lookup y = some .local) (ha : PA X [a, b] ta)
    (hw : swappedStores [.Tuple [.Name x px, .Name y py] kt pt] (.Tuple [a, b] k2 pt2) X.env = pure (some [x, y]))
    (hs : swapsWithSole [.Tuple [.Name x px, .Name y py] kt pt] (.Tuple [a, b] k2 pt2) pos.line X.env = pure false := by rfl) :
    PS X (.Assign [.Tuple [.Name x px, .Name y py] kt pt] (.Tuple [a, b] k2 pt2) pos) (tPar i j ta) := by
  intro pins s σ H D I h
  rw [exec_Assign_arm]
  refine wpAny_bind (wpAny_standAt ?_)
  rw [hs]
  refine wpAny_bind (wpAny_pure ?_)
  rw [if_neg (by decide)]
  refine wpAny_bind (Tuple_ (thn (ha _ pins s σ H _ I h) fun us s1 ⟨vs, H1, I1, r1, q1⟩ => ?_))
  obtain ⟨v, w, e1, q1⟩ := q1
  subst e1
  obtain ⟨u1, u2, rfl, rv, rw'⟩ : ∃ u1 u2, us = [u1, u2] ∧ RelV v u1 ∧ RelV w u2 := by
    cases r1 with
    | cons p q =>
      cases q with
      | cons p' q' =>
        cases q'
        exact ⟨_, _, rfl, p, p'⟩
  refine wpAny_newObj_type ?_ (by show 2 ≤ sizeLine; decide)
  have I2 : Inv X pins σ H1 { s1 with heap := s1.heap.push { cls := .type "tuple", data := .seq [u1, u2].toArray } } := I1.kept (t' := s1.toks) fun b o e => Heap.get?_push_of_some _ e
  rw [hw]
  refine wpAny_bind (wpAny_pure ?_)
  show wpAny (model X.prog X.w) X.A (do rule "assign.swapped-stores"; let items ← unpackItems (.ref s1.heap.objs.size) 2 none; assignInOrder [fun v => bindName X.env y v, fun v => bindName X.env x v] items.reverse; pure Flow.next) _ _ _
  refine wpAny_bind (wpAny_rule (wpAny_bind (unpackItems_tuple (items := #[u1, u2]) (I.ok.hd hc) (IsTup.new s1.heap _) fun h' hx' => ?_)))
  have I3 := I2.kept (h' := h') (t' := s1.toks) fun b o e => hx' b o (Nat.ne_of_lt (Heap.lt_size e)) e
  show wpAny _ _ (assignInOrder [fun v => bindName X.env y v, fun v => bindName X.env x v] [u2, u1] >>= fun _ => pure Flow.next) _ _ _
  refine wpAny_bind (assignInOrder_cons (wpAny_bindName (store_ok I3 hN hj (.inl hy) rw' (fun s2 I4 => ?_) (.inr hy))))
  refine assignInOrder_cons (wpAny_bindName (store_ok I4 hN hi (.inl hx) rv (fun s3 I5 => assignInOrder_nil (wpAny_pure ?_)) (.inr hx)))
  rw [List.set_comm _ _ (Ne.symm hij)] at I5
  exact ⟨_, H1, I5, q1⟩
/-- name op= e -/
def tAug (i : Nat) (te : TE) (ti : TIp) : TS := fun D σ H => ∃ x, σ[i]? = some (some x) ∧ te σ H fun y H1 => ti x y H1 fun z H2 => D.nx (σ.set i (some z)) H2
theorem ps_aug {i : Nat} {x : Str} {e : Expr} {te : TE} {op : Operator} {ti : TIp} {pos' : Pos} (hN : X.N.Nodup) (hi : X.N[i]? = some x) (hx : Loc X.env.scope x) (he : PE X e te) (ho : PIp X op ti) (hf : X.fn x = true ∨ X.env.scope.names.lookup x = some .local := by first | exact .inl rfl | exact .inr rfl | assumption) :
    PS X (.AugAssign (.Name x pos') op e pos) (tAug i te ti) := by
  intro pins s σ H D I h
  obtain ⟨v, e1, h⟩ := h
  obtain ⟨m, hn, hl⟩ := I.loc
  have vis : Vis X.env.scope x := by rcases hx with k | k; exact .inl k; exact .inr (.inl k)
  obtain ⟨u, r, l⟩ := hl i x v hi e1 vis
  refine wpAny_AugAssign_Name ?_
  have go : wpAny (model X.prog X.w) X.A (eval e X.env) (fun w s₂ => wpAny (model X.prog X.w) X.A (inplaceOp op u w) (fun r s₃ => wpAny (model X.prog X.w) X.A (storeName X.env x r) (fun _ => SP X pins D .next) X.xe s₃) X.xe s₂) X.xe s := by
    refine thn (he pins s σ H _ I h) fun w s1 ⟨y, H1, I1, r1, q1⟩ => ?_
    refine thn (ho pins s1 σ H1 v y u w _ I1 r r1 q1) fun z s2 ⟨zv, H2, I2, r2, q2⟩ => ?_
    exact store_ok I2 hN hi hx r2 (fun s3 I3 => ⟨_, H2, I3, q2⟩) hf
  rcases l with ⟨hk, hm⟩ | ⟨hk, c, hc, hcell⟩
  · exact wpAny_loadName_local I.ok.kind hk hn hm go
  · rcases hk with hk | hk
    · exact wpAny_loadName_cell I.ok.kind hk hc hcell go
    · rcases hx with k | k
      · have : X.env.scope.names.lookup x = some .free := hk
        rw [k] at this; cases this
      · have : X.env.scope.names.lookup x = some .free := hk
        rw [k] at this; cases this
/-- o[i] op= e -/
def tAugS (to ti te : TE) (tget : V → V → Hp → VK → Prop) (tip : TIp) (tset : TSet) : TS := fun D σ H => to σ H fun o H1 => ti σ H1 fun i H2 => tget o i H2 fun x H3 => te σ H3 fun y H4 => tip x y H4 fun z H5 => tset o i z H5 fun H6 => D.nx σ H6
/-- o[i], by values -/
def PGet (X : Cx) (t : V → V → Hp → VK → Prop) : Prop :=
  ∀ (pins : List (Addr × Obj)) (s : Shared) (σ : St) (H : Hp) (o i : V) (ov iv : Value) (Q : VK), Inv X pins σ H s → RelV o ov → RelV i iv → t o i H Q →
    wpAny (model X.prog X.w) X.A (getItem ov iv) (EP X pins σ Q) X.xe s
theorem ps_augS {o i e : Expr} {to ti te : TE} {tget : V → V → Hp → VK → Prop} {tip : TIp} {tset : TSet} {op : Operator} {tpos : Pos} (ho : PE X o to) (hi : PE X i ti) (hg : PGet X tget) (he : PE X e te) (hp : PIp X op tip) (hs : PSet X tset)
    (ha : ∀ ov iv new, augStore i ov iv new = (do holding [new, ov, iv] (setItem ov iv new); release [new, ov, iv] []; pure .next) := by intros; rfl) : PS X (.AugAssign (.Subscript o i tpos) op e pos) (tAugS to ti te tget tip tset) := by
  intro pins s σ H D I h
  refine wpAny_AugAssign_SubscriptAny (thn (ho pins s σ H _ I h) fun ov s1 ⟨x1, H1, I1, r1, q1⟩ => ?_) ha
  refine thn (hi pins s1 σ H1 _ I1 q1) fun iv s2 ⟨x2, H2, I2, r2, q2⟩ => ?_
  refine thn (hg pins s2 σ H2 x1 x2 ov iv _ I2 r1 r2 q2) fun old s3 ⟨x3, H3, I3, r3, q3⟩ => ?_
  refine thn (he pins s3 σ H3 _ I3 q3) fun v s4 ⟨x4, H4, I4, r4, q4⟩ => ?_
  refine thn (hp pins s4 σ H4 x3 x4 old v _ I4 r3 r4 q4) fun new s5 ⟨x5, H5, I5, r5, q5⟩ => ?_
  exact thn (hs pins s5 σ H5 x1 x2 x5 ov iv new _ I5 r1 r2 r5 q5) fun _ s6 ⟨H6, I6, q6⟩ => ⟨σ, H6, I6, q6⟩
/-- ints -/
def ipI (f : Int → Int → Int) : TIp := fun x y H Q => ∃ i j, x = .int i ∧ y = .int j ∧ Q (.int (f i j)) H
theorem ip_add : PIp X .Add (ipI fun i j => i + j) := by
  intro pins s σ H x y v u Q I r1 r2 h
  obtain ⟨i, j, e1, e2, q⟩ := h
  subst e1; subst e2
  obtain ⟨t, rfl⟩ := r1
  obtain ⟨t', rfl⟩ := r2
  exact iadd_int ⟨.int _, H, I.tok _, ⟨_, rfl⟩, q⟩
theorem ip_sub : PIp X .Sub (ipI fun i j => i - j) := by
  intro pins s σ H x y v u Q I r1 r2 h
  obtain ⟨i, j, e1, e2, q⟩ := h
  subst e1; subst e2
  obtain ⟨t, rfl⟩ := r1
  obtain ⟨t', rfl⟩ := r2
  exact isub_int ⟨.int _, H, I.tok _, ⟨_, rfl⟩, q⟩
end

/-! ### while -/
section
variable {X : Cx} {pos : Pos}
/-- the invariant W with its measure -/
def tWhile (c : TT) (tb : TS) : TS := fun D σ H => ∃ W : Nat → St → Hp → Prop, (∃ m, W m σ H) ∧ ∀ m σ H, W m σ H →
  c σ H fun b H1 => if b = true then ∃ N : St → Hp → Prop, (∀ σ' H', N σ' H' → ∃ m', m' < m ∧ W m' σ' H') ∧ tb { D with nx := N, ct := N, bk := D.nx } σ H1 else D.nx σ H1
theorem ps_while {c : Expr} {body : List Stmt} {tc : TT} {tb : TS} (hp : PassesOwn (model X.prog X.w) X.A X.env X.xe) (hc : PT X c tc) (hb : PSs X body tb) : PS X (.While c body [] pos) (tWhile tc tb) := by
  intro pins s σ H D I h
  obtain ⟨W, ⟨m0, w0⟩, turn⟩ := h
  refine wpAny_While (codeAny_whileLoop (fun n s' => ∃ σ' H', Inv X pins σ' H' s' ∧ W n σ' H') ?_ m0 ⟨σ, H, I, w0⟩)
  rintro n s1 ⟨σ1, H1, I1, w1⟩
  refine wpAny_passesOwn hp (thn (hc pins s1 σ1 H1 _ I1 (turn n σ1 H1 w1)) fun b s2 ⟨H2, I2, q2⟩ => ?_)
  cases b with
  | true =>
    obtain ⟨N, hN, q2⟩ := q2
    rw [if_pos rfl]
    refine wpAny_passesOwn hp (thn (hb pins s2 σ1 H2 _ I2 q2) fun f s3 q3 => ?_)
    cases f with
    | next =>
      obtain ⟨σ3, H3, I3, n3⟩ := q3
      obtain ⟨m', hm, w3⟩ := hN σ3 H3 n3
      exact ⟨m', hm, σ3, H3, I3, w3⟩
    | cont =>
      obtain ⟨σ3, H3, I3, n3⟩ := q3
      obtain ⟨m', hm, w3⟩ := hN σ3 H3 n3
      exact ⟨m', hm, σ3, H3, I3, w3⟩
    | brk => exact q3
    | ret v => exact q3
  | false =>
    rw [if_neg Bool.false_ne_true]
    exact wpAny_execs_nil ⟨σ1, H2, I2, q2⟩
end

/-! ### what a loop or a comprehension walks -/
/-- at turn i: it yields x (the heap may grow), or it stops -/
structure It where
  go : Nat → Hp → Prop
  yld : Nat → Hp → V → Hp → Prop
  stop : Nat → Hp → Prop
/-- the iterator's own objects may turn: they are not the frame's, not pinned, younger than the entry (or a comprehension's own) -/
def FpOk (X : Cx) (pins : List (Addr × Obj)) (H : Hp) (b : Addr) : Prop :=
  H b = none ∧ b ≠ X.env.locals ∧ b ∉ X.fs ∧ (b ∈ X.ex ∨ X.s₀.heap.objs.size ≤ b) ∧ (∀ x c, X.env.cells.lookup x = some c → c ≠ b) ∧ ∀ p ∈ X.pn ++ pins, p.1 ≠ b
theorem Inv.fpOk {X : Cx} {pins : List (Addr × Obj)} {σ : St} {H H' : Hp} {s : Shared} {b : Addr} (I : Inv X pins σ H s) (hb : s.heap.objs.size ≤ b) (hn : H' b = none) : FpOk X pins H' b := by
  refine ⟨hn, Nat.ne_of_gt (Nat.lt_of_lt_of_le I.lt hb), I.nofs hb, .inr (Nat.le_trans I.sz hb), fun x c e z => ?_, fun p hp z => ?_⟩
  · obtain ⟨v, q⟩ := I.cell x c e
    exact absurd (Nat.lt_of_lt_of_le q.lt (by rw [z]; exact hb)) (Nat.lt_irrefl _)
  · exact absurd (Nat.lt_of_lt_of_le (Heap.lt_size (I.pin p hp).1) (by rw [z]; exact hb)) (Nat.lt_irrefl _)
structure Turn (P : Program) (w : World) (K : PySem.W.Frag) (tg : Expr) (J : It) (fp : List Addr) (it : Addr) (tn : Nat → Heap → Prop) : Prop where
  mem : it ∈ fp
  obj : ∀ i h, tn i h → ∀ b ∈ fp, ∃ o, h.get? b = some o ∧ ∀ v, o.data ≠ .cell v
  keep : ∀ i h h', tn i h → (∀ b ∈ fp, ∀ o, h.get? b = some o → h'.get? b = some o) → tn i h'
  item : ∀ (X : Cx), X.prog = P → X.w = w → X.K = K → X.calm = true → ∀ (i : Nat) (pins : List (Addr × Obj)) (s : Shared) (σ : St) (H : Hp) (E : Value → Shared → Prop), Inv X pins σ H s → (∀ b ∈ fp, FpOk X pins H b) → tn i s.heap → J.go i H →
    wpAny (model P w) X.A (pyNext (.ref it)) (fun r s1 => ∃ u, r = some u ∧
      wpAny (model P w) X.A (letOwnedTupleGo tg (.ref it) u) (fun _ s2 => ∃ x H', Inv X pins σ H' s2 ∧ RelV x u ∧ J.yld i H x H' ∧ tn (i + 1) s2.heap ∧ ∀ b ∈ fp, H' b = none) E s1) E s
  done : ∀ (X : Cx), X.prog = P → X.w = w → X.K = K → X.calm = true → ∀ (i : Nat) (pins : List (Addr × Obj)) (s : Shared) (σ : St) (H : Hp) (E : Value → Shared → Prop), Inv X pins σ H s → (∀ b ∈ fp, FpOk X pins H b) → tn i s.heap → J.stop i H →
    wpAny (model P w) X.A (pyNext (.ref it)) (fun r s1 => r = none ∧ Inv X pins σ H s1) E s
  self : ∀ (A : Around) (i : Nat) (s : Shared) (Q : Value → Shared → Prop) (E : Value → Shared → Prop), tn i s.heap → Q (.ref it) s → wpAny (model P w) A (pyIter (.ref it)) Q E s
abbrev TI := St → Hp → (It → Hp → Prop) → Prop
/-- an iterator has come -/
def PIE (X : Cx) (pins : List (Addr × Obj)) (σ : St) (tg : Expr) (R : It → Hp → Prop) (itv : Value) (s2 : Shared) : Prop :=
  ∃ (it : Addr) (fp : List Addr) (tn : Nat → Heap → Prop) (J : It) (H' : Hp), itv = .ref it ∧ Inv X pins σ H' s2 ∧ Turn X.prog X.w X.K tg J fp it tn ∧ tn 0 s2.heap ∧ (∀ b ∈ fp, FpOk X pins H' b) ∧ R J H'
def PI (X : Cx) (tg iter : Expr) (wi : TI) : Prop :=
  ∀ (pins : List (Addr × Obj)) (s : Shared) (σ : St) (H : Hp) (R : It → Hp → Prop), Inv X pins σ H s → wi σ H R →
    wpAny (model X.prog X.w) X.A (eval iter X.env) (fun v s1 => wpAny (model X.prog X.w) X.A (pyIter v) (PIE X pins σ tg R) X.xe s1) X.xe s

/-- the step ahead of the store is nothing for an iterator that keeps no tuple -/
theorem go_of {M : Model} {A : Around} {E : Value → Shared → Prop} {s : Shared} {tg : Expr} {it : Addr} {u : Value} {o : Obj} {n : String} {vs : Array Value} {Q : Unit → Shared → Prop} (ho : s.heap.get? it = some o) (hc : o.cls = .type n) (hd : o.data = .fields vs)
    (hn : ["enumerate", "zip", "dict_itemiterator", "dict_reverseitemiterator", "odict_iterator", "itertools.zip_longest", "itertools.pairwise"].contains n = false) (hQ : Q () s) : wpAny M A (letOwnedTupleGo tg (.ref it) u) Q E s := by
  unfold letOwnedTupleGo
  cases tg <;> first
    | exact wpAny_pure hQ
    | (cases u <;> first
        | exact wpAny_pure hQ
        | (refine wpAny_bind (wpAny_load ho ?_)
           rw [hc, hd]
           show wpAny M A (if (["enumerate", "zip", "dict_itemiterator", "dict_reverseitemiterator", "odict_iterator", "itertools.zip_longest", "itertools.pairwise"].contains n && vs[0]? == some (rawInt _)) = true then _ else _) Q E s
           rw [if_neg (by intro h; rw [hn, Bool.false_and] at h; cases h)]
           exact wpAny_pure hQ))

/-- the list at a, as it stands at each turn (a loop may append to it) -/
def Itl (K : PySem.W.Frag) (a : Addr) : It :=
  ⟨fun i H => ∃ xs x, SqL K H a xs ∧ xs[i]? = some x, fun i H x H' => H' = H ∧ ∀ xs, SqL K H a xs → xs[i]? = some x, fun i H => ∃ xs, SqL K H a xs ∧ xs.length ≤ i⟩
def Itt (K : PySem.W.Frag) (a : Addr) : It :=
  ⟨fun i H => ∃ xs x, SqT K H a xs ∧ xs[i]? = some x, fun i H x H' => H' = H ∧ ∀ xs, SqT K H a xs → xs[i]? = some x, fun i H => ∃ xs, SqT K H a xs ∧ xs.length ≤ i⟩
/-- lo, lo + 1, .. (n of them) -/
def Itr (lo : Int) (n : Nat) : It := ⟨fun i _ => i < n, fun i H x H' => H' = H ∧ x = .int (lo + i), fun i _ => n ≤ i⟩
theorem turn_list {P : Program} {w : World} {K : PySem.W.Frag} {tg : Expr} (a it : Addr) : Turn P w K tg (Itl K a) [it] it (fun i h => h.IsListIter it a i) where
  mem := by simp
  obj := fun i h st b hb => by
    have e : b = it := by simpa using hb
    subst e
    obtain ⟨o, e, c, d⟩ := st
    exact ⟨o, e, fun v z => by rw [d] at z; cases z⟩
  keep := fun i h h' st k => st.at fun o e => k it (by simp) o e
  item := by
    intro X hP hw hK hc i pins s σ H E I hf st hg
    subst hP hw hK
    obtain ⟨xs, x, hq, hx⟩ := hg
    obtain ⟨its, rv, p, hz⟩ := I.list hq
    obtain ⟨u, hu, ru⟩ := rv.get hx
    obtain ⟨f0, f1, f2, f3, f4, f5⟩ := hf it (by simp)
    refine wpAny_pyNext_list_item st p.isList (x := u) (by simpa using hu) fun h' st' sb => ?_
    have I1 : Inv X pins σ H { s with heap := h' } := I.turned (t' := s.toks) (fun b o hb e => (sb.2 b hb).trans e) f0 f1 f3 f4 f5
    obtain ⟨o, e, c, d⟩ := id st'
    exact ⟨u, rfl, go_of (s := { s with heap := h' }) e c d (by decide) ⟨x, H, I1, ru, ⟨rfl, fun ys hy => by rw [I.list_inj hy hq]; exact hx⟩, st', fun b hb => (hf b hb).1⟩⟩
  done := by
    intro X hP hw hK hc i pins s σ H E I hf st hg
    subst hP hw hK
    obtain ⟨xs, hq, hx⟩ := hg
    obtain ⟨its, rv, p, hz⟩ := I.list hq
    obtain ⟨f0, f1, f2, f3, f4, f5⟩ := hf it (by simp)
    have hl := rv.length
    exact wpAny_pyNext_list_end (I.ok.hd hc) st p.isList (by simp; omega) fun h' eb => ⟨rfl, I.turned (t' := s.toks) (fun b o hb e => eb b o hb e) f0 f1 f3 f4 f5⟩
  self := fun _ _ _ _ _ st h => wpAny_pyIter_listiter st h
theorem turn_tuple {P : Program} {w : World} {K : PySem.W.Frag} {tg : Expr} (a it : Addr) : Turn P w K tg (Itt K a) [it] it (fun i h => h.IsTupleIter it a i) where
  mem := by simp
  obj := fun i h st b hb => by
    have e : b = it := by simpa using hb
    subst e
    obtain ⟨o, e, c, d⟩ := st
    exact ⟨o, e, fun v z => by rw [d] at z; cases z⟩
  keep := fun i h h' st k => st.at fun o e => k it (by simp) o e
  item := by
    intro X hP hw hK hc i pins s σ H E I hf st hg
    subst hP hw hK
    obtain ⟨xs, x, hq, hx⟩ := hg
    obtain ⟨its, rv, p, hz⟩ := I.tuple hq
    obtain ⟨u, hu, ru⟩ := rv.get hx
    obtain ⟨f0, f1, f2, f3, f4, f5⟩ := hf it (by simp)
    refine wpAny_pyNext_tuple_item st (show s.heap.IsTuple a its.toArray from p) (x := u) (by simpa using hu) fun h' st' sb => ?_
    have I1 : Inv X pins σ H { s with heap := h' } := I.turned (t' := s.toks) (fun b o hb e => (sb.2 b hb).trans e) f0 f1 f3 f4 f5
    obtain ⟨o, e, c, d⟩ := id st'
    exact ⟨u, rfl, go_of (s := { s with heap := h' }) e c d (by decide) ⟨x, H, I1, ru, ⟨rfl, fun ys hy => by rw [I.tuple_inj hy hq]; exact hx⟩, st', fun b hb => (hf b hb).1⟩⟩
  done := by
    intro X hP hw hK hc i pins s σ H E I hf st hg
    subst hP hw hK
    obtain ⟨xs, hq, hx⟩ := hg
    obtain ⟨its, rv, p, hz⟩ := I.tuple hq
    obtain ⟨f0, f1, f2, f3, f4, f5⟩ := hf it (by simp)
    have hl := rv.length
    exact wpAny_pyNext_tuple_end (I.ok.hd hc) st (show s.heap.IsTuple a its.toArray from p) (by simp; omega) fun h' eb => ⟨rfl, I.turned (t' := s.toks) (fun b o hb e => eb b o hb e) f0 f1 f3 f4 f5⟩
  self := fun _ _ _ _ _ st h => wpAny_pyIter_tupleiter st h
theorem turn_range {P : Program} {w : World} {K : PySem.W.Frag} {tg : Expr} (it : Addr) (lo : Int) (n : Nat) : Turn P w K tg (Itr lo n) [it] it (fun i h => IsRangeIter h it (lo + (i : Nat) * 1) ((n : Int) - (i : Nat)) 1) where
  mem := by simp
  obj := fun i h st b hb => by
    have e : b = it := by simpa using hb
    subst e
    exact ⟨_, st, fun v z => by
      have z' : Data.fields _ = Data.cell v := z
      cases z'⟩
  keep := fun i h h' st k => k it (by simp) _ st
  item := by
    intro X hP hw hK hc i pins s σ H E I hf st hg
    subst hP hw hK
    obtain ⟨f0, f1, f2, f3, f4, f5⟩ := hf it (by simp)
    have W := Walks.range (prog := X.prog) (w := X.w) (I.ok.hd hc) it lo 1 n
    refine W.item i s _ _ hg st fun v h' tk hv st' kk => ?_
    obtain ⟨t, rfl⟩ := hv
    have I1 : Inv X pins σ H { s with heap := h', toks := tk } := I.turned (fun b o hb e => kk b o (by simpa using hb) e) f0 f1 f3 f4 f5
    refine ⟨_, rfl, go_of (s := { s with heap := h', toks := tk }) (n := "range_iterator") st' rfl rfl (by decide) ⟨.int (lo + i), H, I1, ⟨t, ?_⟩, ⟨rfl, rfl⟩, st', fun b hb => (hf b hb).1⟩⟩
    rw [Int.mul_one]
  done := by
    intro X hP hw hK hc i pins s σ H E I hf st hg
    subst hP hw hK
    obtain ⟨f0, f1, f2, f3, f4, f5⟩ := hf it (by simp)
    exact wpAny_pyNext_range_end (I.ok.hd hc) st (by have : n ≤ i := hg; omega) fun h' eb => ⟨rfl, I.turned (t' := s.toks) (fun b o hb e => eb b o hb e) f0 f1 f3 f4 f5⟩
  self := fun _ _ _ _ _ st h => wpAny_pyIter_rangeiter st h
end L2

namespace L2
open PySem PySem.Spec PyProof.Rows
section
variable {X : Cx} {tg : Expr}
def iList (K : PySem.W.Frag) (tl : TE) : TI := fun σ H R => tl σ H fun x H1 => ∃ a, x = .ref a ∧ (∃ xs, SqL K H1 a xs) ∧ R (Itl K a) H1
def iTup (K : PySem.W.Frag) (tl : TE) : TI := fun σ H R => tl σ H fun x H1 => ∃ a, x = .ref a ∧ (∃ xs, SqT K H1 a xs) ∧ R (Itt K a) H1
theorem pi_list {l : Expr} {tl : TE} (hl : PE X l tl) : PI X tg l (iList X.K tl) := by
  intro pins s σ H R I h
  refine thn (hl pins s σ H _ I h) fun v s1 ⟨x, H1, I1, r1, q1⟩ => ?_
  obtain ⟨a, e, ⟨xs, hq⟩, q⟩ := q1
  subst e
  cases r1
  obtain ⟨its, rv, p, hz⟩ := I1.list hq
  refine wpAny_pyIter_list p.isList ?_
  refine ⟨s1.heap.objs.size, [s1.heap.objs.size], _, _, H1, rfl, I1.kept (t' := s1.toks) fun b o e => Heap.get?_push_of_some _ e, turn_list a _, ⟨_, Heap.get?_push_size _ rfl, rfl, rfl⟩, fun b hb => ?_, q⟩
  have e : b = s1.heap.objs.size := by simpa using hb
  subst e
  exact I1.fpOk (Nat.le_refl _) (I1.hok.fresh (Nat.le_refl _))
theorem pi_tup {l : Expr} {tl : TE} (hl : PE X l tl) : PI X tg l (iTup X.K tl) := by
  intro pins s σ H R I h
  refine thn (hl pins s σ H _ I h) fun v s1 ⟨x, H1, I1, r1, q1⟩ => ?_
  obtain ⟨a, e, ⟨xs, hq⟩, q⟩ := q1
  subst e
  cases r1
  obtain ⟨its, rv, p, hz⟩ := I1.tuple hq
  refine wpAny_pyIter_tuple (show s1.heap.IsTuple a its.toArray from p) ?_
  refine ⟨s1.heap.objs.size, [s1.heap.objs.size], _, _, H1, rfl, I1.kept (t' := s1.toks) fun b o e => Heap.get?_push_of_some _ e, turn_tuple a _, ⟨_, Heap.get?_push_size _ rfl, rfl, rfl⟩, fun b hb => ?_, q⟩
  have e : b = s1.heap.objs.size := by simpa using hb
  subst e
  exact I1.fpOk (Nat.le_refl _) (I1.hok.fresh (Nat.le_refl _))
/-- a range object just made, walked -/
theorem range_it {pins : List (Addr × Obj)} {σ : St} {H : Hp} {s : Shared} {R : It → Hp → Prop} {E : Value → Shared → Prop} {lo hi : Int} {t u v : Tok} {tk : Nat} (I : Inv X pins σ H s) (h1 : -(2 ^ 62) ≤ lo) (h2 : lo < 2 ^ 62) (h3 : -(2 ^ 62) ≤ hi) (h4 : hi < 2 ^ 62)
    (q : R (Itr lo (hi - lo).toNat) H) : wpAny (model X.prog X.w) X.A (pyIter (.ref s.heap.objs.size)) (PIE X pins σ tg R) E { s with heap := s.heap.push { cls := .type "range", data := .fields #[.int lo t, .int hi u, .int 1 v] }, toks := tk } := by
  refine wpAny_pyIter_range (IsRange.new ..) (small_one h1 h2 h3 h4) ?_
  have I1 : Inv X pins σ H { s with heap := s.heap.push { cls := .type "range", data := .fields #[.int lo t, .int hi u, .int 1 v] }, toks := tk } := I.kept fun b o e => Heap.get?_push_of_some _ e
  refine ⟨(s.heap.push { cls := .type "range", data := .fields #[.int lo t, .int hi u, .int 1 v] }).objs.size, [(s.heap.push { cls := .type "range", data := .fields #[.int lo t, .int hi u, .int 1 v] }).objs.size], _, _, H, rfl,
    I1.kept (t' := tk) fun b o e => Heap.get?_push_of_some _ e, turn_range _ lo (hi - lo).toNat, ?_, fun b hb => ?_, q⟩
  · have e1 : lo + ((0 : Nat) : Int) * 1 = lo := by simp
    have e2 : (((hi - lo).toNat : Nat) : Int) - ((0 : Nat) : Int) = Builtin.Range.rangeSize lo hi 1 := by rw [rangeSize_one]; split <;> omega
    show IsRangeIter _ _ (lo + ((0 : Nat) : Int) * 1) ((((hi - lo).toNat : Nat) : Int) - ((0 : Nat) : Int)) 1
    rw [e1, e2]
    exact Heap.get?_push_size _ rfl
  · have e : b = (s.heap.push { cls := .type "range", data := .fields #[.int lo t, .int hi u, .int 1 v] }).objs.size := by simpa using hb
    subst e
    exact I1.fpOk (Nat.le_refl _) (I1.hok.fresh (Nat.le_refl _))
def iRng1 (ta : TA) : TI := fun σ H R => ta σ H fun vs H1 => ∃ j : Int, vs = [.int j] ∧ -(2 ^ 62) ≤ j ∧ j < 2 ^ 62 ∧ R (Itr 0 j.toNat) H1
def iRng2 (ta : TA) : TI := fun σ H R => ta σ H fun vs H1 => ∃ i j : Int, vs = [.int i, .int j] ∧ (-(2 ^ 62) ≤ i ∧ i < 2 ^ 62 ∧ -(2 ^ 62) ≤ j ∧ j < 2 ^ 62) ∧ R (Itr i (j - i).toNat) H1
theorem pi_range1 {a : Expr} {ta : TA} {p pos : Pos} (hg : Gl X "range") (hm : X.mg "range" = none) (ha : PA X [a] ta) (hs : starEach [a] X.env = [(false, eval a X.env)] := by rfl) : PI X tg (.Call (.Name "range" p) [a] [] pos) (iRng1 ta) := by
  intro pins s σ H R I h
  refine Call_ (ld_blt I hg hm boot_range (PyProof.Rows.callWith_type1 (thn (ha pos pins s σ H _ I h) fun us s1 ⟨vs, H1, I1, r1, q1⟩ => ?_) hs rfl))
  obtain ⟨j, e, q1, q2, q⟩ := q1
  subst e
  cases r1 with
  | cons r rr =>
    cases rr
    obtain ⟨t, rfl⟩ := r
    exact call_range_1 (range_it I1 (by omega) (by omega) q1 q2 (by simpa using q))
theorem pi_range2 {a b : Expr} {ta : TA} {p pos : Pos} (hg : Gl X "range") (hm : X.mg "range" = none) (ha : PA X [a, b] ta) (hs : starEach [a, b] X.env = [(false, eval a X.env), (false, eval b X.env)] := by rfl) (hs2 : starEach [b] X.env = [(false, eval b X.env)] := by rfl) :
    PI X tg (.Call (.Name "range" p) [a, b] [] pos) (iRng2 ta) := by
  intro pins s σ H R I h
  refine Call_ (ld_blt I hg hm boot_range (PyProof.Rows.callWith_type1 (thn (ha pos pins s σ H _ I h) fun us s1 ⟨vs, H1, I1, r1, q1⟩ => ?_) (by rw [hs, hs2]) (by rw [hs2]; rfl)))
  obtain ⟨i, j, e, ⟨q1, q2, q3, q4⟩, q⟩ := q1
  subst e
  cases r1 with
  | cons r rr =>
    cases rr with
    | cons r' rr =>
      cases rr
      obtain ⟨t, rfl⟩ := r
      obtain ⟨t', rfl⟩ := r'
      exact call_range_2 (range_it I1 q1 q2 q3 q4 q)

/-! ### for -/
/-- W: the invariant by the turn and a measure; N: what the body is to reach -/
def tFor (wi : TI) (g : TG) (tb : TS) : TS := fun D σ H => wi σ H fun J H1 => ∃ W : Nat → Nat → St → Hp → Prop, (∃ m, W 0 m σ H1) ∧ ∀ i m σ H, W i m σ H →
  (J.stop i H ∧ D.nx σ H) ∨ (J.go i H ∧ ∃ N : St → Hp → Prop, (∀ σ' H', N σ' H' → ∃ m', m' < m ∧ W (i + 1) m' σ' H') ∧ ∀ x H', J.yld i H x H' → g x σ H' fun σ2 H2 => tb { D with nx := N, ct := N, bk := D.nx } σ2 H2)
/-- the records at fp as they stand -/
def pinsAt (fp : List Addr) (h : Heap) : List (Addr × Obj) := fp.filterMap fun b => (h.get? b).map fun o => (b, o)
theorem mem_pinsAt {fp : List Addr} {h : Heap} {b : Addr} {o : Obj} (hb : b ∈ fp) (e : h.get? b = some o) : (b, o) ∈ pinsAt fp h := List.mem_filterMap.mpr ⟨b, hb, by rw [e]; rfl⟩
theorem of_pinsAt {fp : List Addr} {h : Heap} {p : Addr × Obj} (hp : p ∈ pinsAt fp h) : p.1 ∈ fp ∧ h.get? p.1 = some p.2 := by
  obtain ⟨b, hb, e⟩ := List.mem_filterMap.mp hp
  cases q : h.get? b with
  | none => rw [q] at e; cases e
  | some o =>
    rw [q] at e
    have e' : (b, o) = p := Option.some.inj e
    subst e'
    exact ⟨hb, q⟩
theorem Inv.pinned {pins : List (Addr × Obj)} {σ : St} {H : Hp} {s : Shared} {fp : List Addr} (I : Inv X pins σ H s) (hf : ∀ b ∈ fp, FpOk X pins H b) (ho : ∀ b ∈ fp, ∃ o, s.heap.get? b = some o ∧ ∀ v, o.data ≠ .cell v) : Inv X (pins ++ pinsAt fp s.heap) σ H s :=
  I.pins_of fun p hp => (List.mem_append.mp hp).elim (fun z => I.pin p (List.mem_append_right _ z)) fun z => by
    obtain ⟨hb, e⟩ := of_pinsAt z
    obtain ⟨f0, f1, f2, _⟩ := hf p.1 hb
    obtain ⟨o, e', d⟩ := ho p.1 hb
    rw [e] at e'; cases e'
    exact ⟨e, f0, f1, f2, d⟩
theorem Inv.unpinned {pins pl : List (Addr × Obj)} {σ : St} {H : Hp} {s : Shared} (I : Inv X (pins ++ pl) σ H s) : Inv X pins σ H s := I.pins_of fun p hp => I.pin p (List.mem_append_right _ (List.mem_append_left _ hp))
theorem ps_for {iter : Expr} {body : List Stmt} {wi : TI} {g : TG} {tb : TS} {pos : Pos} (hp : PassesOwn (model X.prog X.w) X.A X.env X.xe) (hc : X.calm = true) (hi : PI X tg iter wi) (hg : PG X tg g) (hb : PSs X body tb)
    (hs : ∀ x, foldedSetIterable iter X.env x = pure x := by intro _; rfl) : PS X (.For tg iter body [] pos) (tFor wi g tb) := by
  intro pins s σ H D I h
  refine wpAny_For (thn (hi pins s σ H _ I h) fun v s1 h1 => thn h1 fun itv s2 h2 => ?_) hs
  obtain ⟨it, fp, tn, J, H2, e, I2, T, st2, f2, W, ⟨m0, w0⟩, turn⟩ := h2
  subst e
  -- what stays true of the iterator's objects through the loop
  have stat : ∀ {H' : Hp}, (∀ b ∈ fp, H' b = none) → ∀ b ∈ fp, FpOk X pins H' b := fun hn b hb => ⟨hn b hb, (f2 b hb).2⟩
  refine codeAny_forLoop_any (fun n s' => ∃ i σ' H', Inv X pins σ' H' s' ∧ tn i s'.heap ∧ (∀ b ∈ fp, H' b = none) ∧ W i n σ' H') ?_ m0 ⟨0, σ, H2, I2, st2, fun b hb => (f2 b hb).1, w0⟩
  rintro n s3 ⟨i, σ3, H3, I3, st3, fr3, w3⟩
  rcases turn i n σ3 H3 w3 with ⟨stop, qn⟩ | ⟨go, N, hN, step⟩
  · refine wpAny_passesOwn hp (thn (T.done X rfl rfl rfl hc i pins s3 σ3 H3 X.xe I3 (stat fr3) st3 stop) fun r s4 ⟨hr, I4⟩ => ?_)
    subst hr
    exact wpAny_execs_nil ⟨σ3, H3, I4, qn⟩
  · refine wpAny_passesOwn hp (thn (T.item X rfl rfl rfl hc i pins s3 σ3 H3 X.xe I3 (stat fr3) st3 go) fun r s4 ⟨u, hr, h4⟩ => ?_)
    subst hr
    refine wpAny_passesOwn hp (thn h4 fun _ s5 ⟨x, H5, I5, r5, y5, st5, fr5⟩ => ?_)
    have I5' := I5.pinned (stat fr5) (T.obj _ _ st5)
    refine wpAny_passesOwn hp (thn (hg _ s5 σ3 H5 x u _ I5' r5 (step x H5 y5)) fun _ s6 ⟨σ6, H6, I6, q6⟩ => ?_)
    refine wpAny_passesOwn hp (thn (hb _ s6 σ6 H6 _ I6 q6) fun f s7 q7 => ?_)
    have again : ∀ {σ7 : St} {H7 : Hp}, Inv X (pins ++ pinsAt fp s5.heap) σ7 H7 s7 → N σ7 H7 → ∃ m, m < n ∧ ∃ i σ' H', Inv X pins σ' H' s7 ∧ tn i s7.heap ∧ (∀ b ∈ fp, H' b = none) ∧ W i m σ' H' := fun {σ7 H7} I7 n7 => by
      obtain ⟨m', hm, w7⟩ := hN σ7 H7 n7
      refine ⟨m', hm, i + 1, σ7, H7, I7.unpinned, T.keep _ _ _ st5 fun b hb o e => (I7.pin (b, o) (List.mem_append_right _ (List.mem_append_right _ (mem_pinsAt hb e)))).1, fun b hb => ?_, w7⟩
      obtain ⟨o, e, d⟩ := T.obj _ _ st5 b hb
      exact (I7.pin (b, o) (List.mem_append_right _ (List.mem_append_right _ (mem_pinsAt hb e)))).2.1
    cases f with
    | next => obtain ⟨σ7, H7, I7, n7⟩ := q7; exact again I7 n7
    | cont => obtain ⟨σ7, H7, I7, n7⟩ := q7; exact again I7 n7
    | brk => obtain ⟨σ7, H7, I7, q7⟩ := q7; exact ⟨σ7, H7, I7.unpinned, q7⟩
    | ret v => obtain ⟨x7, σ7, H7, I7, r7, q7⟩ := q7; exact ⟨x7, σ7, H7, I7.unpinned, r7, q7⟩
end

/-! ### the forms one uses -/
/-- over a list that the body leaves as it is -/
theorem for_list {K : PySem.W.Frag} {a : Addr} {xs : List V} {g : TG} {tb : TS} {D : Ends} {σ : St} {H : Hp} (Pv : Nat → St → Hp → Prop) (h0 : Pv 0 σ H) (hl : ∀ i σ H, i ≤ xs.length → Pv i σ H → SqL K H a xs)
    (hs : ∀ i x σ H, xs[i]? = some x → Pv i σ H → g x σ H fun σ2 H2 => tb { D with nx := Pv (i + 1), ct := Pv (i + 1), bk := D.nx } σ2 H2) (hd : ∀ σ H, Pv xs.length σ H → D.nx σ H) :
    ∃ W : Nat → Nat → St → Hp → Prop, (∃ m, W 0 m σ H) ∧ ∀ i m σ H, W i m σ H →
      ((Itl K a).stop i H ∧ D.nx σ H) ∨ ((Itl K a).go i H ∧ ∃ N : St → Hp → Prop, (∀ σ' H', N σ' H' → ∃ m', m' < m ∧ W (i + 1) m' σ' H') ∧ ∀ x H', (Itl K a).yld i H x H' → g x σ H' fun σ2 H2 => tb { D with nx := N, ct := N, bk := D.nx } σ2 H2) := by
  refine ⟨fun i m σ H => m = xs.length - i ∧ i ≤ xs.length ∧ Pv i σ H, ⟨xs.length, by simp, Nat.zero_le _, h0⟩, ?_⟩
  rintro i m σ H ⟨rfl, hi, p⟩
  have q := hl i σ H hi p
  by_cases hlt : i < xs.length
  · refine .inr ⟨⟨xs, xs[i], q, by simp [hlt]⟩, Pv (i + 1), fun σ' H' p' => ⟨xs.length - (i + 1), by omega, rfl, hlt, p'⟩, fun x H' y => ?_⟩
    obtain ⟨e, y⟩ := y
    subst e
    exact hs i x σ _ (y xs q) p
  · have e : i = xs.length := by omega
    subst e
    exact .inl ⟨⟨xs, q, Nat.le_refl _⟩, hd σ H p⟩
theorem for_tup {K : PySem.W.Frag} {a : Addr} {xs : List V} {g : TG} {tb : TS} {D : Ends} {σ : St} {H : Hp} (Pv : Nat → St → Hp → Prop) (h0 : Pv 0 σ H) (hl : ∀ i σ H, i ≤ xs.length → Pv i σ H → SqT K H a xs)
    (hs : ∀ i x σ H, xs[i]? = some x → Pv i σ H → g x σ H fun σ2 H2 => tb { D with nx := Pv (i + 1), ct := Pv (i + 1), bk := D.nx } σ2 H2) (hd : ∀ σ H, Pv xs.length σ H → D.nx σ H) :
    ∃ W : Nat → Nat → St → Hp → Prop, (∃ m, W 0 m σ H) ∧ ∀ i m σ H, W i m σ H →
      ((Itt K a).stop i H ∧ D.nx σ H) ∨ ((Itt K a).go i H ∧ ∃ N : St → Hp → Prop, (∀ σ' H', N σ' H' → ∃ m', m' < m ∧ W (i + 1) m' σ' H') ∧ ∀ x H', (Itt K a).yld i H x H' → g x σ H' fun σ2 H2 => tb { D with nx := N, ct := N, bk := D.nx } σ2 H2) := by
  refine ⟨fun i m σ H => m = xs.length - i ∧ i ≤ xs.length ∧ Pv i σ H, ⟨xs.length, by simp, Nat.zero_le _, h0⟩, ?_⟩
  rintro i m σ H ⟨rfl, hi, p⟩
  have q := hl i σ H hi p
  by_cases hlt : i < xs.length
  · refine .inr ⟨⟨xs, xs[i], q, by simp [hlt]⟩, Pv (i + 1), fun σ' H' p' => ⟨xs.length - (i + 1), by omega, rfl, hlt, p'⟩, fun x H' y => ?_⟩
    obtain ⟨e, y⟩ := y
    subst e
    exact hs i x σ _ (y xs q) p
  · have e : i = xs.length := by omega
    subst e
    exact .inl ⟨⟨xs, q, Nat.le_refl _⟩, hd σ H p⟩
theorem for_range {lo : Int} {n : Nat} {g : TG} {tb : TS} {D : Ends} {σ : St} {H : Hp} (Pv : Nat → St → Hp → Prop) (h0 : Pv 0 σ H)
    (hs : ∀ i σ H, i < n → Pv i σ H → g (.int (lo + i)) σ H fun σ2 H2 => tb { D with nx := Pv (i + 1), ct := Pv (i + 1), bk := D.nx } σ2 H2) (hd : ∀ σ H, Pv n σ H → D.nx σ H) :
    ∃ W : Nat → Nat → St → Hp → Prop, (∃ m, W 0 m σ H) ∧ ∀ i m σ H, W i m σ H →
      ((Itr lo n).stop i H ∧ D.nx σ H) ∨ ((Itr lo n).go i H ∧ ∃ N : St → Hp → Prop, (∀ σ' H', N σ' H' → ∃ m', m' < m ∧ W (i + 1) m' σ' H') ∧ ∀ x H', (Itr lo n).yld i H x H' → g x σ H' fun σ2 H2 => tb { D with nx := N, ct := N, bk := D.nx } σ2 H2) := by
  refine ⟨fun i m σ H => m = n - i ∧ i ≤ n ∧ Pv i σ H, ⟨n, by simp, Nat.zero_le _, h0⟩, ?_⟩
  rintro i m σ H ⟨rfl, hi, p⟩
  by_cases hlt : i < n
  · refine .inr ⟨hlt, Pv (i + 1), fun σ' H' p' => ⟨n - (i + 1), by omega, rfl, hlt, p'⟩, fun x H' y => ?_⟩
    obtain ⟨e, y⟩ := y
    subst e y
    exact hs i σ _ hlt p
  · have e : i = n := by omega
    subst e
    exact .inl ⟨Nat.le_refl _, hd σ H p⟩
/-- while, by a word and a measure of the state -/
theorem while_by {c : TT} {tb : TS} {D : Ends} {σ : St} {H : Hp} (Pv : St → Hp → Prop) (μ : St → Hp → Nat) (h0 : Pv σ H)
    (hs : ∀ σ H, Pv σ H → c σ H fun b H1 => if b = true then tb { D with nx := fun σ' H' => Pv σ' H' ∧ μ σ' H' < μ σ H, ct := fun σ' H' => Pv σ' H' ∧ μ σ' H' < μ σ H, bk := D.nx } σ H1 else D.nx σ H1)
    (mono : ∀ σ H Q Q', (∀ b H1, Q b H1 → Q' b H1) → c σ H Q → c σ H Q') : tWhile c tb D σ H := by
  refine ⟨fun m σ H => m = μ σ H ∧ Pv σ H, ⟨_, rfl, h0⟩, ?_⟩
  rintro m σ H ⟨rfl, p⟩
  refine mono σ H _ _ (fun b H1 q => ?_) (hs σ H p)
  cases b with
  | true => exact ⟨_, fun σ' H' ⟨p', l⟩ => ⟨_, l, rfl, p'⟩, q⟩
  | false => exact q
end L2

namespace L2
open PySem PySem.Spec PyProof.Rows

abbrev R2 := V → V → Hp → VK → Prop
/-- a two-place operation on values: f is binaryOp op, inplaceOp op or compareOp op -/
def OpR (X : Cx) (f : Value → Value → Sem Value) (r : R2) : Prop :=
  ∀ (pins : List (Addr × Obj)) (s : Shared) (σ : St) (H : Hp) (x y : V) (v u : Value) (Q : VK), Inv X pins σ H s → RelV x v → RelV y u → r x y H Q →
    wpAny (model X.prog X.w) X.A (f v u) (EP X pins σ Q) X.xe s
/-- a one-place operation -/
def UnR (X : Cx) (f : Value → Sem Value) (r : V → Hp → VK → Prop) : Prop :=
  ∀ (pins : List (Addr × Obj)) (s : Shared) (σ : St) (H : Hp) (x : V) (v : Value) (Q : VK), Inv X pins σ H s → RelV x v → r x H Q →
    wpAny (model X.prog X.w) X.A (f v) (EP X pins σ Q) X.xe s
/-- a call of a value that is known (a builtin, a type) with values -/
def CallR (X : Cx) (f : Value) (r : List V → Hp → VK → Prop) : Prop :=
  ∀ (pins : List (Addr × Obj)) (s : Shared) (σ : St) (H : Hp) (xs : List V) (us : List Value) (Q : VK), Inv X pins σ H s → Vals xs us → r xs H Q →
    wpAny (model X.prog X.w) X.A (call f us) (EP X pins σ Q) X.xe s
/-- a value's truth -/
def TruR (X : Cx) (r : V → Hp → (Bool → Hp → Prop) → Prop) : Prop :=
  ∀ (pins : List (Addr × Obj)) (s : Shared) (σ : St) (H : Hp) (x : V) (v : Value) (Q : Bool → Hp → Prop), Inv X pins σ H s → RelV x v → r x H Q →
    wpAny (model X.prog X.w) X.A (truthy v) (TP X pins σ Q) X.xe s

def tOp (r : R2) (ta tb : TE) : TE := fun σ H Q => ta σ H fun x H1 => tb σ H1 fun y H2 => r x y H2 Q
def tUn (r : V → Hp → VK → Prop) (ta : TE) : TE := fun σ H Q => ta σ H fun x H1 => r x H1 Q
/-- ints in, under C, and a value out -/
def rI (C : Int → Int → Prop) (g : Int → Int → V) : R2 := fun x y H Q => ∃ i j, x = .int i ∧ y = .int j ∧ C i j ∧ Q (g i j) H
def rI0 (g : Int → Int → V) : R2 := fun x y H Q => ∃ i j, x = .int i ∧ y = .int j ∧ Q (g i j) H
def rU (g : Int → V) : V → Hp → VK → Prop := fun x H Q => ∃ i, x = .int i ∧ Q (g i) H

section
variable {X : Cx} {a b c : Expr} {ta tb tc : TE} {pos : Pos}

theorem binT (ha : PE X a ta) (hb : PE X b tb) {pins : List (Addr × Obj)} {s : Shared} {σ : St} {H : Hp} {R : V → V → Hp → Prop} (I : Inv X pins σ H s)
    (h : ta σ H fun x H1 => tb σ H1 fun y H2 => R x y H2) {Q : Value → Shared → Prop} {f : Value → Value → Sem Value}
    (hf : ∀ v u s2 x y H2, Inv X pins σ H2 s2 → RelV x v → RelV y u → R x y H2 → wpAny (model X.prog X.w) X.A (f v u) Q X.xe s2) :
    wpAny (model X.prog X.w) X.A (eval a X.env) (fun v s₁ => wpAny (model X.prog X.w) X.A (eval b X.env) (fun u s₂ => wpAny (model X.prog X.w) X.A (f v u) Q X.xe s₂) X.xe s₁) X.xe s := by
  refine thn (ha pins s σ H _ I h) fun v s1 ⟨x, H1, I1, r1, q1⟩ => ?_
  refine thn (hb pins s1 σ H1 _ I1 q1) fun u s2 ⟨y, H2, I2, r2, q2⟩ => ?_
  exact hf v u s2 x y H2 I2 r1 r2 q2

theorem pe_op {op : Operator} {r : R2} (ho : OpR X (binaryOp op) r) (ha : PE X a ta) (hb : PE X b tb) : PE X (.BinOp a op b pos) (tOp r ta tb) := by
  intro pins s σ H Q I h
  exact wpAny_BinOp (binT ha hb I h fun v u s2 x y H2 I2 rx ry q => ho pins s2 σ H2 x y v u Q I2 rx ry q)
theorem pe_un {op : UnaryOp} {r : V → Hp → VK → Prop} (ho : UnR X (unaryOp op) r) (ha : PE X a ta) : PE X (.UnaryOp op a pos) (tUn r ta) := by
  intro pins s σ H Q I h
  exact UnaryOp_ (thn (ha pins s σ H _ I h) fun v s1 ⟨x, H1, I1, r1, q1⟩ => ho pins s1 σ H1 x v Q I1 r1 q1)
/-- a op= e at a name: the name's slot i -/
theorem augR {op : Operator} {r : R2} (ho : OpR X (inplaceOp op) r) {pins : List (Addr × Obj)} {s : Shared} {σ : St} {H : Hp} {x y : V} {v u : Value} {Q : VK} (I : Inv X pins σ H s)
    (rx : RelV x v) (ry : RelV y u) (q : r x y H Q) : wpAny (model X.prog X.w) X.A (inplaceOp op v u) (EP X pins σ Q) X.xe s := ho pins s σ H x y v u Q I rx ry q

/-! ### ints -/
theorem opI {f : Value → Value → Sem Value} {C : Int → Int → Prop} {g : Int → Int → Int}
    (rule : ∀ (i j : Int) (t u : Tok) (s : Shared) (Q : Value → Shared → Prop) (E : Value → Shared → Prop), C i j → Q (.int (g i j) s.toks) { s with toks := s.toks + 1 } → wpAny (model X.prog X.w) X.A (f (.int i t) (.int j u)) Q E s) :
    OpR X f (rI C fun i j => .int (g i j)) := by
  intro pins s σ H x y v u Q I rx ry h
  obtain ⟨i, j, rfl, rfl, hc, q⟩ := h
  obtain ⟨t, rfl⟩ := rx
  obtain ⟨t', rfl⟩ := ry
  exact rule i j t t' s _ _ hc ⟨.int (g i j), H, I.tok _, ⟨_, rfl⟩, q⟩
theorem opI0 {f : Value → Value → Sem Value} {g : Int → Int → Int}
    (rule : ∀ (i j : Int) (t u : Tok) (s : Shared) (Q : Value → Shared → Prop) (E : Value → Shared → Prop), Q (.int (g i j) s.toks) { s with toks := s.toks + 1 } → wpAny (model X.prog X.w) X.A (f (.int i t) (.int j u)) Q E s) :
    OpR X f (rI0 fun i j => .int (g i j)) := by
  intro pins s σ H x y v u Q I rx ry h
  obtain ⟨i, j, rfl, rfl, q⟩ := h
  obtain ⟨t, rfl⟩ := rx
  obtain ⟨t', rfl⟩ := ry
  exact rule i j t t' s _ _ ⟨.int (g i j), H, I.tok _, ⟨_, rfl⟩, q⟩
theorem opB0 {f : Value → Value → Sem Value} {g : Int → Int → Bool}
    (rule : ∀ (i j : Int) (t u : Tok) (s : Shared) (Q : Value → Shared → Prop) (E : Value → Shared → Prop), Q (.bool (g i j)) s → wpAny (model X.prog X.w) X.A (f (.int i t) (.int j u)) Q E s) :
    OpR X f (rI0 fun i j => .bl (g i j)) := by
  intro pins s σ H x y v u Q I rx ry h
  obtain ⟨i, j, rfl, rfl, q⟩ := h
  obtain ⟨t, rfl⟩ := rx
  obtain ⟨t', rfl⟩ := ry
  exact rule i j t t' s _ _ ⟨.bl (g i j), H, I, rfl, q⟩

def CDiv (i j : Int) : Prop := 0 < j ∧ j < 1073741824
def CDivN (i j : Int) : Prop := j ≠ 0 ∧ j.natAbs < 1073741824
def CPow (i j : Int) : Prop := 0 ≤ j ∧ j ≤ 1000000 ∧ i.natAbs < 2 ^ 64
def CMul (i j : Int) : Prop := (-(2 ^ 64) < i ∧ i < 2 ^ 64) ∨ (-(2 ^ 64) < j ∧ j < 2 ^ 64)
theorem CMul.ok {i j : Int} (h : CMul i j) : IntMulOk i j := by
  rcases h with ⟨h1, h2⟩ | ⟨h1, h2⟩
  · exact .of_left (intBits_le_64 h1 h2)
  · exact .of_right (intBits_le_64 h1 h2)
theorem two_pow_nn (k : Nat) : (0 : Int) ≤ 2 ^ k := by
  rw [two_pow_cast]
  exact Int.natCast_nonneg _

theorem op_add : OpR X (binaryOp .Add) (rI0 fun i j => .int (i + j)) := opI0 fun _ _ _ _ _ _ _ q => add_int q
theorem op_sub : OpR X (binaryOp .Sub) (rI0 fun i j => .int (i - j)) := opI0 fun _ _ _ _ _ _ _ q => sub_int q
theorem op_mul : OpR X (binaryOp .Mult) (rI CMul fun i j => .int (i * j)) := opI fun _ _ _ _ _ _ _ hc q => mul_int q hc.ok
/-- // by a positive divisor -/
theorem op_fdiv : OpR X (binaryOp .FloorDiv) (rI CDiv fun i j => .int (i / j)) := opI fun i j _ _ _ _ _ hc q => by
  have h1 : (0 : Int) < j := hc.1
  have h2 : j < 1073741824 := hc.2
  exact floordiv_int (by omega) (by rw [Int.fdiv_eq_ediv_of_nonneg i (by omega)]; exact q) (.inl (PyProof.noPylong_small (by omega)))
theorem op_fdivN : OpR X (binaryOp .FloorDiv) (rI CDivN fun i j => .int (i.fdiv j)) := opI fun _ _ _ _ _ _ _ hc q => floordiv_int hc.1 q (.inl (PyProof.noPylong_small hc.2))
/-- % by a positive divisor of any size -/
theorem op_mod : OpR X (binaryOp .Mod) (rI (fun _ j => 0 < j) fun i j => .int (i % j)) := opI fun i j _ _ _ _ _ hc q => by
  have h1 : (0 : Int) < j := hc
  exact mod_int' (by omega) (by rw [Int.fmod_eq_emod_of_nonneg i (by omega)]; exact q)
theorem op_modN : OpR X (binaryOp .Mod) (rI (fun _ j => j ≠ 0) fun i j => .int (i.fmod j)) := opI fun _ _ _ _ _ _ _ hc q => mod_int' hc q
theorem op_pow : OpR X (binaryOp .Pow) (rI CPow fun i j => .int (i ^ j.toNat)) := opI fun _ _ _ _ _ _ _ hc q => pow_int_small hc.1 hc.2.1 hc.2.2 q
theorem op_shl : OpR X (binaryOp .LShift) (rI CPow fun i j => .int (i * 2 ^ j.toNat)) := opI fun _ _ _ _ _ _ _ hc q => lshift_int_small hc.1 hc.2.1 hc.2.2 q
theorem op_shr : OpR X (binaryOp .RShift) (rI (fun _ j => 0 ≤ j) fun i j => .int (i / 2 ^ j.toNat)) := opI fun i j _ _ _ _ _ hc q =>
  rshift_int hc (by rw [Int.fdiv_eq_ediv_of_nonneg i (two_pow_nn _)]; exact q)
theorem op_and : OpR X (binaryOp .BitAnd) (rI0 fun i j => .int (Builtin.bitAnd i j)) := opI0 fun _ _ _ _ _ _ _ q => and_int q
theorem op_or : OpR X (binaryOp .BitOr) (rI0 fun i j => .int (Builtin.bitOr i j)) := opI0 fun _ _ _ _ _ _ _ q => or_int q
theorem op_xor : OpR X (binaryOp .BitXor) (rI0 fun i j => .int (Builtin.bitXor i j)) := opI0 fun _ _ _ _ _ _ _ q => xor_int q

theorem iop_add : OpR X (inplaceOp .Add) (rI0 fun i j => .int (i + j)) := opI0 fun _ _ _ _ _ _ _ q => iadd_int q
theorem iop_sub : OpR X (inplaceOp .Sub) (rI0 fun i j => .int (i - j)) := opI0 fun _ _ _ _ _ _ _ q => isub_int q
theorem iop_mul : OpR X (inplaceOp .Mult) (rI CMul fun i j => .int (i * j)) := opI fun _ _ _ _ _ _ _ hc q => imul_int q hc.ok
theorem iop_fdiv : OpR X (inplaceOp .FloorDiv) (rI CDiv fun i j => .int (i / j)) := opI fun i j _ _ _ _ _ hc q => by
  have h1 : (0 : Int) < j := hc.1
  have h2 : j < 1073741824 := hc.2
  exact ifloordiv_int (by omega) (by rw [Int.fdiv_eq_ediv_of_nonneg i (by omega)]; exact q) (.inl (PyProof.noPylong_small (by omega)))
theorem iop_mod : OpR X (inplaceOp .Mod) (rI (fun _ j => 0 < j) fun i j => .int (i % j)) := opI fun i j _ _ _ _ _ hc q => by
  have h1 : (0 : Int) < j := hc
  exact imod_int (by omega) (by rw [Int.fmod_eq_emod_of_nonneg i (by omega)]; exact q)
theorem iop_shl : OpR X (inplaceOp .LShift) (rI CPow fun i j => .int (i * 2 ^ j.toNat)) := opI fun _ _ _ _ _ _ _ hc q => ilshift_int_small hc.1 hc.2.1 hc.2.2 q
theorem iop_shr : OpR X (inplaceOp .RShift) (rI (fun _ j => 0 ≤ j) fun i j => .int (i / 2 ^ j.toNat)) := opI fun i j _ _ _ _ _ hc q =>
  irshift_int hc (by rw [Int.fdiv_eq_ediv_of_nonneg i (two_pow_nn _)]; exact q)
theorem iop_and : OpR X (inplaceOp .BitAnd) (rI0 fun i j => .int (Builtin.bitAnd i j)) := opI0 fun _ _ _ _ _ _ _ q => iand_int q
theorem iop_or : OpR X (inplaceOp .BitOr) (rI0 fun i j => .int (Builtin.bitOr i j)) := opI0 fun _ _ _ _ _ _ _ q => ior_int q
theorem iop_xor : OpR X (inplaceOp .BitXor) (rI0 fun i j => .int (Builtin.bitXor i j)) := opI0 fun _ _ _ _ _ _ _ q => ixor_int q

theorem unI {f : Value → Sem Value} {g : Int → Int}
    (rule : ∀ (i : Int) (t : Tok) (s : Shared) (Q : Value → Shared → Prop) (E : Value → Shared → Prop), Q (.int (g i) s.toks) { s with toks := s.toks + 1 } → wpAny (model X.prog X.w) X.A (f (.int i t)) Q E s) :
    UnR X f (rU fun i => .int (g i)) := by
  intro pins s σ H x v Q I rx h
  obtain ⟨i, rfl, q⟩ := h
  obtain ⟨t, rfl⟩ := rx
  exact rule i t s _ _ ⟨.int (g i), H, I.tok _, ⟨_, rfl⟩, q⟩
theorem un_neg : UnR X (unaryOp .USub) (rU fun i => .int (-i)) := unI fun _ _ _ _ _ q => neg_int q
theorem un_inv : UnR X (unaryOp .Invert) (rU fun i => .int (Builtin.bitNot i)) := unI fun _ _ _ _ _ q => invert_int q

/-! ### bools among ints: n += (a < b) -/
theorem op_add_ib : OpR X (binaryOp .Add) (fun x y H Q => ∃ i k, x = .int i ∧ y = .bl k ∧ Q (.int (i + b2i k)) H) := by
  intro pins s σ H x y v u Q I rx ry h
  obtain ⟨i, k, rfl, rfl, q⟩ := h
  obtain ⟨t, rfl⟩ := rx
  cases ry
  exact add_int_bool ⟨.int (i + b2i k), H, I.tok _, ⟨_, rfl⟩, q⟩
end

/-! ### comparisons -/
/-- the scalars that == tells apart as data does -/
def scal : V → V → Bool
  | .non, .non => true | .non, .int _ => true | .int _, .non => true | .non, .bl _ => true | .bl _, .non => true | .non, .str _ => true | .str _, .non => true
  | .int _, .int _ => true | .bl _, .bl _ => true | .str _, .str _ => true | .byt _, .byt _ => true
  | .int _, .str _ => true | .str _, .int _ => true | .bl _, .str _ => true | .str _, .bl _ => true
  | _, _ => false
def rEq : R2 := fun x y H Q => scal x y = true ∧ Q (.bl (decide (x = y))) H
def rNe : R2 := fun x y H Q => scal x y = true ∧ Q (.bl (!decide (x = y))) H

theorem dec_int {i j : Int} : decide (V.int i = V.int j) = (i == j) := by
  rw [Bool.eq_iff_iff]
  simp
theorem dec_bl {i j : Bool} : decide (V.bl i = V.bl j) = (i == j) := by
  rw [Bool.eq_iff_iff]
  simp
theorem dec_str {i j : Str} : decide (V.str i = V.str j) = (i == j) := by
  rw [Bool.eq_iff_iff]
  simp
theorem dec_byt {i j : Array UInt8} : decide (V.byt i = V.byt j) = (i.toList == j.toList) := by
  rw [Bool.eq_iff_iff]
  cases i
  cases j
  simp

section
variable {X : Cx} {a b c : Expr} {ta tb tc : TE} {pos : Pos}
theorem fin_bl {pins : List (Addr × Obj)} {σ : St} {H : Hp} {s : Shared} {Q : VK} {k k' : Bool} (I : Inv X pins σ H s) (q : Q (.bl k) H) (e : k = k') : EP X pins σ Q (.bool k') s := by
  subst e
  exact ⟨.bl k, H, I, rfl, q⟩
theorem op_eq : OpR X (compareOp .Eq) rEq := by
  intro pins s σ H x y v u Q I rx ry h
  obtain ⟨hs, q⟩ := h
  cases x with
  | non =>
    cases rx
    cases y with
    | non => cases ry; exact PySem.EqNone.eq_none_none (fin_bl I q (by simp))
    | bl j => cases ry; exact PySem.EqNone.eq_none_bool (fin_bl I q (by simp))
    | int j => obtain ⟨t', rfl⟩ := ry; exact PySem.EqNone.eq_none_int (fin_bl I q (by simp))
    | str j => obtain ⟨t', rfl⟩ := ry; exact PySem.EqNone.eq_none_str (fin_bl I q (by simp))
    | _ => exact absurd (show false = true from hs) Bool.false_ne_true
  | bl i =>
    cases rx
    cases y with
    | non => cases ry; exact PySem.EqNone.eq_bool_none (fin_bl I q (by simp))
    | bl j => cases ry; exact eq_bool (fin_bl I q dec_bl)
    | str j => obtain ⟨t', rfl⟩ := ry; exact PySem.EqMixed.eq_bool_str (fin_bl I q (by simp))
    | _ => exact absurd (show false = true from hs) Bool.false_ne_true
  | int i =>
    obtain ⟨t, rfl⟩ := rx
    cases y with
    | non => cases ry; exact PySem.EqNone.eq_int_none (fin_bl I q (by simp))
    | int j => obtain ⟨t', rfl⟩ := ry; exact eq_int (fin_bl I q dec_int)
    | str j => obtain ⟨t', rfl⟩ := ry; exact PySem.EqMixed.eq_int_str (fin_bl I q (by simp))
    | _ => exact absurd (show false = true from hs) Bool.false_ne_true
  | str i =>
    obtain ⟨t, rfl⟩ := rx
    cases y with
    | non => cases ry; exact PySem.EqNone.eq_str_none (fin_bl I q (by simp))
    | bl j => cases ry; exact PySem.EqMixed.eq_str_bool (fin_bl I q (by simp))
    | int j => obtain ⟨t', rfl⟩ := ry; exact PySem.EqMixed.eq_str_int (fin_bl I q (by simp))
    | str j => obtain ⟨t', rfl⟩ := ry; exact eq_str (fin_bl I q dec_str)
    | _ => exact absurd (show false = true from hs) Bool.false_ne_true
  | byt i =>
    obtain ⟨t, rfl⟩ := rx
    cases y with
    | byt j => obtain ⟨t', rfl⟩ := ry; exact PySem.W.eq_bytes (fin_bl I q dec_byt)
    | _ => exact absurd (show false = true from hs) Bool.false_ne_true
  | _ => cases y <;> exact absurd (show false = true from hs) Bool.false_ne_true
theorem op_ne : OpR X (compareOp .NotEq) rNe := by
  intro pins s σ H x y v u Q I rx ry h
  obtain ⟨hs, q⟩ := h
  cases x with
  | non =>
    cases rx
    cases y with
    | non => cases ry; exact PySem.EqNone.ne_none_none (fin_bl I q (by simp))
    | bl j => cases ry; exact PySem.EqNone.ne_none_bool (fin_bl I q (by simp))
    | int j => obtain ⟨t', rfl⟩ := ry; exact PySem.EqNone.ne_none_int (fin_bl I q (by simp))
    | str j => obtain ⟨t', rfl⟩ := ry; exact PySem.EqNone.ne_none_str (fin_bl I q (by simp))
    | _ => exact absurd (show false = true from hs) Bool.false_ne_true
  | bl i =>
    cases rx
    cases y with
    | non => cases ry; exact PySem.EqNone.ne_bool_none (fin_bl I q (by simp))
    | bl j => cases ry; exact ne_bool (fin_bl I q (congrArg not dec_bl))
    | str j => obtain ⟨t', rfl⟩ := ry; exact PySem.EqMixed.ne_bool_str (fin_bl I q (by simp))
    | _ => exact absurd (show false = true from hs) Bool.false_ne_true
  | int i =>
    obtain ⟨t, rfl⟩ := rx
    cases y with
    | non => cases ry; exact PySem.EqNone.ne_int_none (fin_bl I q (by simp))
    | int j => obtain ⟨t', rfl⟩ := ry; exact ne_int (fin_bl I q (congrArg not dec_int))
    | str j => obtain ⟨t', rfl⟩ := ry; exact PySem.EqMixed.ne_int_str (fin_bl I q (by simp))
    | _ => exact absurd (show false = true from hs) Bool.false_ne_true
  | str i =>
    obtain ⟨t, rfl⟩ := rx
    cases y with
    | non => cases ry; exact PySem.EqNone.ne_str_none (fin_bl I q (by simp))
    | bl j => cases ry; exact PySem.EqMixed.ne_str_bool (fin_bl I q (by simp))
    | int j => obtain ⟨t', rfl⟩ := ry; exact PySem.EqMixed.ne_str_int (fin_bl I q (by simp))
    | str j => obtain ⟨t', rfl⟩ := ry; exact ne_str (fin_bl I q (congrArg not dec_str))
    | _ => exact absurd (show false = true from hs) Bool.false_ne_true
  | byt i =>
    obtain ⟨t, rfl⟩ := rx
    cases y with
    | byt j => obtain ⟨t', rfl⟩ := ry; exact PySem.W.ne_bytes (fin_bl I q (congrArg not dec_byt))
    | _ => exact absurd (show false = true from hs) Bool.false_ne_true
  | _ => cases y <;> exact absurd (show false = true from hs) Bool.false_ne_true

theorem op_lt : OpR X (compareOp .Lt) (rI0 fun i j => .bl (decide (i < j))) := opB0 fun _ _ _ _ _ _ _ q => lt_int q
theorem op_le : OpR X (compareOp .LtE) (rI0 fun i j => .bl (decide (i ≤ j))) := opB0 fun _ _ _ _ _ _ _ q => le_int q
theorem op_gt : OpR X (compareOp .Gt) (rI0 fun i j => .bl (decide (j < i))) := opB0 fun _ _ _ _ _ _ _ q => gt_int q
theorem op_ge : OpR X (compareOp .GtE) (rI0 fun i j => .bl (decide (j ≤ i))) := opB0 fun _ _ _ _ _ _ _ q => ge_int q
theorem op_lt_str : OpR X (compareOp .Lt) (fun x y H Q => ∃ i j, x = .str i ∧ y = .str j ∧ Q (.bl (decide (i.cps.toList < j.cps.toList))) H) := by
  intro pins s σ H x y v u Q I rx ry h
  obtain ⟨i, j, rfl, rfl, q⟩ := h
  obtain ⟨t, rfl⟩ := rx
  obtain ⟨t', rfl⟩ := ry
  exact lt_str (fin_bl I q rfl)
/-- the one string within the other -/
theorem op_in_str : OpR X (compareOp .In) (fun x y H Q => ∃ i j, x = .str i ∧ y = .str j ∧ Q (.bl (!(Builtin.Str.occurrences j i 0 j.length 1).isEmpty)) H) := by
  intro pins s σ H x y v u Q I rx ry h
  obtain ⟨i, j, rfl, rfl, q⟩ := h
  obtain ⟨t, rfl⟩ := rx
  obtain ⟨t', rfl⟩ := ry
  exact in_str (fin_bl I q rfl)

/-- is None, is not None: the right side a value none -/
theorem op_isN : OpR X (compareOp .Is) (fun x y H Q => y = .non ∧ Q (.bl (decide (x = .non))) H) := by
  intro pins s σ H x y v u Q I rx ry h
  obtain ⟨rfl, q⟩ := h
  cases ry
  refine is_none_gen (fin_bl I q ?_)
  cases x <;> first
    | (cases rx; rfl)
    | (obtain ⟨t, rfl⟩ := rx; rfl)
theorem op_notN : OpR X (compareOp .IsNot) (fun x y H Q => y = .non ∧ Q (.bl (!decide (x = .non))) H) := by
  intro pins s σ H x y v u Q I rx ry h
  obtain ⟨rfl, q⟩ := h
  cases ry
  refine isnot_none_gen (fin_bl I q ?_)
  cases x <;> first
    | (cases rx; rfl)
    | (obtain ⟨t, rfl⟩ := rx; rfl)

theorem op_notin_str : OpR X (compareOp .NotIn) (fun x y H Q => ∃ i j, x = .str i ∧ y = .str j ∧ Q (.bl (!(!(Builtin.Str.occurrences j i 0 j.length 1).isEmpty))) H) := by
  intro pins s σ H x y v u Q I rx ry h
  obtain ⟨i, j, rfl, rfl, q⟩ := h
  obtain ⟨t, rfl⟩ := rx
  obtain ⟨t', rfl⟩ := ry
  exact notIn_str (fin_bl I q rfl)
/-- is, is not of two objects that are tracked lists or instances -/
def isObj : HO → Bool
  | .lst _ => true
  | .ins _ _ _ => true
  | _ => false
theorem obj_there {pins : List (Addr × Obj)} {s : Shared} {σ : St} {H : Hp} {a : Addr} {o : HO} (I : Inv X pins σ H s) (h : H a = some o) (p : isObj o = true) : ∃ ob, s.heap.get? a = some ob ∧ ob.cls ≠ .type "tuple" := by
  cases o with
  | lst xs =>
    obtain ⟨_, its, n, _, e⟩ : xs.length ≤ sizeLine ∧ ∃ (its : List Value) (n : Nat), Vals xs its ∧ s.heap.get? a = some { cls := .type "list", data := .seq its.toArray n } := I.hok a _ h
    exact ⟨_, e, (by show Value.type "list" ≠ .type "tuple"; decide +kernel)⟩
  | ins C dx fs =>
    have x := I.hok a _ h
    obtain ⟨_, _, _, e, _⟩ := x
    exact ⟨_, e, (by show Value.ref C ≠ .type "tuple"; exact fun z => by cases z)⟩
  | _ => exact absurd (show false = true from p) Bool.false_ne_true
theorem op_is_ref : OpR X (compareOp .Is) (fun x y H Q => ∃ a b oa ob, x = .ref a ∧ y = .ref b ∧ H a = some oa ∧ isObj oa = true ∧ H b = some ob ∧ isObj ob = true ∧ Q (.bl (decide (a = b))) H) := by
  intro pins s σ H x y v u Q I rx ry h
  obtain ⟨a, b, oa, ob, rfl, rfl, ha, pa, hb, pb, q⟩ := h
  cases rx
  cases ry
  obtain ⟨o1, e1, n1⟩ := obj_there I ha pa
  obtain ⟨o2, e2, _⟩ := obj_there I hb pb
  by_cases z : a = b
  · subst z
    exact wpAny_is_ref_self (fin_bl I q (by simp))
  · exact wpAny_is_ref_other z e1 e2 n1 (fin_bl I q (by simp [z]))
theorem op_isnot_ref : OpR X (compareOp .IsNot) (fun x y H Q => ∃ a b oa ob, x = .ref a ∧ y = .ref b ∧ H a = some oa ∧ isObj oa = true ∧ H b = some ob ∧ isObj ob = true ∧ Q (.bl (!decide (a = b))) H) := by
  intro pins s σ H x y v u Q I rx ry h
  obtain ⟨a, b, oa, ob, rfl, rfl, ha, pa, hb, pb, q⟩ := h
  cases rx
  cases ry
  obtain ⟨o1, e1, n1⟩ := obj_there I ha pa
  obtain ⟨o2, e2, _⟩ := obj_there I hb pb
  by_cases z : a = b
  · subst z
    exact wpAny_isNot_ref_self (fin_bl I q (by simp))
  · exact wpAny_isNot_ref_other z e1 e2 n1 (fin_bl I q (by simp [z]))

/-- two rules for one operation: by cases -/
theorem OpR.or {f : Value → Value → Sem Value} {r r' : R2} (h : OpR X f r) (h' : OpR X f r') : OpR X f (fun x y H Q => r x y H Q ∨ r' x y H Q) := by
  intro pins s σ H x y v u Q I rx ry q
  rcases q with q | q
  · exact h pins s σ H x y v u Q I rx ry q
  · exact h' pins s σ H x y v u Q I rx ry q

theorem nomark (b : Expr) {op : CmpOp} (h : op ≠ .In := by decide) (h2 : op ≠ .NotIn := by decide) : behindInMarks op b = false := by
  have e1 : (op == CmpOp.In) = false := by cases op <;> first | rfl | exact absurd rfl h
  have e2 : (op == CmpOp.NotIn) = false := by cases op <;> first | rfl | exact absurd rfl h2
  cases b <;> simp [behindInMarks, e1, e2]
/-- a comparison as a value; hm: nomark b, or (for in, not in) by with_unfolding_all rfl -/
theorem pe_cmpR {op : CmpOp} {r : R2} (ho : OpR X (compareOp op) r) (ha : PE X a ta) (hb : PE X b tb) (hm : behindInMarks op b = false) : PE X (.Compare a [op] [b] pos) (tOp r ta tb) := by
  intro pins s σ H Q I h
  exact wpAny_Compare1 (binT ha hb I h fun v u s2 x y H2 I2 rx ry q => ho pins s2 σ H2 x y v u Q I2 rx ry q) hm
/-- a reading of a value as a test -/
def tTest (t : TE) : TT := fun σ H Q => t σ H fun x H' => ∃ k, x = .bl k ∧ Q k H'
theorem pt_cmpR {op : CmpOp} {r : R2} (ho : OpR X (compareOp op) r) (ha : PE X a ta) (hb : PE X b tb) (hm : behindInMarks op b = false) : PT X (.Compare a [op] [b] pos) (tTest (tOp r ta tb)) := by
  intro pins s σ H Q I h
  refine wpAny_isTrue_Compare1 (thn (ha pins s σ H _ I h) fun v s1 ⟨x, H1, I1, r1, q1⟩ => thn (hb pins s1 σ H1 _ I1 q1) fun u s2 ⟨y, H2, I2, r2, q2⟩ =>
    thn (ho pins s2 σ H2 x y v u _ I2 r1 r2 q2) fun c s3 ⟨z, H3, I3, r3, k, e, q3⟩ => ?_) hm
  subst e
  cases r3
  exact wpAny_truthy_bool ⟨H3, I3, q3⟩
/-- a op1 b op2 c -/
def tChain (r r' : R2) (ta tb tc : TE) : TE := fun σ H Q => ta σ H fun x H1 => tb σ H1 fun y H2 => r x y H2 fun z H3 => ∃ k, z = .bl k ∧
  (if k = true then tc σ H3 fun w' H4 => r' y w' H4 Q else Q (.bl false) H3)
theorem pe_chain {op op' : CmpOp} {r r' : R2} (ho : OpR X (compareOp op) r) (ho' : OpR X (compareOp op') r') (ha : PE X a ta) (hb : PE X b tb) (hc : PE X c tc)
    (hm : lastMarks [op, op'] [b, c] = false := by with_unfolding_all rfl) : PE X (.Compare a [op, op'] [b, c] pos) (tChain r r' ta tb tc) := by
  intro pins s σ H Q I h
  refine Compare_chain (thn (ha pins s σ H _ I h) fun v s1 ⟨x, H1, I1, r1, q1⟩ => chain_link (thn (hb pins s1 σ H1 _ I1 q1) fun u s2 ⟨y, H2, I2, r2, q2⟩ =>
    thn (ho pins s2 σ H2 x y v u _ I2 r1 r2 q2) fun d s3 ⟨z, H3, I3, r3, k, e, q3⟩ => ?_)) hm
  subst e
  cases r3
  refine wpAny_truthy_bool ?_
  cases k with
  | false => exact ite_ff ⟨.bl false, H3, I3, rfl, q3⟩
  | true => exact ite_tt (chain_last (thn (hc pins s3 σ H3 _ I3 q3) fun w' s4 ⟨z', H4, I4, r4, q4⟩ => ho' pins s4 σ H4 y z' u w' Q I4 r2 r4 q4))
theorem pt_chain {op op' : CmpOp} {r r' : R2} (ho : OpR X (compareOp op) r) (ho' : OpR X (compareOp op') r') (ha : PE X a ta) (hb : PE X b tb) (hc : PE X c tc)
    (hm : lastMarks [op, op'] [b, c] = false := by with_unfolding_all rfl) : PT X (.Compare a [op, op'] [b, c] pos) (tTest (tChain r r' ta tb tc)) := by
  intro pins s σ H Q I h
  refine isTrue_chain (thn (ha pins s σ H _ I h) fun v s1 ⟨x, H1, I1, r1, q1⟩ => test_link (thn (hb pins s1 σ H1 _ I1 q1) fun u s2 ⟨y, H2, I2, r2, q2⟩ =>
    thn (ho pins s2 σ H2 x y v u _ I2 r1 r2 q2) fun d s3 ⟨z, H3, I3, r3, k, e, q3⟩ => ?_)) hm
  subst e
  cases r3
  refine wpAny_truthy_bool ?_
  cases k with
  | false =>
    obtain ⟨k', e', q'⟩ := q3
    cases e'
    exact ite_ff ⟨H3, I3, q'⟩
  | true =>
    refine ite_tt (test_last (thn (hc pins s3 σ H3 _ I3 q3) fun w' s4 ⟨z', H4, I4, r4, q4⟩ => thn (ho' pins s4 σ H4 y z' u w' _ I4 r2 r4 q4) fun d' s5 ⟨z2, H5, I5, r5, k2, e2, q5⟩ => ?_))
    subst e2
    cases r5
    exact wpAny_truthy_bool ⟨H5, I5, q5⟩

/-! ### truth -/
/-- a value's truth by the abstract heap -/
def TruV (K : PySem.W.Frag) (x : V) (H : Hp) (k : Bool) : Prop :=
  match x with
  | .non => k = false
  | .bl b => k = b
  | .int i => k = (i != 0)
  | .str y => y.length ≤ sizeLine ∧ k = ((y.length : Int) != 0)
  | .byt y => y.size ≤ sizeLine ∧ k = ((y.size : Int) != 0)
  | .ref p => (∃ xs, SqL K H p xs ∧ k = !xs.isEmpty) ∨ (∃ xs, SqT K H p xs ∧ k = !xs.isEmpty) ∨ ∃ kvs, H p = some (.dK kvs) ∧ k = !kvs.isEmpty
  | _ => False
theorem isEmpty_kv {κ : Type} {kvs : List (κ × V)} {vs : List (κ × Value)} (r : KV kvs vs) : (!vs.isEmpty) = !kvs.isEmpty := by
  cases r <;> rfl
theorem isEmpty_of {xs : List V} {its : List Value} (r : Vals xs its) : (!its.toArray.isEmpty) = !xs.isEmpty := by
  cases r <;> simp
theorem line63 : (sizeLine : Nat) < 2 ^ 63 := by rw [sizeLine_eq]; decide
theorem tru_ok : TruR X (fun x H Q => ∃ k, TruV X.K x H k ∧ Q k H) := by
  intro pins s σ H x v Q I rx h
  obtain ⟨k, e, q⟩ := h
  have hl := line63
  have hs : sizeLine = 16777216 := sizeLine_eq
  cases x with
  | non =>
    cases rx
    have e' : k = false := e
    subst e'
    exact truthy_none ⟨H, I, q⟩
  | bl b =>
    cases rx
    have e' : k = b := e
    subst e'
    exact wpAny_truthy_bool ⟨H, I, q⟩
  | int i =>
    obtain ⟨t, rfl⟩ := rx
    have e' : k = (i != 0) := e
    subst e'
    exact PySem.P.truthy_int ⟨H, I, q⟩
  | str y =>
    obtain ⟨t, rfl⟩ := rx
    obtain ⟨hy, e'⟩ : y.length ≤ sizeLine ∧ k = ((y.length : Int) != 0) := e
    subst e'
    exact PySem.P.truthy_str (by omega) ⟨H, I.tok _, q⟩
  | byt y =>
    obtain ⟨t, rfl⟩ := rx
    obtain ⟨hy, e'⟩ : y.size ≤ sizeLine ∧ k = ((y.size : Int) != 0) := e
    subst e'
    exact PySem.W.truthy_bytes (by omega) ⟨H, I.tok _, q⟩
  | ref p =>
    cases rx
    have e' : (∃ xs, SqL X.K H p xs ∧ k = !xs.isEmpty) ∨ (∃ xs, SqT X.K H p xs ∧ k = !xs.isEmpty) ∨ ∃ kvs, H p = some (.dK kvs) ∧ k = !kvs.isEmpty := e
    rcases e' with ⟨xs, hx, e'⟩ | ⟨xs, hx, e'⟩ | ⟨kvs, hx, e'⟩
    · subst e'
      obtain ⟨its, r, pl, hz⟩ := I.list hx
      have hlen := r.length
      exact wpAny_truthy_list pl.isList (by simp only [List.size_toArray]; omega) ⟨H, I.tok _, by rw [isEmpty_of r]; exact q⟩
    · subst e'
      obtain ⟨its, r, pl, hz⟩ := I.tuple hx
      have hlen := r.length
      exact truthy_tuple pl (by simp only [List.size_toArray]; omega) ⟨H, I.tok _, by rw [isEmpty_of r]; exact q⟩
    · subst e'
      obtain ⟨hz, hS, vs, r, m⟩ : kvs.length ≤ sizeLine ∧ (p == sysModules) = false ∧ ∃ vs, KV kvs vs ∧ s.heap.DictOf (mixKind X.prog X.w) p vs := I.hok p _ hx
      have hlen : kvs.length = vs.length := Paired.length r
      exact wpAny_truthy_dict hS m (by omega) ⟨H, I.tok _, by rw [isEmpty_kv r]; exact q⟩
  | _ => exact (show False from e).elim
/-- any expression whose test is its value's truth (a name, a call, a subscript, a field ..: he by fun _ => rfl) -/
theorem pt_truth (ha : PE X a ta) (he : ∀ whole, isTrue a X.env whole = (do let v ← whole; standAt a.pos; holding [v] (truthy v))) :
    PT X a (fun σ H Q => ta σ H fun x H' => ∃ k, TruV X.K x H' k ∧ Q k H') := by
  intro pins s σ H Q I h
  exact isTrue_plain (thn (ha pins s σ H _ I h) fun v s1 ⟨x, H1, I1, r1, q1⟩ => tru_ok pins s1 σ H1 x v Q I1 r1 q1) (he _)

/-! ### strs and bytes -/
theorem pe_byt {x : List UInt8} {k : Nat} : PE X (.Constant (.bytes x) k pos) (fun _ H Q => Q (.byt x.toArray) H) := fun _ _ _ H _ I h => PySem.W.Constant_bytes ⟨.byt x.toArray, H, I.tok _, ⟨_, rfl⟩, h⟩
theorem op_add_str : OpR X (binaryOp .Add) (fun x y H Q => ∃ i j, x = .str i ∧ y = .str j ∧ i.length + j.length ≤ sizeLine ∧ Q (.str (i ++ j)) H) := by
  intro pins s σ H x y v u Q I rx ry h
  obtain ⟨i, j, rfl, rfl, hz, q⟩ := h
  obtain ⟨t, rfl⟩ := rx
  obtain ⟨t', rfl⟩ := ry
  exact add_str (fun t' tk => ⟨.str (i ++ j), H, I.tok _, ⟨_, rfl⟩, q⟩) hz
theorem iop_add_str : OpR X (inplaceOp .Add) (fun x y H Q => ∃ i j, x = .str i ∧ y = .str j ∧ i.length + j.length ≤ sizeLine ∧ Q (.str (i ++ j)) H) := by
  intro pins s σ H x y v u Q I rx ry h
  obtain ⟨i, j, rfl, rfl, hz, q⟩ := h
  obtain ⟨t, rfl⟩ := rx
  obtain ⟨t', rfl⟩ := ry
  exact iadd_str (fun t' tk => ⟨.str (i ++ j), H, I.tok _, ⟨_, rfl⟩, q⟩) hz
theorem op_add_byt : OpR X (binaryOp .Add) (fun x y H Q => ∃ i j, x = .byt i ∧ y = .byt j ∧ i.size + j.size ≤ 16777216 ∧ Q (.byt (i ++ j)) H) := by
  intro pins s σ H x y v u Q I rx ry h
  obtain ⟨i, j, rfl, rfl, hz, q⟩ := h
  obtain ⟨t, rfl⟩ := rx
  obtain ⟨t', rfl⟩ := ry
  exact PySem.W.KBy.add_bytes hz (fun t' tk => ⟨.byt (i ++ j), H, I.tok _, ⟨_, rfl⟩, q⟩)

def PlainIxT (b : Expr) : Prop := ∀ o i, subscripted b false o i = operate [o, i] (getItem o i)
/-- s[i], 0 ≤ i < len -/
theorem pe_item_str (ha : PE X a ta) (hb : PE X b tb) (hs : PlainIxT b) :
    PE X (.Subscript a b pos) (tOp (fun x y H Q => ∃ z i c, x = .str z ∧ y = .int i ∧ 0 ≤ i ∧ i < 2 ^ 63 ∧ i < z.length ∧ z.cps[i.toNat]? = some c ∧ Q (.str ⟨#[c]⟩) H) ta tb) := by
  intro pins s σ H Q I h
  refine Subscript_ (binT ha hb I h fun v u s2 x y H2 I2 rx ry q => ?_)
  obtain ⟨z, i, c, rfl, rfl, h0, h63, h1, hc, q⟩ := q
  obtain ⟨t, rfl⟩ := rx
  obtain ⟨t', rfl⟩ := ry
  have e : seqIndex? i z.length = some i.toNat := PySem.StrLaws.seqIndex_nonneg h0 h1
  exact tail_any (typeIs_str s2 z t) slot_str_getitem.lookup (getItem_str (c := c) (by
    have e1 : decide (i < -(2 ^ 63 : Int)) = false := decide_eq_false (by omega)
    have e2 : decide (i ≥ 2 ^ 63) = false := decide_eq_false (by omega)
    rw [e1, e2] <;> rfl) (by rw [e]; exact hc) ⟨.str ⟨#[c]⟩, H2, I2.tok _, ⟨_, rfl⟩, q⟩) (hs _ _)
/-- b[i], 0 ≤ i < len -/
theorem pe_item_byt (ha : PE X a ta) (hb : PE X b tb) (hs : PlainIxT b) :
    PE X (.Subscript a b pos) (tOp (fun x y H Q => ∃ (z : List UInt8) (i : Int), x = .byt z.toArray ∧ y = .int i ∧ z.length ≤ sizeLine ∧ 0 ≤ i ∧ i < z.length ∧ Q (.int ((z.getD i.toNat 0).toNat : Nat)) H) ta tb) := by
  intro pins s σ H Q I h
  refine Subscript_ (binT ha hb I h fun v u s2 x y H2 I2 rx ry q => ?_)
  obtain ⟨z, i, rfl, rfl, hz, h0, h1, q⟩ := q
  obtain ⟨t, rfl⟩ := rx
  obtain ⟨t', rfl⟩ := ry
  have hl : sizeLine = 16777216 := sizeLine_eq
  exact tail_any (PySem.W.typeIs_bytes s2 z.toArray t) PySem.W.FB.slot_bytes_getitem.lookup (PySem.W.getItem_bytes (by omega) h0 h1 ⟨.int ((z.getD i.toNat 0).toNat : Nat), H2, I2.tok _, ⟨_, rfl⟩, q⟩) (hs _ _)

/-! ### scalar builtins, by CallR -/
theorem vals1 {x : V} {us : List Value} (r : Vals [x] us) : ∃ u, us = [u] ∧ RelV x u := by
  cases r with
  | cons r1 r2 => cases r2; exact ⟨_, rfl, r1⟩
theorem vals2 {x y : V} {us : List Value} (r : Vals [x, y] us) : ∃ u w', us = [u, w'] ∧ RelV x u ∧ RelV y w' := by
  cases r with
  | cons r1 r2 =>
    cases r2 with
    | cons r3 r4 => cases r4; exact ⟨_, _, rfl, r1, r3⟩
theorem call_abs : CallR X (.builtin "abs") (fun xs H Q => ∃ i, xs = [.int i] ∧ Q (.int (if i < 0 then -i else i)) H) := by
  intro pins s σ H xs us Q I r h
  obtain ⟨i, rfl, q⟩ := h
  obtain ⟨u, rfl, t, rfl⟩ := vals1 r
  exact call_abs_int fun u tk => ⟨.int (if i < 0 then -i else i), H, I.tok _, ⟨_, rfl⟩, q⟩
theorem call_max2 (hc : X.calm = true) : CallR X (.builtin "max") (fun xs H Q => ∃ i j, xs = [.int i, .int j] ∧ Q (.int (if j > i then j else i)) H) := by
  intro pins s σ H xs us Q I r h
  obtain ⟨i, j, rfl, q⟩ := h
  obtain ⟨u, w', rfl, ⟨t, rfl⟩, ⟨t', rfl⟩⟩ := vals2 r
  refine max_two_ints (I.ok.hd hc) fun h' tk k => ⟨_, H, I.kept k, ?_, q⟩
  by_cases hj : j > i
  · rw [if_pos hj, if_pos hj]; exact ⟨_, rfl⟩
  · rw [if_neg hj, if_neg hj]; exact ⟨_, rfl⟩
theorem call_min2 (hc : X.calm = true) : CallR X (.builtin "min") (fun xs H Q => ∃ i j, xs = [.int i, .int j] ∧ Q (.int (if j < i then j else i)) H) := by
  intro pins s σ H xs us Q I r h
  obtain ⟨i, j, rfl, q⟩ := h
  obtain ⟨u, w', rfl, ⟨t, rfl⟩, ⟨t', rfl⟩⟩ := vals2 r
  refine min_two_ints (I.ok.hd hc) fun h' tk k => ⟨_, H, I.kept k, ?_, q⟩
  by_cases hj : j < i
  · rw [if_pos hj, if_pos hj]; exact ⟨_, rfl⟩
  · rw [if_neg hj, if_neg hj]; exact ⟨_, rfl⟩
theorem call_int1 : CallR X (.type "int") (fun xs H Q => (∃ i, xs = [.int i] ∧ Q (.int i) H) ∨ ∃ k, xs = [.bl k] ∧ Q (.int (if k then 1 else 0)) H) := by
  intro pins s σ H xs us Q I r h
  rcases h with ⟨i, rfl, q⟩ | ⟨k, rfl, q⟩
  · obtain ⟨u, rfl, t, rfl⟩ := vals1 r
    exact call_int_int ⟨.int i, H, I, ⟨_, rfl⟩, q⟩
  · obtain ⟨u, rfl, r1⟩ := vals1 r
    cases r1
    exact call_int_bool ⟨.int (if k then 1 else 0), H, I.tok _, ⟨_, rfl⟩, q⟩
theorem call_bool1 : CallR X (.type "bool") (fun xs H Q => (∃ i, xs = [.int i] ∧ Q (.bl (i != 0)) H) ∨ ∃ k, xs = [.bl k] ∧ Q (.bl k) H) := by
  intro pins s σ H xs us Q I r h
  rcases h with ⟨i, rfl, q⟩ | ⟨k, rfl, q⟩
  · obtain ⟨u, rfl, t, rfl⟩ := vals1 r
    exact call_bool_int ⟨.bl (i != 0), H, I, rfl, q⟩
  · obtain ⟨u, rfl, r1⟩ := vals1 r
    cases r1
    exact call_bool_bool ⟨.bl k, H, I, rfl, q⟩
theorem call_str_int : CallR X (.type "str") (fun xs H Q => ∃ i, xs = [.int i] ∧ i.natAbs.log2 < 1920 ∧ Q (.str (toString i)) H) := by
  intro pins s σ H xs us Q I r h
  obtain ⟨i, rfl, hz, q⟩ := h
  obtain ⟨u, rfl, t, rfl⟩ := vals1 r
  exact PySem.P.str_of_int hz ⟨.str _, H, I.tok _, ⟨_, rfl⟩, q⟩
theorem call_ord : CallR X (.builtin "ord") (fun xs H Q => ∃ x, xs = [.str x] ∧ x.length = 1 ∧ Q (.int (x.cps.getD 0 0 : Nat)) H) := by
  intro pins s σ H xs us Q I r h
  obtain ⟨x, rfl, hz, q⟩ := h
  obtain ⟨u, rfl, t, rfl⟩ := vals1 r
  exact ord_of_one hz ⟨.int _, H, I.tok _, ⟨_, rfl⟩, q⟩
theorem call_chr : CallR X (.builtin "chr") (fun xs H Q => ∃ i, xs = [.int i] ∧ 0 ≤ i ∧ i ≤ 1114111 ∧ Q (.str ⟨#[i.toNat]⟩) H) := by
  intro pins s σ H xs us Q I r h
  obtain ⟨i, rfl, h0, h1, q⟩ := h
  obtain ⟨u, rfl, t, rfl⟩ := vals1 r
  exact chr_of_range h0 h1 ⟨.str _, H, I.tok _, ⟨_, rfl⟩, q⟩
/-- len of a str, a bytes, a list, a tuple -/
def LenV (K : PySem.W.Frag) (x : V) (H : Hp) (n : Nat) : Prop :=
  match x with
  | .str y => y.length ≤ sizeLine ∧ n = y.length
  | .byt y => y.size ≤ sizeLine ∧ n = y.size
  | .ref p => (∃ xs, SqL K H p xs ∧ n = xs.length) ∨ ∃ xs, SqT K H p xs ∧ n = xs.length
  | _ => False
theorem call_len : CallR X (.builtin "len") (fun xs H Q => ∃ x n, xs = [x] ∧ LenV X.K x H n ∧ Q (.int n) H) := by
  intro pins s σ H xs us Q I r h
  obtain ⟨x, n, rfl, e, q⟩ := h
  obtain ⟨u, rfl, rx⟩ := vals1 r
  have hl := line63
  have hs : sizeLine = 16777216 := sizeLine_eq
  cases x with
  | str y =>
    obtain ⟨t, rfl⟩ := rx
    obtain ⟨hy, e'⟩ : y.length ≤ sizeLine ∧ n = y.length := e
    subst e'
    exact len_str (by omega) ⟨.int _, H, I.tok _, ⟨_, rfl⟩, q⟩
  | byt y =>
    obtain ⟨t, rfl⟩ := rx
    obtain ⟨hy, e'⟩ : y.size ≤ sizeLine ∧ n = y.size := e
    subst e'
    exact PySem.W.len_bytes (by omega) ⟨.int _, H, I.tok _, ⟨_, rfl⟩, q⟩
  | ref p =>
    cases rx
    have e' : (∃ xs, SqL X.K H p xs ∧ n = xs.length) ∨ ∃ xs, SqT X.K H p xs ∧ n = xs.length := e
    rcases e' with ⟨xs, hx, e'⟩ | ⟨xs, hx, e'⟩
    · subst e'
      obtain ⟨its, r', pl, hz⟩ := I.list hx
      have hlen := r'.length
      exact Calls.call_len_list pl.isList (by simp only [List.size_toArray]; omega) ⟨.int xs.length, H, I.tok _, ⟨_, by simp only [List.size_toArray]; rw [hlen]⟩, q⟩
    · subst e'
      obtain ⟨its, r', pl, hz⟩ := I.tuple hx
      have hlen := r'.length
      exact len_tuple pl (by simp only [List.size_toArray]; omega) ⟨.int xs.length, H, I.tok _, ⟨_, by simp only [List.size_toArray]; rw [hlen]⟩, q⟩
  | _ => exact (show False from e).elim
/-- divmod: a new tuple -/
theorem call_divmod : CallR X (.builtin "divmod") (fun xs H Q => ∃ i j, xs = [.int i, .int j] ∧ CDiv i j ∧ ∀ p, H p = none → Q (.ref p) (upd H p (.tup [.int (i / j), .int (i % j)]))) := by
  intro pins s σ H xs us Q I r h
  obtain ⟨i, j, rfl, ⟨h1, h2⟩, q⟩ := h
  obtain ⟨u, w', rfl, ⟨t, rfl⟩, ⟨t', rfl⟩⟩ := vals2 r
  refine divmod_int (by omega) ?_ (.inl (PyProof.noPylong_small (by omega)))
  rw [Int.fdiv_eq_ediv_of_nonneg i (by omega), Int.fmod_eq_emod_of_nonneg i (by omega)]
  have hn : H s.heap.objs.size = none := I.hok.fresh (Nat.le_refl _)
  refine ⟨.ref s.heap.objs.size, _, ?_, rfl, q _ hn⟩
  refine I.laid (fun b o e => Heap.get?_push_of_some _ e) (Nat.le_refl _) ⟨by simp only [List.length_cons, List.length_nil]; rw [sizeLine_eq]; decide, [.int (i / j) s.toks, .int (i % j) (s.toks + 1)], .cons ⟨_, rfl⟩ (.cons ⟨_, rfl⟩ .nil), ?_⟩
  exact ⟨_, Heap.get?_push_size s.heap rfl, rfl, 0, rfl⟩
end
end L2

namespace L2
open PySem PySem.Spec PyProof.Rows

/-! ### an instance, its attributes a map -/
structure ObjM (h : Heap) (x dx C : Addr) (mA : Str → Option Value) : Prop where
  obj : h.get? x = some (PySem.W.instObj C dx)
  ns : h.Ns1 dx mA
  ne : dx ≠ x

theorem lookIn_ns {h : Heap} {dx : Addr} {mA : Str → Option Value} (n : h.Ns1 dx mA) : ∃ od, h.get? dx = some od ∧ ∀ name, PySem.W.lookIn name od = some (mA name) := by
  obtain ⟨o, es, ep, ho, hd, hk, _, hm⟩ := n
  refine ⟨o, ho, fun name => ?_⟩
  have e := hm name
  unfold nsFind findBy at e
  rw [← Array.find?_toList] at e
  unfold PySem.W.lookIn
  rw [hd]
  dsimp only
  split
  · rename_i y q
    rw [q] at e
    exact congrArg some e
  · rename_i q
    rw [q] at e
    have a : es.toList.any (·.refKey) = false := by
      rw [List.any_eq_false]
      intro y hy
      obtain ⟨z, t, hkey⟩ := hk y (Array.mem_toList_iff.mp hy)
      simp [DictEntry.refKey, hkey]
    have a' : ¬ es.toList.any (·.refKey) = true := by rw [a]; exact Bool.false_ne_true
    rw [if_neg a']
    exact congrArg some e

theorem ObjM.look {h : Heap} {x dx C : Addr} {mA : Str → Option Value} (I : ObjM h x dx C mA) : ∃ od, PySem.W.InstAt h x (PySem.W.instObj C dx) C (some od) ∧ ∀ name, PySem.W.lookIn name od = some (mA name) :=
  let ⟨od, ho, hl⟩ := lookIn_ns I.ns
  ⟨od, ⟨I.obj, rfl, rfl, ho⟩, hl⟩

section
variable {prog : Program} {w : World} {A : Around} {E : Value → Shared → Prop} {s : Shared} {K : PySem.W.Frag} {x dx C f : Addr} {mA : Str → Option Value} {name : Str} {v : Value}

theorem get_map {expr : Bool} {Q : Value → Shared → Prop} (X : K.In s.heap) (I : ObjM s.heap x dx C mA) (hg : PySem.W.plainGet K C name = true) (hh : PySem.W.hasDictIn K C = true)
    (ha : PySem.W.findIn K (.ref C) name = some none) (hv : mA name = some v) (hv' : PySem.W.handedIn v = true) (h : Q v { s with toks := s.toks + 1 }) :
    wpAny (model prog w) A (getAttr (.ref x) name expr) Q E s := by
  obtain ⟨od, J, hl⟩ := I.look
  exact PySem.W.get_value X J (PySem.W.plainGet_of hg).1 (PySem.W.findObj_own hh ha rfl (by rw [hl, hv])) hv' h

theorem get_const {expr : Bool} {a : Value} {Q : Value → Shared → Prop} (X : K.In s.heap) (I : ObjM s.heap x dx C mA) (hg : PySem.W.plainGet K C name = true) (hh : PySem.W.hasDictIn K C = true)
    (ha : PySem.W.findIn K (.ref C) name = some (some a)) (hn : PySem.W.specialIn K a "__get__" = some none) (hc : PySem.W.copiedNames.contains name = false) (hv : mA name = none) (hv' : PySem.W.handedIn a = true)
    (h : Q a { s with toks := s.toks + 1 }) : wpAny (model prog w) A (getAttr (.ref x) name expr) Q E s := by
  obtain ⟨od, J, hl⟩ := I.look
  exact PySem.W.get_value X J (PySem.W.plainGet_of hg).1 (PySem.W.findObj_cls hh ha hn hv' hc (by rw [hl, hv])) hv' h

theorem get_meth {pl : Sem Bool} {Q : Value × List Value → Shared → Prop} (X : K.In s.heap) (I : ObjM s.heap x dx C mA) (hg : PySem.W.plainGet K C name = true)
    (hf : PySem.W.findIn K (.ref C) name = some (some (.ref f))) (ht : PySem.W.isFn K (.ref f) = true) (hv : mA name = none) (h : Q (.ref f, [.ref x]) s) :
    wpAny (model prog w) A (getMethod (.ref x) name pl) Q E s := by
  obtain ⟨od, J, hl⟩ := I.look
  exact PySem.W.method_fn X J (PySem.W.plainGet_of hg).1 (PySem.W.plainGet_of hg).2 hf (beq_iff_eq.mp ht) (by show (PySem.W.lookIn name od).map (·.isSome) = some false; rw [hl, hv]; rfl) h

theorem set_map {ns : List Str} {Q : Unit → Shared → Prop} (X : K.In s.heap) (I : ObjM s.heap x dx C mA)
    (hs : PySem.W.findIn K (.ref C) "__setattr__" = some (some (.builtin "object.__setattr__"))) (hp : PySem.W.plainOver K C = true) (ht : PySem.W.takerIn K C name = some none) (hh : PySem.W.hasDictIn K C = true)
    (hw : PySem.Within mA ns) (hsz : ns.length ≤ sizeLine)
    (h : ∀ h', ObjM h' x dx C (fun y => if y = name then some v else mA y) → Heap.SameBut dx s.heap h' → Q () { s with heap := h', toks := s.toks + 2 }) :
    wpAny (model prog w) A (setAttr (.ref x) name v) Q E s := by
  obtain ⟨od, J, hl⟩ := I.look
  refine PySem.W.set_plain X J hs (PySem.W.osa_open (s := { s with toks := s.toks + 1 }) (r := none) X J hp ht fun b => ?_)
  obtain ⟨cd, hc, hd'⟩ := PySem.W.any_some hh
  have hx : s.heap.get? x = some ⟨.ref C, some dx, .plain, #[]⟩ := I.obj
  refine wpAny_bind (wpAny_pure (wpAny_bind (wpAny_bind (wpAny_loadPart hx (wpAny_bind (PySem.W.Looks.here (s := { s with toks := s.toks + 1 }) (PySem.W.looks_clsIn X hc) ?_))))))
  rw [hd']
  refine wpAny_pure (a := some dx) (wpAny_bind (wpAny_pure (wpAny_bind ?_)))
  refine wpAny_nsSet1 (s := { s with toks := s.toks + 1 }) I.ns fun h' hn2 hs2 => ?_
  obtain ⟨oD, esD, epD, hoD, hdD, hcD⟩ := hn2.count (PySem.Within.cons name v hw)
  refine wpAny_bind (wpAny_lookBehind hoD (by rw [hdD]; exact pastItsLine_dict (Nat.le_trans hcD (by rw [List.length_cons]; omega))) ?_)
  exact wpAny_pure (h _ ⟨(hs2.2 _ (Ne.symm I.ne)).trans I.obj, hn2, I.ne⟩ hs2)

/-- C(..): the dict at the heap's end, the instance behind it; then its __init__ -/
theorem make_map {R : Result → Shared → Prop} {vs : List Value} {kw : List (Str × Value)} (X : K.In s.heap) (hm : PySem.W.makesIn K C = true)
    (hi : PySem.W.findIn K (.ref C) "__init__" = some (some (.ref f))) (hf : PySem.W.typeIn K (.ref f) = some (.type "function"))
    (h : codeAny (model prog w) (A.under (.builtin "type.__call__" ⟨.ref C :: vs, kw⟩)) (.call (.ref f) ⟨.ref (s.heap.objs.size + 1) :: vs, kw⟩) (PySem.W.InitBack (s.heap.objs.size + 1) R)
      { s with heap := (s.heap.push PySem.W.emptyDict).push (PySem.W.instObj C s.heap.objs.size) }) :
    codeAny (model prog w) A (.call (.ref C) ⟨vs, kw⟩) R s := by
  obtain ⟨hh, g, d, t, os⟩ := s
  exact PySem.W.make_core (PySem.W.makes_of X hm) (PySem.W.looks_findIn X hi) (fun self => PySem.W.bind_fn X self hf) (.inl rfl) h
/-- C() where there is no __init__ but object's -/
theorem make_map0 {R : Result → Shared → Prop} (X : K.In s.heap) (hm : PySem.W.makesIn K C = true)
    (hi : PySem.W.findIn K (.ref C) "__init__" = some (some (.builtin "object.__init__")))
    (hb : ∀ self, PySem.W.Looks (model prog w) s.heap (bindSpecial (.builtin "object.__init__") self) (.builtin "object.__init__", [self]))
    (h : codeAny (model prog w) (A.under (.builtin "type.__call__" ⟨[.ref C], []⟩)) (.call (.builtin "object.__init__") ⟨[.ref (s.heap.objs.size + 1)], []⟩) (PySem.W.InitBack (s.heap.objs.size + 1) R)
      { s with heap := (s.heap.push PySem.W.emptyDict).push (PySem.W.instObj C s.heap.objs.size) }) :
    codeAny (model prog w) A (.call (.ref C) ⟨[], []⟩) R s := by
  obtain ⟨hh, g, d, t, os⟩ := s
  exact PySem.W.make_core (PySem.W.makes_of X hm) (PySem.W.looks_findIn X hi) hb (.inr ⟨rfl, rfl⟩) h
end

/-! ### the attributes as a list of pairs -/
def putF (f : Str) (v : V) : List (Str × V) → List (Str × V)
  | [] => [(f, v)]
  | (g, x) :: r => if g = f then (g, v) :: r else (g, x) :: putF f v r
theorem lookup_putF (f g : Str) (v : V) : ∀ fs : List (Str × V), (putF f v fs).lookup g = if g = f then some v else fs.lookup g
  | [] => by
    show List.lookup g [(f, v)] = _
    by_cases h : g = f
    · have hb : (g == f) = true := beq_iff_eq.mpr h
      simp only [List.lookup, hb, if_pos h]
    · have hb : (g == f) = false := beq_eq_false_iff_ne.mpr h
      simp only [List.lookup, hb, if_neg h]
  | (k, x) :: r => by
    have ih := lookup_putF f g v r
    rw [show putF f v ((k, x) :: r) = (if k = f then (k, v) :: r else (k, x) :: putF f v r) from rfl]
    by_cases hk : k = f
    · rw [if_pos hk]
      by_cases h : g = k
      · have hb : (g == k) = true := beq_iff_eq.mpr h
        simp only [List.lookup, hb, if_pos (h.trans hk)]
      · have hb : (g == k) = false := beq_eq_false_iff_ne.mpr h
        simp only [List.lookup, hb, if_neg (fun e : g = f => h (e.trans hk.symm))]
    · rw [if_neg hk]
      by_cases h : g = k
      · have hb : (g == k) = true := beq_iff_eq.mpr h
        simp only [List.lookup, hb, if_neg (fun e : g = f => hk (h.symm.trans e))]
      · have hb : (g == k) = false := beq_eq_false_iff_ne.mpr h
        simp only [List.lookup, hb]
        exact ih
theorem keys_putF (f : Str) (v : V) : ∀ fs : List (Str × V), f ∈ (putF f v fs).map (·.1) ∧ ∀ g, g ∈ fs.map (·.1) → g ∈ (putF f v fs).map (·.1)
  | [] => ⟨by simp [putF], fun g h => by simp at h⟩
  | (k, x) :: r => by
    obtain ⟨i1, i2⟩ := keys_putF f v r
    rw [show putF f v ((k, x) :: r) = (if k = f then (k, v) :: r else (k, x) :: putF f v r) from rfl]
    by_cases hk : k = f
    · rw [if_pos hk]
      subst hk
      exact ⟨by simp, fun g h => by simpa using h⟩
    · rw [if_neg hk]
      refine ⟨?_, fun g h => ?_⟩
      · rw [List.map_cons]
        exact List.mem_cons_of_mem _ i1
      · rw [List.map_cons] at h ⊢
        rcases List.mem_cons.mp h with e | e
        · exact List.mem_cons.mpr (.inl e)
        · exact List.mem_cons_of_mem _ (i2 g e)
theorem length_putF (f : Str) (v : V) : ∀ fs : List (Str × V), (putF f v fs).length ≤ fs.length + 1
  | [] => by simp [putF]
  | (k, x) :: r => by
    have ih := length_putF f v r
    rw [show putF f v ((k, x) :: r) = (if k = f then (k, v) :: r else (k, x) :: putF f v r) from rfl]
    by_cases hk : k = f
    · rw [if_pos hk, List.length_cons, List.length_cons]; omega
    · rw [if_neg hk, List.length_cons, List.length_cons]; omega

theorem RelO.some_of {v : V} {o : Option Value} (r : RelO (some v) o) : ∃ u, o = some u ∧ RelV v u := by
  cases o with
  | none => exact (show False from r).elim
  | some u => exact ⟨u, rfl, r⟩
theorem RelO.none_of {o : Option Value} (r : RelO none o) : o = none := by
  cases o with
  | none => rfl
  | some u => exact (show False from r).elim
theorem handed_of {v : V} {u : Value} (r : RelV v u) : PySem.W.handedIn u = true := by
  cases v with
  | non => cases (show u = Value.none from r); rfl
  | bl b => cases (show u = Value.bool b from r); rfl
  | int i => obtain ⟨t, e⟩ := (show ∃ t, u = Value.int i t from r); cases e; rfl
  | str x => obtain ⟨t, e⟩ := (show ∃ t, u = Value.str x t from r); cases e; rfl
  | byt b => obtain ⟨t, e⟩ := (show ∃ t, u = Value.bytes b t from r); cases e; rfl
  | flt b => obtain ⟨t, e⟩ := (show ∃ t, u = Value.float b t from r); cases e; rfl
  | ref a => cases (show u = Value.ref a from r); rfl
  | ty n => cases (show u = Value.type n from r); rfl

section
variable {P : Program} {w : World} {H H' : Hp} {h h' : Heap} {a C dx : Addr} {fs fs' : List (Str × V)}
theorem ins_get (hok : HOk P w H h) (e : H a = some (.ins C dx fs)) : ∃ mA, ObjM h a dx C mA ∧ (∀ f, RelO (fs.lookup f) (mA f)) ∧ PySem.Within mA (fs.map (·.1)) ∧ fs.length ≤ 1000 ∧ H dx = some (.own a) := by
  obtain ⟨d, z, ne, ob, mA, n, r, q⟩ := (show ObjOk P w H h a (.ins C dx fs) from hok a _ e)
  exact ⟨mA, ⟨ob, n, ne⟩, r, q, z, d⟩
end

/-! ### what of the text a class must have -/
structure Cls (K : PySem.W.Frag) (C : Addr) : Prop where
  pg : PySem.W.plainGet K C Str.empty = true
  hd : PySem.W.hasDictIn K C = true
  po : PySem.W.plainOver K C = true
  sa : PySem.W.findIn K (.ref C) "__setattr__" = some (some (.builtin "object.__setattr__"))
theorem Cls.get {K : PySem.W.Frag} {C : Addr} (c : Cls K C) (f : Str) : PySem.W.plainGet K C f = true := c.pg
/-- no class of it has the name -/
def NoAttr (K : PySem.W.Frag) (C : Addr) (f : Str) : Prop := PySem.W.findIn K (.ref C) f = some none
theorem NoAttr.taker {K : PySem.W.Frag} {C : Addr} {f : Str} (n : NoAttr K C f) : PySem.W.takerIn K C f = some none := by
  unfold PySem.W.takerIn
  rw [show PySem.W.findIn K (.ref C) f = some none from n]
  rfl
/-- a constant of the class -/
structure Con (K : PySem.W.Frag) (C : Addr) (f : Str) (v : V) (u : Value) : Prop where
  at_ : PySem.W.findIn K (.ref C) f = some (some u)
  rel : RelV v u
  get : PySem.W.specialIn K u "__get__" = some none
  cp : PySem.W.copiedNames.contains f = false
/-- a method: a plain def of the class or of one above it -/
structure Meth (K : PySem.W.Frag) (C : Addr) (m : Str) (f : Addr) : Prop where
  at_ : PySem.W.findIn K (.ref C) m = some (some (.ref f))
  fn : PySem.W.isFn K (.ref f) = true
  kp : PySem.W.keepIn K (.ref f) = true

section
variable {X : Cx} {pins : List (Addr × Obj)} {σ : St} {H : Hp} {s : Shared} {a C dx : Addr} {fs : List (Str × V)} {f : Str} {v : V} {A : Around} {E : Value → Shared → Prop}

theorem getattr_ok {b : Bool} {Q : Value → Shared → Prop} (I : Inv X pins σ H s) (e : H a = some (.ins C dx fs)) (c : Cls X.K C) (n : NoAttr X.K C f) (l : fs.lookup f = some v)
    (h : ∀ u s', Inv X pins σ H s' → RelV v u → Q u s') : wpAny (model X.prog X.w) A (getAttr (.ref a) f b) Q E s := by
  obtain ⟨mA, O, r, _, _, _⟩ := ins_get I.hok e
  obtain ⟨u, hu, ru⟩ := RelO.some_of (v := v) (o := mA f) (by rw [← l]; exact r f)
  exact get_map I.kIn O (c.get f) c.hd n hu (handed_of ru) (h u _ (I.tok _) ru)

theorem getcon_ok {b : Bool} {u : Value} {Q : Value → Shared → Prop} (I : Inv X pins σ H s) (e : H a = some (.ins C dx fs)) (c : Cls X.K C) (k : Con X.K C f v u) (l : fs.lookup f = none)
    (h : ∀ s', Inv X pins σ H s' → Q u s') : wpAny (model X.prog X.w) A (getAttr (.ref a) f b) Q E s := by
  obtain ⟨mA, O, r, _, _, _⟩ := ins_get I.hok e
  have hn : mA f = none := RelO.none_of (by rw [← l]; exact r f)
  exact get_const I.kIn O (c.get f) c.hd k.at_ k.get k.cp hn (handed_of k.rel) (h _ (I.tok _))

theorem getmeth_ok {m : Str} {g : Addr} {pl : Sem Bool} {Q : Value × List Value → Shared → Prop} (I : Inv X pins σ H s) (e : H a = some (.ins C dx fs)) (c : Cls X.K C) (k : Meth X.K C m g) (l : fs.lookup m = none)
    (h : Q (.ref g, [.ref a]) s) : wpAny (model X.prog X.w) A (getMethod (.ref a) m pl) Q E s := by
  obtain ⟨mA, O, r, _, _, _⟩ := ins_get I.hok e
  have hn : mA m = none := RelO.none_of (by rw [← l]; exact r m)
  exact get_meth I.kIn O (c.get m) k.at_ k.fn hn h

theorem setattr_ok {y : V} {u : Value} {Q : Unit → Shared → Prop} (I : Inv X pins σ H s) (e : H a = some (.ins C dx fs)) (c : Cls X.K C) (n : NoAttr X.K C f) (hl : fs.length < 1000) (ry : RelV y u)
    (h : ∀ s', Inv X pins σ (upd H a (.ins C dx (putF f y fs))) s' → Q () s') : wpAny (model X.prog X.w) A (setAttr (.ref a) f u) Q E s := by
  obtain ⟨mA, O, r, wi, _, ho⟩ := ins_get I.hok e
  have hz : (fs.map (·.1)).length ≤ sizeLine := by rw [List.length_map, sizeLine_eq]; omega
  refine set_map I.kIn O c.sa c.po n.taker c.hd wi hz fun h' O' sb => h _ ?_
  have hd : ∃ o, h'.get? dx = some o := let ⟨o, _, _, e', _⟩ := O'.ns; ⟨o, e'⟩
  refine I.write (x := a) (e := dx) (by rw [e]; exact True.intro) (.inr ho) (fun b q hb z => (sb.2 b hb).trans z) hd ?_
  refine ⟨by rw [upd_ne O.ne]; exact ho, ?_, O.ne, O'.obj, _, O'.ns, fun g => ?_, fun g hg => ?_⟩
  · have := length_putF f y fs; omega
  · show RelO ((putF f y fs).lookup g) (if g = f then some u else mA g)
    rw [lookup_putF]
    by_cases q : g = f
    · rw [if_pos q, if_pos q]; exact ry
    · rw [if_neg q, if_neg q]; exact r g
  · by_cases q : g = f
    · rw [q]; exact (keys_putF f y fs).1
    · refine (keys_putF f y fs).2 g (wi g fun z => hg ?_)
      show (if g = f then some u else mA g) = none
      rw [if_neg q]; exact z

/-- a new instance, tracked, without attributes -/
theorem Inv.made (I : Inv X pins σ H s) : Inv X pins σ (upd (upd H s.heap.objs.size (.own (s.heap.objs.size + 1))) (s.heap.objs.size + 1) (.ins C s.heap.objs.size []))
    { s with heap := (s.heap.push PySem.W.emptyDict).push (PySem.W.instObj C s.heap.objs.size) } := by
  have e1 : (s.heap.push PySem.W.emptyDict).get? s.heap.objs.size = some PySem.W.emptyDict := Heap.get?_push_size s.heap rfl
  have e2 : ((s.heap.push PySem.W.emptyDict).push (PySem.W.instObj C s.heap.objs.size)).get? (s.heap.objs.size + 1) = some (PySem.W.instObj C s.heap.objs.size) := by
    have := Heap.get?_push_size (s.heap.push PySem.W.emptyDict) (o := PySem.W.instObj C s.heap.objs.size) rfl
    rwa [Heap.size_push] at this
  have e3 : (s.heap.push PySem.W.emptyDict).Ns s.heap.objs.size (fun _ => none) := ⟨PySem.W.emptyDict, #[], _, e1, rfl, (fun e he => absurd he (by simp)), fun _ => rfl⟩
  have I1 := I.laid (a := s.heap.objs.size) (o := .own (s.heap.objs.size + 1)) (h' := s.heap.push PySem.W.emptyDict) (t' := s.toks) (fun b u q => Heap.get?_push_of_some _ q) (Nat.le_refl _) ⟨_, e1⟩
  refine I1.laid (a := s.heap.objs.size + 1) (o := .ins C s.heap.objs.size []) (t' := s.toks) (fun b u q => Heap.get?_push_of_some _ q) (Nat.le_of_eq (Heap.size_push _ _)) ?_
  have ne : s.heap.objs.size ≠ s.heap.objs.size + 1 := Nat.ne_of_lt (Nat.lt_succ_self _)
  refine ⟨by rw [upd_ne ne, upd_same], Nat.zero_le _, ne, e2, fun _ => none, (Heap.Ns1.of_empty e3).at fun o q => Heap.get?_push_of_some _ q, fun _ => True.intro, fun y hy => absurd rfl hy⟩

/-- e.f where nothing but the object is asked: through attributeBase (super) and the last hold -/
theorem attr_of {prog : Program} {w : World} {env : Env} {e : Expr} {f : Str} {pos : Pos} {s : Shared} {Q : Value → Shared → Prop} (hb : attributeBase e f env (eval e env) = eval e env)
    (h : wpAny (model prog w) A (eval e env) (fun o s₁ => wpAny (model prog w) A (getAttr o f true) Q E s₁) E s) : wpAny (model prog w) A (eval (.Attribute e f pos) env) Q E s :=
  Attribute_any_ h (by rw [arm_eval_Attribute, hb])
end

/-! ### readings and rules -/
/-- e.f, an attribute of the instance -/
def tFld (K : PySem.W.Frag) (ta : TE) (f : Str) : TE := fun σ H Q => ta σ H fun x H1 => ∃ a C dx fs v, x = .ref a ∧ H1 a = some (.ins C dx fs) ∧ Cls K C ∧ NoAttr K C f ∧ fs.lookup f = some v ∧ Q v H1
/-- e.f, a constant of the class -/
def tCon (K : PySem.W.Frag) (ta : TE) (f : Str) : TE := fun σ H Q => ta σ H fun x H1 => ∃ a C dx fs v u, x = .ref a ∧ H1 a = some (.ins C dx fs) ∧ Cls K C ∧ Con K C f v u ∧ fs.lookup f = none ∧ Q v H1
/-- e.f = value -/
def sFld (K : PySem.W.Frag) (ta tv : TE) (f : Str) : TS := fun D σ H => tv σ H fun y H1 => ta σ H1 fun x H2 => ∃ a C dx fs, x = .ref a ∧ H2 a = some (.ins C dx fs) ∧ Cls K C ∧ NoAttr K C f ∧ fs.length < 1000 ∧
  D.nx σ (upd H2 a (.ins C dx (putF f y fs)))
/-- an augmented operator on two values -/
def InOp (X : Cx) (op : Operator) (rd : V → V → Hp → VK → Prop) : Prop :=
  ∀ (pins : List (Addr × Obj)) (s : Shared) (σ : St) (H : Hp) (x y : V) (u v : Value) (Q : VK), Inv X pins σ H s → RelV x u → RelV y v → rd x y H Q → wpAny (model X.prog X.w) X.A (inplaceOp op u v) (EP X pins σ Q) X.xe s
/-- e.f op= value -/
def sFldAug (K : PySem.W.Frag) (ta tv : TE) (rd : V → V → Hp → VK → Prop) (f : Str) : TS := fun D σ H => ta σ H fun x H1 => ∃ a C dx fs v, x = .ref a ∧ H1 a = some (.ins C dx fs) ∧ Cls K C ∧ NoAttr K C f ∧ fs.lookup f = some v ∧
  tv σ H1 fun y H2 => rd v y H2 fun z H3 => ∃ dx' fs', H3 a = some (.ins C dx' fs') ∧ fs'.length < 1000 ∧ D.nx σ (upd H3 a (.ins C dx' (putF f z fs')))

section
variable {X : Cx} {o e value : Expr} {f : Str} {pos pos' tpos : Pos} {ta tv : TE}
theorem pe_fld (he : PE X e ta) (hb : attributeBase e f X.env (eval e X.env) = eval e X.env) : PE X (.Attribute e f pos) (tFld X.K ta f) := by
  intro pins s σ H Q I h
  refine attr_of hb (thn (he pins s σ H _ I h) fun u s1 ⟨x, H1, I1, rx, a, C, dx, fs, v, ex, ea, c, n, l, q⟩ => ?_)
  subst ex
  obtain rfl : u = Value.ref a := rx
  exact getattr_ok I1 ea c n l fun u' s2 I2 ru => ⟨v, H1, I2, ru, q⟩
theorem pe_con (he : PE X e ta) (hb : attributeBase e f X.env (eval e X.env) = eval e X.env) : PE X (.Attribute e f pos) (tCon X.K ta f) := by
  intro pins s σ H Q I h
  refine attr_of hb (thn (he pins s σ H _ I h) fun u s1 ⟨x, H1, I1, rx, a, C, dx, fs, v, u0, ex, ea, c, k, l, q⟩ => ?_)
  subst ex
  obtain rfl : u = Value.ref a := rx
  exact getcon_ok I1 ea c k l fun s2 I2 => ⟨v, H1, I2, k.rel, q⟩
theorem ps_fld (ha : PE X o ta) (hv : PE X value tv) (hs : swapsWith value (some (.Attribute o f pos')) pos.line X.env = pure false) : PS X (.Assign [.Attribute o f pos'] value pos) (sFld X.K ta tv f) := by
  intro pins s σ H D I h
  refine plainObj_wpAny_Assign_Attribute (thn (hv pins s σ H _ I h) fun u s1 ⟨y, H1, I1, ry, q⟩ => thn (ha pins s1 σ H1 _ I1 q) fun ov s2 ⟨x, H2, I2, rx, a, C, dx, fs, ex, ea, c, n, l, q2⟩ => ?_) hs
  subst ex
  obtain rfl : ov = Value.ref a := rx
  exact setattr_ok I2 ea c n l ry fun s3 I3 => ⟨σ, _, I3, q2⟩
theorem ps_fldaug {op : Operator} {rd : V → V → Hp → VK → Prop} (ha : PE X o ta) (hv : PE X value tv) (hop : InOp X op rd) : PS X (.AugAssign (.Attribute o f tpos) op value pos) (sFldAug X.K ta tv rd f) := by
  intro pins s σ H D I h
  refine wpAny_AugAssign_AttributeAny (thn (ha pins s σ H _ I h) fun ov s1 ⟨x, H1, I1, rx, a, C, dx, fs, v, ex, ea, c, n, l, q⟩ => ?_)
  subst ex
  obtain rfl : ov = Value.ref a := rx
  refine getattr_ok I1 ea c n l fun u s2 I2 ru => thn (hv pins s2 σ H1 _ I2 q) fun w3 s3 ⟨y, H2, I3, ry, q3⟩ => thn (hop pins s3 σ H2 v y u w3 _ I3 ru ry q3) fun w4 s4 ⟨z, H3, I4, rz, dx', fs', ea', l', q4⟩ => ?_
  exact setattr_ok I4 ea' c n l' rz fun s5 I5 => ⟨σ, _, I5, q4⟩
def rAdd : V → V → Hp → VK → Prop := fun x y H Q => ∃ i j, x = .int i ∧ y = .int j ∧ Q (.int (i + j)) H
def rSub : V → V → Hp → VK → Prop := fun x y H Q => ∃ i j, x = .int i ∧ y = .int j ∧ Q (.int (i - j)) H
theorem in_add : InOp X .Add rAdd := by
  rintro pins s σ H x y u v Q I rx ry ⟨i, j, rfl, rfl, q⟩
  obtain ⟨t, rfl⟩ := (show ∃ t, u = Value.int i t from rx)
  obtain ⟨t', rfl⟩ := (show ∃ t', v = Value.int j t' from ry)
  exact PyProof.Rows.iadd_int ⟨.int (i + j), H, I.tok _, ⟨_, rfl⟩, q⟩
theorem in_sub : InOp X .Sub rSub := by
  rintro pins s σ H x y u v Q I rx ry ⟨i, j, rfl, rfl, q⟩
  obtain ⟨t, rfl⟩ := (show ∃ t, u = Value.int i t from rx)
  obtain ⟨t', rfl⟩ := (show ∃ t', v = Value.int j t' from ry)
  exact PyProof.Rows.isub_int ⟨.int (i - j), H, I.tok _, ⟨_, rfl⟩, q⟩

/-- what is between an instance and its method: the tree of a method call -/
theorem methcall_of {pl : Sem Bool} {m : Str} {apos : Pos} {args : List Expr} {pins : List (Addr × Obj)} {s : Shared} {σ : St} {H : Hp} {Q : Value → Shared → Prop} {te : TE} (he : PE X e te) (I : Inv X pins σ H s)
    (h : te σ H fun x H1 => ∃ a C dx fs g, x = .ref a ∧ H1 a = some (.ins C dx fs) ∧ Cls X.K C ∧ Meth X.K C m g ∧ fs.lookup m = none ∧
      ∀ s1, Inv X pins σ H1 s1 → wpAny (model X.prog X.w) X.A (callWith pos (.ref g) [.ref a] (backTo pos (starEach args X.env)) (backToKw pos (keywordEach [] X.env))) Q X.xe s1)
    (ht : eval (.Call (.Attribute e m apos) args [] pos) X.env = (do
      let ov ← eval e X.env
      standAt apos.atName
      let (f, first) ← holding [ov] (getMethod ov m pl)
      callWith pos f first (backTo pos (starEach args X.env)) (backToKw pos (keywordEach [] X.env)))) :
    wpAny (model X.prog X.w) X.A (eval (.Call (.Attribute e m apos) args [] pos) X.env) Q X.xe s := by
  refine PySem.W.methodCall_KW (pl := pl) (thn (he pins s σ H _ I h) fun u s1 ⟨x, H1, I1, rx, a, C, dx, fs, g, ex, ea, c, k, l, q⟩ => ?_) ht
  subst ex
  obtain rfl : u = Value.ref a := rx
  exact getmeth_ok I1 ea c k l (q s1 I1)
end

/-! ### isinstance -/
section
variable {X : Cx} {pins : List (Addr × Obj)} {σ : St} {H : Hp} {s : Shared} {A : Around} {E : Value → Shared → Prop} {Q : Value → Shared → Prop} {c : Value} {b : Bool}
/-- the type of a value, as the fragment's deciders take it; for an instance its class -/
inductive TyOf (K : PySem.W.Frag) (H : Hp) : V → Value → Prop where
  | non : TyOf K H .non (.type "NoneType")
  | bl (x : Bool) : TyOf K H (.bl x) (.type "bool")
  | int (i : Int) : TyOf K H (.int i) (.type "int")
  | str (x : Str) : TyOf K H (.str x) (.type "str")
  | flt (x : UInt64) : TyOf K H (.flt x) (.type "float")
  | lst {a : Addr} {xs : List V} (e : H a = some (.lst xs)) : TyOf K H (.ref a) (.type "list")
  | frz {a : Addr} {o : Obj} {xs : List V} (e : H a = some (.frz o (.lst xs))) : TyOf K H (.ref a) (.type "list")
  | tup {a : Addr} {xs : List V} (e : H a = some (.tup xs)) : TyOf K H (.ref a) (.type "tuple")
  | dK {a : Addr} {kvs : List (Key × V)} (e : H a = some (.dK kvs)) : TyOf K H (.ref a) (.type "dict")
  | dT {a : Addr} {kvs : List (List Key × V)} (e : H a = some (.dT kvs)) : TyOf K H (.ref a) (.type "dict")
  | ins {a C dx : Addr} {fs : List (Str × V)} (e : H a = some (.ins C dx fs)) (cl : Cls K C) (ha : PySem.W.findIn K (.ref C) "__class__" = some (some (.builtin "object.__class__")))
      (hn : PySem.W.specialIn K (.builtin "object.__class__") "__get__" = some (some (.builtin "getset_descriptor.__get__"))) (htk : PySem.W.takesIn K (.builtin "object.__class__") = some true)
      (hm : PySem.W.mroIn K C (.type "object") = some true) : TyOf K H (.ref a) (.ref C)
/-- isinstance(x, c) for one class c, a built-in or an own one: kitOne's answer -/
theorem isinst_ok {x : V} {u t : Value} (I : Inv X pins σ H s) (rx : RelV x u) (ty : TyOf X.K H x t) (e : PySem.W.kitOne X.K t c = some b) (h : ∀ tk, Q (.bool b) { s with toks := tk }) :
    wpAny (model X.prog X.w) A (call (.builtin "isinstance") [u, c]) Q E s := by
  cases ty with
  | non => cases (show u = Value.none from rx); exact PySem.W.kia_one PySem.W.kitx_none I.kIn True.intro e (fun z => nomatch z) h
  | bl y => cases (show u = Value.bool y from rx); exact PySem.W.kia_one PySem.W.kitx_bool I.kIn True.intro e (fun z => nomatch z) h
  | int i => obtain ⟨t, q⟩ := (show ∃ t, u = Value.int i t from rx); cases q; exact PySem.W.kia_one PySem.W.kitx_int I.kIn True.intro e (fun z => nomatch z) h
  | str y => obtain ⟨t, q⟩ := (show ∃ t, u = Value.str y t from rx); cases q; exact PySem.W.kia_one PySem.W.kitx_str I.kIn True.intro e (fun z => nomatch z) h
  | flt y => obtain ⟨t, q⟩ := (show ∃ t, u = Value.float y t from rx); cases q; exact PySem.W.kia_one PySem.W.kitx_float I.kIn True.intro e (fun z => nomatch z) h
  | @lst a xs ea =>
    cases (show u = Value.ref a from rx)
    obtain ⟨_, _, n, _, h1⟩ := (show ObjOk X.prog X.w H s.heap a (.lst xs) from I.hok a _ ea)
    exact PySem.W.kia_one PySem.W.kitx_list I.kIn ⟨_, h1, rfl⟩ e (fun z => nomatch z) h
  | @frz a ob xs ea =>
    cases (show u = Value.ref a from rx)
    obtain ⟨_, _, _, n, _, h1⟩ := (show ObjOk X.prog X.w H s.heap a (.frz ob (.lst xs)) from I.hok a _ ea)
    exact PySem.W.kia_one PySem.W.kitx_list I.kIn ⟨_, h1, rfl⟩ e (fun z => nomatch z) h
  | @tup a xs ea =>
    cases (show u = Value.ref a from rx)
    obtain ⟨_, _, _, p⟩ := (show ObjOk X.prog X.w H s.heap a (.tup xs) from I.hok a _ ea)
    obtain ⟨o, h1, h2, _⟩ := p
    exact PySem.W.kia_one PySem.W.kitx_tuple I.kIn ⟨o, h1, h2⟩ e (fun z => nomatch z) h
  | @dK a kvs ea =>
    cases (show u = Value.ref a from rx)
    obtain ⟨_, _, vs, _, p⟩ := (show ObjOk X.prog X.w H s.heap a (.dK kvs) from I.hok a _ ea)
    obtain ⟨o, es, ep, h1, h2, _⟩ := p
    exact PySem.W.kia_one PySem.W.kitx_dict I.kIn ⟨o, h1, h2.1⟩ e (fun z => nomatch z) h
  | @dT a kvs ea =>
    cases (show u = Value.ref a from rx)
    obtain ⟨_, _, xs, _, o, es, ep, h1, h2, _⟩ := (show ObjOk X.prog X.w H s.heap a (.dT kvs) from I.hok a _ ea)
    exact PySem.W.kia_one PySem.W.kitx_dict I.kIn ⟨o, h1, h2.1⟩ e (fun z => nomatch z) h
  | @ins a C dx fs ea cl ha hn htk hm =>
    cases (show u = Value.ref a from rx)
    obtain ⟨mA, O, _⟩ := ins_get I.hok ea
    obtain ⟨od, J, _⟩ := O.look
    exact PySem.W.kia_one (PySem.W.kitx_own (cl.get _) cl.hd ha hn htk hm) I.kIn J e (fun z => nomatch z) h
end
end L2

namespace L2
open PySem PySem.Spec PyProof.Rows

/-! ### room -/
structure Room (k : Nat) (A : Around) : Prop where
  hd : A.handled = none
  dp : A.depth + 3 * k + 5 < recursionLimit
  un : A.units + 16 * k + 200 < cLine
  gd : A.guards = some []
theorem Room.mono {j k : Nat} {A : Around} (r : Room k A) (h : j ≤ k) : Room j A := ⟨r.hd, by have := r.dp; omega, by have := r.un; omega, r.gd⟩
theorem Room.deeper {k : Nat} {A : Around} (r : Room (k + 1) A) (env : Env) : Room k (A.deeper env) :=
  ⟨r.hd, by have := r.dp; show A.depth + 1 + 3 * k + 5 < _; omega, by have := r.un; show A.units + 3 + 16 * k + 200 < _; omega, r.gd⟩
theorem Room.in1 {k : Nat} {A : Around} (r : Room (k + 1) A) : Room k A.in1 :=
  ⟨r.hd, by have := r.dp; show A.depth + 3 * k + 5 < _; omega, by have := r.un; show A.units + 1 + 16 * k + 200 < _; omega, r.gd⟩
theorem make_depth {A : Around} {C : Addr} {us : List Value} {kw : List (Str × Value)} : (A.under (.builtin "type.__call__" ⟨.ref C :: us, kw⟩)).depth = A.depth + 1 := by
  first | rfl | simp [Around.under, Code.weight, Code.isCreation, Code.isGuard, Code.isCaller, Code.frames, Code.isFrame, guardIds]
theorem make_units {A : Around} {C : Addr} {us : List Value} {kw : List (Str × Value)} : (A.under (.builtin "type.__call__" ⟨.ref C :: us, kw⟩)).units = A.units + 1 := by
  first | rfl | simp [Around.under, Code.cUnits, Code.frames, Code.isFrame]
theorem make_guards {A : Around} {C : Addr} {us : List Value} {kw : List (Str × Value)} (h : A.guards = some []) : (A.under (.builtin "type.__call__" ⟨.ref C :: us, kw⟩)).guards = some [] := by
  first | simp [Around.under, Code.guards, Code.isGuard, guardIds, pushGuards, h]
theorem Room.make {k : Nat} {A : Around} (r : Room (k + 1) A) (C : Addr) (us : List Value) (kw : List (Str × Value)) : Room k (A.under (.builtin "type.__call__" ⟨.ref C :: us, kw⟩)) :=
  ⟨r.hd, by have := r.dp; rw [make_depth]; omega, by have := r.un; rw [make_units]; omega, make_guards r.gd⟩
theorem Room.depth {k : Nat} {A : Around} (r : Room k A) : A.depth < recursionLimit := by have := r.dp; omega
theorem Room.units {k : Nat} {A : Around} (r : Room k A) : A.units + 64 < cLine := by have := r.un; omega
theorem Room.units0 {k : Nat} {A : Around} (r : Room k A) : A.units < cLine := by have := r.un; omega

/-! ### argument lists and displays -/
def tNil : TA := fun _ H Q => Q [] H
def tCons (ta : TE) (tr : TA) : TA := fun σ H Q => ta σ H fun x H1 => tr σ H1 fun xs H2 => Q (x :: xs) H2
section
variable {X : Cx} {e : Expr} {es : List Expr} {te : TE} {t : TA} {pos : Pos}
theorem pa_nil : PA X [] tNil := fun _ _ _ _ H Q I h => Calls.spliced_nil ⟨[], H, I, .nil, h⟩
theorem pa_cons (ha : PE X e te) (hr : PA X es t) (hs : starEach (e :: es) X.env = (false, eval e X.env) :: starEach es X.env := by rfl) : PA X (e :: es) (tCons te t) := by
  intro pos pins s σ H Q I h
  rw [hs]
  show wpAny _ _ (spliced ((false, eval e X.env) :: backTo pos (starEach es X.env))) _ _ s
  refine Calls.spliced_cons (thn (ha pins s σ H _ I h) fun u s1 ⟨x, H1, I1, r1, q1⟩ => ?_)
  exact thn (hr pos pins s1 σ H1 _ I1 q1) fun us s2 ⟨xs, H2, I2, r2, q2⟩ => ⟨x :: xs, H2, I2, .cons r1 r2, q2⟩

/-- a tuple, a list of written items -/
def tTup (t : TA) : TE := fun σ H Q => t σ H fun xs H1 => xs.length ≤ sizeLine ∧ ∀ p, H1 p = none → Q (.ref p) (upd H1 p (.tup xs))
def tLst (t : TA) : TE := fun σ H Q => t σ H fun xs H1 => xs.length ≤ sizeLine ∧ ∀ p, H1 p = none → Q (.ref p) (upd H1 p (.lst xs))
theorem pe_tup {x1} (h : PA X es t) : PE X (.Tuple es x1 pos) (tTup t) := by
  intro pins s σ H Q I hq
  refine wpAny_Tuple_spliced (thn (h pos pins s σ H _ I hq) fun us s1 ⟨xs, H1, I1, r, z, q⟩ => ⟨by rw [← r.length]; exact z, ?_⟩)
  have hf : H1 s1.heap.objs.size = none := I1.hok.fresh (Nat.le_refl _)
  refine ⟨.ref s1.heap.objs.size, upd H1 s1.heap.objs.size (.tup xs), I1.laid (t' := s1.toks) (fun b u e => Heap.get?_push_of_some _ e) (Nat.le_refl _) ?_, rfl, q _ hf⟩
  exact ⟨z, us, r, ⟨_, Heap.get?_push_size _ rfl, rfl, _, rfl⟩⟩
theorem pe_lst (h : PA X es t) : PE X (.List es pos) (tLst t) := by
  intro pins s σ H Q I hq
  refine wpAny_List_spliced (thn (h pos pins s σ H _ I hq) fun us s1 ⟨xs, H1, I1, r, z, q⟩ => ⟨by rw [← r.length]; exact z, ?_⟩)
  have hf : H1 s1.heap.objs.size = none := I1.hok.fresh (Nat.le_refl _)
  refine ⟨.ref s1.heap.objs.size, upd H1 s1.heap.objs.size (.lst xs), I1.laid (t' := s1.toks) (fun b u e => Heap.get?_push_of_some _ e) (Nat.le_refl _) ?_, rfl, q _ hf⟩
  exact ⟨z, us, 0, r, Heap.get?_push_size _ rfl⟩
end

/-! ### what a def promises -/
/-- a def's promise: the bound arguments in the parameters' order, the heap, the wanted end, the wanted exception -/
abbrev Sp := List V → Hp → VK → XK → Prop
/-- how an exception lies behind a call (file 08 gives it): the callers' frames, abstract heap and state ahead of the call, the wish, the exception, the state -/
abbrev CXT := List Env → Hp → Shared → XK → Value → Shared → Prop

/-- the state at a call -/
structure Env0 (P : Program) (w : World) (K : PySem.W.Frag) (mg : Str → Option Value) (base : Heap) (A : Around) (outer : List Env) (s : Shared) (H : Hp) : Prop where
  frames : A.frames = some outer
  mod : Mod K mg base
  bs : ∀ b o, base.get? b = some o → s.heap.get? b = some o ∧ H b = none
  bsz : base.objs.size ≤ s.heap.objs.size
  funs : s.heap.FunFrames base outer
  frf : ∀ b ∈ frs outer, H b = none
  hok : HOk P w H s.heap
  bare : AllBare s.gens
/-- a call's end -/
def CE (outer : List Env) (P : Program) (w : World) (H : Hp) (s : Shared) (Q : VK) (u : Value) (s' : Shared) : Prop :=
  ∃ v H', s'.os = s.os ∧ AllBare s'.gens ∧ Un (frs outer) [] H H' s.heap s'.heap ∧ HOk P w H' s'.heap ∧ RelV v u ∧ Q v H'
def CR (CX : CXT) (outer : List Env) (P : Program) (w : World) (H : Hp) (s : Shared) (Q : VK) (E : XK) (r : Result) (s' : Shared) : Prop :=
  match r with
  | .ok (.ret u) => CE outer P w H s Q u s'
  | .ok _ => False
  | .error e => CX outer H s E e s'
structure FnOk (P : Program) (w : World) (K : PySem.W.Frag) (mg : Str → Option Value) (base : Heap) (CX : CXT) (k : Nat) (f : Addr) (fd : FuncData) (ps : List Str) (sp : Sp) : Prop where
  len : ∀ vs H Q E, sp vs H Q E → vs.length = ps.length
  run : ∀ (A : Around) (outer : List Env) (s : Shared) (H : Hp) (args : Args) (us : List Value) (vs : List V) (Q : VK) (E : XK), Room k A → Env0 P w K mg base A outer s H → BindsTo s fd args (ps.zip us) → Vals vs us → sp vs H Q E →
    codeAny (model P w) A (.call (.ref f) args) (CR CX outer P w H s Q E) s
theorem FnOk.mono {P : Program} {w : World} {K : PySem.W.Frag} {mg : Str → Option Value} {base : Heap} {CX : CXT} {j k : Nat} {f : Addr} {fd : FuncData} {ps : List Str} {sp : Sp} (F : FnOk P w K mg base CX j f fd ps sp) (h : j ≤ k) :
    FnOk P w K mg base CX k f fd ps sp := ⟨F.len, fun A outer s H args us vs Q E hr => F.run A outer s H args us vs Q E (hr.mono h)⟩
/-- a weaker promise -/
theorem FnOk.imp {P : Program} {w : World} {K : PySem.W.Frag} {mg : Str → Option Value} {base : Heap} {CX : CXT} {k : Nat} {f : Addr} {fd : FuncData} {ps : List Str} {sp sp' : Sp} (F : FnOk P w K mg base CX k f fd ps sp)
    (h : ∀ vs H Q E, sp' vs H Q E → sp vs H Q E) : FnOk P w K mg base CX k f fd ps sp' :=
  ⟨fun vs H Q E q => F.len vs H Q E (h _ _ _ _ q), fun A outer s H args us vs Q E hr he hb hv hs => F.run A outer s H args us vs Q E hr he hb hv (h _ _ _ _ hs)⟩

theorem Env0.make {P : Program} {w : World} {K : PySem.W.Frag} {mg : Str → Option Value} {base : Heap} {A : Around} {outer : List Env} {s : Shared} {H : Hp} (e : Env0 P w K mg base A outer s H) (C : Addr) (us : List Value) (kw : List (Str × Value)) :
    Env0 P w K mg base (A.under (.builtin "type.__call__" ⟨.ref C :: us, kw⟩)) outer s H := ⟨by first | exact e.frames | (simpa [Around.under, Code.envs, Code.isFrame, pushEnvs] using e.frames), e.mod, e.bs, e.bsz, e.funs, e.frf, e.hok, e.bare⟩
theorem Env0.in1 {P : Program} {w : World} {K : PySem.W.Frag} {mg : Str → Option Value} {base : Heap} {A : Around} {outer : List Env} {s : Shared} {H : Hp} (e : Env0 P w K mg base A outer s H) :
    Env0 P w K mg base A.in1 outer s H := ⟨e.frames, e.mod, e.bs, e.bsz, e.funs, e.frf, e.hok, e.bare⟩

section
variable {X : Cx} {pins : List (Addr × Obj)} {σ : St} {H : Hp} {s s' : Shared}
/-- from a body: what a callee wants -/
theorem Inv.env0 (I : Inv X pins σ H s) : Env0 X.prog X.w X.K X.mg X.base X.A X.stack s H :=
  ⟨I.ok.frames, I.ok.mod, I.bs, Nat.le_trans I.ok.bsz I.sz, I.stack, I.stkFree, I.hok, I.bare⟩
/-- behind a call -/
theorem Inv.after {Q : VK} {u : Value} (I : Inv X pins σ H s) (h : CE X.stack X.prog X.w H s Q u s') : EP X pins σ Q u s' := by
  obtain ⟨v, H', os, bare, un, hok, r, q⟩ := h
  obtain ⟨hh, g, d, t, os'⟩ := s'
  obtain rfl : os' = s.os := os
  exact ⟨v, H', I.call (h' := hh) (g' := g) (d' := d) (t' := t) (ch := []) un hok bare (fun b z => absurd z (by simp)), r, q⟩
end

/-! ### calls -/
/-- f(..): the written arguments, then the defaults dvs; E: what is wanted of an exception -/
def tCall (sp : Sp) (dvs : List V) (E : XK) (t : TA) : TE := fun σ H Q => t σ H fun vs H1 => sp (vs ++ dvs) H1 Q E
/-- o.m(..) of an instance of the class at C -/
def tMeth (C : Addr) (m : Str) (sp : Sp) (dvs : List V) (E : XK) (ta : TE) (t : TA) : TE := fun σ H Q => ta σ H fun x H1 => ∃ a dx fs, x = .ref a ∧ H1 a = some (.ins C dx fs) ∧ fs.lookup m = none ∧
  t σ H1 fun vs H2 => sp (x :: (vs ++ dvs)) H2 Q E
/-- C(..): a new instance and its dict, then __init__ -/
def tMake (C : Addr) (sp : Sp) (dvs : List V) (E : XK) (t : TA) : TE := fun σ H Q => t σ H fun vs H1 => ∀ x dx, H1 x = none → H1 dx = none → dx ≠ x →
  sp (.ref x :: (vs ++ dvs)) (upd (upd H1 dx (.own x)) x (.ins C dx [])) (fun v H2 => v = .non ∧ Q (.ref x) H2) E

/-- how the parameters are bound: us the positional arguments, kw the keywords' values by name, ds the defaults that fill up -/
def Binds (K : PySem.W.Frag) (fd : FuncData) (ps : List Str) (ds : List Value) : Prop :=
  ∀ (s : Shared) (us : List Value), K.In s.heap → (us ++ ds).length = ps.length → BindsTo s fd ⟨us, []⟩ (ps.zip (us ++ ds))
/-- every parameter is given -/
theorem Binds.all {K : PySem.W.Frag} {fd : FuncData} {ps : List Str} (h : ∀ us : List Value, us.length = ps.length → bindArgs fd ⟨us, []⟩ = pure (ps.zip us)) : Binds K fd ps [] := fun s us _ hl => by
  rw [List.append_nil] at hl ⊢
  exact .of_eq (h us hl)

/-- an exception of a callee reaches what this body wants of exceptions -/
def Passes (CX : CXT) (X : Cx) (E : XK) : Prop := ∀ (pins : List (Addr × Obj)) (σ : St) (H : Hp) (s : Shared) (e : Value) (s' : Shared), Inv X pins σ H s → CX X.stack H s E e s' → X.xe e s'

section
variable {X : Cx} {CX : CXT} {k : Nat} {f C : Addr} {fd : FuncData} {ps : List Str} {sp : Sp} {dvs : List V} {ds : List Value} {E : XK} {x m : Str} {p pos apos : Pos} {e o : Expr} {es : List Expr} {ta : TE} {t : TA}

/-- the callee runs -/
theorem run_fn {pins : List (Addr × Obj)} {σ : St} {H : Hp} {s : Shared} {Q : VK} {us : List Value} {vs : List V} (F : FnOk X.prog X.w X.K X.mg X.base CX k f fd ps sp) (hr : Room k X.A) (hb : Binds X.K fd ps ds) (hd : Vals dvs ds) (hx : Passes CX X E)
    (I : Inv X pins σ H s) (r : Vals vs us) (h : sp (vs ++ dvs) H Q E) : wpAny (model X.prog X.w) X.A (call (.ref f) us) (EP X pins σ Q) X.xe s := by
  have r2 : Vals (vs ++ dvs) (us ++ ds) := r.append hd
  have hl : (us ++ ds).length = ps.length := by rw [← r2.length]; exact F.len _ _ _ _ h
  refine wpAny_call (codeAny_mono (F.run X.A X.stack s H ⟨us, []⟩ (us ++ ds) (vs ++ dvs) Q E hr I.env0 (hb s us I.kIn hl) r2 h) fun r s' hq => ?_)
  cases r with
  | error e => exact hx pins σ H s e s' I hq
  | ok fl =>
    cases fl with
    | ret u => exact I.after hq
    | next => exact False.elim hq
    | brk => exact False.elim hq
    | cont => exact False.elim hq

theorem pe_call (F : FnOk X.prog X.w X.K X.mg X.base CX k f fd ps sp) (hr : Room k X.A) (hg : Gl X x) (hm : X.mg x = some (.ref f)) (hk : PySem.W.keepIn X.K (.ref f) = true) (hb : Binds X.K fd ps ds) (hd : Vals dvs ds) (hx : Passes CX X E)
    (ha : PA X (e :: es) t) (hdb : (x == ("__debug__" : Str)) = false := by decide) (he : starEach (e :: es) X.env = (false, eval e X.env) :: starEach es X.env := by rfl) (hpl : (backTo pos (starEach es X.env)).any (·.1) = false := by rfl) :
    PE X (.Call (.Name x p) (e :: es) [] pos) (tCall sp dvs E t) := by
  intro pins s σ H Q I h
  refine wpAny_Call_Name_kw (ld_glob I hg hm ?_ hdb)
  refine PySem.W.callWith_K (h₀ := X.base) I.ok.mod.kin hk (thn (ha pos pins s σ H _ I h) fun us s1 ⟨vs, H1, I1, r, q⟩ => ⟨I1.kIn, ?_⟩) he hpl
  exact run_fn F hr hb hd hx I1 r q
theorem pe_call0 (F : FnOk X.prog X.w X.K X.mg X.base CX k f fd ps sp) (hr : Room k X.A) (hg : Gl X x) (hm : X.mg x = some (.ref f)) (hk : PySem.W.keepIn X.K (.ref f) = true) (hb : Binds X.K fd ps ds) (hd : Vals dvs ds) (hx : Passes CX X E)
    (hdb : (x == ("__debug__" : Str)) = false := by decide) : PE X (.Call (.Name x p) [] [] pos) (tCall sp dvs E tNil) := by
  intro pins s σ H Q I h
  refine wpAny_Call_Name_kw (ld_glob I hg hm ?_ hdb)
  exact PySem.W.callWith_K0 I.kIn hk (run_fn (us := []) F hr hb hd hx I .nil h)

/-- o.m(e, ..) -/
theorem pe_meth {pl : Sem Bool} (he : PE X o ta) (c : Cls X.K C) (hm : Meth X.K C m f) (F : FnOk X.prog X.w X.K X.mg X.base CX k f fd ps sp) (hr : Room k X.A) (hb : Binds X.K fd ps ds) (hd : Vals dvs ds) (hx : Passes CX X E) (ha : PA X (e :: es) t)
    (hst : starEach (e :: es) X.env = (false, eval e X.env) :: starEach es X.env := by rfl) (hpl : (backTo pos (starEach es X.env)).any (·.1) = false := by rfl)
    (ht : eval (.Call (.Attribute o m apos) (e :: es) [] pos) X.env = (do
      let ov ← eval o X.env
      standAt apos.atName
      let (f, first) ← holding [ov] (getMethod ov m pl)
      callWith pos f first (backTo pos (starEach (e :: es) X.env)) (backToKw pos (keywordEach [] X.env))) := by rfl) :
    PE X (.Call (.Attribute o m apos) (e :: es) [] pos) (tMeth C m sp dvs E ta t) := by
  intro pins s σ H Q I h
  refine PySem.W.methodCall_KW (pl := pl) (thn (he pins s σ H _ I h) fun u s1 ⟨x, H1, I1, rx, a, dx, fs, ex, ea, l, q⟩ => ?_) ht
  subst ex
  obtain rfl : u = Value.ref a := rx
  refine getmeth_ok I1 ea c hm l ?_
  refine PySem.W.callWith_K (first := [.ref a]) (h₀ := X.base) I.ok.mod.kin hm.kp (thn (ha pos pins s1 σ H1 _ I1 q) fun us s2 ⟨vs, H2, I2, r, q2⟩ => ⟨I2.kIn, ?_⟩) hst hpl
  exact run_fn (us := .ref a :: us) (vs := .ref a :: vs) F hr hb hd hx I2 (.cons rfl r) q2
/-- o.m() -/
theorem pe_meth0 {pl : Sem Bool} (he : PE X o ta) (c : Cls X.K C) (hm : Meth X.K C m f) (F : FnOk X.prog X.w X.K X.mg X.base CX k f fd ps sp) (hr : Room k X.A) (hb : Binds X.K fd ps ds) (hd : Vals dvs ds) (hx : Passes CX X E)
    (ht : eval (.Call (.Attribute o m apos) [] [] pos) X.env = (do
      let ov ← eval o X.env
      standAt apos.atName
      let (f, first) ← holding [ov] (getMethod ov m pl)
      callWith pos f first (backTo pos (starEach [] X.env)) (backToKw pos (keywordEach [] X.env))) := by rfl) :
    PE X (.Call (.Attribute o m apos) [] [] pos) (tMeth C m sp dvs E ta tNil) := by
  intro pins s σ H Q I h
  refine PySem.W.methodCall_KW (pl := pl) (thn (he pins s σ H _ I h) fun u s1 ⟨x, H1, I1, rx, a, dx, fs, ex, ea, l, q⟩ => ?_) ht
  subst ex
  obtain rfl : u = Value.ref a := rx
  refine getmeth_ok I1 ea c hm l ?_
  exact PySem.W.callWith_K0 (first := [.ref a]) I1.kIn hm.kp (run_fn (us := [.ref a]) (vs := [.ref a]) F hr hb hd hx I1 (.cons rfl .nil) q)

/-- what a class must have to be made -/
structure Mk (K : PySem.W.Frag) (C f : Addr) : Prop where
  makes : PySem.W.makesIn K C = true
  init : PySem.W.findIn K (.ref C) "__init__" = some (some (.ref f))
  fn : PySem.W.isFn K (.ref f) = true
  kp : PySem.W.keepIn K (.ref C) = true

theorem run_make {pins : List (Addr × Obj)} {σ : St} {H : Hp} {s : Shared} {Q : VK} {us : List Value} {vs : List V} (M : Mk X.K C f) (F : FnOk X.prog X.w X.K X.mg X.base CX k f fd ps sp) (hr : Room (k + 1) X.A) (hb : Binds X.K fd ps ds) (hd : Vals dvs ds)
    (hx : Passes CX X E) (I : Inv X pins σ H s) (r : Vals vs us)
    (h : ∀ x dx, H x = none → H dx = none → dx ≠ x → sp (.ref x :: (vs ++ dvs)) (upd (upd H dx (.own x)) x (.ins C dx [])) (fun v H2 => v = .non ∧ Q (.ref x) H2) E) :
    wpAny (model X.prog X.w) X.A (call (.ref C) us) (EP X pins σ Q) X.xe s := by
  have hq := h (s.heap.objs.size + 1) s.heap.objs.size (I.hok.fresh (Nat.le_succ _)) (I.hok.fresh (Nat.le_refl _)) (Nat.ne_of_lt (Nat.lt_succ_self _))
  have I2 := Inv.made (C := C) I
  have r2 : Vals (V.ref (s.heap.objs.size + 1) :: (vs ++ dvs)) (Value.ref (s.heap.objs.size + 1) :: (us ++ ds)) := .cons rfl (r.append hd)
  have hl : (Value.ref (s.heap.objs.size + 1) :: us ++ ds).length = ps.length := by
    have e := r2.length
    rw [F.len _ _ _ _ hq] at e
    exact e.symm
  refine wpAny_call (make_map (f := f) I.kIn M.makes M.init (beq_iff_eq.mp M.fn) (codeAny_mono (F.run _ X.stack _ _ ⟨Value.ref (s.heap.objs.size + 1) :: us, []⟩ (Value.ref (s.heap.objs.size + 1) :: (us ++ ds)) _ _ E (hr.make C us [])
    (I2.env0.make C us []) (hb _ (Value.ref (s.heap.objs.size + 1) :: us) I2.kIn hl) r2 hq) fun r s' hq' => ?_))
  cases r with
  | error e => exact hx pins σ _ _ e s' I2 hq'
  | ok fl =>
    cases fl with
    | ret u =>
      obtain ⟨v, H', I3, rv, ev, q3⟩ := I2.after hq'
      subst ev
      exact ⟨rv, ⟨V.ref (s.heap.objs.size + 1), H', I3, rfl, q3⟩⟩
    | next => exact False.elim hq'
    | brk => exact False.elim hq'
    | cont => exact False.elim hq'
theorem pe_make (M : Mk X.K C f) (F : FnOk X.prog X.w X.K X.mg X.base CX k f fd ps sp) (hr : Room (k + 1) X.A) (hg : Gl X x) (hm : X.mg x = some (.ref C)) (hb : Binds X.K fd ps ds) (hd : Vals dvs ds) (hx : Passes CX X E)
    (ha : PA X (e :: es) t) (hdb : (x == ("__debug__" : Str)) = false := by decide) (he : starEach (e :: es) X.env = (false, eval e X.env) :: starEach es X.env := by rfl) (hpl : (backTo pos (starEach es X.env)).any (·.1) = false := by rfl) :
    PE X (.Call (.Name x p) (e :: es) [] pos) (tMake C sp dvs E t) := by
  intro pins s σ H Q I h
  refine wpAny_Call_Name_kw (ld_glob I hg hm ?_ hdb)
  refine PySem.W.callWith_K (h₀ := X.base) I.ok.mod.kin M.kp (thn (ha pos pins s σ H _ I h) fun us s1 ⟨vs, H1, I1, r, q⟩ => ⟨I1.kIn, ?_⟩) he hpl
  exact run_make M F hr hb hd hx I1 r q
theorem pe_make0 (M : Mk X.K C f) (F : FnOk X.prog X.w X.K X.mg X.base CX k f fd ps sp) (hr : Room (k + 1) X.A) (hg : Gl X x) (hm : X.mg x = some (.ref C)) (hb : Binds X.K fd ps ds) (hd : Vals dvs ds) (hx : Passes CX X E)
    (hdb : (x == ("__debug__" : Str)) = false := by decide) : PE X (.Call (.Name x p) [] [] pos) (tMake C sp dvs E tNil) := by
  intro pins s σ H Q I h
  refine wpAny_Call_Name_kw (ld_glob I hg hm ?_ hdb)
  exact PySem.W.callWith_K0 I.kIn M.kp (run_make (us := []) M F hr hb hd hx I .nil h)
end

/-! ### keywords -/
/-- the values of the keywords, from the left -/
def PK (X : Cx) (kws : List Keyword) (t : TA) : Prop :=
  ∀ (pos : Pos) (pins : List (Addr × Obj)) (s : Shared) (σ : St) (H : Hp) (Q : List V → Hp → Prop), Inv X pins σ H s → t σ H Q → wpAny (model X.prog X.w) X.A (evalAll ((backToKw pos (keywordEach kws X.env)).map (·.2))) (AP X pins σ Q) X.xe s
section
variable {X : Cx} {CX : CXT} {k : Nat} {f C : Addr} {fd : FuncData} {ps ks : List Str} {sp : Sp} {E : XK} {x m : Str} {p pos apos kpos : Pos} {e o : Expr} {es : List Expr} {kws : List Keyword} {te ta : TE} {t tk : TA} {nm : Option Str}
theorem pk_nil : PK X [] tNil := fun _ _ _ _ H Q I h => wpAny_evalAll_nil ⟨[], H, I, .nil, h⟩
theorem pk_cons (ha : PE X e te) (hr : PK X kws t) : PK X (⟨nm, e, kpos⟩ :: kws) (tCons te t) := by
  intro pos pins s σ H Q I h
  show wpAny _ _ (evalAll ((do let v ← eval e X.env; standAt pos; pure v) :: (backToKw pos (keywordEach kws X.env)).map (·.2))) _ _ s
  refine wpAny_evalAll_cons (wpAny_bind (thn (ha pins s σ H _ I h) fun u s1 ⟨x, H1, I1, r1, q1⟩ => wpAny_bind (wpAny_standAt (wpAny_pure ?_))))
  exact thn (hr pos pins s1 σ H1 _ I1 q1) fun us s2 ⟨xs, H2, I2, r2, q2⟩ => ⟨x :: xs, H2, I2, .cons r1 r2, q2⟩

/-- how a call with keywords binds: g puts the positional values us and the keywords' values ws (names ks) in the parameters' order, defaults among them -/
structure KBinds (K : PySem.W.Frag) (fd : FuncData) (ps ks : List Str) (g : List Value → List Value → List Value) (gV : List V → List V → List V) : Prop where
  to : ∀ (s : Shared) (us ws : List Value), K.In s.heap → (g us ws).length = ps.length → BindsTo s fd ⟨us, ks.zip ws⟩ (ps.zip (g us ws))
  rel : ∀ {vs : List V} {us : List Value} {zs : List V} {ws : List Value}, Vals vs us → Vals zs ws → Vals (gV vs zs) (g us ws)
def tCallK (sp : Sp) (gV : List V → List V → List V) (E : XK) (t tk : TA) : TE := fun σ H Q => t σ H fun vs H1 => tk σ H1 fun zs H2 => sp (gV vs zs) H2 Q E
variable {g : List Value → List Value → List Value} {gV : List V → List V → List V}
theorem run_fnk {pins : List (Addr × Obj)} {σ : St} {H : Hp} {s : Shared} {Q : VK} {us ws : List Value} {vs zs : List V} (F : FnOk X.prog X.w X.K X.mg X.base CX k f fd ps sp) (hr : Room k X.A) (hb : KBinds X.K fd ps ks g gV) (hx : Passes CX X E)
    (I : Inv X pins σ H s) (r : Vals vs us) (rz : Vals zs ws) (h : sp (gV vs zs) H Q E) : wpAny (model X.prog X.w) X.A (call (.ref f) us (ks.zip ws)) (EP X pins σ Q) X.xe s := by
  have r2 := hb.rel r rz
  have hl : (g us ws).length = ps.length := by rw [← r2.length]; exact F.len _ _ _ _ h
  refine wpAny_call (codeAny_mono (F.run X.A X.stack s H ⟨us, ks.zip ws⟩ (g us ws) (gV vs zs) Q E hr I.env0 (hb.to s us ws I.kIn hl) r2 h) fun r s' hq => ?_)
  cases r with
  | error e => exact hx pins σ H s e s' I hq
  | ok fl =>
    cases fl with
    | ret u => exact I.after hq
    | next => exact False.elim hq
    | brk => exact False.elim hq
    | cont => exact False.elim hq
/-- f(e, .., k = v, ..) -/
theorem pe_callK (F : FnOk X.prog X.w X.K X.mg X.base CX k f fd ps sp) (hr : Room k X.A) (hg : Gl X x) (hm : X.mg x = some (.ref f)) (hk : PySem.W.keepIn X.K (.ref f) = true) (hb : KBinds X.K fd ps ks g gV) (hx : Passes CX X E)
    (ha : PA X (e :: es) t) (hkw : PK X kws tk) (hall : (backToKw pos (keywordEach kws X.env)).all (·.1.isSome) = true := by rfl) (hks : (backToKw pos (keywordEach kws X.env)).filterMap (·.1) = ks := by rfl)
    (hdb : (x == ("__debug__" : Str)) = false := by decide) (he : starEach (e :: es) X.env = (false, eval e X.env) :: starEach es X.env := by rfl)
    (hpl : ((backTo pos (starEach (e :: es) X.env)).any (·.1) || (backToKw pos (keywordEach kws X.env)).any (·.1.isNone)) = false := by rfl) :
    PE X (.Call (.Name x p) (e :: es) kws pos) (tCallK sp gV E t tk) := by
  intro pins s σ H Q I h
  refine wpAny_Call_Name_kw (ld_glob I hg hm ?_ hdb)
  refine PySem.W.callWith_KW (h₀ := X.base) I.ok.mod.kin hk hall (thn (ha pos pins s σ H _ I h) fun us s1 ⟨vs, H1, I1, r, q⟩ => ?_) hpl he
  refine thn (hkw pos pins s1 σ H1 _ I1 q) fun ws s2 ⟨zs, H2, I2, rz, q2⟩ => ⟨I2.kIn, ?_⟩
  rw [hks]
  exact run_fnk F hr hb hx I2 r rz q2
end

/-! ### a def's body keeps its promise -/
/-- names: the parameters first -/
structure FnScope (N P : List Str) (sc : Scope) : Prop where
  kind : sc.kind = .function
  co : sc.isCoroutine = false
  gen : sc.isGenerator = false
  nd : N.Nodup
  pre : N.take P.length = P
  par : ∀ x ∈ P, sc.names.lookup x = some .local ∨ sc.names.lookup x = some .cell
  nofree : ∀ y ∈ sc.names, y.2 ≠ .free

theorem bindL_out {kindOf : Str → Option NameKind} {x : Str} : ∀ {binds : List (Str × Value)} {m : Str → Option Value}, (∀ v, (x, v) ∉ binds) → bindL kindOf binds m x = m x
  | [], _, _ => rfl
  | (n, v) :: r, m, h => by
    unfold bindL
    rw [bindL_out fun w hw => h w (List.mem_cons_of_mem _ hw)]
    split
    · have : x ≠ n := by rintro rfl; exact h v List.mem_cons_self
      simp [this]
    · rfl
theorem bindC_out {kindOf : Str → Option NameKind} {x : Str} : ∀ {binds : List (Str × Value)} {m : Str → Option Value}, (∀ v, (x, v) ∉ binds) → bindC kindOf binds m x = m x
  | [], _, _ => rfl
  | (n, v) :: r, m, h => by
    unfold bindC
    rw [bindC_out fun w hw => h w (List.mem_cons_of_mem _ hw)]
    split
    · rfl
    · have : x ≠ n := by rintro rfl; exact h v List.mem_cons_self
      simp [this]
theorem bindL_get {kindOf : Str → Option NameKind} {x : Str} {v : Value} : ∀ {P : List Str} {vs : List Value} {i : Nat} {m : Str → Option Value}, P.Nodup → P[i]? = some x → vs[i]? = some v → kindOf x = some .local →
    bindL kindOf (P.zip vs) m x = some v
  | [], _, _, _, _, h, _, _ => by simp at h
  | _ :: _, [], _, _, _, _, h, _ => by simp at h
  | p :: P, w :: vs, 0, m, nd, h1, h2, hk => by
    simp at h1 h2; subst h1; subst h2
    show bindL kindOf ((p, w) :: P.zip vs) m p = _
    unfold bindL
    rw [bindL_out fun v hv => (List.nodup_cons.mp nd).1 (List.of_mem_zip hv).1, if_pos hk]
    simp
  | p :: P, w :: vs, i + 1, m, nd, h1, h2, hk => by
    show bindL kindOf ((p, w) :: P.zip vs) m x = _
    unfold bindL
    exact bindL_get (i := i) (List.nodup_cons.mp nd).2 (by simpa using h1) (by simpa using h2) hk
theorem bindC_get {kindOf : Str → Option NameKind} {x : Str} {v : Value} : ∀ {P : List Str} {vs : List Value} {i : Nat} {m : Str → Option Value}, P.Nodup → P[i]? = some x → vs[i]? = some v → kindOf x ≠ some .local →
    bindC kindOf (P.zip vs) m x = some v
  | [], _, _, _, _, h, _, _ => by simp at h
  | _ :: _, [], _, _, _, _, h, _ => by simp at h
  | p :: P, w :: vs, 0, m, nd, h1, h2, hk => by
    simp at h1 h2; subst h1; subst h2
    show bindC kindOf ((p, w) :: P.zip vs) m p = _
    unfold bindC
    rw [bindC_out fun v hv => (List.nodup_cons.mp nd).1 (List.of_mem_zip hv).1, if_neg hk]
    simp
  | p :: P, w :: vs, i + 1, m, nd, h1, h2, hk => by
    show bindC kindOf ((p, w) :: P.zip vs) m x = _
    unfold bindC
    exact bindC_get (i := i) (List.nodup_cons.mp nd).2 (by simpa using h1) (by simpa using h2) hk

/-- the names' values at the entry -/
def start (N : List Str) (vs : List V) : St := vs.map some ++ List.replicate (N.length - vs.length) none

/-- the context of a def's body, at its entry; an exception leaves the frame, then lies as CX says -/
def cxOf (CX : CXT) (P : Program) (w : World) (K : PySem.W.Frag) (mg : Str → Option Value) (base : Heap) (N : List Str) (qual : Str) (scope : Scope) (f : Addr) (cd : Value) (A : Around) (outer : List Env) (s : Shared) (H : Hp) (E : XK) : Cx where
  prog := P
  w := w
  K := K
  mg := mg
  base := base
  A := A.deeper (envOfC qual scope s.heap.objs.size f cd)
  N := N
  s₀ := s
  H₀ := H
  env := envOfC qual scope s.heap.objs.size f cd
  outer := outer
  stack := envOfC qual scope s.heap.objs.size f cd :: outer
  ex := []
  calm := true
  fn := fun _ => true
  pn := []
  xe := fun e s' => wpAny (model P w) (A.deeper (envOfC qual scope s.heap.objs.size f cd)) (leaving (envOfC qual scope s.heap.objs.size f cd) e) (fun _ s'' => CX outer H s E e s'') (fun e' s'' => CX outer H s E e' s'') s'

theorem cell_has {sc : Scope} {n : Nat} {x : Str} (h : sc.names.lookup x = some .cell) : ∃ c, (cellsFrom n sc.names []).lookup x = some c := by
  have q := PySem.W.cellsFrom_some sc.names n [] (.inl h)
  exact Option.isSome_iff_exists.mp q

theorem inv_start {CX : CXT} {P : Program} {w : World} {K : PySem.W.Frag} {mg : Str → Option Value} {base : Heap} {N ps : List Str} {qual : Str} {scope : Scope} {f : Addr} {cd : Value} {A : Around} {outer : List Env} {s s1 : Shared} {H : Hp} {E : XK} {us : List Value} {vs : List V}
    (S : FnScope N ps scope) (hd : A.handled = none) (e0 : Env0 P w K mg base A outer s H) (hl : vs.length = ps.length) (r : Vals vs us)
    (x : InCallC s s.heap.objs.size (bindL (envOfC qual scope s.heap.objs.size f cd).kindOf (ps.zip us) fun _ => none) (cellsFrom (s.heap.objs.size + 1) scope.names []) (bindC (envOfC qual scope s.heap.objs.size f cd).kindOf (ps.zip us) fun _ => none) s1) :
    Inv (cxOf CX P w K mg base N qual scope f cd A outer s H E) [] (start N vs) H s1 := by
  have hpl : ps.length ≤ N.length := by have := congrArg List.length S.pre; rw [List.length_take] at this; omega
  obtain ⟨h1, tk, rfl, hk⟩ := x.done
  have noA : ∀ b : Addr, b ∉ (cxOf CX P w K mg base N qual scope f cd A outer s H E).ex := fun b z => absurd (show b ∈ ([] : List Addr) from z) (by simp)
  refine ⟨⟨e0.mod, S.kind, rfl, rfl, Nat.le_refl _, fun y z c h1 h2 => ?_, fun y hy => ?_, fun y c _ h => ?_, fun _ => hd, Around.frames_deeper e0.frames, .inr ⟨rfl, rfl⟩, fun b z => absurd z (noA b), e0.bs, e0.bsz, fun b _ _ => noA b, fun b z => absurd z (noA b), e0.funs, e0.frf⟩,
    rfl, e0.bare, Un.kept hk, ⟨_, x.toInCall.ns, fun i y v h1 h2 h3 => ?_⟩, fun y c h => ⟨_, x.cell y c h⟩, e0.hok.fresh (Nat.le_refl _), fun y c h => ?_, fun p hp => absurd (show p ∈ ([] : List (Addr × Obj)) from hp) (by simp), e0.hok.kept hk, ?_⟩
  · exact name_of_addr x.apart (PySem.mem_of_lookup h1) (PySem.mem_of_lookup h2)
  · have hy : scope.names.lookup y = some .cell ∨ scope.names.lookup y = some .free := hy
    rcases hy with hy | hy
    · exact cell_has hy
    · exact absurd rfl (S.nofree _ (PySem.mem_of_lookup hy))
  · exact Nat.le_of_lt (x.above y c (PySem.mem_of_lookup h))
  · have hi : i < vs.length := by
      unfold start at h2
      by_cases hi : i < vs.length
      · exact hi
      · rw [List.getElem?_append_right (by simpa using hi)] at h2
        rw [List.getElem?_replicate] at h2
        split at h2 <;> cases h2
    have ha : vs[i]? = some v := by
      unfold start at h2
      rw [List.getElem?_append_left (by simpa using hi), List.getElem?_map] at h2
      cases e : vs[i]? with
      | none => rw [e] at h2; cases h2
      | some a => rw [e] at h2; cases h2; rfl
    obtain ⟨u, hu, rv⟩ := r.get ha
    have hp : ps[i]? = some y := by
      rw [← S.pre, List.getElem?_take_of_lt (by omega)]; exact h1
    have ndP : ps.Nodup := by rw [← S.pre]; exact S.nd.sublist (List.take_sublist _ _)
    refine ⟨u, rv, ?_⟩
    rcases S.par y (List.mem_of_getElem? hp) with k | k
    · exact .inl ⟨k, bindL_get ndP hp hu k⟩
    · obtain ⟨c, e⟩ := cell_has (n := s.heap.objs.size + 1) k
      refine .inr ⟨.inl k, c, e, ?_⟩
      have q := x.cell y c e
      rw [bindC_get ndP hp hu (by show scope.names.lookup y ≠ _; rw [k]; decide)] at q
      exact q
  · exact e0.hok.fresh (Nat.le_of_lt (x.above y c (PySem.mem_of_lookup h)))
  · unfold start
    show _ = N.length
    rw [List.length_append, List.length_map, List.length_replicate]
    omega

/-- THE RULE: a def (or a method) of the text, by its body. The body's reading t is chosen for each entry; it is run at the parameters' values -/
theorem fn_of {CX : CXT} {P : Program} {w : World} {K : PySem.W.Frag} {mg : Str → Option Value} {base : Heap} {k : Nat} {f : Addr} {name qual : Str} {params : Arguments} {body : List Stmt} {scope : Scope} {dV kV doc pm cdv ct oc : Value} {an od : Option Addr}
    {osl : Array (Option Value)} {N ps : List Str} {sp : Sp} (lk : K.lookup f = some ⟨oc, od, .func (PySem.W.fnOf name qual params body scope dV kV doc pm an cdv ct), osl⟩) (hcd : PySem.W.codeIn K cdv qual = true) (S : FnScope N ps scope)
    (len : ∀ vs H Q E, sp vs H Q E → vs.length = ps.length)
    (hbody : ∀ (A : Around) (outer : List Env) (s : Shared) (H : Hp) (vs : List V) (Q : VK) (E : XK), Room k (A.deeper (envOfC qual scope s.heap.objs.size f cdv)) → sp vs H Q E →
      ∃ t, PSs (cxOf CX P w K mg base N qual scope f cdv A outer s H E) body t ∧ t { nx := fun _ H' => Q .non H', rt := Q } (start N vs) H) :
    FnOk P w K mg base CX (k + 1) f (PySem.W.fnOf name qual params body scope dV kV doc pm an cdv ct) ps sp := by
  refine ⟨len, fun A outer s H args us vs Q E hr e0 hb r hsp => ?_⟩
  have hl := len _ _ _ _ hsp
  have KX : K.In s.heap := e0.mod.kin.keeps fun b o e => (e0.bs b o e).1
  have lim : s.heap.NoLimit := e0.mod.nolimit.keeps fun b o e => (e0.bs b o e).1
  have hkind : ∀ y ∈ ps.zip us, scope.names.lookup y.1 = some .local ∨ (scope.names.lookup y.1 = some .cell ∧ ((cellsFrom (s.heap.objs.size + 1) scope.names []).lookup y.1).isSome = true) := fun ⟨n, v⟩ hy => by
    rcases S.par n (List.of_mem_zip hy).1 with q | q
    · exact .inl q
    · exact .inr ⟨q, PySem.W.cellsFrom_some _ _ _ (.inl q)⟩
  refine codeAny_call_function hr.depth (KX _ _ lk) rfl S.co S.gen rfl (PySem.W.codeRec_of KX hcd) (hb _ _ _ _ ?_)
  refine wpAny_newFunctionEnv_cells S.kind hkind fun env he s1 x => ?_
  subst he
  refine ⟨lim.keeps x.toInCall.keep, codeAny_func ?_⟩
  obtain ⟨t, ht, hq⟩ := hbody A outer s H vs Q E (hr.deeper _) hsp
  have I : Inv (cxOf CX P w K mg base N qual scope f cdv A outer s H E) [] (start N vs) H s1 := inv_start S hr.hd e0 hl r x
  refine wpAny_mono (ht [] s1 (start N vs) H _ I hq) (fun fl s' hs => ?_) fun e s' hs => hs
  have fin : ∀ {σ' : St} {H' : Hp} {v : V} {u : Value}, Inv (cxOf CX P w K mg base N qual scope f cdv A outer s H E) [] σ' H' s' → RelV v u → Q v H' → CE outer P w H s Q u s' :=
    fun {σ' H' v u} J rv q => ⟨v, H', J.os, J.bare, J.base, J.hok, rv, q⟩
  cases fl with
  | ret u =>
    obtain ⟨v, σ', H', J, rv, q⟩ := hs
    exact fin J rv q
  | next =>
    obtain ⟨σ', H', J, q⟩ := hs
    exact fin (v := V.non) (u := Value.none) J rfl q
  | brk =>
    obtain ⟨_, _, _, q⟩ := hs
    exact False.elim q
  | cont =>
    obtain ⟨_, _, _, q⟩ := hs
    exact False.elim q
end L2

namespace L2
open PySem PySem.Spec PyProof.Rows
section
variable {X : Cx} {x : Str} {p pos : Pos} {e : Expr} {es : List Expr} {t : TA} {id T : String} {r : List V → Hp → VK → Prop}

def tCB (r : List V → Hp → VK → Prop) (t : TA) : TE := fun σ H Q => t σ H fun vs H1 => r vs H1 Q
/-- f(e, ..), f a built-in function -/
theorem pe_callB (hc : CallR X (.builtin id) r) (hg : Gl X x) (hm : X.mg x = none) (hv : bootBuiltins x = some (.builtin id)) (ha : PA X (e :: es) t) (hn : x ≠ "__name__" := by decide) (hdb : (x == ("__debug__" : Str)) = false := by decide)
    (he : starEach (e :: es) X.env = (false, eval e X.env) :: starEach es X.env := by rfl) (hpl : (backTo pos (starEach es X.env)).any (·.1) = false := by rfl) : PE X (.Call (.Name x p) (e :: es) [] pos) (tCB r t) := by
  intro pins s σ H Q I h
  refine wpAny_Call_Name_kw (ld_blt I hg hm hv ?_ hn hdb)
  exact PyProof.Rows.callWith_builtin1 (thn (ha pos pins s σ H _ I h) fun us s1 ⟨vs, H1, I1, r1, q1⟩ => hc pins s1 σ H1 vs us Q I1 r1 q1) he hpl
/-- T(e, ..), T a built-in type -/
theorem pe_callTy (hc : CallR X (.type T) r) (hg : Gl X x) (hm : X.mg x = none) (hv : bootBuiltins x = some (.type T)) (ha : PA X (e :: es) t) (hn : x ≠ "__name__" := by decide) (hdb : (x == ("__debug__" : Str)) = false := by decide)
    (he : starEach (e :: es) X.env = (false, eval e X.env) :: starEach es X.env := by rfl) (hpl : (backTo pos (starEach es X.env)).any (·.1) = false := by rfl) : PE X (.Call (.Name x p) (e :: es) [] pos) (tCB r t) := by
  intro pins s σ H Q I h
  refine wpAny_Call_Name_kw (ld_blt I hg hm hv ?_ hn hdb)
  exact PyProof.Rows.callWith_type1 (thn (ha pos pins s σ H _ I h) fun us s1 ⟨vs, H1, I1, r1, q1⟩ => hc pins s1 σ H1 vs us Q I1 r1 q1) he hpl
/-- T() -/
theorem pe_callTy0 (hc : CallR X (.type T) r) (hg : Gl X x) (hm : X.mg x = none) (hv : bootBuiltins x = some (.type T)) (hn : x ≠ "__name__" := by decide) (hdb : (x == ("__debug__" : Str)) = false := by decide) :
    PE X (.Call (.Name x p) [] [] pos) (tCB r tNil) := by
  intro pins s σ H Q I h
  refine wpAny_Call_Name_kw (ld_blt I hg hm hv ?_ hn hdb)
  exact PyProof.Rows.callWith_type0 (hc pins s σ H [] [] Q I .nil h)
end
end L2

namespace HT
open PySem PyProof.Rows

/-- t < u of tuples of ints -/
def lexLt : List Int → List Int → Bool
  | [], [] => false
  | [], _ :: _ => true
  | _ :: _, [] => false
  | x :: xs, y :: ys => if x = y then lexLt xs ys else decide (x < y)
theorem lexLt_cons (x y : Int) (xs ys : List Int) : lexLt (x :: xs) (y :: ys) = if x = y then lexLt xs ys else decide (x < y) := rfl
theorem lexLt_nil_nil : lexLt [] [] = false := rfl
theorem lexLt_nil_cons (y : Int) (ys : List Int) : lexLt [] (y :: ys) = true := rfl
theorem lexLt_cons_nil (x : Int) (xs : List Int) : lexLt (x :: xs) [] = false := rfl

theorem eqAt_int (A : Around) (s : Shared) (a : Int) (t : Tok) (c : Int) (u : Tok) : ∃ e, SeqAt.EqAt A s (.int a t) (.int c u) e ∧ (e = true ↔ a = c) :=
  ⟨(a == c), SeqAt.EqAt.int_int a t c u, by simp⟩
theorem rcLt_int (A : Around) (s : Shared) (a : Int) (t : Tok) (c : Int) (u : Tok) (prog : Program) (w : World) (E : Value → Shared → Prop) (Q : Value → Shared → Prop) (h : Q (.bool (decide (a < c))) s) :
    wpAny (model prog w) A (richCompare .Lt (.int a t) (.int c u)) Q E s :=
  (PyProof.Rows.lt_int h : wpAny (model prog w) A (compareOp .Lt (.int a t) (.int c u)) Q E s)

section
open PySem.SeqAt
open PySem.AutoSeq1 (wpAny_loadPart')
open PySem.MeetsSeq PySem.MeetsSeq2 PySem.MeetsSeq3

theorem tuple_lt_ints (l b : Addr) (items items2 : Array Value) (n n2 : Nat) (dd dd2 : Option Addr) (sl sl2 : Array (Option Value)) (ns ms : List Int) (hi : IntsAre items.toList ns) (hj : IntsAre items2.toList ms) :
    Meets (Builtin.«tuple.__lt__» ⟨[.ref l, .ref b], []⟩)
      (fun _ R s => s.heap.get? l = some { cls := .type "tuple", dict := dd, data := .seq items n, slots := sl } ∧ s.heap.get? b = some { cls := .type "tuple", dict := dd2, data := .seq items2 n2, slots := sl2 } ∧
        R (.ok (.ret (.bool (lexLt ns ms)))) s) :=
  .of_wp fun prog w A R s h => by
    obtain ⟨hp, g, d, tk, os⟩ := s; obtain ⟨hl, hb, h⟩ := h
    have f2 := AutoSeq1.sub_tuple_tuple
    have z1 : items.size = ns.length := by rw [← hi.length]; simp
    have z2 : items2.size = ms.length := by rw [← hj.length]; simp
    wp_walk using wpAny_loadPart' hl, wpAny_loadPart' hb, wpAny_forIn_list _ (fun rest b s' => b.1 = none ∧ s' = ⟨hp, g, d, tk, os⟩ ∧ ∃ (vs ws : List Value) (ns' ms' : List Int), rest = vs.zip ws ∧
      IntsAre vs ns' ∧ IntsAre ws ms' ∧ ns'.length + items2.size = ms'.length + items.size ∧ R (.ok (.ret (.bool (lexLt ns' ms')))) ⟨hp, g, d, tk, os⟩) _
    case turn =>
      rintro ⟨y, x⟩ rest b s' ⟨hb', rfl, vs, ws, ns', ms', hz, hvi, hwi, hlen, hR⟩
      cases hvi with
      | nil => rw [List.zip_nil_left] at hz; cases hz
      | cons a t hvi' =>
        cases hwi with
        | nil => rw [List.zip_nil_right] at hz; cases hz
        | cons c u hwi' =>
          rw [List.zip_cons_cons] at hz
          injection hz with hyx hrest
          injection hyx with hy hx
          subst hy hx
          rw [lexLt_cons] at hR
          simp only [List.length_cons] at hlen
          obtain ⟨e, he, hiff⟩ := eqAt_int A.in1 ⟨hp, g, d, tk, os⟩ a t c u
          refine wpAny_bind (he prog w _ _ ?_)
          cases e with
          | true =>
            rw [if_pos (hiff.mp rfl)] at hR
            wp_walk
            exact ⟨rfl, rfl, _, _, _, _, hrest, hvi', hwi', by omega, hR⟩
          | false =>
            rw [if_neg (fun q => absurd (hiff.mpr q) Bool.false_ne_true)] at hR
            have hri := rcLt_int A.in1 ⟨hp, g, d, tk, os⟩ a t c u prog w
            wp_walk using hri
            exact ⟨_, rfl, by simpa using hR⟩
    case fin =>
      rintro ⟨b1, b2⟩ s' ⟨hb', rfl, vs, ws, ns', ms', hz, hvi, hwi, hlen, hR⟩
      simp only at hb'
      subst hb'
      have hv : lexLt ns' ms' = decide (items.size < items2.size) := by
        cases hvi with
        | nil =>
          cases hwi with
          | nil =>
            simp only [List.length_nil] at hlen
            rw [lexLt_nil_nil]
            exact (decide_eq_false (by omega)).symm
          | cons c u hw =>
            simp only [List.length_nil, List.length_cons] at hlen
            rw [lexLt_nil_cons]
            exact (decide_eq_true (by omega)).symm
        | cons a t hv =>
          cases hwi with
          | nil =>
            simp only [List.length_nil, List.length_cons] at hlen
            rw [lexLt_cons_nil]
            exact (decide_eq_false (by omega)).symm
          | cons c u hw =>
            rw [List.zip_cons_cons] at hz
            cases hz
      rw [hv] at hR
      wp_walk
      exact ⟨_, rfl, by simpa [Builtin.Tuple.tupleCompareSizes] using hR⟩
    case h =>
      exact ⟨rfl, rfl, items.toList, items2.toList, ns, ms, rfl, hi, hj, by omega, h⟩
end

section
variable {prog : Program} {w : World} {A : Around} {E : Value → Shared → Prop} {s : Shared}

theorem lt_tupInts {l b : Addr} {items items2 : Array Value} {ns ms : List Int} {Q : Value → Shared → Prop} (hl : IsTup s.heap l items) (hb : IsTup s.heap b items2) (hi : IntsAre items.toList ns) (hj : IntsAre items2.toList ms)
    (hu : A.units < cLine) (h : Q (.bool (lexLt ns ms)) s) : wpAny (model prog w) A (compareOp .Lt (.ref l) (.ref b)) Q E s := by
  obtain ⟨⟨cls, dd, data, sl⟩, ho, hc, n, hd⟩ := id hl
  obtain ⟨⟨cls2, dd2, data2, sl2⟩, ho2, hc2, n2, hd2⟩ := id hb
  simp only at hc hd hc2 hd2
  subst hc hd hc2 hd2
  exact richCompare_meets_room (op := .Lt) ⟨_, ho, rfl⟩ ⟨_, ho2, rfl⟩ PySem.F.slot_tuple_lt PySem.F.entry_tuple_lt (PySem.F.args_tuple_lt_2 _ _) (tuple_lt_ints l b items items2 n n2 dd dd2 sl sl2 ns ms hi hj)
    ⟨ho, ho2, show Value.bool (lexLt ns ms) ≠ Value.notImplemented ∧ Q (.bool (lexLt ns ms)) s from ⟨(fun x => nomatch x), h⟩⟩ hu

/-- t + u, t not empty -/
theorem cat_tup {t b : Addr} {vs ws : List Value} {Q : Value → Shared → Prop} (ht : IsTup s.heap t vs.toArray) (hb : IsTup s.heap b ws.toArray) (hv : vs ≠ [])
    (h1 : ws = [] → Q (.ref t) s) (h2 : ws ≠ [] → Q (.ref s.heap.objs.size) { s with heap := s.heap.push { cls := .type "tuple", data := .seq (vs ++ ws).toArray } })
    (hsz : vs.length + ws.length ≤ sizeLine) : wpAny (model prog w) A (binaryOp .Add (.ref t) (.ref b)) Q E s := by
  obtain ⟨⟨cls, dd, data, sl⟩, ho, hc, n, hd⟩ := id ht
  obtain ⟨⟨cls2, dd2, data2, sl2⟩, ho2, hc2, n2, hd2⟩ := id hb
  simp only at hc hd hc2 hd2
  subst hc hd hc2 hd2
  have e : vs.toArray ++ ws.toArray = (vs ++ ws).toArray := by simp
  by_cases hw : ws = []
  · exact concat_meets ⟨_, ho, rfl⟩ ⟨_, ho2, rfl⟩ noFill_tuple_add seq_tuple_add PySem.F.slot_tuple_add PySem.F.entry_tuple_add (PySem.F.args_tuple_add_2 _ _)
      (tuple_addW1 t b vs.toArray ws.toArray n n2 dd dd2 sl sl2 (by simpa using hv) (by simp [hw])) ⟨ho, ho2, h1 hw⟩
  · refine concat_meets ⟨_, ho, rfl⟩ ⟨_, ho2, rfl⟩ noFill_tuple_add seq_tuple_add PySem.F.slot_tuple_add PySem.F.entry_tuple_add (PySem.F.args_tuple_add_2 _ _)
      (tuple_addW2 t b vs.toArray ws.toArray n n2 dd dd2 sl sl2 (by simpa using hv) (by simpa using hw) (by rw [List.size_toArray, List.size_toArray]; exact hsz)) ⟨ho, ho2, ?_⟩
    rw [e]
    exact h2 hw

/-! ### t[a:b], not the whole -/
/-- a slice's bound as a place among n (d where it is left out) -/
def sIx (n d : Nat) : Option Int → Nat
  | none => d
  | some v => if v < 0 then (v + (n : Int)).toNat else min v.toNat n
theorem sIx_none (n d : Nat) : sIx n d none = d := rfl
theorem sIx_nat (n d k : Nat) : sIx n d (some (k : Int)) = min k n := by
  show (if (k : Int) < 0 then ((k : Int) + (n : Int)).toNat else min (k : Int).toNat n) = min k n
  rw [if_neg (by omega), Int.toNat_natCast]
theorem sIx_le (n d : Nat) (hd : d ≤ n) (o : Option Int) : sIx n d o ≤ n := by
  cases o with
  | none => exact hd
  | some v =>
    show (if v < 0 then (v + (n : Int)).toNat else min v.toNat n) ≤ n
    by_cases hv : v < 0
    · rw [if_pos hv]; omega
    · rw [if_neg hv]; exact Nat.min_le_right _ _
theorem clip_eq (v : Int) (n d : Nat) : (if v < 0 then max (v + (n : Int)) 0 else min v (n : Int)) = ((sIx n d (some v) : Nat) : Int) := by
  show (if v < 0 then max (v + (n : Int)) 0 else min v (n : Int)) = (((if v < 0 then (v + (n : Int)).toNat else min v.toNat n) : Nat) : Int)
  by_cases hv : v < 0
  · simp only [if_pos hv]; omega
  · simp only [if_neg hv]; omega
theorem adjust_gen (lo hi : Option Int) (n : Nat) : Builtin.Slice.sliceAdjust lo hi 1 (n : Int) = (((sIx n 0 lo : Nat) : Int), ((sIx n n hi : Nat) : Int)) := by
  have h1 : ¬ ((1 : Int) < 0) := by omega
  unfold Builtin.Slice.sliceAdjust
  simp only [h1, if_false]
  refine Prod.ext ?_ ?_
  · cases lo with
    | none => rfl
    | some v => exact clip_eq v n 0
  · cases hi with
    | none => rfl
    | some v => exact clip_eq v n n
theorem places_gen (i j : Nat) : Builtin.Slice.slicePlaces (i : Int) (j : Int) 1 = j - i := by
  unfold Builtin.Slice.slicePlaces
  have h1 : (1 : Int) > 0 := by omega
  simp only [h1, if_true, Int.ediv_one]
  split <;> omega
theorem slicePart_ {v : Value} {o : Option Int} {Q : Option Int → Shared → Prop} (p : IsPart v o) (h : Q o s) : wpAny (model prog w) A (Builtin.Slice.slicePartIndex v) Q E s := by
  cases p with
  | none => exact slicePart_none h
  | int i t => exact slicePart_int h
theorem sliceApplied_gen {sl : Addr} {vl vu : Value} {lo hi : Option Int} {n : Nat} {Q : Int × Int × Nat → Shared → Prop} (hs : s.heap.IsSliceOf sl vl vu .none) (pl : IsPart vl lo) (pu : IsPart vu hi)
    (h : Q (((sIx n 0 lo : Nat) : Int), 1, sIx n n hi - sIx n 0 lo) s) : wpAny (model prog w) A (Builtin.Slice.sliceApplied (.ref sl) (pure (n : Int))) Q E s := by
  obtain ⟨os, hos, hcs, hds⟩ := id hs
  unfold Builtin.Slice.sliceApplied Builtin.Slice.sliceFields
  refine wpAny_bind (wpAny_bind (wpAny_field hos hds (x := vl) rfl (wpAny_bind (wpAny_field hos hds (x := vu) rfl (wpAny_bind (wpAny_field hos hds (x := .none) rfl (wpAny_pure ?_)))))))
  refine wpAny_bind (slicePart_none ?_)
  show wpAny _ _ (if ((1 : Int) == 0) = true then _ else _) _ _ s
  rw [if_neg (by decide)]
  refine wpAny_bind (slicePart_ pl (wpAny_bind (slicePart_ pu (wpAny_bind (wpAny_pure ?_)))))
  show wpAny _ _ (match Builtin.Slice.sliceAdjust lo hi 1 (n : Int) with | (lo, hi) => pure (lo, (1 : Int), Builtin.Slice.slicePlaces lo hi 1)) _ _ s
  rw [adjust_gen lo hi n]
  show wpAny _ _ (pure (((sIx n 0 lo : Nat) : Int), (1 : Int), Builtin.Slice.slicePlaces ((sIx n 0 lo : Nat) : Int) ((sIx n n hi : Nat) : Int) 1)) _ _ s
  rw [places_gen]
  exact wpAny_pure h
theorem pick_gen (xs : Array Value) (i k : Nat) : ((List.range k).filterMap fun (m : Nat) => xs[((i : Int) + (m : Int) * 1).toNat]?).toArray = ((xs.toList.drop i).take k).toArray := by
  have e : (fun (m : Nat) => xs[((i : Int) + (m : Int) * 1).toNat]?) = fun m => xs[i + m]? := by
    funext m
    have : ((i : Int) + (m : Int) * 1).toNat = i + m := by omega
    rw [this]
  rw [e]
  have := pick_run xs i k
  rw [List.filterMap_map] at this
  have e2 : ((fun x => xs[x]?) ∘ fun x => i + x) = fun m => xs[i + m]? := rfl
  rw [e2] at this
  rw [this]

theorem getItem_tuple_cut {t sl : Addr} {items : Array Value} {vl vu : Value} {lo hi : Option Int} {Q : Value → Shared → Prop} (ht : IsTup s.heap t items) (hs : s.heap.IsSliceOf sl vl vu .none) (pl : IsPart vl lo) (pu : IsPart vu hi)
    (hw : ¬ (sIx items.size 0 lo = 0 ∧ sIx items.size items.size hi = items.size))
    (h : Q (.ref s.heap.objs.size) { s with heap := s.heap.push { cls := .type "tuple", data := .seq ((items.toList.drop (sIx items.size 0 lo)).take (sIx items.size items.size hi - sIx items.size 0 lo)).toArray } })
    (hsz : items.size ≤ sizeLine) : wpAny (model prog w) A (getItem (.ref t) (.ref sl)) Q E s := by
  have htake : sizeOk (.seq ((items.toList.drop (sIx items.size 0 lo)).take (sIx items.size items.size hi - sIx items.size 0 lo)).toArray) := by
    show ((items.toList.drop (sIx items.size 0 lo)).take (sIx items.size items.size hi - sIx items.size 0 lo)).toArray.size ≤ sizeLine
    rw [List.size_toArray, List.length_take, List.length_drop, Array.length_toList]
    omega
  have hj : sIx items.size items.size hi ≤ items.size := sIx_le _ _ (Nat.le_refl _) hi
  obtain ⟨os, hos, hcs, hds⟩ := id hs
  have hTs : s.TypeIs (.ref sl) "slice" := ⟨os, hos, hcs⟩
  unfold getItem
  try with_reducible refine wpAny_holding ?_
  first | refine wpAny_bind (wpAny_pure ?_) | skip
  refine wpAny_bind (wpAny_sequenceKey ht.typeIs (by decide) ?_)
  refine wpAny_bind (wpAny_callSpecial?_slot (name := Str.ofString "__getitem__") ht.typeIs PyProof.Rows.slot_tuple_getitem
    (wpAny_call_entry PyProof.Rows.slot_tuple_getitem ht.typeIs entry_tuple_getitem ?_ (args_tuple_getitem _ _)))
  show wpAny _ _ (Builtin.Tuple.tupleItemsOf (.ref t) >>= _) _ _ s
  refine wpAny_bind (tupleItemsOf_ ht ?_)
  refine wpAny_bind (wpAny_typeOf hTs ?_)
  rw [if_pos (by decide)]
  refine wpAny_bind (sliceApplied_gen hs pl pu ?_)
  have hno : ¬ ((((sIx items.size 0 lo : Nat) : Int) == 0 && (1 : Int) == 1 && (sIx items.size items.size hi - sIx items.size 0 lo) == items.size) = true) := by
    intro q
    rw [Bool.and_eq_true, Bool.and_eq_true] at q
    have q1 : ((sIx items.size 0 lo : Nat) : Int) = 0 := eq_of_beq q.1.1
    have q2 : sIx items.size items.size hi - sIx items.size 0 lo = items.size := eq_of_beq q.2
    exact hw ⟨by omega, by omega⟩
  show wpAny _ _ (if (((sIx items.size 0 lo : Nat) : Int) == 0 && (1 : Int) == 1 && (sIx items.size items.size hi - sIx items.size 0 lo) == items.size) = true then _ else _) _ _ s
  rw [if_neg hno, pick_gen]
  first
    | exact wpAny_bind (m := Builtin.Tuple.tupleExact _) (wpAny_newObj_type (wpAny_pure ⟨_, rfl, wpAny_pure h⟩) htake)
    | exact wpAny_bind (m := Builtin.Tuple.tupleExact _) (wpAny_newObj_type (wpAny_bind (wpAny_pure (wpAny_pure ⟨_, rfl, wpAny_pure h⟩))) htake)
    | exact wpAny_bind (wpAny_bind (m := Builtin.Tuple.tupleExact _) (wpAny_newObj_type (wpAny_pure (wpAny_pure ⟨_, rfl, wpAny_pure h⟩)) htake))
    | exact wpAny_bind (wpAny_bind (m := Builtin.Tuple.tupleExact _) (wpAny_newObj_type (wpAny_pure ⟨_, rfl, wpAny_pure h⟩) htake))
end
end HT

namespace L2
open PySem PySem.Spec PyProof.Rows

/-! ### the parts of a slice -/
abbrev TO := St → Hp → (Option Int → Hp → Prop) → Prop
/-- a slice's part (left out, or an int) -/
def PO (X : Cx) (e : Option Expr) (t : TO) : Prop :=
  ∀ (pins : List (Addr × Obj)) (s : Shared) (σ : St) (H : Hp) (Q : Option Int → Hp → Prop), Inv X pins σ H s → t σ H Q →
    wpAny (model X.prog X.w) X.A (evalPart e X.env) (fun u s' => ∃ o H', Inv X pins σ H' s' ∧ IsPart u o ∧ Q o H') X.xe s
def tNoPart : TO := fun _ H Q => Q none H
def tPart (t : TE) : TO := fun σ H Q => t σ H fun x H1 => ∃ i, x = .int i ∧ Q (some i) H1

theorem intsAre_of {ns : List Int} : ∀ {us : List Value}, Vals (ns.map V.int) us → IntsAre us ns := by
  induction ns with
  | nil => intro us r; rw [List.map_nil] at r; cases r; exact .nil
  | cons n ns ih =>
    intro us r
    rw [List.map_cons] at r
    cases r with
    | cons r1 r2 =>
      obtain ⟨t, e⟩ := r1
      subst e
      exact .cons n t (ih r2)

section
variable {X : Cx} {e : Expr} {te : TE} {lo hi : Option Expr} {tl th : TO} {pos p2 : Pos}

theorem po_none : PO X none tNoPart := by
  intro pins s σ H Q I h
  rw [evalPart_none]
  exact wpAny_pure ⟨none, H, I, .none, h⟩
theorem po_some (h : PE X e te) : PO X (some e) (tPart te) := by
  intro pins s σ H Q I hw
  rw [evalPart_some]
  refine thn (h pins s σ H _ I hw) fun u s1 ⟨x, H1, I1, r1, q1⟩ => ?_
  obtain ⟨i, rfl, q⟩ := q1
  obtain ⟨t, rfl⟩ := r1
  exact ⟨some i, H1, I1, .int i t, q⟩

/-- what a slice of a value is, by values: the slice object stands at sl -/
def SlR (X : Cx) (r : V → Option Int → Option Int → Hp → VK → Prop) : Prop :=
  ∀ (pins : List (Addr × Obj)) (s : Shared) (σ : St) (H : Hp) (x : V) (v vl vu : Value) (lo hi : Option Int) (sl : Addr) (Q : VK), Inv X pins σ H s → RelV x v → s.heap.IsSliceOf sl vl vu .none → IsPart vl lo → IsPart vu hi → r x lo hi H Q →
    ∃ T id, typeLookup (.type T) "__getitem__" = pure (some (.builtin id)) ∧ s.TypeIs v T ∧ wpAny (model X.prog X.w) X.A (getItem v (.ref sl)) (EP X pins σ Q) X.xe s
theorem SlR.or {r r' : V → Option Int → Option Int → Hp → VK → Prop} (h : SlR X r) (h' : SlR X r') : SlR X (fun x lo hi H Q => r x lo hi H Q ∨ r' x lo hi H Q) := by
  intro pins s σ H x v vl vu lo hi sl Q I rx hs pl pu q
  rcases q with q | q
  · exact h pins s σ H x v vl vu lo hi sl Q I rx hs pl pu q
  · exact h' pins s σ H x v vl vu lo hi sl Q I rx hs pl pu q
def tSl (r : V → Option Int → Option Int → Hp → VK → Prop) (te : TE) (tl th : TO) : TE := fun σ H Q => te σ H fun x H1 => tl σ H1 fun l H2 => th σ H2 fun u H3 => r x l u H3 Q
/-- a[lo:hi], any a -/
theorem pe_slice {r : V → Option Int → Option Int → Hp → VK → Prop} (hr : SlR X r) (he : PE X e te) (hl : PO X lo tl) (hu : PO X hi th) : PE X (.Subscript e (.Slice lo hi none p2) pos) (tSl r te tl th) := by
  intro pins s σ H Q I h
  refine Subscript_ (thn (he pins s σ H _ I h) fun v s1 ⟨x, H1, I1, r1, q1⟩ => ?_)
  refine wpAny_Slice (thn (hl pins s1 σ H1 _ I1 q1) fun vl s2 ⟨l, H2, I2, pl, q2⟩ => thn (hu pins s2 σ H2 _ I2 q2) fun vu s3 ⟨u, H3, I3, pu, q3⟩ => ?_)
  rw [evalPart_none]
  refine wpAny_pure ?_
  have I4 : Inv X pins σ H3 { s3 with heap := s3.heap.push { cls := .type "slice", data := .fields #[vl, vu, .none] } } := I3.kept (t' := s3.toks) fun b ob q => Heap.get?_push_of_some _ q
  obtain ⟨T, id, hT, ht, hg⟩ := hr pins { s3 with heap := s3.heap.push { cls := .type "slice", data := .fields #[vl, vu, .none] } } σ H3 x v vl vu l u s3.heap.objs.size Q I4 r1 (Heap.IsSliceOf.new ..) pl pu q3
  show wpAny (model X.prog X.w) X.A (subscriptTail e (.Slice lo hi none p2) v (.ref s3.heap.objs.size)) (EP X pins σ Q) X.xe { s3 with heap := s3.heap.push { cls := .type "slice", data := .fields #[vl, vu, .none] } }
  exact tail_any (ops := [.ref s3.heap.objs.size, v]) ht hT hg (by with_unfolding_all rfl)

/-- the items of xs[lo:hi] -/
def cutV (xs : List V) (lo hi : Option Int) : List V := (xs.drop (HT.sIx xs.length 0 lo)).take (HT.sIx xs.length xs.length hi - HT.sIx xs.length 0 lo)
theorem cutV_length (xs : List V) (lo hi : Option Int) : (cutV xs lo hi).length ≤ xs.length := by
  unfold cutV
  rw [List.length_take, List.length_drop]
  omega
/-- t[lo:hi], not the whole of it (the whole would be t itself) -/
def rSlT (K : PySem.W.Frag) : V → Option Int → Option Int → Hp → VK → Prop := fun x lo hi H Q => ∃ a xs, x = .ref a ∧ SqT K H a xs ∧
  ¬ (HT.sIx xs.length 0 lo = 0 ∧ HT.sIx xs.length xs.length hi = xs.length) ∧ ∀ p, H p = none → Q (.ref p) (upd H p (.tup (cutV xs lo hi)))
theorem sl_tup : SlR X (rSlT X.K) := by
  intro pins s σ H x v vl vu lo hi sl Q I rx hs pl pu h
  obtain ⟨a, xs, rfl, hx, hw, q⟩ := h
  cases rx
  obtain ⟨its, r, ht, hz⟩ := I.tuple hx
  have hlen : its.toArray.size = xs.length := by rw [List.size_toArray]; exact r.length.symm
  refine ⟨"tuple", _, PyProof.Rows.slot_tuple_getitem.lookup, ht.typeIs, ?_⟩
  refine HT.getItem_tuple_cut ht hs pl pu (by rw [hlen]; exact hw) ?_ (by rw [hlen]; exact hz)
  rw [hlen]
  refine ⟨.ref s.heap.objs.size, _, I.laid (t' := s.toks) (o := .tup (cutV xs lo hi)) (fun b ob q => Heap.get?_push_of_some _ q) (Nat.le_refl _) ?_, rfl, q _ (I.hok.fresh (Nat.le_refl _))⟩
  exact ⟨Nat.le_trans (cutV_length xs lo hi) hz, _, (r.drop (HT.sIx xs.length 0 lo)).take (HT.sIx xs.length xs.length hi - HT.sIx xs.length 0 lo), IsTup.new _ _⟩

/-! ### t < u, t + u -/
def rLtT (K : PySem.W.Frag) : R2 := fun x y H Q => ∃ a b ns ms, x = .ref a ∧ y = .ref b ∧ SqT K H a (ns.map V.int) ∧ SqT K H b (ms.map V.int) ∧ Q (.bl (HT.lexLt ns ms)) H
theorem op_ltT (hu : X.A.units < cLine) : OpR X (compareOp .Lt) (rLtT X.K) := by
  intro pins s σ H x y v u Q I rx ry h
  obtain ⟨a, b, ns, ms, rfl, rfl, ha, hb, q⟩ := h
  cases rx
  cases ry
  obtain ⟨its, r1, p1, _⟩ := I.tuple ha
  obtain ⟨its2, r2, p2, _⟩ := I.tuple hb
  have i1 : IntsAre its.toArray.toList ns := intsAre_of r1
  have i2 : IntsAre its2.toArray.toList ms := intsAre_of r2
  exact HT.lt_tupInts p1 p2 i1 i2 hu ⟨.bl (HT.lexLt ns ms), H, I, rfl, q⟩
/-- t + u, t not empty: u empty gives t itself -/
def rCatT (K : PySem.W.Frag) : R2 := fun x y H Q => ∃ a b xs ys, x = .ref a ∧ y = .ref b ∧ SqT K H a xs ∧ SqT K H b ys ∧ xs ≠ [] ∧ xs.length + ys.length ≤ sizeLine ∧
  (ys = [] → Q (.ref a) H) ∧ (ys ≠ [] → ∀ p, H p = none → Q (.ref p) (upd H p (.tup (xs ++ ys))))
theorem Vals.nil_iff {xs : List V} {us : List Value} (r : Vals xs us) : us = [] ↔ xs = [] := by
  cases r with
  | nil => simp
  | cons _ _ => simp
theorem op_catT : OpR X (binaryOp .Add) (rCatT X.K) := by
  intro pins s σ H x y v u Q I rx ry h
  obtain ⟨a, b, xs, ys, rfl, rfl, ha, hb, hx, hz, q1, q2⟩ := h
  cases rx
  cases ry
  obtain ⟨its, r1, p1, _⟩ := I.tuple ha
  obtain ⟨its2, r2, p2, _⟩ := I.tuple hb
  refine HT.cat_tup p1 p2 (fun z => hx (r1.nil_iff.mp z)) (fun z => ⟨.ref a, H, I, rfl, q1 (r2.nil_iff.mp z)⟩) (fun z => ?_) (by rw [← r1.length, ← r2.length]; exact hz)
  refine ⟨.ref s.heap.objs.size, _, I.laid (t' := s.toks) (o := .tup (xs ++ ys)) (fun b ob q => Heap.get?_push_of_some _ q) (Nat.le_refl _) ?_, rfl, q2 (fun w => z (r2.nil_iff.mpr w)) _ (I.hok.fresh (Nat.le_refl _))⟩
  exact ⟨by rw [List.length_append]; exact hz, _, r1.append r2, IsTup.new _ _⟩
/-- tuple(t) -/
theorem call_tupleT : CallR X (.type "tuple") (fun xs H Q => ∃ a ys, xs = [.ref a] ∧ SqT X.K H a ys ∧ Q (.ref a) H) := by
  intro pins s σ H xs us Q I r h
  obtain ⟨a, ys, rfl, ha, q⟩ := h
  obtain ⟨u, rfl, ru⟩ := vals1 r
  cases ru
  obtain ⟨its, _, p1, _⟩ := I.tuple ha
  exact call_tuple_same (items := its.toArray) p1 ⟨.ref a, H, I, rfl, q⟩
end
end L2

namespace L2
open PySem PySem.Spec PyProof.Rows

/-! ### places -/
/-- the place that an index of any sign means -/
def ixN (n : Nat) (i : Int) : Option Nat := if 0 ≤ i then (if i < n then some i.toNat else none) else if -(n : Int) ≤ i then some (i + n).toNat else none
def atI {α : Type} (xs : List α) (i : Int) : Option α := (ixN xs.length i).bind fun j => xs[j]?
theorem ixN_seq {n : Nat} {i : Int} {j : Nat} (h : ixN n i = some j) : seqIndex? i n = some j ∧ j < n ∧ -(n : Int) ≤ i ∧ i < n := by
  unfold ixN at h
  by_cases h0 : 0 ≤ i
  · rw [if_pos h0] at h
    by_cases h1 : i < n
    · rw [if_pos h1] at h
      have e : i.toNat = j := Option.some.inj h
      exact ⟨by rw [seqIndex_of h0 h1, e], by omega, by omega, h1⟩
    · rw [if_neg h1] at h; cases h
  · rw [if_neg h0] at h
    by_cases h1 : -(n : Int) ≤ i
    · rw [if_pos h1] at h
      have e : (i + n).toNat = j := Option.some.inj h
      exact ⟨by rw [seqIndex_neg (by omega) h1, e], by omega, h1, by omega⟩
    · rw [if_neg h1] at h; cases h
theorem atI_get {α : Type} {xs : List α} {i : Int} {v : α} (h : atI xs i = some v) : ∃ j, seqIndex? i xs.length = some j ∧ xs[j]? = some v ∧ j < xs.length ∧ -(xs.length : Int) ≤ i ∧ i < xs.length := by
  unfold atI at h
  cases e : ixN xs.length i with
  | none => rw [e] at h; cases h
  | some j =>
    rw [e] at h
    obtain ⟨h1, h2, h3, h4⟩ := ixN_seq e
    exact ⟨j, h1, h, h2, h3, h4⟩
theorem atI_nat {α : Type} {xs : List α} {j : Nat} {v : α} (h : xs[j]? = some v) : atI xs (j : Int) = some v := by
  have hj : j < xs.length := (List.getElem?_eq_some_iff.mp h).1
  have e : ixN xs.length (j : Int) = some j := by
    unfold ixN
    rw [if_pos (by omega), if_pos (by omega)]; simp
  unfold atI; rw [e]; exact h
theorem atI_last {α : Type} (xs : List α) (v : α) : atI (xs ++ [v]) (-1) = some v := by
  have hl : (xs ++ [v]).length = xs.length + 1 := by simp
  have e : ixN (xs ++ [v]).length (-1) = some xs.length := by
    unfold ixN
    rw [hl, if_neg (by decide), if_pos (by omega)]
    congr 1
    omega
  unfold atI
  rw [e]
  show (xs ++ [v])[xs.length]? = some v
  simp

/-! ### what may be subscripted -/
/-- what stands as an index of a plain subscript -/
def PlainIx (b : Expr) : Prop := ∀ o i, subscripted b false o i = operate [o, i] (getItem o i)
/-- a subscript by values -/
def IxR (X : Cx) (r : R2) : Prop :=
  ∀ (value slice : Expr) (pins : List (Addr × Obj)) (s : Shared) (σ : St) (H : Hp) (x y : V) (v u : Value) (Q : VK), Inv X pins σ H s → RelV x v → RelV y u → r x y H Q →
    subscripted slice false v u = operate [v, u] (getItem v u) → wpAny (model X.prog X.w) X.A (subscriptTail value slice v u) (EP X pins σ Q) X.xe s
/-- a call of a builtin's method by values: the receiver, the arguments -/
def MtR (X : Cx) (id : String) (r : V → List V → Hp → VK → Prop) : Prop :=
  ∀ (pins : List (Addr × Obj)) (s : Shared) (σ : St) (H : Hp) (x : V) (xs : List V) (v : Value) (us : List Value) (Q : VK), Inv X pins σ H s → RelV x v → Vals xs us → r x xs H Q →
    wpAny (model X.prog X.w) X.A (call (.builtin id) (v :: us)) (EP X pins σ Q) X.xe s
section
variable {X : Cx} {a b : Expr} {ta tb : TE} {pos : Pos}
theorem IxR.or {r r' : R2} (h : IxR X r) (h' : IxR X r') : IxR X (fun x y H Q => r x y H Q ∨ r' x y H Q) := by
  intro value slice pins s σ H x y v u Q I rx ry q hs
  rcases q with q | q
  · exact h value slice pins s σ H x y v u Q I rx ry q hs
  · exact h' value slice pins s σ H x y v u Q I rx ry q hs
theorem MtR.or {id : String} {r r' : V → List V → Hp → VK → Prop} (h : MtR X id r) (h' : MtR X id r') : MtR X id (fun x xs H Q => r x xs H Q ∨ r' x xs H Q) := by
  intro pins s σ H x xs v us Q I rx rs q
  rcases q with q | q
  · exact h pins s σ H x xs v us Q I rx rs q
  · exact h' pins s σ H x xs v us Q I rx rs q
/-- a[b] -/
theorem pe_ix {r : R2} (hr : IxR X r) (ha : PE X a ta) (hb : PE X b tb) (hs : PlainIx b) : PE X (.Subscript a b pos) (tOp r ta tb) := by
  intro pins s σ H Q I h
  exact Subscript_ (binT ha hb I h fun v u s2 x y H2 I2 rx ry q => hr a b pins s2 σ H2 x y v u Q I2 rx ry q (hs _ _))

def rIxL (K : PySem.W.Frag) : R2 := fun x y H Q => ∃ p xs i v, x = .ref p ∧ y = .int i ∧ SqL K H p xs ∧ atI xs i = some v ∧ Q v H
def rIxT (K : PySem.W.Frag) : R2 := fun x y H Q => ∃ p xs i v, x = .ref p ∧ y = .int i ∧ SqT K H p xs ∧ atI xs i = some v ∧ Q v H
def rIxS : R2 := fun x y H Q => ∃ z i c, x = .str z ∧ y = .int i ∧ z.length ≤ sizeLine ∧ atI z.cps.toList i = some c ∧ Q (.str ⟨#[c]⟩) H
theorem ix_list : IxR X (rIxL X.K) := by
  intro value slice pins s σ H x y v u Q I rx ry h hs
  obtain ⟨p, xs, i, z, rfl, rfl, hq, he, q⟩ := h
  cases rx
  obtain ⟨t, rfl⟩ := ry
  obtain ⟨its, r, pl, hz⟩ := I.list hq
  obtain ⟨j, h1, h2, h3, h4, h5⟩ := atI_get he
  obtain ⟨w, ew, rw'⟩ := r.get h2
  have hl := r.length
  have hn := line63
  have fin : EP X pins σ Q w s := ⟨z, H, I, rw', q⟩
  by_cases h0 : 0 ≤ i
  · have hj : i.toNat = j := by
      rw [seqIndex_of h0 h5] at h1
      exact Option.some.inj h1
    exact item_listR pl.isList h0 (by omega) (by rw [hj]; simpa using ew) fin hs
  · have hj : (i + (its.toArray.size : Int)).toNat = j := by
      rw [seqIndex_neg (by omega) h4] at h1
      rw [List.size_toArray, ← hl]
      exact Option.some.inj h1
    exact subscriptTail_builtinR (x := w) pl.isList.typeIs slot_list_getitem.lookup
      (wpAny_getItem_list_neg (Q := fun r s' => r = w ∧ EP X pins σ Q r s') pl.isList (by omega) (by rw [List.size_toArray] <;> omega) (by omega) (by rw [hj]; simpa using ew) ⟨rfl, fin⟩) hs
theorem ix_tup : IxR X (rIxT X.K) := by
  intro value slice pins s σ H x y v u Q I rx ry h hs
  obtain ⟨p, xs, i, z, rfl, rfl, hq, he, q⟩ := h
  cases rx
  obtain ⟨t, rfl⟩ := ry
  obtain ⟨its, r, pl, hz⟩ := I.tuple hq
  obtain ⟨j, h1, h2, h3, h4, h5⟩ := atI_get he
  obtain ⟨w, ew, rw'⟩ := r.get h2
  have hl := r.length
  have hn := line63
  have fin : EP X pins σ Q w s := ⟨z, H, I, rw', q⟩
  exact subscriptTail_builtinR (x := w) pl.typeIs slot_tuple_getitem.lookup
    (getItem_tuple (j := j) (Q := fun r s' => r = w ∧ EP X pins σ Q r s') pl (by omega) (by omega) (by rw [List.size_toArray, ← hl]; exact h1) (by simpa using ew) ⟨rfl, fin⟩) hs
theorem ix_str : IxR X rIxS := by
  intro value slice pins s σ H x y v u Q I rx ry h hs
  obtain ⟨z, i, c, rfl, rfl, hz, he, q⟩ := h
  obtain ⟨t, rfl⟩ := rx
  obtain ⟨t', rfl⟩ := ry
  obtain ⟨j, h1, h2, h3, h4, h5⟩ := atI_get he
  have hl : z.cps.toList.length = z.length := by simp [Str.length]
  rw [hl] at h1 h4 h5
  have hn := line63
  exact tail_any (typeIs_str s z t) slot_str_getitem.lookup (getItem_str (c := c) (by
    have e1 : decide (i < -(2 ^ 63 : Int)) = false := decide_eq_false (by omega)
    have e2 : decide (i ≥ 2 ^ 63) = false := decide_eq_false (by omega)
    rw [e1, e2, Bool.or_false]) (by rw [h1]; simpa using h2) ⟨.str ⟨#[c]⟩, H, I.tok _, ⟨_, rfl⟩, q⟩) hs
/-- list, tuple or str -/
def rIx (K : PySem.W.Frag) : R2 := fun x y H Q => rIxL K x y H Q ∨ rIxT K x y H Q ∨ rIxS x y H Q
theorem ix_seq : IxR X (rIx X.K) := ix_list.or (ix_tup.or ix_str)

/-! ### xs[i] = v, any sign -/
/-- the list's object behind a store -/
theorem mapSeq_set (its : List Value) (n j : Nat) (u : Value) : Obj.mapSeq (·.setIfInBounds j u) { cls := .type "list", data := .seq its.toArray n } = { cls := .type "list", data := .seq (its.set j u).toArray n } := by
  simp [Obj.mapSeq]
theorem Inv.lst {pins : List (Addr × Obj)} {σ : St} {H : Hp} {s : Shared} {p : Addr} {xs : List V} (I : Inv X pins σ H s) (h : H p = some (.lst xs)) :
    ∃ (its : List Value) (n : Nat), Vals xs its ∧ s.heap.get? p = some { cls := .type "list", data := .seq its.toArray n } ∧ xs.length ≤ sizeLine := by
  obtain ⟨z, its, n, r, e⟩ := I.hok p _ h
  exact ⟨its, n, r, e, z⟩
/-- the list at p is written by an update of its object -/
theorem Inv.lstUpd {pins : List (Addr × Obj)} {σ : St} {H : Hp} {s : Shared} {p : Addr} {xs ys : List V} {its its' : List Value} {n n' : Nat} {f : Obj → Obj} (I : Inv X pins σ H s) (h : H p = some (.lst xs))
    (ho : s.heap.get? p = some { cls := .type "list", data := .seq its.toArray n }) (hf : f { cls := .type "list", data := .seq its.toArray n } = { cls := .type "list", data := .seq its'.toArray n' }) (r : Vals ys its') (hz : ys.length ≤ sizeLine) (t : Nat) :
    Inv X pins σ (upd H p (.lst ys)) { s with heap := s.heap.update p f, toks := t } := by
  have e : (s.heap.update p f).get? p = some { cls := .type "list", data := .seq its'.toArray n' } := by
    rw [Heap.get?_update_self f ho (by rw [hf] <;> rfl), hf]
  refine I.write (x := p) (e := p) (by rw [h]; trivial) (.inl rfl) (fun b u hb q => (Heap.get?_update_other _ _ (Ne.symm hb)).trans q) ⟨_, e⟩ ?_
  exact ⟨hz, its', n', r, e⟩
def rSetL : V → V → V → Hp → (Hp → Prop) → Prop := fun o i v H Q => ∃ p xs k j, o = .ref p ∧ i = .int k ∧ H p = some (.lst xs) ∧ ixN xs.length k = some j ∧ Q (upd H p (.lst (xs.set j v)))
theorem set_list : PSet X rSetL := by
  intro pins s σ H o i v ov iv u Q I ro ri rv h
  obtain ⟨p, xs, k, j, rfl, rfl, hp, hj, q⟩ := h
  cases ro
  obtain ⟨t, rfl⟩ := ri
  obtain ⟨its, n, r, ho, hz⟩ := I.lst hp
  obtain ⟨h1, h2, h3, h4⟩ := ixN_seq hj
  have hl := r.length
  have hn := line63
  have I' : Inv X pins σ (upd H p (.lst (xs.set j v))) { s with heap := s.heap.update p (Obj.mapSeq (·.setIfInBounds j u)) } :=
    I.lstUpd hp ho (mapSeq_set its n j u) (r.set rv j) (by rw [List.length_set]; exact hz) s.toks
  by_cases h0 : 0 ≤ k
  · have hk : k.toNat = j := by
      rw [seqIndex_of h0 h4] at h1
      exact Option.some.inj h1
    exact PySem.W.ki_setAt ho h0 (by omega) (by rw [List.size_toArray, ← hl]; exact h4) (by rw [hk]; exact ⟨_, I', q⟩)
  · have hk : (k + (its.toArray.size : Int)).toNat = j := by
      rw [seqIndex_neg (by omega) h3] at h1
      rw [List.size_toArray, ← hl]
      exact Option.some.inj h1
    exact PySem.W.ki_setBack ho (by omega) (by rw [List.size_toArray, ← hl]; exact h3) (by omega) (by rw [hk]; exact ⟨_, I', q⟩)

/-! ### slices -/
theorem slice_bounds (lo hi : Option Int) (n : Nat) : (sliceBounds lo hi none n).1 = ((HT.sIx n 0 lo : Nat) : Int) ∧ (sliceBounds lo hi none n).2.1 = ((HT.sIx n n hi : Nat) : Int) ∧ (sliceBounds lo hi none n).2.2 = 1 := by
  refine ⟨?_, ?_, rfl⟩
  · cases lo with
    | none => simp [sliceBounds, HT.sIx]
    | some i =>
      simp only [sliceBounds, HT.sIx, Option.getD_none, show (1 : Int) > 0 by decide, if_true]
      by_cases h : i < 0
      · simp only [h, if_true] <;> omega
      · simp only [h, if_false] <;> omega
  · cases hi with
    | none => simp [sliceBounds, HT.sIx]
    | some i =>
      simp only [sliceBounds, HT.sIx, Option.getD_none, show (1 : Int) > 0 by decide, if_true]
      by_cases h : i < 0
      · simp only [h, if_true] <;> omega
      · simp only [h, if_false] <;> omega
theorem slicePick_cut (its : List Value) (lo hi : Option Int) : slicePick its.toArray lo hi none = ((its.drop (HT.sIx its.length 0 lo)).take (HT.sIx its.length its.length hi - HT.sIx its.length 0 lo)).toArray := by
  obtain ⟨h1, h2, h3⟩ := slice_bounds lo hi its.toArray.size
  unfold slicePick
  rw [h1, h2, h3]
  simp only [sliceRange_one, pick_run, List.size_toArray] <;> rfl
/-- xs[lo:hi] of a list: a new list -/
def rSlL (K : PySem.W.Frag) : V → Option Int → Option Int → Hp → VK → Prop := fun x lo hi H Q => ∃ a xs, x = .ref a ∧ SqL K H a xs ∧ ∀ p, H p = none → Q (.ref p) (upd H p (.lst (cutV xs lo hi)))
theorem sl_list : SlR X (rSlL X.K) := by
  intro pins s σ H x v vl vu lo hi sl Q I rx hs pl pu h
  obtain ⟨a, xs, rfl, hx, q⟩ := h
  cases rx
  obtain ⟨its, r, ht, hz⟩ := I.list hx
  have hlen := r.length
  refine ⟨"list", _, slot_list_getitem.lookup, ht.isList.typeIs, ?_⟩
  refine wpAny_getItem_list_slice ht.isList hs pl pu .none (by simp) ?_ (by rw [List.size_toArray] <;> omega)
  rw [slicePick_cut, ← hlen]
  refine ⟨.ref s.heap.objs.size, _, I.laid (t' := s.toks) (o := .lst (cutV xs lo hi)) (fun b ob q => Heap.get?_push_of_some _ q) (Nat.le_refl _) ?_, rfl, q _ (I.hok.fresh (Nat.le_refl _))⟩
  exact ⟨Nat.le_trans (cutV_length xs lo hi) hz, _, 0, (r.drop (HT.sIx xs.length 0 lo)).take (HT.sIx xs.length xs.length hi - HT.sIx xs.length 0 lo), Heap.get?_push_size _ rfl⟩

/-! ### in, not in: flat items -/
def flatV : V → Bool
  | .non => true
  | .bl _ => true
  | .int _ => true
  | .str _ => true
  | _ => false
/-- == of flat values -/
def eqV : V → V → Bool
  | .non, .non => true
  | .bl a, .bl b => a == b
  | .bl a, .int b => (if a then 1 else 0) == b
  | .int a, .bl b => a == (if b then 1 else 0)
  | .int a, .int b => a == b
  | .str a, .str b => a == b
  | _, _ => false
theorem eqAt_V {A : Around} {s : Shared} {y x : V} {u v : Value} (ry : RelV y u) (rx : RelV x v) (fy : flatV y = true) (fx : flatV x = true) : SeqAt.EqAt A s u v (eqV y x) := by
  cases y with
  | non =>
    cases ry
    cases x with
    | non => cases rx; exact SeqAt.EqAt.same _
    | bl b => cases rx; exact SeqAt.EqAt.none_bool b
    | int b => obtain ⟨t, rfl⟩ := rx; exact SeqAt.EqAt.none_int b t
    | str b => obtain ⟨t, rfl⟩ := rx; exact SeqAt.EqAt.none_str b t
    | _ => exact absurd (show false = true from fx) Bool.false_ne_true
  | bl a =>
    cases ry
    cases x with
    | non => cases rx; exact SeqAt.EqAt.bool_none a
    | bl b => cases rx; exact SeqAt.EqAt.bool_bool a b
    | int b => obtain ⟨t, rfl⟩ := rx; exact SeqAt.EqAt.bool_int a b t
    | str b => obtain ⟨t, rfl⟩ := rx; exact SeqAt.EqAt.bool_str a b t
    | _ => exact absurd (show false = true from fx) Bool.false_ne_true
  | int a =>
    obtain ⟨t', rfl⟩ := ry
    cases x with
    | non => cases rx; exact SeqAt.EqAt.int_none a t'
    | bl b => cases rx; exact SeqAt.EqAt.int_bool a t' b
    | int b => obtain ⟨t, rfl⟩ := rx; exact SeqAt.EqAt.int_int a t' b t
    | str b => obtain ⟨t, rfl⟩ := rx; exact SeqAt.EqAt.int_str a t' b t
    | _ => exact absurd (show false = true from fx) Bool.false_ne_true
  | str a =>
    obtain ⟨t', rfl⟩ := ry
    cases x with
    | non => cases rx; exact SeqAt.EqAt.str_none a t'
    | bl b => cases rx; exact SeqAt.EqAt.str_bool a t' b
    | int b => obtain ⟨t, rfl⟩ := rx; exact SeqAt.EqAt.str_int a t' b t
    | str b => obtain ⟨t, rfl⟩ := rx; exact SeqAt.EqAt.str_str a t' b t
    | _ => exact absurd (show false = true from fx) Bool.false_ne_true
  | _ => exact absurd (show false = true from fy) Bool.false_ne_true
/-- the items' answers, read off the values (a value's own answer does not lean on its token) -/
def eqU (x : V) (u : Value) : Bool := match u with
  | .none => eqV .non x
  | .bool b => eqV (.bl b) x
  | .int i _ => eqV (.int i) x
  | .str z _ => eqV (.str z) x
  | _ => false
theorem eqU_of {x y : V} {u : Value} (r : RelV y u) (f : flatV y = true) : eqU x u = eqV y x := by
  cases y with
  | non => cases r; rfl
  | bl b => cases r; rfl
  | int i => obtain ⟨t, rfl⟩ := r; rfl
  | str z => obtain ⟨t, rfl⟩ := r; rfl
  | _ => exact absurd (show false = true from f) Bool.false_ne_true
theorem any_eqU {x : V} : ∀ {xs : List V} {us : List Value}, Vals xs us → xs.all flatV = true → us.any (eqU x) = xs.any fun y => eqV y x
  | _, _, .nil, _ => rfl
  | y :: xs, u :: us, .cons r t, f => by
    rw [List.all_cons, Bool.and_eq_true] at f
    rw [List.any_cons, List.any_cons, eqU_of r f.1, any_eqU t f.2]
theorem mem_eqAt {A : Around} {s : Shared} {x : V} {v : Value} (rx : RelV x v) (fx : flatV x = true) : ∀ {xs : List V} {us : List Value}, Vals xs us → xs.all flatV = true → ∀ u ∈ us, SeqAt.EqAt A s u v (eqU x u)
  | _, _, .nil, _ => fun u hu => by cases hu
  | y :: xs, u :: us, .cons r t, f => fun u' hu => by
    rw [List.all_cons, Bool.and_eq_true] at f
    rcases List.mem_cons.mp hu with rfl | hu
    · rw [eqU_of r f.1]; exact eqAt_V r rx f.1 fx
    · exact mem_eqAt rx fx t f.2 u' hu
def inV (x : V) (xs : List V) : Bool := xs.any fun y => eqV y x
/-- x in a list or tuple of flat items -/
def rIn (K : PySem.W.Frag) (neg : Bool) : R2 := fun x y H Q => ∃ p xs, y = .ref p ∧ (SqL K H p xs ∨ SqT K H p xs) ∧ flatV x = true ∧ xs.all flatV = true ∧ Q (.bl (if neg then !inV x xs else inV x xs)) H
theorem op_in_seq : OpR X (compareOp .In) (rIn X.K false) := by
  intro pins s σ H x y v u Q I rx ry h
  obtain ⟨p, xs, rfl, hq, fx, fs, q⟩ := h
  cases ry
  rcases hq with hq | hq
  · obtain ⟨its, r, pl, hz⟩ := I.list hq
    refine SeqAt.in_listAt (eqU x) pl.isList (fun w hw => mem_eqAt rx fx r fs w (by simpa using hw)) ⟨.bl _, H, I, rfl, ?_⟩
    rw [show its.toArray.any (eqU x) = its.any (eqU x) by simp, any_eqU r fs]
    exact q
  · obtain ⟨its, r, pl, hz⟩ := I.tuple hq
    refine SeqAt.in_tupleAt (eqU x) pl (fun w hw => mem_eqAt rx fx r fs w (by simpa using hw)) ⟨.bl _, H, I, rfl, ?_⟩
    rw [show its.toArray.any (eqU x) = its.any (eqU x) by simp, any_eqU r fs]
    exact q
theorem op_notIn_seq : OpR X (compareOp .NotIn) (rIn X.K true) := by
  intro pins s σ H x y v u Q I rx ry h
  obtain ⟨p, xs, rfl, hq, fx, fs, q⟩ := h
  cases ry
  rcases hq with hq | hq
  · obtain ⟨its, r, pl, hz⟩ := I.list hq
    refine SeqAt.notIn_listAt (eqU x) pl.isList (fun w hw => mem_eqAt rx fx r fs w (by simpa using hw)) ⟨.bl _, H, I, rfl, ?_⟩
    rw [show its.toArray.any (eqU x) = its.any (eqU x) by simp, any_eqU r fs]
    exact q
  · obtain ⟨its, r, pl, hz⟩ := I.tuple hq
    refine SeqAt.notIn_tupleAt (eqU x) pl (fun w hw => mem_eqAt rx fx r fs w (by simpa using hw)) ⟨.bl _, H, I, rfl, ?_⟩
    rw [show its.toArray.any (eqU x) = its.any (eqU x) by simp, any_eqU r fs]
    exact q
theorem op_notIn_str : OpR X (compareOp .NotIn) (fun x y H Q => ∃ i j, x = .str i ∧ y = .str j ∧ Q (.bl (!(!(Builtin.Str.occurrences j i 0 j.length 1).isEmpty))) H) := by
  intro pins s σ H x y v u Q I rx ry h
  obtain ⟨i, j, rfl, rfl, q⟩ := h
  obtain ⟨t, rfl⟩ := rx
  obtain ⟨t', rfl⟩ := ry
  exact notIn_str ⟨.bl _, H, I, rfl, q⟩

/-! ### len, list(x), tuple(x) of any list or tuple that is read -/
theorem call_len_seq : CallR X (.builtin "len") (fun xs H Q => ∃ p ys, xs = [.ref p] ∧ (SqL X.K H p ys ∨ SqT X.K H p ys) ∧ Q (.int ys.length) H) := by
  intro pins s σ H xs us Q I r h
  obtain ⟨p, ys, rfl, hq, q⟩ := h
  obtain ⟨u, rfl, rx⟩ := vals1 r
  cases rx
  have hn := line63
  rcases hq with hq | hq
  · obtain ⟨its, r', pl, hz⟩ := I.list hq
    have hlen := r'.length
    exact Calls.call_len_list pl.isList (by simp only [List.size_toArray] <;> omega) ⟨.int ys.length, H, I.tok _, ⟨s.toks + 1, by rw [List.size_toArray, hlen]⟩, q⟩
  · obtain ⟨its, r', pl, hz⟩ := I.tuple hq
    have hlen := r'.length
    exact len_tuple pl (by simp only [List.size_toArray] <;> omega) ⟨.int ys.length, H, I.tok _, ⟨s.toks + 1, by rw [List.size_toArray, hlen]⟩, q⟩
theorem call_len_str : CallR X (.builtin "len") (fun xs H Q => ∃ z, xs = [.str z] ∧ z.length ≤ sizeLine ∧ Q (.int z.length) H) := by
  intro pins s σ H xs us Q I r h
  obtain ⟨z, rfl, hz, q⟩ := h
  obtain ⟨u, rfl, t, rfl⟩ := vals1 r
  have hn := line63
  exact len_str (by omega) ⟨.int z.length, H, I.tok _, ⟨_, rfl⟩, q⟩
theorem CallR.or {f : Value} {r r' : List V → Hp → VK → Prop} (h : CallR X f r) (h' : CallR X f r') : CallR X f (fun xs H Q => r xs H Q ∨ r' xs H Q) := by
  intro pins s σ H xs us Q I rs q
  rcases q with q | q
  · exact h pins s σ H xs us Q I rs q
  · exact h' pins s σ H xs us Q I rs q
theorem call_list_of : CallR X (.type "list") (fun xs H Q => ∃ p ys, xs = [.ref p] ∧ (SqL X.K H p ys ∨ SqT X.K H p ys) ∧ ∀ l, H l = none → Q (.ref l) (upd H l (.lst ys))) := by
  intro pins s σ H xs us Q I r h
  obtain ⟨p, ys, rfl, hq, q⟩ := h
  obtain ⟨u, rfl, rx⟩ := vals1 r
  cases rx
  have fin : ∀ (its : List Value), Vals ys its → ys.length ≤ sizeLine → ∀ (h' : Heap) (c' : Nat), (∀ b o', s.heap.get? b = some o' → h'.get? b = some o') →
      h'.get? s.heap.objs.size = some { cls := .type "list", dict := none, data := .seq its.toArray c', slots := #[] } → EP X pins σ Q (.ref s.heap.objs.size) { s with heap := h' } := fun its r' hz h' c' kp e =>
    ⟨.ref s.heap.objs.size, _, I.laid (t' := s.toks) kp (Nat.le_refl _) (show ObjOk X.prog X.w _ h' _ (.lst ys) from ⟨hz, its, c', r', e⟩), rfl, q _ (I.hok.fresh (Nat.le_refl _))⟩
  rcases hq with hq | hq
  · obtain ⟨its, r', pl, hz⟩ := I.list hq
    have hlen := r'.length
    obtain ⟨o, ho, hc, n, hd⟩ := pl.isList
    exact call_list_seq p (.inl rfl) ho hc hd (fun h' c' kp e => fin its r' hz h' c' kp e) (by simp only [List.size_toArray] <;> omega)
  · obtain ⟨its, r', pl, hz⟩ := I.tuple hq
    have hlen := r'.length
    obtain ⟨o, ho, hc, n, hd⟩ := pl
    exact call_list_seq p (.inr rfl) ho hc hd (fun h' c' kp e => fin its r' hz h' c' kp e) (by simp only [List.size_toArray] <;> omega)
theorem call_tuple_of : CallR X (.type "tuple") (fun xs H Q => ∃ p ys, xs = [.ref p] ∧ ((SqL X.K H p ys ∧ ∀ l, H l = none → Q (.ref l) (upd H l (.tup ys))) ∨ (SqT X.K H p ys ∧ Q (.ref p) H))) := by
  intro pins s σ H xs us Q I r h
  obtain ⟨p, ys, rfl, h⟩ := h
  obtain ⟨u, rfl, rx⟩ := vals1 r
  cases rx
  rcases h with ⟨hq, q⟩ | ⟨hq, q⟩
  · obtain ⟨its, r', pl, hz⟩ := I.list hq
    have hlen := r'.length
    refine call_tuple_list pl.isList (fun h' kp => ?_) (by simp only [List.size_toArray] <;> omega)
    have I1 : Inv X pins σ H { s with heap := h' } := I.kept (t' := s.toks) kp
    have I2 : Inv X pins σ (upd H h'.objs.size (.tup ys)) { s with heap := h'.push { cls := .type "tuple", data := .seq its.toArray } } :=
      I1.laid (t' := s.toks) (fun b o e => Heap.get?_push_of_some _ e) (Nat.le_refl _) (show ObjOk X.prog X.w _ _ _ (.tup ys) from ⟨hz, its, r', IsTup.new _ _⟩)
    exact ⟨.ref h'.objs.size, _, I2, rfl, q _ (I1.hok.fresh (Nat.le_refl _))⟩
  · obtain ⟨its, r', pl, hz⟩ := I.tuple hq
    exact call_tuple_same pl ⟨.ref p, H, I, rfl, q⟩

/-! ### the call of a builtin's method: o.m(..) -/
/-- the value is of that builtin type -/
def tyV (K : PySem.W.Frag) (T : String) (x : V) (H : Hp) : Prop := match x with
  | .str _ => T = "str"
  | .int _ => T = "int"
  | .ref p => (T = "list" ∧ ∃ xs, SqL K H p xs) ∨ (T = "tuple" ∧ ∃ o, K.lookup p = some o ∧ o.cls = .type "tuple" ∧ o.dict = none) ∨
      (T = "dict" ∧ ((∃ kvs, H p = some (.dK kvs)) ∨ ∃ kvs, H p = some (.dT kvs))) ∨ (T = "set" ∧ ∃ S n, H p = some (.set S n))
  | _ => False
theorem tyV_is {pins : List (Addr × Obj)} {σ : St} {H : Hp} {s : Shared} {T : String} {x : V} {v : Value} (I : Inv X pins σ H s) (r : RelV x v) (ty : tyV X.K T x H) :
    s.TypeIs v T ∧ ∀ a, v = .ref a → ∃ ob, s.heap.get? a = some ob ∧ ob.dict = none := by
  cases x with
  | str z =>
    obtain ⟨t, rfl⟩ := r
    cases (show T = "str" from ty)
    exact ⟨typeIs_str s z t, fun _ e => nomatch e⟩
  | int i =>
    obtain ⟨t, rfl⟩ := r
    cases (show T = "int" from ty)
    exact ⟨typeIs_int s i t, fun _ e => nomatch e⟩
  | ref p =>
    cases r
    rcases ty with ⟨rfl, xs, hq⟩ | ⟨rfl, o, hk, hc, hd⟩ | ⟨rfl, hk⟩ | ⟨rfl, S, n, hk⟩
    · obtain ⟨its, _, pl, _⟩ := I.list hq
      refine ⟨pl.isList.typeIs, fun a e => ?_⟩
      cases e
      obtain ⟨o, n, e, c, hd, _⟩ := pl
      exact ⟨o, e, hd⟩
    · refine ⟨⟨o, I.kIn p o hk, hc⟩, fun a e => ?_⟩
      cases e
      exact ⟨o, I.kIn _ o hk, hd⟩
    · have z : ∃ o, s.heap.get? p = some o ∧ o.ExactDict := by
        rcases hk with ⟨kvs, hk⟩ | ⟨kvs, hk⟩
        · obtain ⟨_, _, _, _, o, _, _, e, ex, _⟩ := I.hok p _ hk
          exact ⟨o, e, ex⟩
        · obtain ⟨_, _, _, _, o, _, _, e, ex, _⟩ := I.hok p _ hk
          exact ⟨o, e, ex⟩
      obtain ⟨o, e, ex⟩ := z
      refine ⟨⟨o, e, ex.1⟩, fun a e2 => ?_⟩
      cases e2
      exact ⟨o, e, ex.2.1⟩
    · obtain ⟨o, _, _, _, e, ex, _⟩ := I.hok p _ hk
      refine ⟨⟨o, e, ex.1⟩, fun a e2 => ?_⟩
      cases e2
      exact ⟨o, e, ex.2.1⟩
  | _ => exact False.elim ty
def tBM0 (K : PySem.W.Frag) (T : String) (r : V → List V → Hp → VK → Prop) (to : TE) : TE := fun σ H Q => to σ H fun x H1 => tyV K T x H1 ∧ r x [] H1 Q
def tBM (K : PySem.W.Frag) (T : String) (r : V → List V → Hp → VK → Prop) (to : TE) (t : TA) : TE := fun σ H Q => to σ H fun x H1 => tyV K T x H1 ∧ t σ H1 fun xs H2 => r x xs H2 Q
variable {o e : Expr} {es : List Expr} {to : TE} {t : TA} {name : Str} {apos cpos : Pos} {T id : String} {r : V → List V → Hp → VK → Prop}
theorem pe_bm0 (pa : PlainAttrs T) (slot : Slot T name id) (hty : typeOf (.builtin id) = pure (.type "method_descriptor")) (hm : MtR X id r) (ho : PE X o to)
    (hbase : attributeBase o name X.env (eval o X.env) = eval o X.env := by rfl) (hline : (apos.endLine == cpos.line) = true := by rfl) : PE X (.Call (.Attribute o name apos) [] [] cpos) (tBM0 X.K T r to) := by
  intro pins s σ H Q I h
  refine wpAny_Call_method0_late hbase hline (thn (ho pins s σ H _ I h) fun v s1 ⟨x, H1, I1, r1, ty, q1⟩ => ?_)
  obtain ⟨h1, h2⟩ := tyV_is I1 r1 ty
  exact ⟨T, id, pa, slot, hty, h1, h2, Calls.callWith_builtin rfl (PySem.evalArgs_none (hm pins s1 σ H1 x [] v [] Q I1 r1 .nil q1))⟩
theorem pe_bm (pa : PlainAttrs T) (slot : Slot T name id) (hty : typeOf (.builtin id) = pure (.type "method_descriptor")) (hm : MtR X id r) (ho : PE X o to) (ha : PA X (e :: es) t)
    (hbase : attributeBase o name X.env (eval o X.env) = eval o X.env := by rfl)
    (hfew : ((backTo cpos (starEach (e :: es) X.env)).all (fun x => !x.1) && (backToKw cpos (keywordEach [] X.env)).all (fun x => x.1.isSome)
      && decide ((e :: es).length + ([] : List Keyword).length + (if ([] : List Keyword).isEmpty then 0 else 1) < 30)) = true := by rfl)
    (hline : (apos.endLine == cpos.line) = true := by rfl) (hs : starEach (e :: es) X.env = (false, eval e X.env) :: starEach es X.env := by rfl) (hplain : (backTo cpos (starEach es X.env)).any (·.1) = false := by rfl) :
    PE X (.Call (.Attribute o name apos) (e :: es) [] cpos) (tBM X.K T r to t) := by
  intro pins s σ H Q I h
  refine wpAny_Call_method_late hbase hfew hline rfl (thn (ho pins s σ H _ I h) fun v s1 ⟨x, H1, I1, r1, ty, q1⟩ => ?_)
  obtain ⟨h1, h2⟩ := tyV_is I1 r1 ty
  refine ⟨T, id, pa, slot, hty, h1, h2, ?_⟩
  have hA := ha cpos pins s1 σ H1 _ I1 q1
  rw [hs] at hA ⊢
  refine Calls.callWith_builtin (by show (false || (backTo cpos (starEach es X.env)).any (·.1)) = false; rw [hplain] <;> rfl) (Calls.evalArgs_plain ?_)
  exact thn hA fun us s2 ⟨vs, H2, I2, r2, q2⟩ => hm pins s2 σ H2 x vs v us Q I2 r1 r2 q2
/- xs.append(e), list.index on a module's tuple .. are MtR facts of 06m -/
end
end L2

namespace L2
open PySem PySem.Spec PyProof.Rows

def MtM (X : Cx) (id : String) (r : V → List V → Hp → VK → Prop) : Prop :=
  ∀ (pins : List (Addr × Obj)) (s : Shared) (σ : St) (H : Hp) (x : V) (xs : List V) (v : Value) (us : List Value) (Q : VK), Inv X pins σ H s → RelV x v → Vals xs us → r x xs H Q →
    wpAny (model X.prog X.w) X.A (call (.builtin id) (v :: us)) (EP X pins σ Q) X.xe s

/-! ### lists of values -/
theorem Vals.one : ∀ {x : V} {us : List Value}, Vals [x] us → ∃ u, us = [u] ∧ RelV x u
  | _, _, .cons r .nil => ⟨_, rfl, r⟩
theorem Vals.two : ∀ {x y : V} {us : List Value}, Vals [x, y] us → ∃ u v, us = [u, v] ∧ RelV x u ∧ RelV y v
  | _, _, _, .cons r (.cons q .nil) => ⟨_, _, rfl, r, q⟩
theorem Vals.zero : ∀ {us : List Value}, Vals [] us → us = []
  | _, .nil => rfl
theorem Vals.dropLast {xs : List V} {us : List Value} (h : Vals xs us) : Vals xs.dropLast us.dropLast := by
  induction h with
  | nil => exact .nil
  | cons r t ih =>
    cases t with
    | nil => exact .nil
    | cons q t' => exact .cons r ih
theorem Vals.eraseIdx : ∀ {xs : List V} {us : List Value} (i : Nat), Vals xs us → Vals (xs.eraseIdx i) (us.eraseIdx i)
  | _, _, _, .nil => .nil
  | _, _, 0, .cons _ t => t
  | _, _, i + 1, .cons r t => .cons r (Vals.eraseIdx i t)
theorem Vals.reverse {xs : List V} {us : List Value} (h : Vals xs us) : Vals xs.reverse us.reverse := by
  induction h with
  | nil => exact .nil
  | cons r t ih => rw [List.reverse_cons, List.reverse_cons]; exact Vals.append ih (.cons r .nil)
theorem Vals.rep {xs : List V} {us : List Value} (h : Vals xs us) : ∀ k : Nat, Vals (List.replicate k xs).flatten (List.replicate k us).flatten
  | 0 => .nil
  | k + 1 => by
    rw [List.replicate_succ, List.replicate_succ, List.flatten_cons, List.flatten_cons]
    exact Vals.append h (Vals.rep h k)
theorem erase_last {α : Type} (l : List α) : l.eraseIdx (l.length - 1) = l.dropLast := by
  induction l with
  | nil => rfl
  | cons a r ih =>
    cases r with
    | nil => rfl
    | cons b r =>
      have e : (a :: b :: r).length - 1 = ((b :: r).length - 1) + 1 := by
        have h1 : (a :: b :: r).length = r.length + 2 := rfl
        have h2 : (b :: r).length = r.length + 1 := rfl
        omega
      rw [e, List.eraseIdx_cons_succ, ih]
      all_goals rfl
theorem len_erase {α : Type} : ∀ (l : List α) (i : Nat), (l.eraseIdx i).length ≤ l.length
  | [], _ => Nat.le_refl _
  | _ :: _, 0 => Nat.le_succ _
  | _ :: r, i + 1 => Nat.succ_le_succ (len_erase r i)
theorem foldl_rep (its : List Value) : ∀ (k : Nat) (acc : List Value),
    List.foldl (fun x1 x2 => x1 ++ x2) acc.toArray (List.replicate k its.toArray) = (acc ++ (List.replicate k its).flatten).toArray
  | 0, acc => by simp
  | k + 1, acc => by
    have e : acc.toArray ++ its.toArray = (acc ++ its).toArray := by simp
    have e2 : (acc ++ its) ++ (List.replicate k its).flatten = acc ++ (List.replicate (k + 1) its).flatten := by
      rw [List.replicate_succ, List.flatten_cons, List.append_assoc]
    rw [← e2, ← foldl_rep its k (acc ++ its), ← e, List.replicate_succ, List.foldl_cons]

section
variable {X : Cx} {pins : List (Addr × Obj)} {σ : St} {H : Hp} {s : Shared} {l b : Addr} {xs ys zs : List V}

/-! ### the two steps: a tracked list is rewritten, a new list is laid -/
theorem Inv.lset {its its' : List Value} {n : Nat} {f : Array Value → Array Value} {t' : Nat} (I : Inv X pins σ H s) (hH : H l = some (.lst xs))
    (e : s.heap.get? l = some { cls := .type "list", data := .seq its.toArray n }) (hf : f its.toArray = its'.toArray) (hv : Vals ys its') (hz : ys.length ≤ sizeLine) :
    Inv X pins σ (upd H l (.lst ys)) { s with heap := s.heap.update l (Obj.mapSeq f), toks := t' } := by
  have q := PySem.IsL.update e f
  rw [hf] at q
  refine I.write (x := l) (e := l) (by rw [hH]; exact trivial) (.inl rfl) (fun b' u hb hu => (Heap.get?_update_other s.heap (Obj.mapSeq f) (Ne.symm hb)).trans hu) ⟨_, q⟩ ?_
  exact ⟨hz, its', _, hv, q⟩
theorem Inv.lnew {its : List Value} {t' : Nat} (I : Inv X pins σ H s) (hv : Vals ys its) (hz : ys.length ≤ sizeLine) :
    Inv X pins σ (upd H s.heap.objs.size (.lst ys)) { s with heap := s.heap.push { cls := .type "list", data := .seq its.toArray }, toks := t' } :=
  I.laid (fun _ _ q => Heap.get?_push_of_some _ q) (Nat.le_refl _) ⟨hz, its, 0, hv, Heap.get?_push_size _ rfl⟩
theorem Inv.fresh (I : Inv X pins σ H s) : H s.heap.objs.size = none := I.hok.fresh (Nat.le_refl _)
theorem Inv.lstM (I : Inv X pins σ H s) (hH : H l = some (.lst xs)) : xs.length ≤ sizeLine ∧ ∃ (its : List Value) (n : Nat), Vals xs its ∧ xs.length = its.length ∧ s.heap.get? l = some { cls := .type "list", data := .seq its.toArray n } := by
  obtain ⟨z, its, n, r, e⟩ := I.hok l _ hH
  exact ⟨z, its, n, r, r.length, e⟩

theorem notLongL {n : Nat} (h : n ≤ sizeLine) : Builtin.List.listTooLong n = false := by
  unfold Builtin.List.listTooLong
  exact decide_eq_false (by omega)
end

section
variable {X : Cx}

/-! ### methods -/
def rAppend : V → List V → Hp → VK → Prop := fun x vs H Q => ∃ l xs y, x = .ref l ∧ vs = [y] ∧ H l = some (.lst xs) ∧ xs.length < sizeLine ∧ Q .non (upd H l (.lst (xs ++ [y])))
theorem mt_append : MtM X "list.append" rAppend := by
  intro pins s σ H x vs v us Q I rx rv h
  obtain ⟨l, xs, y, rfl, rfl, hH, hz, q⟩ := h
  cases rx
  obtain ⟨u, rfl, ru⟩ := rv.one
  obtain ⟨z, its, n, r, hl, e⟩ := I.lstM hH
  refine call_meets F.slot_list_append ⟨_, e, rfl⟩ F.entry_list_append (F.args_list_append_2 _ _) (PySem.list_append l its.toArray n u (by rw [List.size_toArray]; omega)) ⟨e, ?_⟩
  refine ⟨.non, _, I.lset (its' := its ++ [u]) hH e (by simp) (r.append (.cons ru .nil)) ?_, rfl, q⟩
  rw [List.length_append, List.length_singleton]
  omega

def rExtend : V → List V → Hp → VK → Prop := fun x vs H Q => ∃ l b xs zs, x = .ref l ∧ vs = [.ref b] ∧ H l = some (.lst xs) ∧ H b = some (.lst zs) ∧ xs.length + zs.length ≤ sizeLine ∧ Q .non (upd H l (.lst (xs ++ zs)))
theorem mt_extend : MtM X "list.extend" rExtend := by
  intro pins s σ H x vs v us Q I rx rv h
  obtain ⟨l, b, xs, zs, rfl, rfl, hH, hB, hz, q⟩ := h
  cases rx
  obtain ⟨u, rfl, ru⟩ := rv.one
  cases ru
  obtain ⟨z, its, n, r, hl, e⟩ := I.lstM hH
  obtain ⟨z2, its2, n2, r2, hl2, e2⟩ := I.lstM hB
  have hsz : its.toArray.size + its2.toArray.size ≤ sizeLine := by rw [List.size_toArray, List.size_toArray]; omega
  have hlong : ¬ (!its.toArray.isEmpty && Builtin.List.listTooLong (its.toArray.size + its2.toArray.size)) = true := by
    rw [notLongL hsz, Bool.and_false]
    exact Bool.false_ne_true
  refine call_meets F.slot_list_extend ⟨_, e, rfl⟩ F.entry_list_extend (F.args_list_extend_2 _ _)
    (AutoSeq1.list_extend_list_list_0 l its.toArray n b its2.toArray n2 hlong (by rw [List.size_toArray]; omega) (by omega)) ⟨e, e2, ?_⟩
  refine ⟨.non, _, I.lset (its' := its ++ its2) hH e (by simp) (r.append r2) ?_, rfl, q⟩
  rw [List.length_append]
  omega

def rPop : V → List V → Hp → VK → Prop := fun x vs H Q => ∃ l xs y, x = .ref l ∧ vs = [] ∧ H l = some (.lst xs) ∧ xs[xs.length - 1]? = some y ∧ Q y (upd H l (.lst xs.dropLast))
theorem mt_pop : MtM X "list.pop" rPop := by
  intro pins s σ H x vs v us Q I rx rv h
  obtain ⟨l, xs, y, rfl, rfl, hH, hy, q⟩ := h
  cases rx
  have hus := rv.zero
  subst hus
  obtain ⟨z, its, n, r, hl, e⟩ := I.lstM hH
  obtain ⟨u, hu, ru⟩ := r.get hy
  have hy' : its.toArray[its.toArray.size - 1]? = some u := by
    show its.toArray[its.length - 1]? = some u
    rw [← Array.getElem?_toList, ← hl]
    exact hu
  refine call_meets F.slot_list_pop ⟨_, e, rfl⟩ F.entry_list_pop (F.args_list_pop_1 _) (MeetsSeq.list_pop_last l its.toArray n u hy' (by rw [List.size_toArray]; omega)) ⟨e, ?_⟩
  refine ⟨y, _, I.lset (its' := its.dropLast) hH e ?_ r.dropLast ?_, ru, q⟩
  · show its.toArray.eraseIdxIfInBounds (its.toArray.size - 1) = its.dropLast.toArray
    rw [List.size_toArray, List.eraseIdxIfInBounds_toArray, erase_last]
  · rw [List.length_dropLast]
    omega

def rPopAt : V → List V → Hp → VK → Prop := fun x vs H Q => ∃ l xs i k y, x = .ref l ∧ vs = [.int i] ∧ H l = some (.lst xs) ∧ -(2 ^ 63) ≤ i ∧ i < 2 ^ 63 ∧ seqIndex? i xs.length = some k ∧ xs[k]? = some y ∧ Q y (upd H l (.lst (xs.eraseIdx k)))
theorem mt_popAt : MtM X "list.pop" rPopAt := by
  intro pins s σ H x vs v us Q I rx rv h
  obtain ⟨l, xs, i, k, y, rfl, rfl, hH, h1, h2, hk, hy, q⟩ := h
  cases rx
  obtain ⟨u, rfl, ru⟩ := rv.one
  obtain ⟨t, rfl⟩ := ru
  obtain ⟨z, its, n, r, hl, e⟩ := I.lstM hH
  obtain ⟨w, hw, rw'⟩ := r.get hy
  refine call_meets F.slot_list_pop ⟨_, e, rfl⟩ F.entry_list_pop (F.args_list_pop_2 _ _)
    (MeetsSeq.list_pop_at l its.toArray n i t k w (fitsIndex_both h1 h2) (by rw [List.size_toArray, ← hl]; exact hk) (by rw [← Array.getElem?_toList]; exact hw) (by rw [List.size_toArray]; omega)) ⟨e, ?_⟩
  refine ⟨y, _, I.lset (its' := its.eraseIdx k) hH e ?_ (r.eraseIdx k) ?_, rw', q⟩
  · show its.toArray.eraseIdxIfInBounds k = (its.eraseIdx k).toArray
    rw [List.eraseIdxIfInBounds_toArray]
  · have := len_erase xs k
    omega

def rReverse : V → List V → Hp → VK → Prop := fun x vs H Q => ∃ l xs, x = .ref l ∧ vs = [] ∧ H l = some (.lst xs) ∧ Q .non (upd H l (.lst xs.reverse))
theorem mt_reverse : MtM X "list.reverse" rReverse := by
  intro pins s σ H x vs v us Q I rx rv h
  obtain ⟨l, xs, rfl, rfl, hH, q⟩ := h
  cases rx
  have hus := rv.zero
  subst hus
  obtain ⟨z, its, n, r, hl, e⟩ := I.lstM hH
  refine call_meets F.slot_list_reverse ⟨_, e, rfl⟩ F.entry_list_reverse (F.args_list_reverse_1 _) (AutoSeq1.list_reverse_list_0 l its.toArray n (by rw [List.size_toArray]; omega)) ⟨e, ?_⟩
  refine ⟨.non, _, I.lset (its' := its.reverse) hH e (by simp) r.reverse ?_, rfl, q⟩
  rw [List.length_reverse]
  omega

def rClear : V → List V → Hp → VK → Prop := fun x vs H Q => ∃ l xs, x = .ref l ∧ vs = [] ∧ H l = some (.lst xs) ∧ Q .non (upd H l (.lst []))
theorem mt_clear : MtM X "list.clear" rClear := by
  intro pins s σ H x vs v us Q I rx rv h
  obtain ⟨l, xs, rfl, rfl, hH, q⟩ := h
  cases rx
  have hus := rv.zero
  subst hus
  obtain ⟨z, its, n, r, hl, e⟩ := I.lstM hH
  refine call_meets F.slot_list_clear ⟨_, e, rfl⟩ F.entry_list_clear (F.args_list_clear_1 _) (AutoSeq1.list_clear_list_0 l its.toArray n (by rw [List.size_toArray]; omega)) ⟨e, ?_⟩
  exact ⟨.non, _, I.lset (its' := []) (ys := []) hH e rfl .nil (Nat.zero_le _), rfl, q⟩

/-! ### list + list, list += list, list * int -/
def rCat : R2 := fun x y H Q => ∃ l b xs zs, x = .ref l ∧ y = .ref b ∧ H l = some (.lst xs) ∧ H b = some (.lst zs) ∧ xs.length + zs.length ≤ sizeLine ∧ ∀ p, H p = none → Q (.ref p) (upd H p (.lst (xs ++ zs)))
theorem op_cat : OpR X (binaryOp .Add) rCat := by
  intro pins s σ H x y v u Q I rx ry h
  obtain ⟨l, b, xs, zs, rfl, rfl, hH, hB, hz, q⟩ := h
  cases rx
  cases ry
  obtain ⟨z, its, n, r, hl, e⟩ := I.lstM hH
  obtain ⟨z2, its2, n2, r2, hl2, e2⟩ := I.lstM hB
  refine PySem.P.add_list e e2 ?_ (by rw [List.size_toArray, List.size_toArray]; omega)
  have ea : its.toArray ++ its2.toArray = (its ++ its2).toArray := by simp
  rw [ea]
  exact ⟨.ref _, _, I.lnew (t' := s.toks) (r.append r2) (by rw [List.length_append]; omega), rfl, q _ I.fresh⟩
/-- a list times an int (a negative one is nothing) -/
def rRep : R2 := fun x y H Q => ∃ l k xs, x = .ref l ∧ y = .int k ∧ H l = some (.lst xs) ∧ -(2 ^ 63) ≤ k ∧ k < 2 ^ 63 ∧ xs.length * k.toNat ≤ sizeLine ∧
  ∀ p, H p = none → Q (.ref p) (upd H p (.lst (List.replicate k.toNat xs).flatten))
theorem len_rep {α : Type} (xs : List α) (k : Nat) : (List.replicate k xs).flatten.length = k * xs.length := by
  induction k with
  | zero => simp
  | succ k ih => rw [List.replicate_succ, List.flatten_cons, List.length_append, ih, Nat.succ_mul, Nat.add_comm]
theorem op_rep : OpR X (binaryOp .Mult) rRep := by
  intro pins s σ H x y v u Q I rx ry h
  obtain ⟨l, k, xs, rfl, rfl, hH, h1, h2, hz, q⟩ := h
  cases rx
  obtain ⟨t, rfl⟩ := ry
  obtain ⟨z, its, n, r, hl, e⟩ := I.lstM hH
  have hlen : its.toArray.size * k.toNat ≤ sizeLine := by rw [List.size_toArray, ← hl]; exact hz
  have hcap : ¬ its.toArray.size * k.toNat > (2 ^ 63 - 1) / 8 := by
    have : (sizeLine : Nat) ≤ (2 ^ 63 - 1) / 8 := by decide
    omega
  have hfit : ¬ (!Builtin.List.listFitsIndex k) = true := by
    rw [fitsIndex_both h1 h2]
    exact Bool.false_ne_true
  have hlong : ¬ Builtin.List.listTooLong (its.toArray.size * k.toNat) = true := by
    rw [notLongL hlen]
    exact Bool.false_ne_true
  have hnew : List.foldl (fun x1 x2 => x1 ++ x2) #[] (List.replicate (if its.toArray.isEmpty = true then 0 else k.toNat) its.toArray) = (List.replicate k.toNat its).flatten.toArray := by
    have f0 : ∀ m : Nat, List.foldl (fun x1 x2 => x1 ++ x2) #[] (List.replicate m its.toArray) = (List.replicate m its).flatten.toArray := fun m => by
      have := foldl_rep its m []
      rw [List.nil_append] at this
      exact this
    rw [f0]
    cases its with
    | nil => simp
    | cons a r' => rw [if_neg (by simp)]
  refine wpAny_binaryOp_repeat_ref (T := "list") (U := "int") (by decide) ⟨_, e, rfl⟩ (fun s' => typeIs_int s' k t) noFill_list_mul F.fills_int_mul F.slot_int_rmul repeat_list F.slot_int_index.lookup
    (call_meets F.slot_int_rmul (typeIs_int s k t) F.entry_int_rmul (F.args_int_rmul_2 _ _) (int___rmul___int_list k t l its.toArray n)
      ⟨e, rfl, ⟨_, e, rfl⟩, call_meets F.slot_list_mul ⟨_, e, rfl⟩ F.entry_list_mul (F.args_list_mul_2 _ _) (AutoListH.list___mul___list_int_3 l its.toArray n k t hfit hcap hlong) ⟨e, ?_⟩⟩)
  rw [hnew]
  exact ⟨.ref _, _, I.lnew (t' := s.toks) (r.rep k.toNat) (by rw [len_rep, Nat.mul_comm]; exact hz), rfl, q _ I.fresh⟩

/-! ### del xs[i] -/
theorem del_list {pins : List (Addr × Obj)} {s : Shared} {σ : St} {H : Hp} {l : Addr} {xs : List V} {i : Int} {t : Tok} {k : Nat} {Q : Unit → Shared → Prop} (I : Inv X pins σ H s) (hH : H l = some (.lst xs))
    (h1 : -(2 ^ 63) ≤ i) (h2 : i < 2 ^ 63) (hk : seqIndex? i xs.length = some k) (h : ∀ s', Inv X pins σ (upd H l (.lst (xs.eraseIdx k))) s' → Q () s') :
    wpAny (model X.prog X.w) X.A (delItem (.ref l) (.int i t)) Q X.xe s := by
  obtain ⟨z, its, n, r, hl, e⟩ := I.lstM hH
  refine PySem.P.delItem_list (k := k) e (fitsIndex_both h1 h2) (by rw [List.size_toArray, ← hl]; exact hk) (h _ ?_) (by rw [List.size_toArray]; omega)
  refine I.lset (its' := its.eraseIdx k) (t' := s.toks) hH e ?_ (r.eraseIdx k) ?_
  · show its.toArray.eraseIdxIfInBounds k = (its.eraseIdx k).toArray
    rw [List.eraseIdxIfInBounds_toArray]
  · have := len_erase xs k
    omega
end

/-! ### xs[a:b] = ys -/
section
variable {prog : Program} {w : World} {A : Around} {E : Value → Shared → Prop} {s : Shared}
theorem splice_eq (its its2 : List Value) (a c : Nat) : its.toArray.extract 0 a ++ its2.toArray ++ its.toArray.extract c its.toArray.size = (its.take a ++ its2 ++ its.drop c).toArray := by
  apply Array.toList_inj.mp
  first
    | (simp
       exact List.take_of_length_le (by simp))
    | simp [List.take_of_length_le]
    | simp
theorem bounds_run {a c n : Nat} (hac : a ≤ c) (hc : c ≤ n) : sliceBounds (some (a : Int)) (some (c : Int)) none n = ((a : Int), (c : Int), 1) := by
  simp only [sliceBounds, Option.getD_none]
  have h1 : ¬ ((a : Int) < 0) := by omega
  have h2 : ¬ ((c : Int) < 0) := by omega
  simp only [h1, h2, if_false, show (1 : Int) > 0 by decide, if_true]
  congr 1
  · omega
  · congr 1; omega
set_option maxRecDepth 100000 in
/-- list.__setitem__ with a slice of step one and another list -/
theorem setItem_slice {l b sl : Addr} {items new : Array Value} {n n2 : Nat} {vl vu : Value} {a c : Nat} {Q : Unit → Shared → Prop}
    (e : s.heap.get? l = some { cls := .type "list", data := .seq items n }) (e2 : s.heap.get? b = some { cls := .type "list", data := .seq new n2 }) (hne : l ≠ b)
    (hs : s.heap.IsSliceOf sl vl vu .none) (pl : IsPart vl (some (a : Int))) (pu : IsPart vu (some (c : Int))) (hac : a ≤ c) (hc : c ≤ items.size)
    (hsz : items.size + new.size ≤ sizeLine) (h : Q () { s with heap := s.heap.update l (Obj.mapSeq fun xs => xs.extract 0 a ++ new ++ xs.extract c xs.size) }) :
    wpAny (model prog w) A (setItem (.ref l) (.ref sl) (.ref b)) Q E s := by
  have hl : s.heap.IsList l items := PySem.IsL.isList e
  have hb : s.heap.IsList b new := PySem.IsL.isList e2
  obtain ⟨os, hos, hcs, hds⟩ := id hs
  have hTs : s.TypeIs (.ref sl) "slice" := ⟨os, hos, hcs⟩
  have hstep : ¬ ((rawPart none == rawInt 0) = true) := Bool.false_ne_true
  have hsame : Builtin.List.listSameRef (.ref l) (.ref b) = false := by
    unfold Builtin.List.listSameRef
    exact beq_eq_false_iff_ne.mpr hne
  have hmax : (max (a : Int) (c : Int)).toNat = c := by omega
  have hz' : ((fun xs : Array Value => xs.extract 0 a ++ new ++ xs.extract c xs.size) items).size ≤ sizeLine + 1 := by
    simp only [Array.size_append, Array.size_extract]
    omega
  unfold setItem
  try with_reducible refine wpAny_holding ?_
  first | refine wpAny_bind (wpAny_pure ?_) | skip
  refine wpAny_bind (wpAny_sequenceKey hl.typeIs (by decide) ?_)
  refine wpAny_bind (wpAny_callSpecial?_slot (name := Str.ofString "__setitem__") hl.typeIs slot_list_setitem
    (wpAny_call_entry slot_list_setitem hl.typeIs entry_list_setitem ?_ (args_list_setitem _ _ _)))
  show wpAny _ _ (Builtin.List.listSubscript? (.ref sl) >>= _) _ _ s
  refine wpAny_bind ?_
  unfold Builtin.List.listSubscript?
  refine wpAny_bind (wpAny_specialOf hTs slice_no_index ?_)
  simp only [Option.isNone_none, if_true]
  refine wpAny_pure ?_
  show wpAny _ _ (typeOf (.ref sl) >>= _) _ _ s
  refine wpAny_bind (wpAny_typeOf hTs ?_)
  first
    | rw [if_neg (by decide)]
    | refine PySem.W.KFB.if_not (by decide) ?_
  rw [listSliceParts_eq]
  refine wpAny_bind (wpAny_bind (wpAny_field hos hds (x := .none) rfl (wpAny_bind (wpAny_listPart .none ?_))))
  rw [if_neg hstep]
  refine wpAny_bind (wpAny_field hos hds (x := vl) rfl (wpAny_bind (wpAny_listPart pl ?_)))
  refine wpAny_bind (wpAny_field hos hds (x := vu) rfl (wpAny_bind (wpAny_listPart pu (wpAny_pure ?_))))
  first
    | simp only [hsame, Bool.false_eq_true, if_false]
    | refine PySem.W.KFB.if_not hsame ?_
    | (dsimp only
       rw [if_neg (by rw [hsame]; exact Bool.false_ne_true)])
  refine wpAny_bind (m := Builtin.List.listAllItems (.ref b) "must assign iterable to extended slice") ?_
  unfold Builtin.List.listAllItems
  refine wpAny_bind (wpAny_typeOf hb.typeIs ?_)
  first
    | refine PySem.W.KFB.if_so (by decide) ?_
    | rw [if_pos (by decide)]
    | simp only [beq_self_eq_true, Bool.true_or, if_true]
  unfold Builtin.List.listItems
  refine wpAny_bind (wpAny_seqItems e2 rfl (wpAny_pure ?_))
  refine wpAny_bind (wpAny_bind (wpAny_seqItems e rfl (wpAny_pure ?_)))
  refine wpAny_bind (wpAny_of_eq ((sliceIndices_raw (some (a : Int)) (some (c : Int)) none items.size (by simp)).trans (congrArg (pure : Int × Int × Int → Sem (Int × Int × Int)) (bounds_run hac hc))) ?_)
  show wpAny _ _ (if ((1 : Int) == 1) = true then _ else _) _ _ s
  rw [if_pos (by decide)]
  refine wpAny_bind (wpAny_rule ?_)
  first
    | simp only [notLongL hsz, Bool.false_eq_true, if_false]
    | refine PySem.W.KFB.if_not (notLongL hsz) ?_
  first | refine wpAny_bind (wpAny_pure ?_) | skip
  show wpAny _ _ (updateSeq l (fun xs => xs.extract 0 ((a : Int)).toNat ++ new ++ xs.extract (max (a : Int) (c : Int)).toNat xs.size) >>= _) _ _ s
  rw [hmax, Int.toNat_natCast]
  refine wpAny_bind (wpAny_updateSeq (hz := Nat.le_trans (Nat.le_add_right _ _) hsz) (_hz' := hz') e rfl ?_)
  refine wpAny_bind (wpAny_letGo ?_)
  first
    | exact wpAny_bind (wpAny_pure (wpAny_pure ⟨.none, rfl, wpAny_pure h⟩))
    | exact wpAny_pure ⟨.none, rfl, wpAny_pure h⟩
end

section
variable {X : Cx}
/-- xs[a:c] = ys of another list, at the value level: sl is the slice object that was just made -/
theorem set_slice {pins : List (Addr × Obj)} {s : Shared} {σ : St} {H : Hp} {l b sl : Addr} {xs ys : List V} {a c : Int} {vl vu : Value} {Q : Unit → Shared → Prop} (I : Inv X pins σ H s)
    (hH : H l = some (.lst xs)) (hB : H b = some (.lst ys)) (hne : l ≠ b) (hs : s.heap.IsSliceOf sl vl vu .none) (ra : RelV (.int a) vl) (rc : RelV (.int c) vu) (h0 : 0 ≤ a) (hac : a ≤ c) (hc : c ≤ xs.length)
    (hz : xs.length + ys.length ≤ sizeLine) (h : ∀ s', Inv X pins σ (upd H l (.lst (xs.take a.toNat ++ ys ++ xs.drop c.toNat))) s' → Q () s') :
    wpAny (model X.prog X.w) X.A (setItem (.ref l) (.ref sl) (.ref b)) Q X.xe s := by
  obtain ⟨ta, rfl⟩ := ra
  obtain ⟨tc, rfl⟩ := rc
  obtain ⟨z, its, n, r, hl, e⟩ := I.lstM hH
  obtain ⟨z2, its2, n2, r2, hl2, e2⟩ := I.lstM hB
  obtain ⟨a', rfl⟩ := Int.eq_ofNat_of_zero_le h0
  obtain ⟨c', rfl⟩ := Int.eq_ofNat_of_zero_le (Int.le_trans h0 hac)
  simp only [Int.toNat_natCast] at h
  refine setItem_slice (a := a') (c := c') e e2 hne hs (.int _ _) (.int _ _) (by omega) (by rw [List.size_toArray]; omega) (by rw [List.size_toArray, List.size_toArray]; omega) (h _ ?_)
  refine I.lset (its' := its.take a' ++ its2 ++ its.drop c') (t' := s.toks) hH e ?_ (Vals.append (Vals.append (r.take _) r2) (r.drop _)) ?_
  · exact splice_eq its its2 a' c'
  · rw [List.length_append, List.length_append, List.length_take, List.length_drop]
    omega
end
end L2

namespace L2
open PySem PySem.Spec PyProof.Rows

/-! ### lists of pairs as tables -/
section
variable {κ : Type} [DecidableEq κ]
def valV (kvs : List (κ × V)) (k : κ) : Option V := (kvs.find? fun kv => decide (kv.1 = k)).map (·.2)
/-- in its place, or at the end -/
def putK (kvs : List (κ × V)) (k : κ) (v : V) : List (κ × V) :=
  if (kvs.any fun kv => decide (kv.1 = k)) = true then kvs.map (fun kv => if kv.1 = k then (kv.1, v) else kv) else kvs ++ [(k, v)]
def dropK (kvs : List (κ × V)) (k : κ) : List (κ × V) := kvs.filter fun kv => decide (kv.1 ≠ k)

theorem valV_nil {k : κ} : valV ([] : List (κ × V)) k = none := rfl
theorem valV_pos {p : κ × V} {r : List (κ × V)} {k : κ} (e : p.1 = k) : valV (p :: r) k = some p.2 := by simp [valV, List.find?_cons, e]
theorem valV_neg {p : κ × V} {r : List (κ × V)} {k : κ} (e : ¬ p.1 = k) : valV (p :: r) k = valV r k := by simp [valV, List.find?_cons, e]
theorem valV_any (k : κ) : ∀ kvs : List (κ × V), (kvs.any fun kv => decide (kv.1 = k)) = (valV kvs k).isSome
  | [] => rfl
  | p :: r => by
    rw [List.any_cons]
    by_cases e : p.1 = k
    · simp only [valV_pos e, decide_eq_true e, Bool.true_or, Option.isSome_some]
    · rw [valV_neg e, decide_eq_false e, Bool.false_or]; exact valV_any k r
theorem valV_map (k j : κ) (y : V) : ∀ kvs : List (κ × V), valV (kvs.map fun kv => if kv.1 = k then (kv.1, y) else kv) j = (valV kvs j).map fun x => if j = k then y else x
  | [] => rfl
  | p :: r => by
    have ih := valV_map k j y r
    rw [List.map_cons]
    by_cases h : p.1 = k
    · rw [if_pos h]
      by_cases e : p.1 = j
      · rw [valV_pos (p := (p.1, y)) e, valV_pos e, Option.map_some, if_pos (e.symm.trans h)]
      · rw [valV_neg (p := (p.1, y)) e, valV_neg e, ih]
    · rw [if_neg h]
      by_cases e : p.1 = j
      · rw [valV_pos (p := p) e, valV_pos e, Option.map_some, if_neg (fun z => h (e.trans z))]
      · rw [valV_neg (p := p) e, valV_neg e, ih]
theorem valV_snoc (k j : κ) (y : V) : ∀ kvs : List (κ × V), valV kvs k = none → valV (kvs ++ [(k, y)]) j = if j = k then some y else valV kvs j
  | [], _ => by
    by_cases e : k = j
    · rw [if_pos e.symm]; exact valV_pos (p := (k, y)) e
    · rw [if_neg (fun z => e z.symm)]; exact valV_neg (p := (k, y)) e
  | p :: r, hn => by
    rw [List.cons_append]
    have hk : ¬ p.1 = k := fun z => by rw [valV_pos z] at hn; cases hn
    rw [valV_neg hk] at hn
    have ih := valV_snoc k j y r hn
    by_cases e : p.1 = j
    · rw [valV_pos e, valV_pos e, if_neg (fun z => hk (e.trans z))]
    · rw [valV_neg e, valV_neg e, ih]
theorem valV_put (kvs : List (κ × V)) (k j : κ) (y : V) : valV (putK kvs k y) j = if j = k then some y else valV kvs j := by
  unfold putK
  by_cases a : (kvs.any fun kv => decide (kv.1 = k)) = true
  · rw [if_pos a, valV_map]
    rw [valV_any] at a
    by_cases e : j = k
    · obtain ⟨x, hx⟩ := Option.isSome_iff_exists.mp a
      rw [if_pos e, e, hx, Option.map_some, if_pos rfl]
    · rw [if_neg e]
      cases valV kvs j with
      | none => rfl
      | some x => rw [Option.map_some, if_neg e]
  · rw [if_neg a]
    refine valV_snoc k j y kvs ?_
    rw [valV_any] at a
    cases q : valV kvs k with
    | none => rfl
    | some x => rw [q] at a; exact (a rfl).elim
theorem length_putK (kvs : List (κ × V)) (k : κ) (v : V) : (putK kvs k v).length ≤ kvs.length + 1 := by
  unfold putK
  split
  · rw [List.length_map]; omega
  · rw [List.length_append, List.length_cons, List.length_nil]; omega
theorem putK_new {kvs : List (κ × V)} {k : κ} (v : V) (h : valV kvs k = none) : putK kvs k v = kvs ++ [(k, v)] := by
  unfold putK
  rw [valV_any, h]
  exact if_neg (by decide)

theorem RelO.isSome_eq {o : Option V} {u : Option Value} (r : RelO o u) : o.isSome = u.isSome := by
  cases o with
  | none => cases u with
    | none => rfl
    | some _ => exact (show False from r).elim
  | some _ => cases u with
    | none => exact (show False from r).elim
    | some _ => rfl
theorem RelO.getD {o : Option V} {u : Option Value} {d : V} {d' : Value} (r : RelO o u) (rd : RelV d d') : RelV (o.getD d) (u.getD d') := by
  cases o with
  | none => cases u with
    | none => exact rd
    | some _ => exact (show False from r).elim
  | some _ => cases u with
    | none => exact (show False from r).elim
    | some _ => exact r

/-- raw tables of the same keys -/
theorem KV.val {kvs : List (κ × V)} {vs : List (κ × Value)} (r : KV kvs vs) (k : κ) : RelO (valV kvs k) (valueAt vs k) := by
  unfold KV at r
  induction r with
  | nil => exact True.intro
  | @cons p q ps qs h t ih =>
    obtain ⟨h1, h2⟩ := h
    by_cases e : p.1 = k
    · have e' : q.1 = k := h1.symm.trans e
      have b : valueAt (q :: qs) k = some q.2 := by simp [valueAt, List.find?_cons, e']
      rw [valV_pos e, b]; exact h2
    · have e' : ¬ q.1 = k := fun z => e (h1.trans z)
      have b : valueAt (q :: qs) k = valueAt qs k := by simp [valueAt, List.find?_cons, e']
      rw [valV_neg e, b]; exact ih
theorem KV.any {kvs : List (κ × V)} {vs : List (κ × Value)} (r : KV kvs vs) (k : κ) : (kvs.any fun kv => decide (kv.1 = k)) = vs.any fun kv => decide (kv.1 = k) := by
  unfold KV at r
  induction r with
  | nil => rfl
  | cons h t ih => rw [List.any_cons, List.any_cons, ih, h.1]
theorem KV.repl {kvs : List (κ × V)} {vs : List (κ × Value)} (r : KV kvs vs) (k : κ) {y : V} {u : Value} (ry : RelV y u) :
    KV (kvs.map fun kv => if kv.1 = k then (kv.1, y) else kv) (vs.map fun kv => if kv.1 = k then (kv.1, u) else kv) := by
  unfold KV at r ⊢
  induction r with
  | nil => exact .nil
  | @cons p q ps qs h t ih =>
    rw [List.map_cons, List.map_cons]
    refine .cons ?_ ih
    obtain ⟨h1, h2⟩ := h
    by_cases e : p.1 = k
    · rw [if_pos e, if_pos (h1.symm.trans e)]; exact ⟨h1, ry⟩
    · rw [if_neg e, if_neg (fun z => e (h1.trans z))]; exact ⟨h1, h2⟩
theorem KV.put {kvs : List (κ × V)} {vs : List (κ × Value)} (r : KV kvs vs) (k : κ) {y : V} {u : Value} (ry : RelV y u) : KV (putK kvs k y) (stored vs k u) := by
  unfold putK stored
  rw [r.any k]
  by_cases e : (vs.any fun kv => decide (kv.1 = k)) = true
  · rw [if_pos e, if_pos e]; exact r.repl k ry
  · rw [if_neg e, if_neg e]; exact Paired.snoc r ⟨rfl, ry⟩
theorem KV.drop {kvs : List (κ × V)} {vs : List (κ × Value)} (r : KV kvs vs) (k : κ) : KV (dropK kvs k) (without vs k) := by
  unfold KV at r ⊢
  unfold dropK without
  induction r with
  | nil => exact .nil
  | @cons p q ps qs h t ih =>
    obtain ⟨h1, h2⟩ := h
    rw [List.filter_cons, List.filter_cons]
    by_cases e : p.1 = k
    · have a : ¬ decide (p.1 ≠ k) = true := by simp [e]
      have b : ¬ decide (q.1 ≠ k) = true := by simp [h1.symm.trans e]
      rw [if_neg a, if_neg b]; exact ih
    · have e' : ¬ q.1 = k := fun z => e (h1.trans z)
      have a : decide (p.1 ≠ k) = true := by simp [e]
      have b : decide (q.1 ≠ k) = true := by simp [e']
      rw [if_pos a, if_pos b]; exact .cons ⟨h1, h2⟩ ih
theorem KV.keys {kvs : List (κ × V)} {vs : List (κ × Value)} (r : KV kvs vs) : kvs.map (·.1) = vs.map (·.1) := by
  unfold KV at r
  induction r with
  | nil => rfl
  | cons h t ih => rw [List.map_cons, List.map_cons, ih, h.1]
theorem KV.length {kvs : List (κ × V)} {vs : List (κ × Value)} (r : KV kvs vs) : kvs.length = vs.length := Paired.length r
theorem dropK_le (kvs : List (κ × V)) (k : κ) : (dropK kvs k).length ≤ kvs.length := List.length_filter_le _ _
end


/-! ### a tracked dict, its keys ints and texts or tuples of these -/
theorem kV_is {P : Program} {w : World} {k : Key} {u : Value} (r : RelV (kV k) u) : (mixKind P w).is k u = true := by
  cases k with
  | inl i => obtain ⟨t, e⟩ := (show ∃ t, u = Value.int i t from r); subst e; exact mixKind_int P w i t
  | inr x => obtain ⟨t, e⟩ := (show ∃ t, u = Value.str x t from r); subst e; exact mixKind_str P w x t
theorem kV_inj {a b : Key} (e : kV a = kV b) : a = b := by
  cases a with
  | inl i => cases b with
    | inl j => have e' : V.int i = V.int j := e; injection e' with e'; rw [e']
    | inr y => exact nomatch (show V.int i = V.str y from e)
  | inr x => cases b with
    | inl j => exact nomatch (show V.str x = V.int j from e)
    | inr y => have e' : V.str x = V.str y := e; injection e' with e'; rw [e']
theorem kVs_inj : ∀ {a b : List Key}, a.map kV = b.map kV → a = b
  | [], [], _ => rfl
  | [], _ :: _, e => by simp at e
  | _ :: _, [], e => by simp at e
  | x :: xs, y :: ys, e => by
    rw [List.map_cons, List.map_cons] at e
    injection e with e1 e2
    rw [kV_inj e1, kVs_inj e2]
theorem items_are {P : Program} {w : World} : ∀ {ks : List Key} {us : List Value}, Vals (ks.map kV) us → ItemsAre (mixKind P w) ks us
  | [], _, r => by rw [List.map_nil] at r; cases r; exact .nil
  | k :: ks, _, r => by
    rw [List.map_cons] at r
    cases r with
    | cons h t => exact .cons (kV_is h) (items_are t)

/-- raw entries of a dict with tuple keys -/
abbrev KT (H : Hp) : List (List Key × V) → List (List Key × Addr × Value) → Prop := Paired fun p q => p.1 = q.1 ∧ H q.2.1 = some (.tup (p.1.map kV)) ∧ RelV p.2 q.2.2
theorem KT.val {H : Hp} {kvs : List (List Key × V)} {xs : List (List Key × Addr × Value)} (r : KT H kvs xs) (k : List Key) : RelO (valV kvs k) ((atKey xs k).map (·.2)) := by
  induction r with
  | nil => exact True.intro
  | @cons p q ps qs h t ih =>
    obtain ⟨h1, _, h2⟩ := h
    by_cases e : p.1 = k
    · have e' : q.1 = k := h1.symm.trans e
      have b : atKey (q :: qs) k = some q.2 := by simp [atKey, List.find?_cons, e']
      rw [valV_pos e, b]; exact h2
    · have e' : ¬ q.1 = k := fun z => e (h1.trans z)
      have b : atKey (q :: qs) k = atKey qs k := by simp [atKey, List.find?_cons, e']
      rw [valV_neg e, b]; exact ih
theorem KT.repl {H : Hp} {kvs : List (List Key × V)} {xs : List (List Key × Addr × Value)} (r : KT H kvs xs) (k : List Key) {y : V} {u : Value} (ry : RelV y u) :
    KT H (kvs.map fun kv => if kv.1 = k then (kv.1, y) else kv) (xs.map (putAt k u)) := by
  induction r with
  | nil => exact .nil
  | @cons p q ps qs h t ih =>
    rw [List.map_cons, List.map_cons]
    refine .cons ?_ ih
    obtain ⟨h1, h2, h3⟩ := h
    unfold putAt
    by_cases e : p.1 = k
    · rw [if_pos e, if_pos (h1.symm.trans e)]; exact ⟨h1, h2, ry⟩
    · rw [if_neg e, if_neg (fun z => e (h1.trans z))]; exact ⟨h1, h2, h3⟩
theorem KT.put {H : Hp} {kvs : List (List Key × V)} {xs : List (List Key × Addr × Value)} (r : KT H kvs xs) (k : List Key) {b : Addr} {y : V} {u : Value} (hb : H b = some (.tup (k.map kV))) (ry : RelV y u) :
    KT H (putK kvs k y) (storedH xs k b u) := by
  have e : (kvs.any fun kv => decide (kv.1 = k)) = (atKey xs k).isSome := by
    rw [valV_any, (r.val k).isSome_eq, Option.isSome_map]
  unfold putK storedH
  rw [e]
  by_cases q : (atKey xs k).isSome = true
  · rw [if_pos q, if_pos q]; exact r.repl k ry
  · rw [if_neg q, if_neg q]; exact Paired.snoc r ⟨rfl, hb, ry⟩
theorem KT.keeps {H H' : Hp} {kvs : List (List Key × V)} {xs : List (List Key × Addr × Value)} (r : KT H kvs xs) (ht : ∀ b ys, H b = some (.tup ys) → H' b = some (.tup ys)) : KT H' kvs xs :=
  Paired.mapP r fun _ _ z => ⟨z.1, ht _ _ z.2.1, z.2.2⟩

section
variable {P : Program} {w : World} {H : Hp} {h : Heap} {a : Addr}
theorem rd_of {u : HO} (ok : HOk P w H h) (e : Rd H a u) : ObjOk P w H h a u := e.ok ok
theorem dk_rd {kvs : List (Key × V)} (ok : HOk P w H h) (e : Rd H a (.dK kvs)) : kvs.length ≤ sizeLine ∧ (a == sysModules) = false ∧ ∃ vs, KV kvs vs ∧ h.DictOf (mixKind P w) a vs :=
  show ObjOk P w H h a (.dK kvs) from rd_of ok e
theorem dk_of {kvs : List (Key × V)} (ok : HOk P w H h) (e : H a = some (.dK kvs)) : kvs.length ≤ sizeLine ∧ (a == sysModules) = false ∧ ∃ vs, KV kvs vs ∧ h.DictOf (mixKind P w) a vs := dk_rd ok (.inl e)
/-- a tracked tuple of ints and texts is a key -/
theorem key_of {ks : List Key} (ok : HOk P w H h) (e : H a = some (.tup (ks.map kV))) : (tupleKind (mixKind P w)).is h ks a := by
  obtain ⟨_, its, r, o, h1, h2, n, h3⟩ := (show ObjOk P w H h a (.tup (ks.map kV)) from ok a _ e)
  exact ⟨o, its.toArray, n, h1, h2, h3, by simpa using items_are r⟩
theorem dt_rd {kvs : List (List Key × V)} (ok : HOk P w H h) (e : Rd H a (.dT kvs)) : kvs.length ≤ sizeLine ∧ (a == sysModules) = false ∧
    ∃ xs, KT H kvs xs ∧ h.DictOfH (tupleKind (mixKind P w)) a xs := by
  obtain ⟨z, y, xs, r, o, es, ep, h1, h2, h3, h4, h5⟩ := (show ObjOk P w H h a (.dT kvs) from rd_of ok e)
  refine ⟨z, y, xs, r, o, es, ep, h1, h2, h3, h4, fun x hx => ?_, h5⟩
  have all : ∀ {l : List (List Key × V)} {m : List (List Key × Addr × Value)}, KT H l m → ∀ x ∈ m, (tupleKind (mixKind P w)).is h x.1 x.2.1 := by
    intro l m q
    induction q with
    | nil => intro x hx; exact nomatch hx
    | @cons p q ps qs hq t ih =>
      intro x hx
      rcases List.mem_cons.mp hx with e | hx
      · subst e
        exact key_of ok (by rw [← hq.1]; exact hq.2.1)
      · exact ih x hx
  exact all r x hx
theorem dt_of {kvs : List (List Key × V)} (ok : HOk P w H h) (e : H a = some (.dT kvs)) : kvs.length ≤ sizeLine ∧ (a == sysModules) = false ∧
    ∃ xs, KT H kvs xs ∧ h.DictOfH (tupleKind (mixKind P w)) a xs := dt_rd ok (.inl e)
end

/-- what the dict at a holds at the key y -/
def DGet (H : Hp) (a : Addr) (y : V) (r : Option V) : Prop :=
  (∃ kvs k, Rd H a (.dK kvs) ∧ y = kV k ∧ r = valV kvs k) ∨ ∃ kvs k b, Rd H a (.dT kvs) ∧ y = .ref b ∧ H b = some (.tup (k.map kV)) ∧ r = valV kvs k
/-- the heap behind a[y] = v -/
def DPut (H : Hp) (a : Addr) (y v : V) (H' : Hp) : Prop :=
  (∃ kvs k, H a = some (.dK kvs) ∧ y = kV k ∧ kvs.length < sizeLine ∧ H' = upd H a (.dK (putK kvs k v))) ∨
  ∃ kvs k b, H a = some (.dT kvs) ∧ y = .ref b ∧ H b = some (.tup (k.map kV)) ∧ kvs.length < sizeLine ∧ H' = upd H a (.dT (putK kvs k v))
theorem DGet.k {H : Hp} {a : Addr} {kvs : List (Key × V)} {k : Key} (e : H a = some (.dK kvs)) : DGet H a (kV k) (valV kvs k) := .inl ⟨kvs, k, .inl e, rfl, rfl⟩
theorem DGet.t {H : Hp} {a b : Addr} {kvs : List (List Key × V)} {k : List Key} (e : H a = some (.dT kvs)) (eb : H b = some (.tup (k.map kV))) : DGet H a (.ref b) (valV kvs k) := .inr ⟨kvs, k, b, .inl e, rfl, eb, rfl⟩
theorem DPut.k {H : Hp} {a : Addr} {kvs : List (Key × V)} {k : Key} {v : V} (e : H a = some (.dK kvs)) (hl : kvs.length < sizeLine) : DPut H a (kV k) v (upd H a (.dK (putK kvs k v))) := .inl ⟨kvs, k, e, rfl, hl, rfl⟩
theorem DPut.t {H : Hp} {a b : Addr} {kvs : List (List Key × V)} {k : List Key} {v : V} (e : H a = some (.dT kvs)) (eb : H b = some (.tup (k.map kV))) (hl : kvs.length < sizeLine) :
    DPut H a (.ref b) v (upd H a (.dT (putK kvs k v))) := .inr ⟨kvs, k, b, e, rfl, eb, hl, rfl⟩


section
variable {X : Cx} {pins : List (Addr × Obj)} {σ : St} {H : Hp} {s : Shared} {a : Addr} {y v : V} {u r : Value} {o : Option V} {A : Around} {E : Value → Shared → Prop}

theorem Inv.big (I : Inv X pins σ H s) : sysModules < s.heap.objs.size := by
  have h : mainGlobals < s.heap.objs.size := (I.mod.glob.keeps I.bk).lt
  exact Nat.lt_trans (by decide) h

/-- d[y], there -/
theorem d_getItem {Q : Value → Shared → Prop} (hu : A.units + 1 < cLine) (I : Inv X pins σ H s) (g : DGet H a y (some v)) (ry : RelV y u) (h : ∀ w' s', Inv X pins σ H s' → RelV v w' → Q w' s') :
    wpAny (model X.prog X.w) A (getItem (.ref a) u) Q E s := by
  rcases g with ⟨kvs, k, e, ey, l⟩ | ⟨kvs, k, b, e, ey, eb, l⟩
  · subst ey
    obtain ⟨z, hd, vs, rel, dd⟩ := dk_rd I.hok e
    obtain ⟨w', hw, rw'⟩ := RelO.some_of (v := v) (o := valueAt vs k) (by rw [l]; exact rel.val k)
    exact wpAny_getItem_of (kV_is ry) dd.mapOf hw (h w' _ (I.tok _) rw')
  · subst ey
    cases (show u = Value.ref b from ry)
    obtain ⟨z, hd, xs, rel, dd⟩ := dt_rd I.hok e
    obtain ⟨w', hw, rw'⟩ := RelO.some_of (v := v) (o := (atKey xs k).map (·.2)) (by rw [l]; exact rel.val k)
    obtain ⟨p, hp, hp2⟩ := Option.map_eq_some_iff.mp hw
    refine wpAny_getItem_heap (tupleKind_room_in1 hu) (key_of I.hok eb) dd hp ?_
    rw [hp2]
    exact h w' _ (I.tok _) rw'
/-- y in d -/
theorem d_in {Q : Value → Shared → Prop} (hu : A.units + 1 < cLine) (I : Inv X pins σ H s) (g : DGet H a y o) (ry : RelV y u) (h : ∀ s', Inv X pins σ H s' → Q (.bool o.isSome) s') :
    wpAny (model X.prog X.w) A (compareOp .In u (.ref a)) Q E s := by
  rcases g with ⟨kvs, k, e, ey, l⟩ | ⟨kvs, k, b, e, ey, eb, l⟩
  · subst ey
    obtain ⟨z, hd, vs, rel, dd⟩ := dk_rd I.hok e
    refine wpAny_in_of (kV_is ry) hd dd.mapOf ?_
    rw [← (rel.val k).isSome_eq, ← l]
    exact h _ (I.tok _)
  · subst ey
    cases (show u = Value.ref b from ry)
    obtain ⟨z, hd, xs, rel, dd⟩ := dt_rd I.hok e
    refine wpAny_in_heap (tupleKind_room_in1 hu) (key_of I.hok eb) hd dd ?_
    have q := (rel.val k).isSome_eq
    rw [Option.isSome_map] at q
    rw [← q, ← l]
    exact h _ (I.tok _)
theorem d_notIn {Q : Value → Shared → Prop} (hu : A.units + 1 < cLine) (I : Inv X pins σ H s) (g : DGet H a y o) (ry : RelV y u) (h : ∀ s', Inv X pins σ H s' → Q (.bool (!o.isSome)) s') :
    wpAny (model X.prog X.w) A (compareOp .NotIn u (.ref a)) Q E s := by
  rcases g with ⟨kvs, k, e, ey, l⟩ | ⟨kvs, k, b, e, ey, eb, l⟩
  · subst ey
    obtain ⟨z, hd, vs, rel, dd⟩ := dk_rd I.hok e
    refine wpAny_notIn_of (kV_is ry) hd dd.mapOf ?_
    rw [← (rel.val k).isSome_eq, ← l]
    exact h _ (I.tok _)
  · subst ey
    cases (show u = Value.ref b from ry)
    obtain ⟨z, hd, xs, rel, dd⟩ := dt_rd I.hok e
    refine wpAny_notIn_heap (tupleKind_room_in1 hu) (key_of I.hok eb) hd dd ?_
    have q := (rel.val k).isSome_eq
    rw [Option.isSome_map] at q
    rw [← q, ← l]
    exact h _ (I.tok _)
/-- a dict's object is replaced -/
theorem d_write {h' : Heap} {t' : Nat} {ob : HO} (I : Inv X pins σ H s) (mu : Mut (H a)) (hs : Heap.SameBut a s.heap h') (he : ∃ q, h'.get? a = some q) (new : ObjOk X.prog X.w (upd H a ob) h' a ob) :
    Inv X pins σ (upd H a ob) { s with heap := h', toks := t' } :=
  I.write (x := a) (e := a) mu (.inl rfl) (fun b q hb z => (hs.2 b hb).trans z) he new
theorem dk_new {P : Program} {w : World} {H' : Hp} {h' : Heap} {kvs : List (Key × V)} {vs : List (Key × Value)} (z : kvs.length ≤ sizeLine) (hd : (a == sysModules) = false) (rel : KV kvs vs) (dd : h'.DictOf (mixKind P w) a vs) :
    ObjOk P w H' h' a (.dK kvs) := ⟨z, hd, vs, rel, dd⟩
/-- d[y] = v -/
theorem d_setItem {H' : Hp} {Q : Unit → Shared → Prop} (hu : A.units + 1 < cLine) (I : Inv X pins σ H s) (g : DPut H a y v H') (ry : RelV y u) (rv : RelV v r) (h : ∀ s', Inv X pins σ H' s' → Q () s') :
    wpAny (model X.prog X.w) A (setItem (.ref a) u r) Q E s := by
  rcases g with ⟨kvs, k, e, ey, l, eH⟩ | ⟨kvs, k, b, e, ey, eb, l, eH⟩
  · subst ey eH
    obtain ⟨z, hd, vs, rel, dd⟩ := dk_of I.hok e
    have hz : vs.length ≤ sizeLine := by rw [← rel.length]; exact z
    have hl : (putK kvs k v).length ≤ sizeLine := by have := length_putK kvs k v; omega
    refine wpAny_setItem_pairs (hsz := hz) (kV_is ry) dd fun h' dd' hs => h _ ?_
    have he : ∃ q, h'.get? a = some q := let ⟨q, _, _, hq, _⟩ := dd'; ⟨q, hq⟩
    exact d_write I (by rw [e]; exact True.intro) hs he (dk_new hl hd (rel.put k rv) dd')
  · subst ey eH
    cases (show u = Value.ref b from ry)
    obtain ⟨z, hd, xs, rel, dd⟩ := dt_of I.hok e
    have hz : xs.length ≤ sizeLine := by rw [← Paired.length rel]; exact z
    have hl : (putK kvs k v).length ≤ sizeLine := by have := length_putK kvs k v; omega
    refine wpAny_setItem_heap (hsz := hz) (tupleKind_room_in1 hu) (key_of I.hok eb) dd fun h' dd' hs => h _ ?_
    obtain ⟨q, es, ep, hq, h2, h3, h4, _, h5⟩ := dd'
    refine d_write I (by rw [e]; exact True.intro) hs ⟨q, hq⟩ ⟨hl, hd, _, (rel.put k eb rv).keeps fun c ys ec => ?_, q, es, ep, hq, h2, h3, h4, h5⟩
    rw [upd_ne (ne_of ec e (fun z => nomatch z))]
    exact ec
end

section
variable {X : Cx} {pins : List (Addr × Obj)} {σ : St} {H : Hp} {s : Shared} {a : Addr} {kvs : List (Key × V)} {k : Key} {u : Value} {A : Around} {E : Value → Shared → Prop}
/-- del d[k] -/
theorem d_delItem {Q : Unit → Shared → Prop} (I : Inv X pins σ H s) (e : H a = some (.dK kvs)) (ry : RelV (kV k) u) (l : (valV kvs k).isSome = true) (h : ∀ s', Inv X pins σ (upd H a (.dK (dropK kvs k))) s' → Q () s') :
    wpAny (model X.prog X.w) A (delItem (.ref a) u) Q E s := by
  obtain ⟨z, hd, vs, rel, dd⟩ := dk_of I.hok e
  refine wpAny_delItem_slot dd.typeIs (by decide) PySem.F.slot_dict_delitem
    (call_meetsIn PySem.F.slot_dict_delitem dd.typeIs PySem.F.entry_dict_delitem (PySem.F.args_dict_delitem_2 _ _) (meets_dict_delitem_pairs (mixKind X.prog X.w) a (kV_is ry)) ⟨vs, dd, by rw [← rel.length]; exact z, by rw [← (rel.val k).isSome_eq]; exact l, fun h' dd' hs => h _ ?_⟩)
  have he : ∃ q, h'.get? a = some q := let ⟨q, _, _, hq, _⟩ := dd'; ⟨q, hq⟩
  exact d_write I (by rw [e]; exact True.intro) hs he (dk_new (Nat.le_trans (dropK_le kvs k) z) hd (rel.drop k) dd')
/-- d.pop(k[, x]), there -/
theorem d_pop {v : V} {more : List Value} {Q : Value → Shared → Prop} (I : Inv X pins σ H s) (e : H a = some (.dK kvs)) (ry : RelV (kV k) u) (l : valV kvs k = some v) (hm : more = [] ∨ ∃ x, more = [x])
    (h : ∀ w' s', Inv X pins σ (upd H a (.dK (dropK kvs k))) s' → RelV v w' → Q w' s') : wpAny (model X.prog X.w) A (call (.builtin "dict.pop") (.ref a :: u :: more)) Q E s := by
  obtain ⟨z, hd, vs, rel, dd⟩ := dk_of I.hok e
  obtain ⟨w', hw, rw'⟩ := RelO.some_of (v := v) (o := valueAt vs k) (by rw [← l]; exact rel.val k)
  have hp : (keyPart u).isSome = true := by
    cases k with
    | inl i => obtain ⟨t, q⟩ := (show ∃ t, u = Value.int i t from ry); subst q; rfl
    | inr x => obtain ⟨t, q⟩ := (show ∃ t, u = Value.str x t from ry); subst q; rfl
  have ha : argsOk "dict.pop" ⟨.ref a :: u :: more, []⟩ := by
    rcases hm with q | ⟨x, q⟩
    · subst q; exact PySem.F.args_dict_pop_2 _ _
    · subst q; exact PySem.F.args_dict_pop_3 _ _ _
  refine call_meetsIn PySem.F.slot_dict_pop dd.typeIs PySem.F.entry_dict_pop ha (meets_dict_pop_there (mixKind X.prog X.w) a (kV_is ry) more hm hp)
    ⟨vs, w', dd, by rw [← rel.length]; exact z, hw, fun h' dd' hs => h w' _ ?_ rw'⟩
  have he : ∃ q, h'.get? a = some q := let ⟨q, _, _, hq, _⟩ := dd'; ⟨q, hq⟩
  exact d_write I (by rw [e]; exact True.intro) hs he (dk_new (Nat.le_trans (dropK_le kvs k) z) hd (rel.drop k) dd')
/-- d.pop(k, x), not there -/
theorem d_popD {r : Value} {Q : Value → Shared → Prop} (I : Inv X pins σ H s) (e : H a = some (.dK kvs)) (ry : RelV (kV k) u) (l : valV kvs k = none) (h : ∀ s', Inv X pins σ H s' → Q r s') :
    wpAny (model X.prog X.w) A (call (.builtin "dict.pop") [.ref a, u, r]) Q E s := by
  obtain ⟨z, hd, vs, rel, dd⟩ := dk_of I.hok e
  have hn : valueAt vs k = none := RelO.none_of (by rw [← l]; exact rel.val k)
  have hp : (keyPart u).isSome = true := by
    cases k with
    | inl i => obtain ⟨t, q⟩ := (show ∃ t, u = Value.int i t from ry); subst q; rfl
    | inr x => obtain ⟨t, q⟩ := (show ∃ t, u = Value.str x t from ry); subst q; rfl
  exact call_meetsIn PySem.F.slot_dict_pop dd.typeIs PySem.F.entry_dict_pop (PySem.F.args_dict_pop_3 _ _ _) (meets_dict_pop_default (mixKind X.prog X.w) a (kV_is ry) hd hp r) ⟨vs, dd, hn, h _ (I.tok _)⟩
/-- d.clear() -/
theorem d_clear {Q : Value → Shared → Prop} (I : Inv X pins σ H s) (e : H a = some (.dK kvs)) (h : ∀ s', Inv X pins σ (upd H a (.dK [])) s' → Q .none s') : wpAny (model X.prog X.w) A (call (.builtin "dict.clear") [.ref a]) Q E s := by
  obtain ⟨z, hd, vs, rel, dd⟩ := dk_of I.hok e
  refine call_meetsIn PySem.F.slot_dict_clear dd.typeIs PySem.F.entry_dict_clear (PySem.F.args_dict_clear_1 _) (meets_dict_clear (mixKind X.prog X.w) a) ⟨vs, dd, by rw [← rel.length]; exact z, fun h' dd' hs => h _ ?_⟩
  have he : ∃ q, h'.get? a = some q := let ⟨q, _, _, hq, _⟩ := dd'; ⟨q, hq⟩
  exact d_write (t' := s.toks) I (by rw [e]; exact True.intro) hs he (dk_new (Nat.zero_le _) hd .nil dd')
/-- len(d) -/
theorem d_len {Q : Value → Shared → Prop} (I : Inv X pins σ H s) (e : Rd H a (.dK kvs)) (h : ∀ t s', Inv X pins σ H s' → Q (.int kvs.length t) s') : wpAny (model X.prog X.w) A (call (.builtin "len") [.ref a]) Q E s := by
  obtain ⟨z, hd, vs, rel, dd⟩ := dk_rd I.hok e
  refine call_len_dict hd dd (by rw [← rel.length]; rw [sizeLine_eq] at z; omega) ?_
  rw [← rel.length]
  exact h _ _ (I.tok _)
/-- if d -/
theorem d_truth {Q : Bool → Shared → Prop} (I : Inv X pins σ H s) (e : Rd H a (.dK kvs)) (h : ∀ s', Inv X pins σ H s' → Q (!kvs.isEmpty) s') : wpAny (model X.prog X.w) A (truthy (.ref a)) Q E s := by
  obtain ⟨z, hd, vs, rel, dd⟩ := dk_rd I.hok e
  refine wpAny_truthy_dict hd dd (by rw [← rel.length]; rw [sizeLine_eq] at z; omega) ?_
  have q : kvs.isEmpty = vs.isEmpty := by cases rel <;> rfl
  rw [← q]
  exact h _ (I.tok _)
end


/-! ### readings and rules -/
/-- the element of a subscription, not a slice -/
def NoSl (i : Expr) : Prop := ∀ ov iv, subscripted i false ov iv = operate [ov, iv] (getItem ov iv)
theorem subD_of {prog : Program} {w : World} {A : Around} {E : Value → Shared → Prop} {s : Shared} {env : Env} {value slice : Expr} {pos : Pos} {T id : String} {Q : Value → Shared → Prop}
    (hl : typeLookup (.type T) "__getitem__" = pure (some (.builtin id))) (hs : NoSl slice)
    (h : wpAny (model prog w) A (eval value env) (fun o s₁ => wpAny (model prog w) A (eval slice env) (fun i s₂ => s₂.TypeIs o T ∧ wpAny (model prog w) A (getItem o i) Q E s₂) E s₁) E s) :
    wpAny (model prog w) A (eval (.Subscript value slice pos) env) Q E s := by
  refine Subscript_ (wpAny_mono h (fun o s₁ h₁ => wpAny_mono h₁ (fun i s₂ h₂ => ?_) fun _ _ x => x) fun _ _ x => x)
  obtain ⟨hT, h₂⟩ := h₂
  unfold subscriptTail
  refine wpAny_bind ?_
  rw [getitemInPython_of_ne hT.not_modules]
  refine wpAny_bind (wpAny_specialOf hT hl ?_)
  have fin : wpAny (model prog w) A (subscripted slice false o i) (fun r s₃ => wpAny (model prog w) A (letTemporaryGo value o r >>= fun _ => pure r) Q E s₃) E s₂ := by
    rw [hs o i]
    exact wpAny_operating (wpAny_mono h₂ (fun r s₃ h₃ => wpAny_bind (wpAny_letTemporaryGo (wpAny_pure h₃))) fun _ _ x => x)
  first
    | exact wpAny_pure (wpAny_bind fin)
    | exact wpAny_bind (wpAny_pure (wpAny_bind fin))
    | exact wpAny_bind fin

theorem dict_typeIs {X : Cx} {pins : List (Addr × Obj)} {σ : St} {H : Hp} {s : Shared} {a : Addr} {y : V} {o : Option V} (I : Inv X pins σ H s) (g : DGet H a y o) : s.TypeIs (.ref a) "dict" := by
  rcases g with ⟨kvs, k, e, _, _⟩ | ⟨kvs, k, b, e, _, _, _⟩
  · obtain ⟨_, _, vs, _, dd⟩ := dk_rd I.hok e
    exact dd.typeIs
  · obtain ⟨_, _, xs, _, dd⟩ := dt_rd I.hok e
    exact dd.typeIs
theorem dict_noDict {X : Cx} {pins : List (Addr × Obj)} {σ : St} {H : Hp} {s : Shared} {a : Addr} {y : V} {o : Option V} (I : Inv X pins σ H s) (g : DGet H a y o) :
    ∀ b, Value.ref a = .ref b → ∃ ob, s.heap.get? b = some ob ∧ ob.dict = none := fun b q => by
  cases q
  rcases g with ⟨kvs, k, e, _, _⟩ | ⟨kvs, k, b, e, _, _, _⟩
  · obtain ⟨_, _, vs, _, ob, _, _, h1, h2, _⟩ := dk_rd I.hok e
    exact ⟨ob, h1, h2.2.1⟩
  · obtain ⟨_, _, xs, _, ob, _, _, h1, h2, _⟩ := dt_rd I.hok e
    exact ⟨ob, h1, h2.2.1⟩

/-- d[y] -/
def tDGet (td ty : TE) : TE := fun σ H Q => td σ H fun x H1 => ty σ H1 fun y H2 => ∃ a v, x = .ref a ∧ DGet H2 a y (some v) ∧ Q v H2
/-- y in d, y not in d -/
def tDIn (ty td : TE) : TE := fun σ H Q => ty σ H fun y H1 => td σ H1 fun x H2 => ∃ a o, x = .ref a ∧ DGet H2 a y o ∧ Q (.bl o.isSome) H2
def tDNotIn (ty td : TE) : TE := fun σ H Q => ty σ H fun y H1 => td σ H1 fun x H2 => ∃ a o, x = .ref a ∧ DGet H2 a y o ∧ Q (.bl (!o.isSome)) H2
/-- d[y] = v -/
def sDPut (td ty tv : TE) : TS := fun D σ H => tv σ H fun v H1 => td σ H1 fun x H2 => ty σ H2 fun y H3 => ∃ a H4, x = .ref a ∧ DPut H3 a y v H4 ∧ D.nx σ H4
/-- d[y] op= v -/
def sDAug (td ty tv : TE) (rd : V → V → Hp → VK → Prop) : TS := fun D σ H => td σ H fun x H1 => ty σ H1 fun y H2 => ∃ a v, x = .ref a ∧ DGet H2 a y (some v) ∧
  tv σ H2 fun y2 H3 => rd v y2 H3 fun z H4 => ∃ H5, DPut H4 a y z H5 ∧ D.nx σ H5
/-- del d[y] -/
def sDDel (td ty : TE) : TS := fun D σ H => td σ H fun x H1 => ty σ H1 fun y H2 => ∃ a kvs k, x = .ref a ∧ H2 a = some (.dK kvs) ∧ y = kV k ∧ (valV kvs k).isSome = true ∧ D.nx σ (upd H2 a (.dK (dropK kvs k)))

section
variable {X : Cx} {o i e value : Expr} {pos pos' tpos : Pos} {td ty tv : TE}
theorem pe_dget (hu : X.A.units + 1 < cLine) (ho : PE X o td) (hi : PE X i ty) (hs : NoSl i) : PE X (.Subscript o i pos) (tDGet td ty) := by
  intro pins s σ H Q I h
  refine subD_of PySem.F.slot_dict_getitem.lookup hs (thn (ho pins s σ H _ I h) fun u s1 ⟨x, H1, I1, rx, q1⟩ => thn (hi pins s1 σ H1 _ I1 q1) fun iv s2 ⟨y, H2, I2, ry, a, v, ex, g, q2⟩ => ?_)
  subst ex
  obtain rfl : u = Value.ref a := rx
  exact ⟨dict_typeIs I2 g, d_getItem hu I2 g ry fun w' s3 I3 rw' => ⟨v, H2, I3, rw', q2⟩⟩
theorem pc_din (hu : X.A.units + 1 < cLine) (hi : PE X i ty) (ho : PE X o td) : PC X .In i o (tDIn ty td) := by
  intro pins s σ H Q I h
  refine thn (hi pins s σ H _ I h) fun iv s1 ⟨y, H1, I1, ry, q1⟩ => thn (ho pins s1 σ H1 _ I1 q1) fun u s2 ⟨x, H2, I2, rx, a, ov, ex, g, q2⟩ => ?_
  subst ex
  obtain rfl : u = Value.ref a := rx
  exact d_in hu I2 g ry fun s3 I3 => ⟨.bl ov.isSome, H2, I3, rfl, q2⟩
theorem pc_dnotin (hu : X.A.units + 1 < cLine) (hi : PE X i ty) (ho : PE X o td) : PC X .NotIn i o (tDNotIn ty td) := by
  intro pins s σ H Q I h
  refine thn (hi pins s σ H _ I h) fun iv s1 ⟨y, H1, I1, ry, q1⟩ => thn (ho pins s1 σ H1 _ I1 q1) fun u s2 ⟨x, H2, I2, rx, a, ov, ex, g, q2⟩ => ?_
  subst ex
  obtain rfl : u = Value.ref a := rx
  exact d_notIn hu I2 g ry fun s3 I3 => ⟨.bl (!ov.isSome), H2, I3, rfl, q2⟩
theorem ps_dput (hu : X.A.units + 1 < cLine) (ho : PE X o td) (hi : PE X i ty) (hv : PE X value tv) (hs : swapsWith value (some (.Subscript o i pos')) pos.line X.env = pure false) :
    PS X (.Assign [.Subscript o i pos'] value pos) (sDPut td ty tv) := by
  intro pins s σ H D I h
  refine wpAny_Assign_Subscript (thn (hv pins s σ H _ I h) fun r s1 ⟨v, H1, I1, rv, q1⟩ => thn (ho pins s1 σ H1 _ I1 q1) fun u s2 ⟨x, H2, I2, rx, q2⟩ => thn (hi pins s2 σ H2 _ I2 q2) fun iv s3 ⟨y, H3, I3, ry, a, H4, ex, g, q3⟩ => ?_) hs
  subst ex
  obtain rfl : u = Value.ref a := rx
  exact d_setItem hu I3 g ry rv fun s4 I4 => ⟨σ, H4, I4, q3⟩
theorem ps_daug {op : Operator} {rd : V → V → Hp → VK → Prop} (hu : X.A.units + 1 < cLine) (ho : PE X o td) (hi : PE X i ty) (hv : PE X value tv) (hop : InOp X op rd)
    (ha : ∀ ov iv new, augStore i ov iv new = (do holding [new, ov, iv] (setItem ov iv new); release [new, ov, iv] []; pure .next)) : PS X (.AugAssign (.Subscript o i tpos) op value pos) (sDAug td ty tv rd) := by
  intro pins s σ H D I h
  refine wpAny_AugAssign_SubscriptAny (thn (ho pins s σ H _ I h) fun u s1 ⟨x, H1, I1, rx, q1⟩ => thn (hi pins s1 σ H1 _ I1 q1) fun iv s2 ⟨y, H2, I2, ry, a, v, ex, g, q2⟩ => ?_) ha
  subst ex
  obtain rfl : u = Value.ref a := rx
  refine d_getItem hu I2 g ry fun w' s3 I3 rw' => thn (hv pins s3 σ H2 _ I3 q2) fun w2 s4 ⟨y2, H3, I4, ry2, q3⟩ => thn (hop pins s4 σ H3 v y2 w' w2 _ I4 rw' ry2 q3) fun w3 s5 ⟨z, H4, I5, rz, H5, g5, q4⟩ => ?_
  exact d_setItem hu I5 g5 ry rz fun s6 I6 => ⟨σ, H5, I6, q4⟩
theorem ps_ddel (ho : PE X o td) (hi : PE X i ty) : PS X (.Delete [.Subscript o i tpos] pos) (sDDel td ty) := by
  intro pins s σ H D I h
  refine wpAny_Delete (wpAny_deleteEach_cons (wpAny_delete_Subscript (thn (ho pins s σ H _ I h) fun u s1 ⟨x, H1, I1, rx, q1⟩ => thn (hi pins s1 σ H1 _ I1 q1) fun iv s2 ⟨y, H2, I2, ry, a, kvs, k, ex, e, ey, l, q2⟩ => ?_)))
  subst ex ey
  obtain rfl : u = Value.ref a := rx
  exact d_delItem I2 e ry l fun s3 I3 => wpAny_deleteEach_nil ⟨σ, _, I3, q2⟩
end


/-! ### displays -/
theorem dk_empty {P : Program} {w : World} {H : Hp} (h : Heap) (hb : sysModules < h.objs.size) : ObjOk P w H (h.push { cls := .type "dict", data := .dict #[] }) h.objs.size (.dK []) :=
  ⟨Nat.zero_le _, beq_eq_false_iff_ne.mpr (Ne.symm (Nat.ne_of_lt hb)), [], .nil, Heap.DictOf.new h⟩
theorem dt_empty {P : Program} {w : World} {H : Hp} (h : Heap) (hb : sysModules < h.objs.size) : ObjOk P w H (h.push { cls := .type "dict", data := .dict #[] }) h.objs.size (.dT []) :=
  ⟨Nat.zero_le _, beq_eq_false_iff_ne.mpr (Ne.symm (Nat.ne_of_lt hb)), [], .nil, _, #[], 0, Heap.get?_push_size _ rfl, ⟨rfl, rfl, rfl⟩, rfl, rfl, List.nodup_nil⟩
/-- {}, to be a dict of the kind that is wanted -/
def tDNewK : TE := fun _ H Q => ∀ p, H p = none → Q (.ref p) (upd H p (.dK []))
def tDNewT : TE := fun _ H Q => ∀ p, H p = none → Q (.ref p) (upd H p (.dT []))
section
variable {X : Cx} {pos : Pos}
theorem pe_dnewK : PE X (.Dict [] [] pos) tDNewK := fun pins s σ H Q I h =>
  wpAny_Dict_empty ⟨.ref s.heap.objs.size, _, I.laid (a := s.heap.objs.size) (o := .dK []) (t' := s.toks) (fun _ _ q => Heap.get?_push_of_some _ q) (Nat.le_refl _) (dk_empty s.heap I.big), rfl, h _ (I.hok.fresh (Nat.le_refl _))⟩
theorem pe_dnewT : PE X (.Dict [] [] pos) tDNewT := fun pins s σ H Q I h =>
  wpAny_Dict_empty ⟨.ref s.heap.objs.size, _, I.laid (a := s.heap.objs.size) (o := .dT []) (t' := s.toks) (fun _ _ q => Heap.get?_push_of_some _ q) (Nat.le_refl _) (dt_empty s.heap I.big), rfl, h _ (I.hok.fresh (Nat.le_refl _))⟩
end

/-- the pairs of a display, from the left -/
def tPairs : List (TE × TE) → St → Hp → (List (V × V) → Hp → Prop) → Prop
  | [], _, H, Q => Q [] H
  | (tk, tv) :: r, σ, H, Q => tk σ H fun x H1 => tv σ H1 fun y H2 => tPairs r σ H2 fun ps H3 => Q ((x, y) :: ps) H3
abbrev VV : List (V × V) → List (Value × Value) → Prop := Paired fun p q => RelV p.1 q.1 ∧ RelV p.2 q.2
def PPs (X : Cx) (pos : Pos) (keys : List (Option Expr)) (values : List Expr) (trs : List (TE × TE)) : Prop :=
  ∀ (pins : List (Addr × Obj)) (s : Shared) (σ : St) (H : Hp) (Q : List (V × V) → Hp → Prop), Inv X pins σ H s → tPairs trs σ H Q →
    wpAny (model X.prog X.w) X.A (evalPairs (pairTrees keys values X.env pos)) (fun vs s' => ∃ ps H', Inv X pins σ H' s' ∧ VV ps vs ∧ Q ps H') X.xe s
theorem pps_nil {X : Cx} {pos : Pos} : PPs X pos [] [] [] := fun pins s σ H Q I h => pairTrees_nil_walk ⟨[], H, I, .nil, h⟩
theorem pps_cons {X : Cx} {pos : Pos} {k v : Expr} {ks : List (Option Expr)} {vs : List Expr} {tk tv : TE} {trs : List (TE × TE)} (hk : PE X k tk) (hv : PE X v tv) (hr : PPs X pos ks vs trs) :
    PPs X pos (some k :: ks) (v :: vs) ((tk, tv) :: trs) := fun pins s σ H Q I h =>
  pairTrees_cons_walk (thn (hk pins s σ H _ I h) fun u s1 ⟨x, H1, I1, rx, q1⟩ => thn (hv pins s1 σ H1 _ I1 q1) fun w2 s2 ⟨y, H2, I2, ry, q2⟩ =>
    thn (hr pins s2 σ H2 _ I2 q2) fun ws s3 ⟨ps, H3, I3, rel, q3⟩ => ⟨(x, y) :: ps, H3, I3, .cons ⟨rx, ry⟩ rel, q3⟩)

def mergeK (kvs more : List (Key × V)) : List (Key × V) := more.foldl (fun acc kv => putK acc kv.1 kv.2) kvs
theorem KV.merge : ∀ {more : List (Key × V)} {rs : List (Key × Value)} {kvs : List (Key × V)} {vs : List (Key × Value)}, KV more rs → KV kvs vs → KV (mergeK kvs more) (merged vs rs) := by
  intro more rs kvs vs r
  unfold KV at r
  induction r generalizing kvs vs with
  | nil => intro q; exact q
  | @cons p q ps qs h t ih =>
    intro r0
    have e : KV (putK kvs p.1 p.2) (stored vs q.1 q.2) := by
      have := r0.put p.1 h.2
      rw [← h.1]; exact this
    exact ih e
theorem length_mergeK : ∀ (more kvs : List (Key × V)), (mergeK kvs more).length ≤ kvs.length + more.length
  | [], kvs => by show kvs.length ≤ kvs.length + 0; omega
  | p :: r, kvs => by
    have h1 := length_mergeK r (putK kvs p.1 p.2)
    have h2 := length_putK kvs p.1 p.2
    show (mergeK (putK kvs p.1 p.2) r).length ≤ _
    rw [List.length_cons]; omega
theorem carries_of {P : Program} {w : World} : ∀ {kvs : List (Key × V)} {ws : List (Value × Value)}, VV (kvs.map fun kv => (kV kv.1, kv.2)) ws → ∃ rs, Carries (mixKind P w) ws rs ∧ KV kvs rs
  | [], _, r => by rw [List.map_nil] at r; cases r; exact ⟨[], True.intro, .nil⟩
  | p :: kvs, _, r => by
    rw [List.map_cons] at r
    cases r with
    | @cons a b as bs h t =>
      obtain ⟨rs, c, q⟩ := carries_of (P := P) (w := w) t
      obtain ⟨b1, b2⟩ := b
      exact ⟨(p.1, b2) :: rs, ⟨kV_is h.1, rfl, c⟩, .cons ⟨rfl, h.2⟩ q⟩
/-- {k: v, ..} with keys ints and texts; the new dict stands empty while the pairs are made -/
def tDisp (trs : List (TE × TE)) : TE := fun σ H Q => ∀ p, H p = none → tPairs trs σ (upd H p (.dK [])) fun ps H2 => H2 p = some (.dK []) ∧ ∃ kvs : List (Key × V), ps = kvs.map (fun kv => (kV kv.1, kv.2)) ∧ kvs.length ≤ 15 ∧ Q (.ref p) (upd H2 p (.dK (mergeK [] kvs)))
theorem pe_disp {X : Cx} {pos : Pos} {keys : List (Option Expr)} {values : List Expr} {trs : List (TE × TE)} (h : PPs X pos keys values trs) (hall : keys.all (·.isSome) = true) (hl : keys.length = values.length) (h0 : keys ≠ [])
    (h15 : keys.length ≤ 15) : PE X (.Dict keys values pos) (tDisp trs) := by
  intro pins s σ H Q I q
  have hn := I.hok.fresh (Nat.le_refl s.heap.objs.size)
  have I1 := I.laid (a := s.heap.objs.size) (o := .dK []) (h' := s.heap.push { cls := .type "dict", data := .dict #[] }) (t' := s.toks) (fun _ _ q => Heap.get?_push_of_some _ q) (Nat.le_refl _) (dk_empty s.heap I.big)
  refine wpAny_Dict_walk (knd := mixKind X.prog X.w) hall hl h0 h15 (thn (h pins _ σ _ _ I1 (q _ hn)) fun ws s2 ⟨ps, H2, I2, rel, e, kvs, ep, lk, q2⟩ => ?_)
  subst ep
  obtain ⟨rs, c, rk⟩ := carries_of (P := X.prog) (w := X.w) rel
  obtain ⟨z, hd, vs0, r0, dd⟩ := dk_of I2.hok e
  cases r0
  refine ⟨rs, c, dd, fun h' dd' hs => ⟨.ref s.heap.objs.size, _, ?_, rfl, q2⟩⟩
  have hz : (mergeK [] kvs).length ≤ sizeLine := by
    have h1 := length_mergeK kvs []
    rw [List.length_nil] at h1
    rw [sizeLine_eq]; omega
  have he : ∃ q, h'.get? s.heap.objs.size = some q := let ⟨q, _, _, hq, _⟩ := dd'; ⟨q, hq⟩
  exact d_write I2 (by rw [e]; exact True.intro) hs he (dk_new hz hd (rk.merge .nil) dd')


/-! ### methods -/
/-- a method call o.m(e) of a built-in, with one argument: what must be seen of the text -/
structure M1 (X : Cx) (o : Expr) (m : Str) (apos : Pos) (e : Expr) (cpos : Pos) : Prop where
  base : attributeBase o m X.env (eval o X.env) = eval o X.env
  few : ((backTo cpos (starEach [e] X.env)).all (fun x => !x.1) && (backToKw cpos (keywordEach [] X.env)).all (fun x => x.1.isSome)
    && decide (([e] : List Expr).length + ([] : List Keyword).length + (if ([] : List Keyword).isEmpty then 0 else 1) < 30)) = true
  line : (apos.endLine == cpos.line) = true
  trees : backTo cpos (starEach [e] X.env) = [(false, eval e X.env)]
structure M2 (X : Cx) (o : Expr) (m : Str) (apos : Pos) (e f : Expr) (cpos : Pos) : Prop where
  base : attributeBase o m X.env (eval o X.env) = eval o X.env
  few : ((backTo cpos (starEach [e, f] X.env)).all (fun x => !x.1) && (backToKw cpos (keywordEach [] X.env)).all (fun x => x.1.isSome)
    && decide (([e, f] : List Expr).length + ([] : List Keyword).length + (if ([] : List Keyword).isEmpty then 0 else 1) < 30)) = true
  line : (apos.endLine == cpos.line) = true
  trees : backTo cpos (starEach [e, f] X.env) = [(false, eval e X.env), (false, eval f X.env)]

/-- a is a dict, whatever its keys -/
def IsD (H : Hp) (a : Addr) : Prop := (∃ kvs, Rd H a (.dK kvs)) ∨ ∃ kvs, Rd H a (.dT kvs)
theorem isD_at {X : Cx} {pins : List (Addr × Obj)} {σ : St} {H : Hp} {s : Shared} {a : Addr} (I : Inv X pins σ H s) (d : IsD H a) :
    s.TypeIs (.ref a) "dict" ∧ (∀ b, Value.ref a = .ref b → ∃ ob, s.heap.get? b = some ob ∧ ob.dict = none) ∧ (a == sysModules) = false := by
  rcases d with ⟨kvs, e⟩ | ⟨kvs, e⟩
  · obtain ⟨_, hd, vs, _, dd⟩ := dk_rd I.hok e
    refine ⟨dd.typeIs, fun b q => ?_, hd⟩
    cases q
    obtain ⟨ob, _, _, h1, h2, _⟩ := dd
    exact ⟨ob, h1, h2.2.1⟩
  · obtain ⟨_, hd, xs, _, dd⟩ := dt_rd I.hok e
    refine ⟨dd.typeIs, fun b q => ?_, hd⟩
    cases q
    obtain ⟨ob, _, _, h1, h2, _⟩ := dd
    exact ⟨ob, h1, h2.2.1⟩

section
variable {X : Cx} {pins : List (Addr × Obj)} {σ : St} {H : Hp} {s : Shared} {a : Addr} {y d : V} {u r : Value} {o : Option V} {A : Around} {E : Value → Shared → Prop}
/-- d.get(y) -/
theorem d_get1 {Q : Value → Shared → Prop} (hu : A.units + 1 < cLine) (I : Inv X pins σ H s) (g : DGet H a y o) (ry : RelV y u) (h : ∀ w' s', Inv X pins σ H s' → RelV (o.getD .non) w' → Q w' s') :
    wpAny (model X.prog X.w) A (call (.builtin "dict.get") [.ref a, u]) Q E s := by
  rcases g with ⟨kvs, k, e, ey, l⟩ | ⟨kvs, k, b, e, ey, eb, l⟩
  · subst ey
    obtain ⟨z, hd, vs, rel, dd⟩ := dk_rd I.hok e
    refine call_meetsIn PySem.F.slot_dict_get dd.typeIs PySem.F.entry_dict_get (PySem.F.args_dict_get_2 _ _) (meets_dict_get (mixKind X.prog X.w) a (kV_is ry) hd) ⟨_, dd.mapOf, h _ _ (I.tok _) ?_⟩
    rw [l]
    exact (rel.val k).getD rfl
  · subst ey
    cases (show u = Value.ref b from ry)
    obtain ⟨z, hd, xs, rel, dd⟩ := dt_rd I.hok e
    refine call_meetsIn PySem.F.slot_dict_get dd.typeIs PySem.F.entry_dict_get (PySem.F.args_dict_get_2 _ _) (meetsH_dict_get (tupleKind (mixKind X.prog X.w)) a b hd) ⟨tupleKind_room_in1 hu, k, xs, key_of I.hok eb, dd, h _ _ (I.tok _) ?_⟩
    rw [l]
    exact (rel.val k).getD rfl
/-- d.get(y, x) -/
theorem d_get2 {Q : Value → Shared → Prop} (hu : A.units + 1 < cLine) (I : Inv X pins σ H s) (g : DGet H a y o) (ry : RelV y u) (rd : RelV d r) (h : ∀ w' s', Inv X pins σ H s' → RelV (o.getD d) w' → Q w' s') :
    wpAny (model X.prog X.w) A (call (.builtin "dict.get") [.ref a, u, r]) Q E s := by
  rcases g with ⟨kvs, k, e, ey, l⟩ | ⟨kvs, k, b, e, ey, eb, l⟩
  · subst ey
    obtain ⟨z, hd, vs, rel, dd⟩ := dk_rd I.hok e
    refine call_meetsIn PySem.F.slot_dict_get dd.typeIs PySem.F.entry_dict_get (PySem.F.args_dict_get_3 _ _ _) (meets_dict_get_default (mixKind X.prog X.w) a (kV_is ry) hd r) ⟨_, dd.mapOf, h _ _ (I.tok _) ?_⟩
    rw [l]
    exact (rel.val k).getD rd
  · subst ey
    cases (show u = Value.ref b from ry)
    obtain ⟨z, hd, xs, rel, dd⟩ := dt_rd I.hok e
    refine call_meetsIn PySem.F.slot_dict_get dd.typeIs PySem.F.entry_dict_get (PySem.F.args_dict_get_3 _ _ _) (meetsH_dict_get_default (tupleKind (mixKind X.prog X.w)) a b hd r) ⟨tupleKind_room_in1 hu, k, xs, key_of I.hok eb, dd, h _ _ (I.tok _) ?_⟩
    rw [l]
    exact (rel.val k).getD rd
end

def tDGet1 (td ty : TE) : TE := fun σ H Q => td σ H fun x H1 => ∃ a, x = .ref a ∧ IsD H1 a ∧ ty σ H1 fun y H2 => ∃ o, DGet H2 a y o ∧ Q (o.getD .non) H2
def tDGet2 (td ty tx : TE) : TE := fun σ H Q => td σ H fun x H1 => ∃ a, x = .ref a ∧ IsD H1 a ∧ ty σ H1 fun y H2 => tx σ H2 fun z H3 => ∃ o, DGet H3 a y o ∧ Q (o.getD z) H3
/-- d.pop(k): there; d.pop(k, x): there or not -/
def tDPop1 (td ty : TE) : TE := fun σ H Q => td σ H fun x H1 => ∃ a, x = .ref a ∧ IsD H1 a ∧ ty σ H1 fun y H2 => ∃ kvs k v, H2 a = some (.dK kvs) ∧ y = kV k ∧ valV kvs k = some v ∧ Q v (upd H2 a (.dK (dropK kvs k)))
def tDPop2 (td ty tx : TE) : TE := fun σ H Q => td σ H fun x H1 => ∃ a, x = .ref a ∧ IsD H1 a ∧ ty σ H1 fun y H2 => tx σ H2 fun z H3 => ∃ kvs k, H3 a = some (.dK kvs) ∧ y = kV k ∧
  (∀ v, valV kvs k = some v → Q v (upd H3 a (.dK (dropK kvs k)))) ∧ (valV kvs k = none → Q z H3)
section
variable {X : Cx} {o e f : Expr} {apos cpos : Pos} {td ty tx : TE}
theorem pe_dget1 (hu : X.A.units + 1 < cLine) (ho : PE X o td) (he : PE X e ty) (m : M1 X o "get" apos e cpos) : PE X (.Call (.Attribute o "get" apos) [e] [] cpos) (tDGet1 td ty) := by
  intro pins s σ H Q I h
  refine wpAny_Call_method m.base m.few m.line PySem.F.plainAttrs_dict PySem.F.slot_dict_get PySem.F.type_dict_get (thn (ho pins s σ H _ I h) fun u s1 ⟨x, H1, I1, rx, a, ex, d, q1⟩ => ?_)
  subst ex
  obtain rfl : u = Value.ref a := rx
  obtain ⟨t1, t2, _⟩ := isD_at I1 d
  refine ⟨t1, t2, ?_⟩
  rw [m.trees]
  refine Calls.callWith_builtin rfl (Calls.evalArgs_plain (Calls.spliced_cons (thn (he pins s1 σ H1 _ I1 q1) fun iv s2 ⟨y, H2, I2, ry, ov, g, q2⟩ => Calls.spliced_nil ?_)))
  exact d_get1 hu I2 g ry fun w' s3 I3 rw' => ⟨_, H2, I3, rw', q2⟩
theorem pe_dget2 (hu : X.A.units + 1 < cLine) (ho : PE X o td) (he : PE X e ty) (hf : PE X f tx) (m : M2 X o "get" apos e f cpos) : PE X (.Call (.Attribute o "get" apos) [e, f] [] cpos) (tDGet2 td ty tx) := by
  intro pins s σ H Q I h
  refine wpAny_Call_method m.base m.few m.line PySem.F.plainAttrs_dict PySem.F.slot_dict_get PySem.F.type_dict_get (thn (ho pins s σ H _ I h) fun u s1 ⟨x, H1, I1, rx, a, ex, d, q1⟩ => ?_)
  subst ex
  obtain rfl : u = Value.ref a := rx
  obtain ⟨t1, t2, _⟩ := isD_at I1 d
  refine ⟨t1, t2, ?_⟩
  rw [m.trees]
  refine Calls.callWith_builtin rfl (Calls.evalArgs_plain (Calls.spliced_cons (thn (he pins s1 σ H1 _ I1 q1) fun iv s2 ⟨y, H2, I2, ry, q2⟩ =>
    Calls.spliced_cons (thn (hf pins s2 σ H2 _ I2 q2) fun fv s3 ⟨z, H3, I3, rz, ov, g, q3⟩ => Calls.spliced_nil ?_))))
  exact d_get2 hu I3 g ry rz fun w' s4 I4 rw' => ⟨_, H3, I4, rw', q3⟩
theorem pe_dpop1 (ho : PE X o td) (he : PE X e ty) (m : M1 X o "pop" apos e cpos) : PE X (.Call (.Attribute o "pop" apos) [e] [] cpos) (tDPop1 td ty) := by
  intro pins s σ H Q I h
  refine wpAny_Call_method m.base m.few m.line PySem.F.plainAttrs_dict PySem.F.slot_dict_pop PySem.F.type_dict_pop (thn (ho pins s σ H _ I h) fun u s1 ⟨x, H1, I1, rx, a, ex, d, q1⟩ => ?_)
  subst ex
  obtain rfl : u = Value.ref a := rx
  obtain ⟨t1, t2, _⟩ := isD_at I1 d
  refine ⟨t1, t2, ?_⟩
  rw [m.trees]
  refine Calls.callWith_builtin rfl (Calls.evalArgs_plain (Calls.spliced_cons (thn (he pins s1 σ H1 _ I1 q1) fun iv s2 ⟨y, H2, I2, ry, kvs, k, v, ea, ey, l, q2⟩ => Calls.spliced_nil ?_)))
  subst ey
  exact d_pop I2 ea ry l (.inl rfl) fun w' s3 I3 rw' => ⟨v, _, I3, rw', q2⟩
theorem pe_dpop2 (ho : PE X o td) (he : PE X e ty) (hf : PE X f tx) (m : M2 X o "pop" apos e f cpos) : PE X (.Call (.Attribute o "pop" apos) [e, f] [] cpos) (tDPop2 td ty tx) := by
  intro pins s σ H Q I h
  refine wpAny_Call_method m.base m.few m.line PySem.F.plainAttrs_dict PySem.F.slot_dict_pop PySem.F.type_dict_pop (thn (ho pins s σ H _ I h) fun u s1 ⟨x, H1, I1, rx, a, ex, d, q1⟩ => ?_)
  subst ex
  obtain rfl : u = Value.ref a := rx
  obtain ⟨t1, t2, _⟩ := isD_at I1 d
  refine ⟨t1, t2, ?_⟩
  rw [m.trees]
  refine Calls.callWith_builtin rfl (Calls.evalArgs_plain (Calls.spliced_cons (thn (he pins s1 σ H1 _ I1 q1) fun iv s2 ⟨y, H2, I2, ry, q2⟩ =>
    Calls.spliced_cons (thn (hf pins s2 σ H2 _ I2 q2) fun fv s3 ⟨z, H3, I3, rz, kvs, k, ea, ey, q3, q4⟩ => Calls.spliced_nil ?_))))
  subst ey
  cases l : valV kvs k with
  | some v => exact d_pop I3 ea ry l (.inr ⟨fv, rfl⟩) fun w' s4 I4 rw' => ⟨v, _, I4, rw', q3 v l⟩
  | none => exact d_popD I3 ea ry l fun s4 I4 => ⟨z, H3, I4, rz, q4 l⟩
end

/-! ### dict(d): a copy -/
section
variable {X : Cx} {pins : List (Addr × Obj)} {σ : St} {H : Hp} {s : Shared} {a : Addr} {kvs : List (Key × V)} {A : Around} {E : Value → Shared → Prop}
theorem d_copyOf {Q : Value → Shared → Prop} (I : Inv X pins σ H s) (e : Rd H a (.dK kvs)) (h : ∀ p s', H p = none → Inv X pins σ (upd H p (.dK kvs)) s' → Q (.ref p) s') : wpAny (model X.prog X.w) A (call (.type "dict") [.ref a]) Q E s := by
  obtain ⟨z, hd, vs, rel, dd⟩ := dk_rd I.hok e
  refine kt_call_dict hd dd (by rw [← rel.length]; exact z) fun h' dd' hs => ?_
  refine h _ _ (I.hok.fresh (Nat.le_refl _)) (I.laid (a := s.heap.objs.size) (o := .dK kvs) (t' := s.toks) (fun b q hq => ?_) (Nat.le_refl _) (dk_new z (beq_eq_false_iff_ne.mpr (Ne.symm (Nat.ne_of_lt I.big))) rel dd'))
  exact (hs.2 b (Nat.ne_of_lt (Heap.lt_size hq))).trans (Heap.get?_push_of_some _ hq)
end


section
variable {X : Cx} {pins : List (Addr × Obj)} {σ : St} {H : Hp} {s : Shared} {a : Addr} {y : V} {u : Value} {A : Around} {E : Value → Shared → Prop}
/-- d[y], not there: a KeyError -/
theorem d_missing {Q : Value → Shared → Prop} (hu : A.units + 1 < cLine) (hh : A.handled = none) (I : Inv X pins σ H s) (g : DGet H a y none) (ry : RelV y u)
    (h : ∀ h' e t', Heap.NewExc s.heap h' e "KeyError" → E (.ref e) { s with heap := h', toks := t' }) : wpAny (model X.prog X.w) A (getItem (.ref a) u) Q E s := by
  rcases g with ⟨kvs, k, e, ey, l⟩ | ⟨kvs, k, b, e, ey, eb, l⟩
  · subst ey
    obtain ⟨z, hd, vs, rel, dd⟩ := dk_rd I.hok e
    have hn : valueAt vs k = none := RelO.none_of (by rw [l]; exact rel.val k)
    exact wpAny_getItem_missing_of (kV_is ry) hd hh dd.mapOf hn fun h' ex ne => h h' ex _ ne
  · subst ey
    cases (show u = Value.ref b from ry)
    obtain ⟨z, hd, xs, rel, dd⟩ := dt_rd I.hok e
    have hn : (atKey xs k).map (·.2) = none := RelO.none_of (by rw [l]; exact rel.val k)
    exact wpAny_getItem_missing_heap (tupleKind_room_in1 hu) (key_of I.hok eb) hd hh dd (Option.map_eq_none_iff.mp hn) fun h' ex ne => h h' ex _ ne
end
end L2

namespace Att
open PySem PySem.W PySem.Calls PyProof.Rows

/-! ### the script -/
theorem ints_of_wellAll {P : Params} {h : Heap} : ∀ (ns : List Int) (vs : List Value), WellAll P h vs (ns.map WData.int) → IntsAre vs ns := by
  intro ns
  induction ns with
  | nil =>
    intro vs w
    rw [List.map_nil] at w
    cases w
    exact .nil
  | cons n ns ih =>
    intro vs w
    rw [List.map_cons] at w
    cases w with
    | cons a b =>
      cases a
      exact .cons _ _ (ih _ b)

theorem script_of {l : OpenLaw} {n : Nat} (hn : l.most = some n) {P : Params} {h : Heap} {args : List WData} {vals : List Value}
    (hpre : l.row.toRowW.claim.pre args = true) (hwl : WellAll P h vals args) :
    ∃ a vs ns, vals = [Value.ref a] ∧ args = [WData.list (ns.map WData.int)] ∧ h.get? a = some { cls := .type "list", data := .seq vs.toArray } ∧ IntsAre vs ns ∧ ns.length ≤ n := by
  have hsh : WShape.hasAll [] args [.list .int] = true := (pre_splitW hpre).1
  have hc : l.pre.holds [] { args := args } = true := (pre_splitW hpre).2
  obtain ⟨d, r, rfl, h1, h2⟩ := hasAllW_cons hsh
  obtain rfl := hasAllW_nil h2
  obtain ⟨xs, rfl, h3⟩ := hasW_list h1
  obtain ⟨ns, rfl⟩ := items_int h3
  have hlen : ns.length ≤ n := by
    unfold OpenLaw.pre at hc
    have h4 : (WTm.not (.lt (.lit (.int (n : Int))) (.len (.arg 0)))).holds [] { args := [.list (ns.map .int)] } = true := by
      have h4 := (holds_andW hc).1
      rw [hn] at h4
      exact h4
    have h5 := condW_of h4 (w_not (w_lt w_lit (w_len_list (w_arg rfl))))
    rw [List.length_map] at h5
    refine Nat.le_of_not_lt fun q => ?_
    have q' : (n : Int) < ((ns.length : Nat) : Int) := by omega
    first
      | (rw [decide_eq_true q'] at h5; exact absurd h5 (by decide))
      | (simp at h5; omega)
  cases hwl with
  | cons w1 w2 =>
    cases w2
    cases w1 with
    | list ho hall => exact ⟨_, _, ns, rfl, rfl, ho, ints_of_wellAll ns _ hall, hlen⟩

theorem post_true (l : OpenLaw) (args : List WData) : l.row.toRowW.claim.post args (.bool true) args = true :=
  postW_of (r := l.row.toRowW) (X := (true == true))
    (show WShape.has [] (.bool true) .bool = true by first | rfl | decide | simp [WShape.has, WShape.arms, WShape.armsAll])
    (show (WTm.eq .res (.lit (.bool true))).value [] { args := args, res := some (.bool true), after := args } = some (.bool (true == true)) from w_eq_bool (w_res rfl) w_lit) rfl

/-! ### the attachment: holds_open's last premise (the goal 'hc' behind k_head) from a wpAny of the law's body -/
theorem attach {l : OpenLaw} {n : Nat} {q : Program} {loose : List Str} {XP : (Str → Option Value) → Heap → Prop} {YP : World → Heap → Prop} {d : DefRec} {x : Str}
    (hn : l.most = some n) (hdf : d.params.defaults = [])
    (hbind : ∀ pm cd doc v : Value, bindArgs (docDef d.name d.params d.body d.scope pm cd doc) ⟨[v], []⟩ = pure [(x, v)])
    (hx : d.scope.names.lookup x = some .local ∨ d.scope.names.lookup x = some .cell)
    (hk : d.scope.kind = .function) (hco : d.scope.isCoroutine = false) (hgen : d.scope.isGenerator = false)
    (body : ∀ (w : World) (s₀ s₁ s : Shared) (mg mb : Str → Option Value) (fa : Addr) (o : Obj) (pm cd doc : Value) (a : Addr) (vs : List Value) (ns : List Int),
      Ground q loose [] XP w s₀ mg mb s₁.heap → YP w s₁.heap →
      s₁.heap.get? fa = some o → o.data = .func (docDef d.name d.params d.body d.scope pm cd doc) → s₁.heap.CodeRec cd d.name → mg d.name = some (.ref fa) →
      s₁.heap.get? a = some { cls := .type "list", data := .seq vs.toArray } → IntsAre vs ns → ns.length ≤ n →
      s.gens = #[] → s.os = s₁.os →
      Fr s₁.heap s₁.heap.objs.size s.heap (bindL (envOfC d.name d.scope s₁.heap.objs.size fa cd).kindOf [(x, .ref a)] fun _ => none) →
      Cl s₁.heap.objs.size (cellsFrom (s₁.heap.objs.size + 1) d.scope.names []) s.heap (bindC (envOfC d.name d.scope s₁.heap.objs.size fa cd).kindOf [(x, .ref a)] fun _ => none) →
      wpAny (model l.prog w) (callerA.deeper (envOfC d.name d.scope s₁.heap.objs.size fa cd)) (execs d.body (envOfC d.name d.scope s₁.heap.objs.size fa cd))
        (fun f s' => f = .ret (.bool true) ∧ OldK s₁.heap s'.heap ∧ s'.os = s₁.os ∧ AllBare s'.gens) (fun _ _ => False) s) :
    WalkO q loose XP YP l.row.toRowW d [] (fun f vs => PySem.call f vs) := by
  intro w s₀ s₁ mg mb G Y fa o pm cd doc dV kV ho hd hcd hD hmg hg args vals as hpre hlay hrd hwl hlo
  obtain rfl : dV = .none := Dflts.none hD hdf
  obtain rfl : kV = .none := Dflts.noKw hD
  obtain ⟨a, vs, ns, rfl, rfl, hobj, hints, hlen⟩ := script_of hn hpre hwl
  refine enter_call ?_
  refine call_cells_ret (o := o) (by rw [depth_caller]; decide) ho (fd_plain hd) G.T.nolimit hcd (hbind pm cd doc (.ref a)) (fun y hy => ?_) (fun h₁ tk F X => ?_) hco hgen hk
  · obtain rfl : y = (x, Value.ref a) := List.mem_singleton.mp hy
    rcases hx with e | e
    · exact .inl e
    · exact .inr ⟨e, cellsFrom_some _ _ _ (.inl e)⟩
  · refine wpAny_mono (body w s₀ s₁ { s₁ with heap := h₁, toks := tk } mg mb fa o pm cd doc a vs ns G Y ho (fd_plain hd) hcd hmg hobj hints hlen hg rfl F X) (fun f s' hq => ?_) (fun _ _ hq => hq)
    obtain ⟨rfl, h2, h3, h4⟩ := hq
    exact ⟨.inl ⟨.bool true, .bool true, [], rfl, fun _ => rfl, .bool true, post_true l _, fun _ => ⟨List.Pairwise.nil, fun _ hm => (nomatch hm)⟩⟩, h2, h3, h4⟩

/-- the same from a codeAny of the CALL (for a layer whose function contracts speak of calls) -/
theorem attach_call {l : OpenLaw} {n : Nat} {q : Program} {loose : List Str} {XP : (Str → Option Value) → Heap → Prop} {YP : World → Heap → Prop} {d : DefRec}
    (hn : l.most = some n) (hdf : d.params.defaults = [])
    (call : ∀ (w : World) (s₀ s₁ : Shared) (mg mb : Str → Option Value) (fa : Addr) (o : Obj) (pm cd doc : Value) (a : Addr) (vs : List Value) (ns : List Int),
      Ground q loose [] XP w s₀ mg mb s₁.heap → YP w s₁.heap →
      s₁.heap.get? fa = some o → o.data = .func (docDef d.name d.params d.body d.scope pm cd doc) → s₁.heap.CodeRec cd d.name → mg d.name = some (.ref fa) →
      s₁.heap.get? a = some { cls := .type "list", data := .seq vs.toArray } → IntsAre vs ns → ns.length ≤ n → s₁.gens = #[] →
      codeAny (model l.prog w) callerA (.call (.ref fa) ⟨[.ref a], []⟩) (fun r s' => r = .ok (.ret (.bool true)) ∧ OldK s₁.heap s'.heap ∧ s'.os = s₁.os ∧ AllBare s'.gens) s₁) :
    WalkO q loose XP YP l.row.toRowW d [] (fun f vs => PySem.call f vs) := by
  intro w s₀ s₁ mg mb G Y fa o pm cd doc dV kV ho hd hcd hD hmg hg args vals as hpre hlay hrd hwl hlo
  obtain rfl : dV = .none := Dflts.none hD hdf
  obtain rfl : kV = .none := Dflts.noKw hD
  obtain ⟨a, vs, ns, rfl, rfl, hobj, hints, hlen⟩ := script_of hn hpre hwl
  refine enter_call (codeAny_mono (call w s₀ s₁ mg mb fa o pm cd doc a vs ns G Y ho (fd_plain hd) hcd hmg hobj hints hlen hg) fun r s' hq => ?_)
  obtain ⟨rfl, h2, h3, h4⟩ := hq
  exact ⟨.inl ⟨.bool true, .bool true, [], rfl, fun _ => rfl, .bool true, post_true l _, fun _ => ⟨List.Pairwise.nil, fun _ hm => (nomatch hm)⟩⟩, h2, h3, h4⟩

/-- the same where the top left finished generators (o_head chose holds_openN): nothing may have changed at all and no generator may be left -/
theorem attachN {l : OpenLaw} {n : Nat} {q : Program} {loose : List Str} {XP : (Str → Option Value) → Heap → Prop} {YP : World → Heap → Prop} {d : DefRec} {x : Str}
    (hn : l.most = some n) (hdf : d.params.defaults = [])
    (hbind : ∀ pm cd doc v : Value, bindArgs (docDef d.name d.params d.body d.scope pm cd doc) ⟨[v], []⟩ = pure [(x, v)])
    (hx : d.scope.names.lookup x = some .local ∨ d.scope.names.lookup x = some .cell)
    (hk : d.scope.kind = .function) (hco : d.scope.isCoroutine = false) (hgen : d.scope.isGenerator = false)
    (body : ∀ (w : World) (s₀ s₁ s : Shared) (mg mb : Str → Option Value) (fa : Addr) (o : Obj) (pm cd doc : Value) (a : Addr) (vs : List Value) (ns : List Int),
      Ground q loose [] XP w s₀ mg mb s₁.heap → YP w s₁.heap →
      s₁.heap.get? fa = some o → o.data = .func (docDef d.name d.params d.body d.scope pm cd doc) → s₁.heap.CodeRec cd d.name → mg d.name = some (.ref fa) →
      s₁.heap.get? a = some { cls := .type "list", data := .seq vs.toArray } → IntsAre vs ns → ns.length ≤ n →
      s.gens = #[] → s.os = s₁.os →
      Fr s₁.heap s₁.heap.objs.size s.heap (bindL (envOfC d.name d.scope s₁.heap.objs.size fa cd).kindOf [(x, .ref a)] fun _ => none) →
      Cl s₁.heap.objs.size (cellsFrom (s₁.heap.objs.size + 1) d.scope.names []) s.heap (bindC (envOfC d.name d.scope s₁.heap.objs.size fa cd).kindOf [(x, .ref a)] fun _ => none) →
      wpAny (model l.prog w) (callerA.deeper (envOfC d.name d.scope s₁.heap.objs.size fa cd)) (execs d.body (envOfC d.name d.scope s₁.heap.objs.size fa cd))
        (fun f s' => f = .ret (.bool true) ∧ (∀ b o, s₁.heap.get? b = some o → s'.heap.get? b = some o) ∧ s'.os = s₁.os ∧ s'.gens = #[]) (fun _ _ => False) s) :
    WalkN q loose XP YP l.row.toRowW d [] (fun f vs => PySem.call f vs) := by
  intro w s₀ s₁ mg mb G Y fa o pm cd doc dV kV ho hd hcd hD hmg hg args vals as hpre hlay hrd hwl hlo
  obtain rfl : dV = .none := Dflts.none hD hdf
  obtain rfl : kV = .none := Dflts.noKw hD
  obtain ⟨a, vs, ns, rfl, rfl, hobj, hints, hlen⟩ := script_of hn hpre hwl
  refine enter_callW ?_
  refine call_cells_ret (o := o) (by rw [depth_caller]; decide) ho (fd_plain hd) G.T.nolimit hcd (hbind pm cd doc (.ref a)) (fun y hy => ?_) (fun h₁ tk F X => ?_) hco hgen hk
  · obtain rfl : y = (x, Value.ref a) := List.mem_singleton.mp hy
    rcases hx with e | e
    · exact .inl e
    · exact .inr ⟨e, cellsFrom_some _ _ _ (.inl e)⟩
  · refine wpAny_mono (body w s₀ s₁ { s₁ with heap := h₁, toks := tk } mg mb fa o pm cd doc a vs ns G Y ho (fd_plain hd) hcd hmg hobj hints hlen hg rfl F X) (fun f s' hq => ?_) (fun _ _ hq => hq)
    obtain ⟨rfl, h2, h3, h4⟩ := hq
    exact ⟨.inl ⟨.bool true, .bool true, [], rfl, fun _ => rfl, .bool true, post_true l _, fun _ => ⟨List.Pairwise.nil, fun _ hm => (nomatch hm)⟩⟩, h2, h3, h4⟩

/-! ### rules over ANY heap (no ledger) from facts about the written part K: the library's own take a ledger (News) for what they write -/
section
variable {prog : Program} {w : World} {A : Around} {E : Value → Shared → Prop} {s : Shared} {K : Frag}

/-- a def of the module, or a method (qual 'C.m'), entered: the frame is the next address; cells behind it -/
theorem call_fn {R : Result → Shared → Prop} {name qual : Str} {params : Arguments} {body : List Stmt} {scope : Scope} {dV kV doc pm cdv ct oc : Value} {an od : Option Addr} {osl : Array (Option Value)} {f : Addr} {args : Args} {binds : List (Str × Value)}
    (X : K.In s.heap) (hlim : s.heap.NoLimit) (ho : K.lookup f = some ⟨oc, od, .func (fnOf name qual params body scope dV kV doc pm an cdv ct), osl⟩) (hcd : codeIn K cdv qual = true) (hroom : A.depth < recursionLimit)
    (hbind : BindsTo s (fnOf name qual params body scope dV kV doc pm an cdv ct) args binds)
    (hkind : (binds.all fun y => scope.names.lookup y.1 == some .local || scope.names.lookup y.1 == some .cell) = true)
    (h : ∀ s₁, InCallC s s.heap.objs.size (bindL (envOfC qual scope s.heap.objs.size f cdv).kindOf binds fun _ => none) (cellsFrom (s.heap.objs.size + 1) scope.names [])
        (bindC (envOfC qual scope s.heap.objs.size f cdv).kindOf binds fun _ => none) s₁ →
      wpAny (model prog w) (A.deeper (envOfC qual scope s.heap.objs.size f cdv)) (execs body (envOfC qual scope s.heap.objs.size f cdv))
        (fun fl s' => R (.ok (.ret (match fl with | .ret v => v | _ => .none))) s')
        (fun e s' => wpAny (model prog w) (A.deeper (envOfC qual scope s.heap.objs.size f cdv)) (leaving (envOfC qual scope s.heap.objs.size f cdv) e) (fun _ s'' => R (.error e) s'') (fun e' s'' => R (.error e') s'') s') s₁)
    (hco : scope.isCoroutine = false) (hgen : scope.isGenerator = false) (hk : scope.kind = .function) : codeAny (model prog w) A (.call (.ref f) args) R s := by
  refine codeAny_call_function hroom (X _ _ ho) rfl hco hgen rfl (codeRec_of X hcd) (hbind _ _ _ _ ?_)
  refine wpAny_newFunctionEnv_cells hk (kindsX hkind _) fun env he s₁ x => ?_
  subst he
  exact ⟨hlim.keeps x.toInCall.keep, codeAny_func (h s₁ x)⟩

/-- C(..): dict at size, instance at size + 1, then __init__ -/
theorem make_obj {R : Result → Shared → Prop} {C fI : Addr} {rest : List Value} {kw : List (Str × Value)}
    (X : K.In s.heap) (hm : makesIn K C = true) (hi : findIn K (.ref C) "__init__" = some (some (.ref fI))) (hf : isFn K (.ref fI) = true)
    (h : codeAny (model prog w) (A.under (.builtin "type.__call__" ⟨.ref C :: rest, kw⟩)) (.call (.ref fI) ⟨.ref (s.heap.objs.size + 1) :: rest, kw⟩) (InitBack (s.heap.objs.size + 1) R)
      { s with heap := (s.heap.push emptyDict).push (instObj C s.heap.objs.size) }) : codeAny (model prog w) A (.call (.ref C) ⟨rest, kw⟩) R s := by
  obtain ⟨hh, g, d, t, os⟩ := s
  exact make_core (makes_of X hm) (looks_findIn X hi) (fun self => bind_fn X self (beq_iff_eq.mp hf)) (.inl rfl) h

/-- x.name where the instance's dict holds the name and the class does not -/
theorem get_field {x C : Addr} {ox : Obj} {es : List DictEntry} {n : Nat} {name : Str} {expr : Bool} {v : Value} {Q : Value → Shared → Prop}
    (X : K.In s.heap) (I : PySem.W.InstAt s.heap x ox C (some (dictOf es n))) (hg : plainGet K C name = true) (hh : hasDictIn K C = true) (ha : findIn K (.ref C) name = some none)
    (hl : getL name es = some (some v)) (hv : handedIn v = true) (h : Q v { s with toks := s.toks + 1 }) : wpAny (model prog w) A (getAttr (.ref x) name expr) Q E s :=
  get_value X I (plainGet_of hg).1 (findObj_own hh ha rfl hl) hv h

/-- x.m(..): the method found in the class -/
theorem get_method {x C f : Addr} {ox : Obj} {es : List DictEntry} {n : Nat} {name : Str} {pl : Sem Bool} {Q : Value × List Value → Shared → Prop}
    (X : K.In s.heap) (I : PySem.W.InstAt s.heap x ox C (some (dictOf es n))) (hg : plainGet K C name = true) (hf : findIn K (.ref C) name = some (some (.ref f))) (ht : isFn K (.ref f) = true)
    (hl : getL name es = some none) (h : Q (.ref f, [.ref x]) s) : wpAny (model prog w) A (getMethod (.ref x) name pl) Q E s :=
  method_fn X I (plainGet_of hg).1 (plainGet_of hg).2 hf (beq_iff_eq.mp ht) (by show (lookIn name (dictOf es n)).map _ = _; rw [lookIn_dict, hl]; rfl) h

/-! the whole heap as the ledger: makes every rule that writes through a ledger a rule over any heap -/
def noObjs (h : Heap) : Heap := { h with objs := #[] }
theorem noObjs_get (h : Heap) (b : Addr) : (noObjs h).get? b = none := by
  cases e : (noObjs h).get? b with
  | none => rfl
  | some o => exact absurd (Heap.lt_size e) (Nat.not_lt_zero _)
def ledger (h : Heap) (L d : Addr) : List (Addr × Obj) := (List.range h.objs.size).filterMap fun a => if a = L ∨ a = d then none else (h.get? a).map fun o => (a, o)
theorem mem_ledger {h : Heap} {L d a : Addr} {o : Obj} : (a, o) ∈ ledger h L d ↔ a ≠ L ∧ a ≠ d ∧ h.get? a = some o := by
  unfold ledger
  rw [List.mem_filterMap]
  constructor
  · rintro ⟨b, _, e⟩
    split at e
    · cases e
    · rename_i hb
      obtain ⟨o', ho, e'⟩ := Option.map_eq_some_iff.mp e
      cases e'
      exact ⟨fun q => hb (.inl q), fun q => hb (.inr q), ho⟩
  · rintro ⟨n1, n2, ho⟩
    refine ⟨a, List.mem_range.mpr (Heap.lt_size ho), ?_⟩
    rw [if_neg (show ¬ (a = L ∨ a = d) from fun q => q.elim n1 n2), ho] <;> rfl
theorem news_ledger {h : Heap} {L d : Addr} {od : Obj} (hne : d ≠ L) (ho : h.get? d = some od) : News (noObjs h) L h ([] ++ (d, od) :: ledger h L d) := by
  rintro ⟨a, o⟩ hp
  rcases List.mem_cons.mp hp with e | hp
  · cases e
    exact ⟨ho, hne, noObjs_get _ _⟩
  · obtain ⟨n1, n2, e⟩ := mem_ledger.mp hp
    exact ⟨e, n1, noObjs_get _ _⟩
theorem fr_all {h : Heap} {L : Addr} {m : Str → Option Value} (n : h.Ns L m) : Fr (noObjs h) L h m :=
  ⟨n, fun b o e => (by rw [noObjs_get] at e; cases e), Nat.zero_le _⟩
/-- Upd of the head entry (for append_K, setItem_K ..) -/
theorem upd_ledger {h : Heap} {L d : Addr} {o o' : Obj} : Upd d o o' ((d, o) :: ledger h L d) ((d, o') :: ledger h L d) :=
  .head fun ⟨_, _⟩ hp => (mem_ledger.mp hp).2.1

/-- x.name = v over any heap: L is any namespace of the heap (the frame's, say): its map stays, its object is not told; all else but the dict stays -/
theorem set_field {x C dx L : Addr} {ox : Obj} {m : Str → Option Value} {es es' : List DictEntry} {n n' : Nat} {name : Str} {v : Value} {Q : Unit → Shared → Prop}
    (X : K.In s.heap) (I : PySem.W.InstAt s.heap x ox C (some (dictOf es n))) (hd : ox.dict = some dx) (hL : s.heap.Ns L m) (hne : dx ≠ L)
    (hs : findIn K (.ref C) "__setattr__" = some (some (.builtin "object.__setattr__"))) (hp : plainOver K C = true) (ht : takerIn K C name = some none) (hh : hasDictIn K C = true) (hl : (getL name es).isSome = true)
    (e : (putL name (PyData.keyHash w.params name) (.str name (s.toks + 1)) v es, putN name es n) = (es', n')) (hz : es'.length ≤ 1000)
    (h : ∀ h' : Heap, h'.Ns L m → h'.get? dx = some (dictOf es' n') → (∀ b o, b ≠ dx → b ≠ L → s.heap.get? b = some o → h'.get? b = some o) → Q () { s with heap := h', toks := s.toks + 2 }) :
    wpAny (model prog w) A (setAttr (.ref x) name v) Q E s := by
  obtain ⟨e1, e2⟩ := Prod.mk.inj e
  have hdx : s.heap.get? dx = some (dictOf es n) := by
    have := I.dict
    rw [hd] at this
    exact this
  refine set_plain X I hs (osa_dict (s := { s with toks := s.toks + 1 }) (h₀ := noObjs s.heap) (L := L) (m := m) (od := dictOf es n) (od' := dictOf es' n') (es := es') (n := n') (pre := []) (post := ledger s.heap L dx)
    (fr_all hL) (news_ledger hne hdx) X I hd hp ht hh hl (fun _ q => nomatch q) (fun ⟨_, _⟩ q => (mem_ledger.mp q).2.1) (by rw [putName_dict, e1, e2]) rfl hz fun h' F' N' => ?_)
  exact h h' F'.ns (N'.get (List.Mem.head _)) fun b o n1 n2 ho => N'.get (List.Mem.tail _ (mem_ledger.mpr ⟨n2, n1, ho⟩))
end
end Att

namespace L2
open PySem PySem.Spec PyProof.Rows

theorem vals_ints : ∀ {vs : List Value} {ns : List Int}, IntsAre vs ns → Vals (ns.map V.int) vs
  | _, _, .nil => .nil
  | _, _, .cons n t h => .cons ⟨t, rfl⟩ (vals_ints h)

/-- nothing is tracked but the script, known to the object (or it is an object of the module) -/
def Only (H : Hp) : Prop := ∀ b, H b = none ∨ ∃ o xs, H b = some (.frz o (.lst xs))

/-- THE HEAD: the law's promise, at the heap behind the top. F, the promise of the law's def, may use that base is part of the heap (so K.In base, base.Ns mainGlobals mg stand in Mod) -/
theorem law_call {P : Program} {w : World} {K : PySem.W.Frag} {mg mb : Str → Option Value} {CX : CXT} {k : Nat} {fa a : Addr} {fd : FuncData} {x : Str} {sp : Sp} {s₁ : Shared} {vs : List Value} {ns : List Int}
    (KX : K.In s₁.heap) (hns : s₁.heap.Ns mainGlobals mg) (hb : s₁.heap.Ns builtinsNs mb) (hbb : ∀ x : Str, x ≠ "__name__" → mb x = bootBuiltins x) (hlim : s₁.heap.NoLimit) (hg : s₁.gens = #[])
    (ha : s₁.heap.get? a = some { cls := .type "list", data := .seq vs.toArray }) (hi : IntsAre vs ns) (hl : ns.length ≤ sizeLine) (hr : Room k callerA)
    (F : ∀ base : Heap, K.In base → base.Ns mainGlobals mg → FnOk P w K mg base CX k fa fd [x] sp) (hbind : ∀ (s : Shared) (u : Value), BindsTo s fd ⟨[u], []⟩ [(x, u)])
    (hsp : ∀ H : Hp, Only H → SqL K H a (ns.map V.int) → sp [.ref a] H (fun v _ => v = .bl true) fun _ _ _ => False)
    (hCX : ∀ H e s', CX [] H s₁ (fun _ _ _ => False) e s' → False) :
    codeAny (model P w) callerA (.call (.ref fa) ⟨[.ref a], []⟩) (fun r s' => r = .ok (.ret (.bool true)) ∧ OldK s₁.heap s'.heap ∧ s'.os = s₁.os ∧ AllBare s'.gens) s₁ := by
  have rv := vals_ints hi
  have lenV := hi.length
  -- from an abstract heap in which nothing but the script may be tracked
  have core : ∀ H : Hp, Only H → SqL K H a (ns.map V.int) → HOk P w H s₁.heap → (∀ b, H b ≠ none → b = a) → (H a ≠ none → K.lookup a = none) →
      codeAny (model P w) callerA (.call (.ref fa) ⟨[.ref a], []⟩) (fun r s' => r = .ok (.ret (.bool true)) ∧ OldK s₁.heap s'.heap ∧ s'.os = s₁.os ∧ AllBare s'.gens) s₁ := by
    intro H hO hS hok hA hK
    have base_of : ∀ {b : Addr} {o : Obj}, s₁.heap.get? b = some o → H b = none → (hidT s₁.heap H).get? b = some o := fun e n => hidT_get e n
    have noA : ∀ {b : Addr} {o : Obj} {es : Array DictEntry} {ep : Nat}, s₁.heap.get? b = some o → o.data = .dict es ep → H b = none := fun {b o es ep} e d => by
      cases q : H b with
      | none => rfl
      | some u =>
        have e' : b = a := hA b (by rw [q]; simp)
        subst e'
        rw [ha] at e; cases e
        have d' : Data.seq vs.toArray _ = Data.dict es ep := d
        cases d'
    have nsK : ∀ {b : Addr} {m : Str → Option Value}, s₁.heap.Ns b m → (hidT s₁.heap H).Ns b m := fun {b m} ⟨o, es, ep, e, d, r⟩ => ⟨o, es, ep, base_of e (noA e d), d, r⟩
    have hKb : K.In (hidT s₁.heap H) := fun b o e => base_of (KX b o e) (by
      cases q : H b with
      | none => rfl
      | some u =>
        have e' : b = a := hA b (by rw [q]; simp)
        subst e'
        rw [hK (by rw [q]; simp)] at e; cases e)
    have hM : Mod K mg (hidT s₁.heap H) := ⟨hKb, nsK hns, ⟨mb, nsK hb, hbb⟩, let ⟨mc, h1, h2⟩ := hlim; ⟨mc, nsK h1, h2⟩⟩
    have e0 : Env0 P w K mg (hidT s₁.heap H) callerA [] s₁ H := ⟨rfl, hM, fun b o e => of_hidT e, Nat.le_of_eq (hidT_size _ _), trivial, fun b hb => absurd (show b ∈ ([] : List Addr) from hb) (by simp), hok, .of_eq hg⟩
    refine codeAny_mono ((F _ hKb (nsK hns)).run callerA [] s₁ H ⟨[.ref a], []⟩ [.ref a] [.ref a] _ _ hr e0 (hbind s₁ (.ref a)) (.cons rfl .nil) (hsp H hO hS)) fun r s' h => ?_
    cases r with
    | error e => exact (hCX H e s' h).elim
    | ok fl =>
      cases fl with
      | next => exact False.elim h
      | brk => exact False.elim h
      | cont => exact False.elim h
      | ret u =>
        obtain ⟨v, H', os, bare, un, hok', r', q⟩ := h
        have q' : v = .bl true := q
        subst q'
        obtain rfl : u = Value.bool true := r'
        refine ⟨rfl, OldK.of_keep fun b o e => ?_, os, bare⟩
        cases q : H b with
        | none => exact un.keep b o e q (by intro z; exact absurd (show b ∈ ([] : List Addr) from z) (by simp)) (by simp)
        | some u =>
          rcases hO b with z | ⟨ob, xs, z⟩
          · rw [q] at z; cases z
          · have z2 := un.frzs b ob _ z
            obtain ⟨e1, _⟩ := hok b _ z
            obtain ⟨e2, _⟩ := hok' b _ z2
            rw [e] at e1; cases e1
            exact e2
  cases hk : K.lookup a with
  | some o =>
    -- the script is one of the module's own objects
    have e := KX a o hk
    rw [ha] at e
    cases e
    refine core (fun _ => none) (fun _ => .inl rfl) (.inr ⟨_, vs.toArray, _, hk, rfl, rfl, rfl, by rw [List.size_toArray, lenV]; exact hl, by simpa using rv⟩) (fun b u z => by have z' : (none : Option HO) = some u := z; cases z') (fun b z => absurd rfl z) fun z => absurd rfl z
  | none =>
    refine core (fun b => if b = a then some (.frz { cls := .type "list", data := .seq vs.toArray } (.lst (ns.map V.int))) else none) (fun b => ?_) (.inl (.inr ⟨{ cls := .type "list", data := .seq vs.toArray }, if_pos rfl⟩)) (fun b u z => ?_) (fun b z => ?_) fun _ => hk
    · by_cases hb : b = a
      · exact .inr ⟨_, _, if_pos hb⟩
      · exact .inl (if_neg hb)
    · by_cases hb : b = a
      · have z' := (if_pos hb).symm.trans z
        cases z'
        subst hb
        exact ⟨ha, by rw [List.length_map]; exact hl, vs, _, rv, ha⟩
      · have z' := (if_neg hb).symm.trans z
        cases z'
    · by_cases hb : b = a
      · exact hb
      · exact absurd (if_neg hb) z
end L2

namespace L2
open PySem PySem.Spec PyProof.Rows

abbrev KOf {K : PySem.W.Frag} {h : Heap} (_ : K.In h) : PySem.W.Frag := K

/-- the goal that k_head leaves (case hc), from the law's promise. F gives the function object fd (K's own) once, then the promise over every base -/
theorem walk_of {l : PySem.W.OpenLaw} {n k : Nat} {q : Program} {loose : List Str} {XP : (Str → Option Value) → Heap → Prop} {YP : World → Heap → Prop} {d : DefRec} {K : Params → PySem.W.Frag} {CX : World → CXT} {sp : World → Sp} {x : Str}
    (hn : l.most = some n) (hn2 : n ≤ sizeLine) (hdf : d.params.defaults = []) (hr : Room k callerA)
    (hY : ∀ (w : World) (h : Heap), YP w h → (K w.params).In h)
    (F : ∀ (w : World) (mg : Str → Option Value) (fa : Addr) (h : Heap), (K w.params).In h → h.Ns mainGlobals mg → mg d.name = some (.ref fa) →
      ∃ fd : FuncData, (∀ (s : Shared) (u : Value), BindsTo s fd ⟨[u], []⟩ [(x, u)]) ∧
        ∀ base : Heap, (K w.params).In base → base.Ns mainGlobals mg → FnOk l.prog w (K w.params) mg base (CX w) k fa fd [x] (sp w))
    (hsp : ∀ (w : World) (H : Hp) (a : Addr) (ns : List Int), ns.length ≤ n → Only H → SqL (K w.params) H a (ns.map V.int) → sp w [.ref a] H (fun v _ => v = .bl true) fun _ _ _ => False)
    (hCX : ∀ (w : World) (H : Hp) (s : Shared) (e : Value) (s' : Shared), CX w [] H s (fun _ _ _ => False) e s' → False) :
    PySem.W.WalkO q loose XP YP l.row.toRowW d [] (fun f vs => PySem.call f vs) := by
  refine Att.attach_call hn hdf fun w s₀ s₁ mg mb fa o pm cd doc a vs ns G Y ho hd hcd hmg hobj hints hlen hg => ?_
  have KX := hY w _ Y
  obtain ⟨fd, hb, hF⟩ := F w mg fa _ KX G.T.g hmg
  exact law_call KX G.T.g G.T.b G.T.builtins G.T.nolimit hg hobj hints (Nat.le_trans hlen hn2) hr hF hb (fun H hO hS => hsp w H a ns hlen hO hS) fun H e s' => hCX w H s₁ e s'
/-- the same where the promise hangs on the written part alone: (sp := My.sp_law), no hole under a binder -/
theorem walk_ofK {l : PySem.W.OpenLaw} {n k : Nat} {q : Program} {loose : List Str} {XP : (Str → Option Value) → Heap → Prop} {YP : World → Heap → Prop} {d : DefRec} {K : Params → PySem.W.Frag} {CX : CXT} {sp : PySem.W.Frag → Sp} {x : Str}
    (hn : l.most = some n) (hn2 : n ≤ sizeLine) (hdf : d.params.defaults = []) (hr : Room k callerA)
    (hY : ∀ (w : World) (h : Heap), YP w h → (K w.params).In h)
    (F : ∀ (w : World) (mg : Str → Option Value) (fa : Addr) (h : Heap), (K w.params).In h → h.Ns mainGlobals mg → mg d.name = some (.ref fa) →
      ∃ fd : FuncData, (∀ (s : Shared) (u : Value), BindsTo s fd ⟨[u], []⟩ [(x, u)]) ∧
        ∀ base : Heap, (K w.params).In base → base.Ns mainGlobals mg → FnOk l.prog w (K w.params) mg base CX k fa fd [x] (sp (K w.params)))
    (hsp : ∀ (K : PySem.W.Frag) (H : Hp) (a : Addr) (ns : List Int), ns.length ≤ n → Only H → SqL K H a (ns.map V.int) → sp K [.ref a] H (fun v _ => v = .bl true) fun _ _ _ => False)
    (hCX : ∀ (H : Hp) (s : Shared) (e : Value) (s' : Shared), CX [] H s (fun _ _ _ => False) e s' → False) :
    PySem.W.WalkO q loose XP YP l.row.toRowW d [] (fun f vs => PySem.call f vs) :=
  walk_of (K := K) (CX := fun _ => CX) (sp := fun w => sp (K w.params)) hn hn2 hdf hr hY F (fun w H a ns h1 h2 h3 => hsp (K w.params) H a ns h1 h2 h3) fun _ H s e s' => hCX H s e s'
end L2

/- THE LAST THEOREM (shape; LID, My.* are yours):
   My.Adr: a structure of the addresses that your layer names (classes, functions); My.Txt K t: a structure (Prop) of the equations over K;
   My.txt_mk : {K} {implicit addresses ..} (e1 : nsIn K mainGlobals "law" = some (some (.ref f))) (e2 : K.lookup f = some ⟨oc, od, .func (fnOf "law" "law" params body scope dV kV doc pm an cdv ct), sl⟩) (e3 : codeIn K cdv "law" = true) .. : ∃ t, My.Txt K t

set_option maxRecDepth 100000 in
set_option maxHeartbeats 0 in
theorem PySem.Challenge.cw_LID_holds : PySem.Challenge.rw_LID.Holds := by
  w_on; o_law; k_head; (case hw => w_witness2)
  k_fill
  refine L2.walk_of (l := PySem.Challenge.rw_LID) (n := 63) (k := 40) (x := "script") (CX := fun w => ..) (sp := fun _ => My.sp_law) rfl (by decide) rfl ⟨rfl, by decide, by decide⟩ (fun w h Y => PySem.W.kIn_of Y) ?F ?S ?C
  case F =>
    intro w mg fa h KX G hmg
    have T : ∃ t, My.Txt (L2.KOf KX) t := by
      dsimp only [L2.KOf]                          -- K must stand as «<heap const> w.params» for k_is
      refine' My.txt_mk ?e1 ?e2 ?e3 ..
      (case e1 => PySem.W.k_is)                    -- in the order: a name -> its address -> its object -> its parts
      (case e2 => PySem.W.k_is)
      ..
    obtain ⟨t, T⟩ := T
    have e0 := hmg.symm.trans (PySem.W.mg_of KX G T.law)
    cases e0                                       -- fa is the law's own address
    exact ⟨_, fun s u => .of_eq rfl, fun base kb nb => My.law_fn T kb nb⟩     -- if «.of_eq rfl» comes too early: refine' ⟨_, ?b, fun base kb nb => My.law_fn T kb nb⟩; exact fun s u => .of_eq rfl
  case S => exact fun w H a ns hl hO hS => ..
  case C => exact ..
(the tactic k_is has no namespace: write k_is) -/

/-! SHORT WORDS over the layer: a def of the text, its body, what a loop and a test want. -/
namespace L2
open PySem PySem.Spec PyProof.Rows

/-! ### the text by places -/
/-- the j-th statement of a class's body -/
def inClass (s : Stmt) (j : Nat) : Stmt := match s with
  | .ClassDef _ _ _ body _ _ _ _ _ _ _ => body.getD j (.Pass ⟨0, 0, 0, 0⟩)
  | _ => .Pass ⟨0, 0, 0, 0⟩
def defArgs (s : Stmt) : Arguments := match s with
  | .FunctionDef _ a _ _ _ _ _ _ _ _ => a
  | _ => { posonlyargs := [], args := [], vararg := none, kwonlyargs := [], kw_defaults := [], kwarg := none, defaults := [] }
def defBody (s : Stmt) : List Stmt := match s with
  | .FunctionDef _ _ b _ _ _ _ _ _ _ => b
  | _ => []
def defScope (s : Stmt) : Scope := match s with
  | .FunctionDef _ _ _ _ _ _ sc _ _ _ => sc
  | _ => { kind := .function, names := [], isGenerator := false, isCoroutine := false }

/-! ### no exception leaves a def -/
abbrev CX0 : CXT := fun _ _ _ _ _ _ => False
abbrev E0 : XK := fun _ _ _ => False
theorem pass0 {X : Cx} : Passes CX0 X E0 := fun _ _ _ _ _ _ _ h => h.elim

/-! ### a def (or method) of the text as it stands behind the top -/
structure Fun (K : PySem.W.Frag) (x qual : Str) (st : Stmt) (f : Addr) (fd : FuncData) : Prop where
  ex : ∃ (oc : Value) (od : Option Addr) (kV doc pm : Value) (an : Option Addr) (cdv ct : Value) (osl : Array (Option Value)),
    fd = PySem.W.fnOf x qual (defArgs st) (defBody st) (defScope st) .none kV doc pm an cdv ct ∧ K.lookup f = some ⟨oc, od, .func fd, osl⟩ ∧ PySem.W.codeIn K cdv qual = true
  kp : PySem.W.keepIn K (.ref f) = true
section
variable {P : Program} {w : World} {K : PySem.W.Frag} {mg : Str → Option Value} {base : Heap}
/-- THE RULE for a def: its body as a term of rules, and the reading of that term -/
theorem Fun.ok {x qual : Str} {st : Stmt} {f : Addr} {fd : FuncData} {N ps : List Str} {k : Nat} {sp : Sp} (F : Fun K x qual st f fd) (S : FnScope N ps (defScope st)) (len : ∀ vs H Q E, sp vs H Q E → vs.length = ps.length)
    (hbody : ∀ (cdv : Value) (A : Around) (outer : List Env) (s : Shared) (H : Hp) (vs : List V) (Q : VK) (E : XK), Room k (A.deeper (envOfC qual (defScope st) s.heap.objs.size f cdv)) → sp vs H Q E →
      ∃ t, PSs (cxOf CX0 P w K mg base N qual (defScope st) f cdv A outer s H E).nox (defBody st) t ∧ t { nx := fun _ H' => Q .non H', rt := Q } (start N vs) H) : FnOk P w K mg base CX0 (k + 1) f fd ps sp := by
  obtain ⟨oc, od, kV, doc, pm, an, cdv, ct, osl, rfl, lk, hcd⟩ := F.ex
  refine fn_of lk hcd S len fun A outer s H vs Q E hr hsp => ?_
  obtain ⟨t, h, q⟩ := hbody cdv A outer s H vs Q E hr hsp
  exact ⟨t, h.nox, q⟩
/-- how its arguments bind (no defaults): h is «fun _ _ _ _ _ _ us hl => match us, hl with | [_, _], _ => rfl», one _ a parameter -/
theorem Fun.binds {x qual : Str} {st : Stmt} {f : Addr} {fd : FuncData} {ps : List Str} (F : Fun K x qual st f fd)
    (h : ∀ (kV doc pm : Value) (an : Option Addr) (cdv ct : Value) (us : List Value), us.length = ps.length → bindArgs (PySem.W.fnOf x qual (defArgs st) (defBody st) (defScope st) .none kV doc pm an cdv ct) ⟨us, []⟩ = pure (ps.zip us)) : Binds K fd ps [] := by
  obtain ⟨oc, od, kV, doc, pm, an, cdv, ct, osl, rfl, lk, hcd⟩ := F.ex
  exact .all (h kV doc pm an cdv ct)
theorem fun_mk {x qual : Str} {st : Stmt} {f : Addr} {oc : Value} {od an : Option Addr} {osl : Array (Option Value)} {kV doc pm cdv ct : Value} (l : K.lookup f = some ⟨oc, od, .func (PySem.W.fnOf x qual (defArgs st) (defBody st) (defScope st) .none kV doc pm an cdv ct), osl⟩)
    (c : PySem.W.codeIn K cdv qual = true) (k : PySem.W.keepIn K (.ref f) = true) : Fun K x qual st f (PySem.W.fnOf x qual (defArgs st) (defBody st) (defScope st) .none kV doc pm an cdv ct) := ⟨⟨oc, od, kV, doc, pm, an, cdv, ct, osl, rfl, l, c⟩, k⟩
end
theorem hu_of {A : Around} {k : Nat} (hr : Room k A) : A.units + 1 < cLine := Nat.lt_of_le_of_lt (Nat.add_le_add_left (by decide : 1 ≤ 64) _) hr.units
theorem small1000 {n : Nat} (h : n ≤ 1000) : n < sizeLine := Nat.lt_of_le_of_lt h (by decide)

/-! ### expressions in short: the name that stands in the i-th slot -/
section
variable {X : Cx}
theorem pv (i : Nat) {x : Str} {pos : Pos} (hN : X.N[i]? = some x := by rfl) (hv : Vis X.env.scope x := by first | exact Or.inl rfl | exact Or.inr (Or.inl rfl) | exact Or.inr (Or.inr rfl)) (hd : (x == ("__debug__" : Str)) = false := by decide)
    (hcd : (x == ("__classdict__" : Str)) = false := by decide) : PE X (.Name x pos) (tVar i) := pe_var hN hv hd hcd
end

/-! ### tests -/
theorem iteF {A B : Prop} (h : B) : if false = true then A else B := by
  rw [if_neg Bool.false_ne_true]
  exact h
theorem iteT {A B : Prop} (h : A) : if true = true then A else B := by
  rw [if_pos rfl]
  exact h
theorem ite2 {c A B : Prop} [Decidable c] (h1 : c → A) (h2 : ¬ c → B) : if c then A else B := by
  by_cases h : c
  · rw [if_pos h]
    exact h1 h
  · rw [if_neg h]
    exact h2 h
theorem iteNS {c A B : Prop} [Decidable c] (hc : c) (h : B) : if (!decide c) = true then A else B := by
  rw [decide_eq_true hc]
  exact iteF h

/-! ### heaps -/
/-- all that was tracked is as it was -/
def Same (H H' : Hp) : Prop := ∀ b o, H b = some o → H' b = some o
theorem Same.refl (H : Hp) : Same H H := fun _ _ h => h
theorem Same.trans {H H1 H2 : Hp} (a : Same H H1) (b : Same H1 H2) : Same H H2 := fun c o h => b c o (a c o h)
theorem Same.free {H H' : Hp} (e : Same H H') {l : Addr} (h : H' l = Option.none) : H l = Option.none := by
  cases q : H l with
  | none => rfl
  | some o =>
    rw [e l o q] at h
    cases h
theorem Same.seq {K : PySem.W.Frag} {H H' : Hp} {a : Addr} {xs : List V} (e : Same H H') (h : SqL K H a xs) : SqL K H' a xs := by
  rcases h with (h | ⟨o, h⟩) | h
  · exact .inl (.inl (e _ _ h))
  · exact .inl (.inr ⟨o, e _ _ h⟩)
  · exact .inr h

end L2

namespace L2
open PySem PySem.Spec PyProof.Rows
section
variable {X : Cx}
/-- len of a dict -/
theorem call_lenD : CallR X (.builtin "len") (fun xs H Q => ∃ a kvs, xs = [V.ref a] ∧ H a = some (.dK kvs) ∧ Q (.int kvs.length) H) := by
  intro pins s σ H xs us Q I r h
  obtain ⟨a, kvs, rfl, ha, q⟩ := h
  obtain ⟨u, rfl, ru⟩ := vals1 r
  cases ru
  exact d_len I (.inl ha) fun t s' I' => ⟨.int kvs.length, H, I', ⟨t, rfl⟩, q⟩
end
/-! ### a dict's pairs: keys that differ -/
section
variable {κ : Type} [DecidableEq κ]
theorem valV_not {kvs : List (κ × V)} {k : κ} (h : valV kvs k = none) : ¬ k ∈ kvs.map (·.1) := by
  intro m
  obtain ⟨p, hp, e⟩ := List.mem_map.mp m
  have q : (kvs.any fun kv => decide (kv.1 = k)) = true := List.any_eq_true.mpr ⟨p, hp, decide_eq_true e⟩
  rw [valV_any, h] at q
  exact absurd q (by simp)
theorem valV_in {kvs : List (κ × V)} {k : κ} {v : V} (h : valV kvs k = some v) : k ∈ kvs.map (·.1) := by
  have q : (kvs.any fun kv => decide (kv.1 = k)) = true := by
    rw [valV_any, h]
    all_goals rfl
  obtain ⟨p, hp, e⟩ := List.any_eq_true.mp q
  exact List.mem_map.mpr ⟨p, hp, of_decide_eq_true e⟩
theorem nd_snoc : ∀ {l : List κ} {k : κ}, l.Nodup → ¬ k ∈ l → (l ++ [k]).Nodup
  | [], k, _, _ => by simp
  | a :: r, k, h, hk => by
    obtain ⟨h1, h2⟩ := List.nodup_cons.mp h
    show (a :: (r ++ [k])).Nodup
    refine List.nodup_cons.mpr ⟨fun m => ?_, nd_snoc h2 fun m => hk (List.mem_cons.mpr (Or.inr m))⟩
    rcases List.mem_append.mp m with q | q
    · exact h1 q
    · exact hk (List.mem_cons.mpr (Or.inl (List.mem_singleton.mp q).symm))
theorem nd_putK {kvs : List (κ × V)} {k : κ} (v : V) (hn : (kvs.map (·.1)).Nodup) (h : valV kvs k = none) : ((putK kvs k v).map (·.1)).Nodup := by
  rw [putK_new v h, List.map_append]
  exact nd_snoc hn (valV_not h)
theorem dropK_pos {p : κ × V} {r : List (κ × V)} {k : κ} (e : p.1 = k) : dropK (p :: r) k = dropK r k := by
  unfold dropK
  rw [List.filter_cons, if_neg (by simp [e])]
theorem dropK_neg {p : κ × V} {r : List (κ × V)} {k : κ} (e : ¬ p.1 = k) : dropK (p :: r) k = p :: dropK r k := by
  unfold dropK
  rw [List.filter_cons, if_pos (by simp [e])]
theorem dropK_no : ∀ {kvs : List (κ × V)} {k : κ}, ¬ k ∈ kvs.map (·.1) → dropK kvs k = kvs
  | [], _, _ => rfl
  | p :: r, k, h => by
    have h' : ¬ k ∈ r.map (·.1) := fun m => by
      obtain ⟨q, hq, e⟩ := List.mem_map.mp m
      exact h (List.mem_map.mpr ⟨q, List.mem_cons.mpr (Or.inr hq), e⟩)
    rw [dropK_neg fun e => h (List.mem_map.mpr ⟨p, List.mem_cons.mpr (Or.inl rfl), e⟩), dropK_no h']
theorem dropK_mem {kvs : List (κ × V)} {k : κ} {p : κ × V} (h : p ∈ dropK kvs k) : p ∈ kvs := (List.mem_filter.mp h).1
theorem nd_dropK : ∀ {kvs : List (κ × V)} {k : κ}, (kvs.map (·.1)).Nodup → ((dropK kvs k).map (·.1)).Nodup
  | [], _, _ => List.nodup_nil
  | p :: r, k, h => by
    have h : (p.1 :: r.map (·.1)).Nodup := h
    obtain ⟨h1, h2⟩ := List.nodup_cons.mp h
    by_cases e : p.1 = k
    · rw [dropK_pos e]
      exact nd_dropK h2
    · rw [dropK_neg e]
      show (p.1 :: (dropK r k).map (·.1)).Nodup
      refine List.nodup_cons.mpr ⟨fun m => h1 ?_, nd_dropK h2⟩
      obtain ⟨q, hq, eq⟩ := List.mem_map.mp m
      exact List.mem_map.mpr ⟨q, dropK_mem hq, eq⟩
theorem dropK_len : ∀ {kvs : List (κ × V)} {k : κ}, (kvs.map (·.1)).Nodup → k ∈ kvs.map (·.1) → (dropK kvs k).length + 1 = kvs.length
  | [], _, _, m => by simp at m
  | p :: r, k, h, m => by
    have h : (p.1 :: r.map (·.1)).Nodup := h
    have m : k = p.1 ∨ k ∈ r.map (·.1) := List.mem_cons.mp m
    obtain ⟨h1, h2⟩ := List.nodup_cons.mp h
    by_cases e : p.1 = k
    · subst e
      rw [dropK_pos rfl, dropK_no h1]
      all_goals rfl
    · have m' : k ∈ r.map (·.1) := m.resolve_left fun z => e z.symm
      have q := dropK_len h2 m'
      rw [dropK_neg e, List.length_cons, List.length_cons]
      omega
end
end L2


end
section
set_option Elab.async false
set_option linter.all false
set_option maxRecDepth 100000
set_option maxHeartbeats 1000000
namespace L2
open PySem PySem.Spec PyProof.Rows
/-! ### a list's comprehension: the block and its context -/
def clOf (env : Env) : List (Str × NameKind) → List (Str × Addr) → List (Str × Addr)
  | [], cs => cs
  | (n, k) :: r, cs => clOf env r (if k == .free then (n, (env.cells.lookup n).getD 0) :: cs else cs)
theorem closure_loop {env : Env} : ∀ (ns : List (Str × NameKind)) (cs : List (Str × Addr)), (∀ y ∈ ns, y.2 = .free → ∃ c, env.cells.lookup y.1 = some c) →
    (forIn ns cs (fun (x : Str × NameKind) (r : List (Str × Addr)) => if (x.2 == NameKind.free) = true then (cellOf env x.1 >>= fun a => pure (ForInStep.yield ((x.1, a) :: r)) : Sem _) else pure (ForInStep.yield r)) : Sem (List (Str × Addr))) = pure (clOf env ns cs)
  | [], _, _ => rfl
  | (n, k) :: r, cs, h => by
    rw [List.forIn_cons]
    by_cases hk : k = .free
    · subst hk
      obtain ⟨c, e⟩ := h (n, .free) List.mem_cons_self rfl
      have e' : env.cells.lookup n = some c := e
      have q := closure_loop (env := env) r ((n, c) :: cs) fun y hy => h y (List.mem_cons_of_mem _ hy)
      have z : clOf env ((n, NameKind.free) :: r) cs = clOf env r ((n, c) :: cs) := by
        show clOf env r (if (NameKind.free == NameKind.free) = true then (n, (env.cells.lookup n).getD 0) :: cs else cs) = _
        rw [if_pos (by decide), e']
        rfl
      have k : cellOf env n = pure c := by
        unfold cellOf
        rw [e']
      rw [z, ← q]
      dsimp only
      rw [if_pos (by decide), k]
      rfl
    · have hb : (k == NameKind.free) = false := by simpa using hk
      have q := closure_loop (env := env) r cs fun y hy => h y (List.mem_cons_of_mem _ hy)
      have z : clOf env ((n, k) :: r) cs = clOf env r cs := by
        show clOf env r (if (k == NameKind.free) = true then (n, (env.cells.lookup n).getD 0) :: cs else cs) = _
        rw [hb, if_neg Bool.false_ne_true]
      rw [z, ← q]
      dsimp only
      rw [hb, if_neg Bool.false_ne_true]
      rfl
theorem closure_of {scope : Scope} {env : Env} (h : ∀ y ∈ scope.names, y.2 = .free → ∃ c, env.cells.lookup y.1 = some c) : closureFor scope env = pure (clOf env scope.names []) := by
  have q := closure_loop (env := env) scope.names [] h
  unfold closureFor
  show (forIn scope.names [] _ >>= _ : Sem _) = _
  refine Eq.trans (congrArg (fun m : Sem (List (Str × Addr)) => m >>= fun r => pure r) (Eq.trans ?_ q)) rfl
  rfl
theorem clOf_sub {env : Env} : ∀ (ns : List (Str × NameKind)) (cs : List (Str × Addr)), (∀ y ∈ ns, y.2 = .free → ∃ c, env.cells.lookup y.1 = some c) → (∀ y c, cs.lookup y = some c → env.cells.lookup y = some c) →
    ∀ y c, (clOf env ns cs).lookup y = some c → env.cells.lookup y = some c
  | [], _, _, g, y, c, e => g y c e
  | (n, k) :: r, cs, h, g, y, c, e => by
    refine clOf_sub r _ (fun z hz => h z (List.mem_cons_of_mem _ hz)) (fun z d e' => ?_) y c e
    by_cases hk : (k == NameKind.free) = true
    · rw [if_pos hk] at e'
      rw [List.lookup_cons] at e'
      obtain ⟨c', ec⟩ := h (n, k) List.mem_cons_self (by simpa using hk)
      have ec' : env.cells.lookup n = some c' := ec
      cases hz : z == n with
      | true =>
        rw [hz] at e'
        have hzn : z = n := by simpa using hz
        subst hzn
        rw [ec'] at e' ⊢
        exact e'
      | false => rw [hz] at e'; exact g z d e'
    · rw [if_neg hk] at e'; exact g z d e'
theorem clOf_keep {env : Env} {y : Str} : ∀ (ns : List (Str × NameKind)) (cs : List (Str × Addr)), (∃ c, cs.lookup y = some c) → ∃ c, (clOf env ns cs).lookup y = some c
  | [], _, h => h
  | (n, k) :: r, cs, h => by
    refine clOf_keep r _ ?_
    by_cases hk : (k == NameKind.free) = true
    · rw [if_pos hk, List.lookup_cons]
      cases y == n
      · exact h
      · exact ⟨_, rfl⟩
    · rw [if_neg hk]; exact h
theorem clOf_has {env : Env} {y : Str} : ∀ (ns : List (Str × NameKind)) (cs : List (Str × Addr)), (y, NameKind.free) ∈ ns → ∃ c, (clOf env ns cs).lookup y = some c
  | [], _, h => by simp at h
  | (n, k) :: r, cs, h => by
    rcases List.mem_cons.mp h with e | h
    · cases e
      show ∃ c, (clOf env r (if (NameKind.free == NameKind.free) = true then (y, (env.cells.lookup y).getD 0) :: cs else cs)).lookup y = some c
      refine clOf_keep r _ ⟨(env.cells.lookup y).getD 0, ?_⟩
      rw [if_pos (by decide), List.lookup_cons, beq_self_eq_true]
    · exact clOf_has r _ h
theorem relabel_kind {env : Env} {y : Str} {k : NameKind} : ∀ (ns : List (Str × NameKind)),
    (ns.map fun (n, k) => if (k == NameKind.free && env.scope.kind == .function && env.kindOf n == some .cell) then (n, NameKind.cell) else (n, k)).lookup y = some k → (y, k) ∈ ns ∨ (k = .cell ∧ (y, NameKind.free) ∈ ns)
  | [], h => by simp at h
  | (n, k') :: r, h => by
    have ih := fun q => relabel_kind (env := env) (y := y) (k := k) r q
    rw [List.map_cons] at h
    have h2 := h
    have again := fun q => (ih q).elim (fun q => Or.inl (List.mem_cons_of_mem (n, k') q)) fun q => (Or.inr ⟨q.1, List.mem_cons_of_mem (n, k') q.2⟩ : (y, k) ∈ (n, k') :: r ∨ (k = .cell ∧ (y, NameKind.free) ∈ (n, k') :: r))
    dsimp only at h2
    clear h
    by_cases hc : (k' == NameKind.free && env.scope.kind == .function && env.kindOf n == some .cell) = true
    · rw [if_pos hc, List.lookup_cons] at h2
      cases hy : y == n with
      | true =>
        rw [hy] at h2
        have e1 : y = n := by simpa using hy
        have hk : k' = .free := by
          have := hc; simp at this; exact this.1.1
        have e2 : k = .cell := (Option.some.inj h2).symm
        exact .inr ⟨e2, by rw [e1, hk]; exact List.mem_cons_self⟩
      | false => rw [hy] at h2; exact again h2
    · rw [if_neg hc, List.lookup_cons] at h2
      cases hy : y == n with
      | true =>
        rw [hy] at h2
        have e1 : y = n := by simpa using hy
        have e2 : k' = k := Option.some.inj h2
        exact .inl (by rw [e1, e2]; exact List.mem_cons_self)
      | false => rw [hy] at h2; exact again h2

/-- the block's context -/
def cxB (X : Cx) (N' : List Str) (scope : Scope) (C : Addr) (s3 : Shared) (H3 : Hp) (ex : List Addr) : Cx :=
  { prog := X.prog, w := X.w, K := X.K, mg := X.mg, base := X.base, A := X.A, N := N', s₀ := s3, H₀ := H3, env := compEnvC scope (clOf X.env scope.names []) C X.env, outer := X.stack, stack := X.stack, ex := ex,
    fn := fun _ => false, calm := true, pn := [], xe := fun _ _ => False }
def capOk (X : Cx) (scope : Scope) : List Str → List Nat → Prop
  | [], [] => True
  | y :: ys, j :: js => X.N[j]? = some y ∧ (X.env.scope.names.lookup y = some .cell ∧ scope.names.lookup y = some .free) ∧ capOk X scope ys js
  | _, _ => False
theorem capOk.get {X : Cx} {scope : Scope} : ∀ {ys : List Str} {js : List Nat} {k : Nat} {y : Str}, capOk X scope ys js → ys[k]? = some y → ∃ j, js[k]? = some j ∧ X.N[j]? = some y ∧ X.env.scope.names.lookup y = some .cell ∧ scope.names.lookup y = some .free
  | [], _, _, _, _, e => by simp at e
  | _ :: _, [], _, _, h, _ => False.elim h
  | y :: ys, j :: js, 0, z, h, e => by simp at e; subst e; exact ⟨j, rfl, h.1, h.2.1⟩
  | y :: ys, j :: js, k + 1, z, h, e => by
    obtain ⟨j', e1, e2⟩ := capOk.get (k := k) h.2.2 (by simpa using e)
    exact ⟨j', by simpa using e1, e2⟩
theorem capOk.len {X : Cx} {scope : Scope} : ∀ {ys : List Str} {js : List Nat}, capOk X scope ys js → ys.length = js.length
  | [], [], _ => rfl
  | _ :: _, _ :: _, h => by simp [capOk.len h.2.2]
  | [], _ :: _, h => False.elim h
  | _ :: _, [], h => False.elim h
def caps (js : List Nat) (σ : St) : St := js.map fun j => (σ[j]?).getD none
/-- what the block's scope must be -/
structure BScope (X : Cx) (scope : Scope) (x : Str) : Prop where
  kind : scope.kind = .function
  cells : ∀ y ∈ scope.names, y.2 ≠ .cell
  locs : ∀ y ∈ scope.names, y.2 = .local → scope.names.lookup y.1 = some .local
  var : scope.names.lookup x = some .local
  free : ∀ y ∈ scope.names, y.2 = .free → X.env.scope.names.lookup y.1 = some .cell

def PTs (X : Cx) (ifs : List Expr) (t : TT) : Prop :=
  ∀ (pins : List (Addr × Obj)) (s : Shared) (σ : St) (H : Hp) (Q : Bool → Hp → Prop), Inv X pins σ H s → t σ H Q →
    wpAny (model X.prog X.w) X.A (forIn ifs true fun c r => if r = true then do let ok ← isTrue c X.env (eval c X.env); pure (ForInStep.yield ok) else pure (ForInStep.yield r)) (TP X pins σ Q) X.xe s
def tYes : TT := fun _ H Q => Q true H
theorem pts_nil {X : Cx} : PTs X [] tYes := fun _ _ _ H _ I h => wpAny_tests_nil ⟨H, I, h⟩
theorem pts_one {X : Cx} {c : Expr} {t : TT} (h : PT X c t) : PTs X [c] t := fun pins s σ H Q I q => wpAny_tests_one (h pins s σ H Q I q)

/-- the block's invariant at its entry -/
theorem inv_block {X : Cx} {pins : List (Addr × Obj)} {σ : St} {H : Hp} {s3 : Shared} {h1 : Heap} {tk : Nat} {scope : Scope} {x : Str} {ys : List Str} {js : List Nat} {ex : List Addr} (I : Inv X pins σ H s3) (hc : X.calm = true) (B : BScope X scope x) (cap : capOk X scope ys js)
    (hns : h1.Ns s3.heap.objs.size (fun _ => none)) (hk : ∀ b o, s3.heap.get? b = some o → h1.get? b = some o)
    (hex : ∀ b ∈ ex, b ∉ frs X.stack ∧ b < s3.heap.objs.size ∧ (∀ y c, X.env.cells.lookup y = some c → c ≠ b) ∧ X.base.get? b = none) :
    Inv (cxB X (x :: ys) scope s3.heap.objs.size s3 H ex) [] (none :: caps js σ) H { s3 with heap := h1, toks := tk } := by
  have hfree : ∀ y ∈ scope.names, y.2 = .free → ∃ c, X.env.cells.lookup y.1 = some c := fun y hy hf => I.ok.has y.1 (.inl (B.free y hy hf))
  have sub := clOf_sub (env := X.env) scope.names [] hfree (fun _ _ e => by simp at e)
  refine ⟨⟨I.ok.mod, B.kind, I.ok.glob, I.ok.blt, Nat.le_refl _, fun y z c h1 h2 => I.ok.inj y z c (sub _ _ h1) (sub _ _ h2), fun y hy => ?_, fun y c hf _ => ?_, fun _ => I.ok.hd hc, I.ok.frames, .inl rfl, fun b hb => ?_, fun b o e => I.bs b o e, Nat.le_trans I.ok.bsz I.sz, fun b o e hb => ?_, fun b hb => (hex b hb).1, I.stack, I.stkFree⟩,
    rfl, I.bare, Un.kept hk, ⟨_, hns, fun i y v e1 e2 e3 => ?_⟩, fun y c e => ?_, I.hok.fresh (Nat.le_refl _), fun y c e => I.freeC y c (sub _ _ e), fun p hp => absurd (show p ∈ ([] : List (Addr × Obj)) from hp) (by simp), I.hok.kept hk, ?_⟩
  · have hy : (relabel scope X.env).names.lookup y = some .cell ∨ (relabel scope X.env).names.lookup y = some .free := hy
    rcases hy with hy | hy
    · rcases relabel_kind _ hy with q | ⟨_, q⟩
      · exact absurd rfl (B.cells _ q)
      · exact clOf_has _ _ q
    · rcases relabel_kind _ hy with q | ⟨q, _⟩
      · exact clOf_has _ _ q
      · cases q
  · exact absurd (show false = true from hf) (by simp)
  · exact ⟨Nat.ne_of_lt (hex b hb).2.1, fun y c e => (hex b hb).2.2.1 y c (sub _ _ e)⟩
  · have e' : X.base.get? b = some o := e
    have := (hex b hb).2.2.2
    rw [e'] at this; cases this
  · cases i with
    | zero => simp at e2
    | succ i =>
      have e1' : ys[i]? = some y := by simpa [cxB] using e1
      have e2' : (caps js σ)[i]? = some (some v) := by simpa using e2
      obtain ⟨j, ej, en, ec, ef⟩ := cap.get e1'
      have e4 : σ[j]? = some (some v) := by
        unfold caps at e2'
        rw [List.getElem?_map, ej] at e2'
        simp only [Option.map_some, Option.some.injEq] at e2'
        cases q : σ[j]? with
        | none => rw [q] at e2'; cases e2'
        | some w => rw [q] at e2'; simp at e2'; rw [e2']
      obtain ⟨m, hn, hl⟩ := I.loc
      obtain ⟨u, r, l⟩ := hl j y v en e4 (.inr (.inl ec))
      refine ⟨u, r, .inr ?_⟩
      rcases l with ⟨kl, _⟩ | ⟨kc, c, ecl, cell⟩
      · have kl : X.env.scope.names.lookup y = some .local := kl
        rw [ec] at kl; cases kl
      · have e3 : (relabel scope X.env).names.lookup y = some .local ∨ (relabel scope X.env).names.lookup y = some .cell ∨ (relabel scope X.env).names.lookup y = some .free := e3
        refine ⟨?_, ?_⟩
        · rcases e3 with q | q | q
          · rcases relabel_kind _ q with q | ⟨q, _⟩
            · have := B.locs _ q rfl
              rw [ef] at this; cases this
            · cases q
          · exact .inl q
          · exact .inr q
        · have mem : (y, NameKind.free) ∈ scope.names := PySem.mem_of_lookup ef
          obtain ⟨c', ec'⟩ := clOf_has (env := X.env) scope.names [] mem
          have := sub _ _ ec'
          rw [ecl] at this; cases this
          obtain ⟨o, ho, hd⟩ := cell
          exact ⟨c, ec', o, hk _ _ ho, hd⟩
  · obtain ⟨v, o, ho, hd⟩ := I.cell y c (sub _ _ e)
    exact ⟨v, o, hk _ _ ho, hd⟩
  · show (none :: caps js σ).length = (x :: ys).length
    rw [List.length_cons, List.length_cons, cap.len]
    unfold caps
    rw [List.length_map]

/-- the comprehension's reading: W i m acc H, ahead of turn i -/
def tComp (js : List Nat) (wi : TI) (tt : TT) (te : TE) : TE := fun σ H Q => wi σ H fun J H1 => ∃ W : Nat → Nat → List V → Hp → Prop, (∃ m, W 0 m [] H1) ∧ ∀ i m acc H, W i m acc H →
  (J.stop i H ∧ acc.length ≤ sizeLine ∧ ∀ p, H p = none → Q (.ref p) (upd H p (.lst acc))) ∨ (J.go i H ∧ acc.length < sizeLine ∧ ∀ x H', J.yld i H x H' →
    tt (some x :: caps js σ) H' fun b H2 => if b = true then te (some x :: caps js σ) H2 fun y H3 => ∃ m', m' < m ∧ W (i + 1) m' (acc ++ [y]) H3 else ∃ m', m' < m ∧ W (i + 1) m' acc H2)
theorem pure_inv {M : Model} {A : Around} {α β : Type} {E E' : Value → Shared → Prop} {a : α} {t : Sem α} {u : Sem β} {Q : α → Shared → Prop} {R : β → Shared → Prop} {s s' : Shared} (e : t = pure a) (h : wpAny M A t Q E s) (k : Q a s → wpAny M A u R E' s') : wpAny M A u R E' s' := by
  subst e
  exact fun Γ p hΓ => k (h Γ p hΓ) Γ p hΓ
/-- the loop of the block; RR: what is wanted behind it -/
theorem comp_run {X : Cx} {pins : List (Addr × Obj)} {σ : St} {H : Hp} {s2 : Shared} {elt iter : Expr} {x : Str} {px pos : Pos} {ifs : List Expr} {scope : Scope} {tt : TT} {te : TE} {ys : List Str} {js : List Nat} {it : Addr} {fp : List Addr} {tn : Nat → Heap → Prop} {J : It}
    {Q : VK} {E : Value → Shared → Prop} {RR : Value → Addr → Result → Shared → Prop} (hc : X.calm = true) (B : BScope X scope x) (nd : (x :: ys).Nodup) (cap : capOk X scope ys js)
    (ht : ∀ C s3 H3 ex, PTs (cxB X (x :: ys) scope C s3 H3 ex) ifs tt) (he : ∀ C s3 H3 ex, PE (cxB X (x :: ys) scope C s3 H3 ex) elt te)
    (I : Inv X pins σ H s2) (T : Turn X.prog X.w X.K (.Name x px) J fp it tn) (h0 : tn 0 s2.heap) (hf : ∀ b ∈ fp, FpOk X pins H b)
    (W : Nat → Nat → List V → Hp → Prop) (w0 : ∃ m, W 0 m [] H)
    (turn : ∀ i m acc H, W i m acc H → (J.stop i H ∧ acc.length ≤ sizeLine ∧ ∀ p, H p = none → Q (.ref p) (upd H p (.lst acc))) ∨ (J.go i H ∧ acc.length < sizeLine ∧ ∀ x H', J.yld i H x H' →
      tt (some x :: caps js σ) H' fun b H2 => if b = true then te (some x :: caps js σ) H2 fun y H3 => ∃ m', m' < m ∧ W (i + 1) m' (acc ++ [y]) H3 else ∃ m', m' < m ∧ W (i + 1) m' acc H2))
    (hRR : ∀ (D C : Addr) (H' : Hp) (s' : Shared) (m' : Str → Option Value), s'.heap.Ns C m' → s2.heap.objs.size ≤ C → C ≠ D → H' C = none → Inv X pins σ H' s' → Q (.ref D) H' → RR (.ref D) C (.ok .next) s') :
    wpAny (model X.prog X.w) X.A (newList []) (fun acc s₃ => wpAny (model X.prog X.w) X.A (newFunctionEnv scope X.env.globals (clOf X.env scope.names []) [] X.env.qual none .none (some X.env)) (fun cenv s₄ =>
      codeAny (model X.prog X.w) X.A (.compStart (.ListComp elt [⟨.Name x px, iter, ifs, 0⟩] scope pos) 0 (.ref it) acc { cenv with scope := relabel scope X.env }) (RR acc cenv.locals) s₄) E s₃) E s2 := by
  refine wpAny_newObj_type (wpAny_newFunctionEnv B.cells (by intro y hy; simp at hy) (fun h1 hns hsb => ?_) B.kind)
  dsimp only at hns hsb ⊢
  have hD : H s2.heap.objs.size = none := I.hok.fresh (Nat.le_refl _)
  generalize hH2 : s2.heap.push { cls := .type "list", dict := none, data := .seq ([] : List Value).toArray } = P2 at hns hsb ⊢
  have hgetD : P2.get? s2.heap.objs.size = some { cls := .type "list", dict := none, data := .seq ([] : List Value).toArray } := by rw [← hH2]; exact Heap.get?_push_size _ rfl
  have hold : ∀ b o, s2.heap.get? b = some o → P2.get? b = some o := fun b o e => by rw [← hH2]; exact Heap.get?_push_of_some _ e
  have hsz : P2.objs.size = s2.heap.objs.size + 1 := by rw [← hH2, Heap.size_push]
  have I3 : Inv X pins σ H { s2 with heap := P2, toks := s2.toks } := I.kept hold
  generalize hDe : s2.heap.objs.size = D at *
  have keep1 : ∀ b o, P2.get? b = some o → h1.get? b = some o := fun b o e => hsb.extBut b o (Nat.ne_of_lt (Heap.lt_size e)) (Heap.get?_push_of_some _ e)
  have hfp : ∀ b ∈ fp, b < D := fun b hb => by
    obtain ⟨o, e, _⟩ := T.obj _ _ h0 b hb
    rw [← hDe]
    exact Heap.lt_size e
  have hstk : ∀ b, b ≠ X.env.locals → b ∉ X.fs → b ∉ frs X.stack := fun b h1 h2 z => (List.mem_cons.mp (I.stkSub b z)).elim h1 h2
  have hDl : D ≠ X.env.locals := fun z => absurd I.lt (by rw [hDe, z]; exact Nat.lt_irrefl _)
  have hDfs : D ∉ X.fs := I.nofs (by rw [hDe]; exact Nat.le_refl _)
  have hDc : ∀ y c, X.env.cells.lookup y = some c → c ≠ D := fun y c e z => by
    obtain ⟨v, q⟩ := I.cell y c e
    have := q.lt
    rw [z, hDe] at this
    exact absurd this (Nat.lt_irrefl _)
  have hex : ∀ b ∈ D :: fp, b ∉ frs X.stack ∧ b < ({ s2 with heap := P2, toks := s2.toks } : Shared).heap.objs.size ∧ (∀ y c, X.env.cells.lookup y = some c → c ≠ b) ∧ X.base.get? b = none := fun b hb => by
    rcases List.mem_cons.mp hb with rfl | hb
    · refine ⟨hstk _ hDl hDfs, by show _ < P2.objs.size; rw [hsz]; exact Nat.lt_succ_self _, hDc, ?_⟩
      cases q : X.base.get? b with
      | none => rfl
      | some o =>
        have := Heap.lt_size (I.bk b o q)
        rw [hDe] at this
        exact absurd this (Nat.lt_irrefl _)
    · obtain ⟨f0, f1, f2, f3, f4, f5⟩ := hf b hb
      refine ⟨hstk _ f1 f2, by show _ < P2.objs.size; rw [hsz]; exact Nat.lt_succ_of_lt (hfp b hb), f4, ?_⟩
      cases q : X.base.get? b with
      | none => rfl
      | some o =>
        rcases f3 with z | z
        · exact absurd z (I.ok.noex b o q)
        · exact absurd (Nat.lt_of_lt_of_le (Heap.lt_size q) (Nat.le_trans I.ok.bsz z)) (Nat.lt_irrefl _)
  have IB := inv_block (tk := s2.toks) (ex := D :: fp) I3 hc B cap (h1 := h1) hns keep1 hex
  have hCD : P2.objs.size ≠ D := by rw [hsz]; exact Nat.succ_ne_self _
  have start : codeAny (model X.prog X.w) X.A (.compLoop (.ListComp elt [⟨.Name x px, iter, ifs, 0⟩] scope pos) 0 (.ref it) (.ref D) (compEnvC scope (clOf X.env scope.names []) P2.objs.size X.env)) (RR (.ref D) P2.objs.size) { s2 with heap := h1, toks := s2.toks } := by
    obtain ⟨m0, w0⟩ := w0
    refine codeAny_compLoop_tests (fun n s => ∃ i v0 H' acc its k, Inv (cxB X (x :: ys) scope P2.objs.size { s2 with heap := P2, toks := s2.toks } H (D :: fp)) [] (v0 :: caps js σ) H' s ∧ tn i s.heap ∧ (∀ b ∈ D :: fp, H' b = none) ∧ s.heap.get? D = some { cls := .type "list", data := .seq its k } ∧ Vals acc its.toList ∧ acc.length ≤ sizeLine ∧ W i n acc H') ?_ m0 ?_
    · rintro n s ⟨i, v0, H3, acc, its, k, I4, t4, fr4, g4, va, hl4, w4⟩
      have hDm : D ∈ D :: fp := List.mem_cons_self
      have exf := I4.ok.exf
      have fsub : ∀ b ∈ D :: fp, b ∉ (cxB X (x :: ys) scope P2.objs.size { s2 with heap := P2, toks := s2.toks } H (D :: fp)).fs := fun b hb => (hex b hb).1
      have stat : ∀ {H' : Hp} {ob : Obj}, (∀ b ∈ fp, H' b = none) → ∀ b ∈ fp, FpOk (cxB X (x :: ys) scope P2.objs.size { s2 with heap := P2, toks := s2.toks } H (D :: fp)) [(D, ob)] H' b := fun {H' ob} hn b hb =>
        ⟨hn b hb, (exf b (List.mem_cons_of_mem _ hb)).1, fsub b (List.mem_cons_of_mem _ hb), .inl (List.mem_cons_of_mem _ hb), (exf b (List.mem_cons_of_mem _ hb)).2, fun p hp z => by
          have hp' : p ∈ [(D, ob)] := hp
          have e := List.mem_singleton.mp hp'
          rw [e] at z
          exact absurd (hfp b hb) (by rw [← show D = b from z]; exact Nat.lt_irrefl _)⟩
      have frp : ∀ b ∈ fp, H3 b = none := fun b hb => fr4 b (List.mem_cons_of_mem _ hb)
      have I5 : Inv (cxB X (x :: ys) scope P2.objs.size { s2 with heap := P2, toks := s2.toks } H (D :: fp)) [(D, { cls := .type "list", data := .seq its k })] (v0 :: caps js σ) H3 s := I4.pins_of fun p hp => by
        rw [List.mem_singleton.mp hp]
        exact ⟨g4, fr4 D hDm, (exf D hDm).1, fsub D hDm, fun v z => nomatch z⟩
      rcases turn i n acc H3 w4 with ⟨stop, hacc, q⟩ | ⟨go, hacc, step⟩
      · refine wpAny_mono (T.done (cxB X (x :: ys) scope P2.objs.size { s2 with heap := P2, toks := s2.toks } H (D :: fp)) rfl rfl rfl rfl i _ s _ H3 (fun _ _ => False) I5 (stat frp) t4 stop) (fun r s1 ⟨hr, I6⟩ => ?_) (fun _ _ z => z.elim)
        subst hr
        obtain ⟨m', hn', _⟩ := id I6.loc
        have pD := (I6.pin (D, { cls := .type "list", data := .seq its k }) (List.mem_append_right _ (List.mem_singleton.mpr rfl))).1
        have nD : H3 D = none := fr4 D hDm
        have u := I6.base
        have uu : Un (frs X.stack) (D :: fp) H (upd H3 D (.lst acc)) P2 s1.heap :=
          ⟨u.keep, u.slot, fun b o q n hx => by rw [upd_ne fun z => hx (by rw [z]; exact hDm)]; exact u.free b o q n hx, u.there,
           fun b xs q => by rw [upd_ne (ne_of_none (u.tups b xs q) nD)]; exact u.tups b xs q, fun b o v q => by rw [upd_ne (ne_of_none (u.frzs b o v q) nD)]; exact u.frzs b o v q,
           fun b ps q => by
            obtain ⟨more, z⟩ := u.tbls b ps q
            exact ⟨more, by rw [upd_ne (ne_of_none z nD)]; exact z⟩⟩
        have hok : HOk X.prog X.w (upd H3 D (.lst acc)) s1.heap := fun b o e => by
          by_cases hb : b = D
          · subst hb
            rw [upd_same] at e; cases e
            exact ⟨hacc, its.toList, k, va, by rw [Array.toArray_toList]; exact pD⟩
          · rw [upd_ne hb] at e
            exact (I6.hok b o e).stay (fun c v _ q => q) (fun c q => by rw [upd_ne (ne_of_none q nD)]; exact q) fun c xs q => by rw [upd_ne (ne_of_none q nD)]; exact q
        have fin := I3.call (g' := s1.gens) (t' := s1.toks) (d' := s1.drawn) uu hok I6.bare (fun b hb => by
          rcases List.mem_cons.mp hb with z | hb
          · rw [z]
            refine ⟨.inr (by rw [← hDe]; exact I.sz), hDl, hDc, fun p hp z => ?_⟩
            have := Heap.lt_size (I.pin p hp).1
            rw [z, hDe] at this
            exact Nat.lt_irrefl _ this
          · exact ⟨(hf b hb).2.2.2.1, (hf b hb).2.1, (hf b hb).2.2.2.2.1, (hf b hb).2.2.2.2.2⟩)
        have es : ({ heap := s1.heap, gens := s1.gens, drawn := s1.drawn, toks := s1.toks, os := s2.os } : Shared) = s1 := by
          have := I6.os
          obtain ⟨a1, a2, a3, a4, a5⟩ := s1
          have e5 : a5 = s2.os := this
          rw [e5]
        have fin' : Inv X pins σ (upd H3 D (.lst acc)) s1 := es ▸ fin
        exact hRR D P2.objs.size (upd H3 D (.lst acc)) s1 m' hn' (by rw [hsz]; exact Nat.le_succ _) hCD (by rw [upd_ne hCD]; exact I6.free) fin' (q D nD)
      · refine wpAny_mono (T.item (cxB X (x :: ys) scope P2.objs.size { s2 with heap := P2, toks := s2.toks } H (D :: fp)) rfl rfl rfl rfl i _ s _ H3 (fun _ _ => False) I5 (stat frp) t4 go) (fun r s1 ⟨u, hr, h4⟩ => ?_) (fun _ _ z => z.elim)
        subst hr
        refine pure_inv (a := ()) rfl h4 fun ⟨x', H5, I6, r6, y6, t6, fr6⟩ => ?_
        have I7 := I6.pinned (stat fr6) (T.obj _ _ t6)
        have kx : (relabel scope X.env).names.lookup x = some .local := lookup_relabel_local B.var
        have pg : PG (cxB X (x :: ys) scope P2.objs.size { s2 with heap := P2, toks := s2.toks } H (D :: fp)) (.Name x px) (gName 0) := pg_name nd rfl (.inl kx) (.inr kx)
        refine wpAny_mono (pg _ s1 _ H5 x' u (fun σ' H' => σ' = some x' :: caps js σ ∧ H' = H5) I7 r6 ⟨rfl, rfl⟩) (fun _ s2' ⟨σ6, H6, I8, e1, e2⟩ => ?_) (fun _ _ z => z.elim)
        subst e1 e2
        refine wpAny_mono (ht _ _ _ _ _ s2' _ _ _ I8 (step x' H6 y6)) (fun b s3' ⟨H7, I9, q9⟩ => ?_) (fun _ _ z => z.elim)
        have pinsKeep : ∀ {σ' : St} {H' : Hp} {s' : Shared}, Inv (cxB X (x :: ys) scope P2.objs.size { s2 with heap := P2, toks := s2.toks } H (D :: fp)) ([(D, { cls := .type "list", data := .seq its k })] ++ pinsAt fp s1.heap) σ' H' s' →
            s'.heap.get? D = some { cls := .type "list", data := .seq its k } ∧ (∀ b ∈ D :: fp, H' b = none) ∧ ∀ b ∈ fp, ∀ o, s1.heap.get? b = some o → s'.heap.get? b = some o := fun {σ' H' s'} J => by
          have pd := J.pin (D, { cls := .type "list", data := .seq its k }) (List.mem_append_right _ (List.mem_append_left _ (List.mem_singleton.mpr rfl)))
          refine ⟨pd.1, fun b hb => ?_, fun b hb o e => (J.pin (b, o) (List.mem_append_right _ (List.mem_append_right _ (mem_pinsAt hb e)))).1⟩
          rcases List.mem_cons.mp hb with rfl | hb
          · exact pd.2.1
          · obtain ⟨o, e, _⟩ := T.obj _ _ t6 b hb
            exact (J.pin (b, o) (List.mem_append_right _ (List.mem_append_right _ (mem_pinsAt hb e)))).2.1
        cases b with
        | false =>
          rw [if_neg Bool.false_ne_true] at q9
          obtain ⟨m', hm, w9⟩ := q9
          obtain ⟨p1, p2, p3⟩ := pinsKeep I9
          rw [if_neg Bool.false_ne_true]
          exact ⟨m', hm, i + 1, some x', H7, acc, its, k, I9.pins_of (fun p hp => absurd hp (by simp)), T.keep _ _ _ t6 p3, p2, p1, va, hl4, w9⟩
        | true =>
          rw [if_pos rfl] at q9
          rw [if_pos rfl]
          refine wpAny_mono (he _ _ _ _ _ s3' _ _ _ I9 q9) (fun y s4' ⟨yv, H8, I10, ry, m', hm, w10⟩ => ?_) (fun _ _ z => z.elim)
          obtain ⟨p1, p2, p3⟩ := pinsKeep I10
          have hsize : its.size = acc.length := by rw [va.length]; simp
          have I11 := I10.pins_of (pins' := []) (fun p hp => absurd hp (by simp))
          refine wpAny_list_append_plain ⟨k, p1⟩ (fun h' hpl hsame => ?_) (by rw [hsize]; exact Nat.le_of_lt hacc)
          obtain ⟨k', e'⟩ := hpl
          have neD : ∀ {b : Addr} {o : HO}, H8 b = some o → b ≠ D := fun e z => by rw [z, p2 D hDm] at e; cases e
          refine ⟨m', hm, i + 1, some x', H8, acc ++ [yv], its.push y, k', ?_, ?_, p2, e', ?_, ?_, w10⟩
          · refine I11.step (g' := s4'.gens) (t' := s4'.toks) (d' := s4'.drawn) (ch := [D]) (fun b hb => ?_) (fun b o _ _ hc' e _ => ?_) (fun b o _ _ hc' e _ => ⟨o.slots, ?_⟩) (fun b o hc' e n => n) (fun b o hc' e => ⟨o, ?_⟩) (fun _ _ z => z) (fun _ _ _ z => z) (fun b ps z => ⟨#[], by rw [z]; simp⟩) (fun m hn => hn.sameBut hsame (Ne.symm (exf D hDm).1)) (fun b o e => ?_) I11.bare
            · rw [List.mem_singleton.mp hb]
              exact ⟨.inl hDm, (exf D hDm).1, (exf D hDm).2, fun p hp => absurd (show p ∈ ([] : List (Addr × Obj)) from hp) (by simp)⟩
            · exact (hsame.2 b fun z => hc' (List.mem_singleton.mpr z)).trans e
            · exact (hsame.2 b fun z => hc' (List.mem_singleton.mpr z)).trans e
            · exact (hsame.2 b fun z => hc' (List.mem_singleton.mpr z)).trans e
            · refine (I11.hok b o e).stay (fun c v hc' q => (hsame.2 c ?_).trans q) (fun _ q => q) fun _ _ q => q
              rcases hc' with z | z
              · rw [z]; exact neD e
              · exact neD z
          · refine T.keep _ _ _ t6 fun b hb o e => (hsame.2 b ?_).trans (p3 b hb o e)
            exact Nat.ne_of_lt (hfp b hb)
          · rw [Array.toList_push]
            exact va.append (.cons ry .nil)
          · rw [List.length_append, List.length_singleton]; exact hacc
    · refine ⟨0, none, H, [], #[], _, IB, T.keep _ _ _ h0 (fun b hb o e => keep1 b o (hold b o e)), fun b hb => ?_, keep1 _ _ hgetD, .nil, Nat.zero_le _, w0⟩
      rcases List.mem_cons.mp hb with rfl | hb
      · exact hD
      · exact (hf b hb).1
  exact codeAny_compStart_list start (T.self _ 0 _ _ _ (T.keep _ _ _ h0 (fun b hb o e => keep1 b o (hold b o e))) start)
/-- [elt for x in iter if ..] -/
theorem pe_comp {X : Cx} {elt iter : Expr} {x : Str} {px pos : Pos} {ifs : List Expr} {scope : Scope} {wi : TI} {tt : TT} {te : TE} {ys : List Str} {js : List Nat} (hc : X.calm = true) (hi : PI X (.Name x px) iter wi) (B : BScope X scope x) (nd : (x :: ys).Nodup) (cap : capOk X scope ys js)
    (ht : ∀ C s3 H3 ex, PTs (cxB X (x :: ys) scope C s3 H3 ex) ifs tt) (he : ∀ C s3 H3 ex, PE (cxB X (x :: ys) scope C s3 H3 ex) elt te) (hs : ∀ x, foldedSetIterable iter X.env x = pure x := by intro _; rfl) :
    PE X (.ListComp elt [⟨.Name x px, iter, ifs, 0⟩] scope pos) (tComp js wi tt te) := by
  intro pins s σ H Q I h
  have hcl := closure_of (scope := scope) (env := X.env) fun y hy hf => I.ok.has y.1 (.inl (B.free y hy hf))
  rw [eval_ListComp]
  refine wpAny_comprehension_free (use := none) rfl hs hcl B.kind B.locs (wpAny_mono (hi pins s σ H _ I h) (fun xv s1 h1 => wpAny_mono h1 (fun itv s2 h2 => ?_) fun _ _ e => e) fun _ _ e => e)
  obtain ⟨it, fp, tn, J, H2, e, I2, T, st2, f2, W, w0, turn⟩ := h2
  subst e
  refine comp_run (RR := fun acc C => compPost (model X.prog X.w) X.A X.xe none (EP X pins σ Q) acc C) hc B nd cap ht he I2 T st2 f2 W w0 turn ?_
  intro D C H' s' m' hn hC hCD hCn I' q
  refine ⟨m', hn, fun h' hs' => ⟨.ref D, H', ?_, rfl, q⟩⟩
  have hL : X.env.locals ≠ C := Nat.ne_of_lt (Nat.lt_of_lt_of_le I2.lt hC)
  have neC : ∀ {b : Addr} {o : HO}, H' b = some o → b ≠ C := fun e z => by rw [z, hCn] at e; cases e
  refine I'.step (g' := s'.gens) (t' := s'.toks) (d' := s'.drawn) (ch := [C]) (fun b hb => ?_) (fun b o _ _ hc' e _ => ?_) (fun b o _ _ hc' e _ => ⟨o.slots, ?_⟩) (fun b o hc' e n => n) (fun b o hc' e => ⟨o, ?_⟩) (fun _ _ z => z) (fun _ _ _ z => z) (fun b ps z => ⟨#[], by rw [z]; simp⟩) (fun m hn => hn.sameBut hs' hL) (fun b o e => ?_) I'.bare
  · rw [List.mem_singleton.mp hb]
    refine ⟨.inr (Nat.le_trans I2.sz hC), Ne.symm hL, fun y c e z => ?_, fun p hp z => ?_⟩
    · obtain ⟨v, q⟩ := I2.cell y c e
      have := q.lt
      rw [z] at this
      exact absurd (Nat.lt_of_lt_of_le this hC) (Nat.lt_irrefl _)
    · have := Heap.lt_size (I2.pin p hp).1
      rw [z] at this
      exact absurd (Nat.lt_of_lt_of_le this hC) (Nat.lt_irrefl _)
  · exact (hs'.2 b fun z => hc' (List.mem_singleton.mpr z)).trans e
  · exact (hs'.2 b fun z => hc' (List.mem_singleton.mpr z)).trans e
  · exact (hs'.2 b fun z => hc' (List.mem_singleton.mpr z)).trans e
  · refine (I'.hok b o e).stay (fun c v hc' q => (hs'.2 c ?_).trans q) (fun _ q => q) fun _ _ q => q
    rcases hc' with z | z
    · rw [z]; exact neC e
    · exact neC z
/-- y = [elt for x in iter if ..], y a plain local: the store comes ahead of the block's end -/
theorem ps_setC {X : Cx} {elt iter : Expr} {x y : Str} {px py pos spos : Pos} {ifs : List Expr} {scope : Scope} {wi : TI} {tt : TT} {te : TE} {ys : List Str} {js : List Nat} {i : Nat} (hN : X.N.Nodup) (hi' : X.N[i]? = some y) (hy : X.env.scope.names.lookup y = some .local)
    (hsw : swapsWith (.ListComp elt [⟨.Name x px, iter, ifs, 0⟩] scope pos) (some (.Name y py)) spos.line X.env = pure true) (hc : X.calm = true) (hi : PI X (.Name x px) iter wi) (B : BScope X scope x) (nd : (x :: ys).Nodup) (cap : capOk X scope ys js)
    (ht : ∀ C s3 H3 ex, PTs (cxB X (x :: ys) scope C s3 H3 ex) ifs tt) (he : ∀ C s3 H3 ex, PE (cxB X (x :: ys) scope C s3 H3 ex) elt te) (hs : ∀ x, foldedSetIterable iter X.env x = pure x := by intro _; rfl) :
    PS X (.Assign [.Name y py] (.ListComp elt [⟨.Name x px, iter, ifs, 0⟩] scope pos) spos) (tAsg (tComp js wi tt te) (gName i)) := by
  intro pins s σ H Dn I h
  have hcl := closure_of (scope := scope) (env := X.env) fun y hy hf => I.ok.has y.1 (.inl (B.free y hy hf))
  rw [exec_Assign_Name_used _ _ _ _ hsw]
  refine wpAny_bind (wpAny_standAt (wpAny_bind ?_))
  show wpAny _ X.A (do let _ ← comprehension (.ListComp elt [⟨.Name x px, iter, ifs, 0⟩] scope pos) scope X.env _ (newList []) false (eval iter X.env) (some (assign (.Name y py) X.env))) _ _ s
  refine wpAny_bind (wpAny_mono (wpAny_comprehension_free (use := some (assign (.Name y py) X.env)) (Q := fun _ s' => SP X pins Dn .next s') rfl hs hcl B.kind B.locs
    (wpAny_mono (hi pins s σ H _ I h) (fun xv s1 h1 => wpAny_mono h1 (fun itv s2 h2 => ?_) fun _ _ e => e) fun _ _ e => e)) (fun _ s' hq => wpAny_pure (wpAny_pure hq)) fun _ _ e => e)
  obtain ⟨it, fp, tn, J, H2, e, I2, T, st2, f2, W, w0, turn⟩ := h2
  subst e
  refine comp_run (Q := fun x H1 => gName i x σ H1 Dn.nx) (RR := fun acc C => compPost (model X.prog X.w) X.A X.xe (some (assign (.Name y py) X.env)) (fun _ s' => SP X pins Dn .next s') acc C) hc B nd cap ht he I2 T st2 f2 W w0 turn ?_
  intro D C H' s' m' hn hC hCD hCn I' q
  have hL : X.env.locals ≠ C := Nat.ne_of_lt (Nat.lt_of_lt_of_le I2.lt hC)
  have hCfs : C ∉ X.fs := I2.nofs hC
  obtain ⟨oC, esC, epC, hoC, hdC, restC⟩ := id hn
  have I'' : Inv X (pins ++ [(C, oC)]) σ H' s' := I'.pins_of fun p hp => by
    rcases List.mem_append.mp hp with z | z
    · exact I'.pin p (List.mem_append_right _ z)
    · rw [List.mem_singleton.mp z]
      exact ⟨hoC, hCn, Ne.symm hL, hCfs, fun v z => by rw [hdC] at z; cases z⟩
  show wpAny _ X.A (assign (.Name y py) X.env (.ref D)) _ _ _
  refine wpAny_mono (pg_name (pos := py) hN hi' (.inl hy) (.inr hy) _ s' σ H' (.ref D) (.ref D) Dn.nx I'' rfl q) (fun _ s3 ⟨σ3, H3, I3, q3⟩ => ?_) fun _ _ e => e
  have pC := I3.pin (C, oC) (List.mem_append_right _ (List.mem_append_right _ (List.mem_singleton.mpr rfl)))
  have hn3 : s3.heap.Ns C m' := ⟨oC, esC, epC, pC.1, hdC, restC⟩
  have hCn3 : H3 C = none := pC.2.1
  refine ⟨m', hn3, fun h' hs' => ⟨σ3, H3, ?_, q3⟩⟩
  have I4 := I3.unpinned
  have neC : ∀ {b : Addr} {o : HO}, H3 b = some o → b ≠ C := fun e z => by rw [z, hCn3] at e; cases e
  refine I4.step (g' := s3.gens) (t' := s3.toks) (d' := s3.drawn) (ch := [C]) (fun b hb => ?_) (fun b o _ _ hc' e _ => ?_) (fun b o _ _ hc' e _ => ⟨o.slots, ?_⟩) (fun b o hc' e n => n) (fun b o hc' e => ⟨o, ?_⟩) (fun _ _ z => z) (fun _ _ _ z => z) (fun b ps z => ⟨#[], by rw [z]; simp⟩) (fun m hn => hn.sameBut hs' hL) (fun b o e => ?_) I4.bare
  · rw [List.mem_singleton.mp hb]
    refine ⟨.inr (Nat.le_trans I2.sz hC), Ne.symm hL, fun y c e z => ?_, fun p hp z => ?_⟩
    · obtain ⟨v, q⟩ := I2.cell y c e
      have := q.lt
      rw [z] at this
      exact absurd (Nat.lt_of_lt_of_le this hC) (Nat.lt_irrefl _)
    · have := Heap.lt_size (I2.pin p hp).1
      rw [z] at this
      exact absurd (Nat.lt_of_lt_of_le this hC) (Nat.lt_irrefl _)
  · exact (hs'.2 b fun z => hc' (List.mem_singleton.mpr z)).trans e
  · exact (hs'.2 b fun z => hc' (List.mem_singleton.mpr z)).trans e
  · exact (hs'.2 b fun z => hc' (List.mem_singleton.mpr z)).trans e
  · refine (I4.hok b o e).stay (fun c v hc' q => (hs'.2 c ?_).trans q) (fun _ q => q) fun _ _ q => q
    rcases hc' with z | z
    · rw [z]; exact neC e
    · exact neC z
end L2

end
section
set_option Elab.async false
set_option linter.all false
set_option maxRecDepth 100000
set_option maxHeartbeats 1000000
namespace L2
open PySem PySem.Spec PyProof.Rows
/-! ### a text's signs -/
def Its (x : Str) : It := ⟨fun i _ => i < x.length, fun i H v H' => H' = H ∧ ∃ c, x.cps[i]? = some c ∧ v = .str ⟨#[c]⟩, fun i _ => x.length ≤ i⟩
theorem turn_str {P : Program} {w : World} {K : PySem.W.Frag} {y : Str} {py : Pos} {x : Str} {it : Addr} {St : Nat → Heap → Prop} (W : ∀ A' : Around, A'.handled = none → Walks P w A' it [it] [it] x.cps.size (SignAt x) St)
    (ob : ∀ i h, St i h → ∃ o, h.get? it = some o ∧ ∀ v, o.data ≠ .cell v) (hs : ∀ (A : Around) i (s : Shared) (Q : Value → Shared → Prop) (E : Value → Shared → Prop), St i s.heap → Q (.ref it) s → wpAny (model P w) A (pyIter (.ref it)) Q E s) :
    Turn P w K (.Name y py) (Its x) [it] it (fun i h => i ≤ x.cps.size ∧ St i h) where
  mem := by simp
  obj := fun i h st b hb => by
    have e : b = it := by simpa using hb
    subst e
    exact ob i h st.2
  keep := fun i h h' st k => ⟨st.1, (W { depth := 0, frames := none, guards := none, units := 0, handled := none } rfl).frame i h h' st.2 fun b hb o e => k b hb o e⟩
  item := by
    intro X hP hw hK hc i pins s σ H E I hf st hg
    subst hP hw hK
    obtain ⟨f0, f1, f2, f3, f4, f5⟩ := hf it (by simp)
    refine (W X.A (I.ok.hd hc)).item i s _ _ hg st.2 fun v h' tk hv st' kk => ?_
    obtain ⟨c, t, hcps, rfl⟩ := hv
    have I1 : Inv X pins σ H { s with heap := h', toks := tk } := I.turned (fun b o hb e => kk b o (by simpa using hb) e) f0 f1 f3 f4 f5
    exact ⟨_, rfl, wpAny_pure (show _ from ⟨.str ⟨#[c]⟩, H, I1, ⟨t, rfl⟩, ⟨rfl, c, hcps, rfl⟩, ⟨hg, st'⟩, fun b hb => (hf b hb).1⟩)⟩
  done := by
    intro X hP hw hK hc i pins s σ H E I hf st hg
    subst hP hw hK
    obtain ⟨f0, f1, f2, f3, f4, f5⟩ := hf it (by simp)
    have e : i = x.cps.size := Nat.le_antisymm st.1 hg
    subst e
    exact (W X.A (I.ok.hd hc)).done s _ _ st.2 fun h' tk kk => ⟨rfl, I.turned (fun b o hb e => kk b o (by simpa using hb) e) f0 f1 f3 f4 f5⟩
  self := fun A i s Q E st h => hs A i s Q E st.2 h
def iStr (tl : TE) : TI := fun σ H R => tl σ H fun x H1 => ∃ z, x = .str z ∧ R (Its z) H1
theorem pi_str {X : Cx} {y : Str} {py : Pos} {l : Expr} {tl : TE} (hl : PE X l tl) : PI X (.Name y py) l (iStr tl) := by
  intro pins s σ H R I h
  refine thn (hl pins s σ H _ I h) fun v s1 ⟨x, H1, I1, r1, q1⟩ => ?_
  obtain ⟨z, e, q⟩ := q1
  subst e
  obtain ⟨t, rfl⟩ := r1
  have hn : H1 s1.heap.objs.size = none := I1.hok.fresh (Nat.le_refl _)
  have key : ∀ (T : String) (sz : T = "str_ascii_iterator" ∨ T = "str_iterator"), PIE X pins σ (.Name y py) R (.ref s1.heap.objs.size) { s1 with heap := s1.heap.push { cls := .type T, data := .fields #[.str z t, .int 0 0] } } := fun T sz => by
    have I2 : Inv X pins σ H1 { s1 with heap := s1.heap.push { cls := .type T, data := .fields #[.str z t, .int 0 0] }, toks := s1.toks } := I1.kept fun b o e => Heap.get?_push_of_some _ e
    have st0 : (s1.heap.push { cls := .type T, data := .fields #[.str z t, .int 0 0] }).IsStrIter s1.heap.objs.size T z t 0 := ⟨_, Heap.get?_push_size _ rfl, rfl, rfl⟩
    refine ⟨s1.heap.objs.size, [s1.heap.objs.size], fun i h => i ≤ z.cps.size ∧ h.IsStrIter s1.heap.objs.size T z t i, Its z, H1, rfl, I2, ?_, ⟨Nat.zero_le _, st0⟩, fun b hb => ?_, q⟩
    · refine turn_str (fun A' hA => ?_) (fun i h st => ?_) fun A i s Q E st hq => ?_
      · rcases sz with rfl | rfl
        · exact Walks.strAscii hA _ z t
        · exact Walks.strWide hA _ z t
      · obtain ⟨o, e, c, d⟩ := st
        exact ⟨o, e, fun v z => by rw [d] at z; cases z⟩
      · rcases sz with rfl | rfl
        · exact wpAny_pyIter_striter_ascii st hq
        · exact wpAny_pyIter_striter_wide st hq
    · rw [List.mem_singleton.mp hb]
      exact I1.fpOk (Nat.le_refl _) hn
  cases ha : z.cps.all (· < 128)
  · exact wpAny_pyIter_wide ha (key _ (.inr rfl))
  · exact wpAny_pyIter_ascii ha (key _ (.inl rfl))
/-! ### x <= y of texts -/
section
variable {X : Cx}
theorem op_le_str : OpR X (compareOp .LtE) (fun x y H Q => ∃ i j, x = .str i ∧ y = .str j ∧ Q (.bl (!(decide (j.cps.toList < i.cps.toList)))) H) := by
  intro pins s σ H x y v u Q I rx ry h
  obtain ⟨i, j, rfl, rfl, q⟩ := h
  obtain ⟨t, rfl⟩ := rx
  obtain ⟨t', rfl⟩ := ry
  exact P.le_str ⟨.bl _, H, I, rfl, q⟩
theorem OpR.or' {f : Value → Value → Sem Value} {r r' : R2} (h : OpR X f r) (h' : OpR X f r') : OpR X f (fun x y H Q => r x y H Q ∨ r' x y H Q) := by
  intro pins s σ H x y v u Q I rx ry q
  rcases q with q | q
  · exact h pins s σ H x y v u Q I rx ry q
  · exact h' pins s σ H x y v u Q I rx ry q
/-- // by a positive divisor below 2^9000 -/
theorem op_fdivB : OpR X (binaryOp .FloorDiv) (rI (fun _ j => 0 < j ∧ j.natAbs.log2 < 9000) fun i j => .int (i / j)) := opI fun i j _ _ _ _ _ hc q => by
  have h1 : (0 : Int) < j := hc.1
  exact floordiv_int (by omega) (by rw [Int.fdiv_eq_ediv_of_nonneg i (by omega)]; exact q) (.inl (PyProof.noPylong_of_log2 hc.2))
/-- isinstance(x, T), T a built-in type -/
theorem call_isinst : CallR X (.builtin "isinstance") (fun xs H Q => ∃ x t T b, xs = [x, .ty T] ∧ TyOf X.K H x t ∧ PySem.W.kitOne X.K t (.type T) = some b ∧ Q (.bl b) H) := by
  intro pins s σ H xs us Q I r h
  obtain ⟨x, t, T, b, rfl, ty, e, q⟩ := h
  obtain ⟨u, w', rfl, r1, r2⟩ := vals2 r
  cases (show w' = Value.type T from r2)
  exact isinst_ok I r1 ty e fun tk => ⟨.bl b, H, I.tok _, rfl, q⟩
/-- all(xs) of a list of truths -/
theorem call_allB (hc : X.calm = true) : CallR X (.builtin "all") (fun xs H Q => ∃ (a : Addr) (bs : List Bool), xs = [.ref a] ∧ SqL X.K H a (bs.map V.bl) ∧ Q (.bl (bs.all id)) H) := by
  intro pins s σ H xs us Q I r h
  obtain ⟨a, bs, rfl, hq, q⟩ := h
  obtain ⟨u, rfl, r1⟩ := vals1 r
  cases (show u = Value.ref a from r1)
  obtain ⟨its, rv, p, hz⟩ := I.list hq
  have ha : a < s.heap.objs.size := by
    obtain ⟨o, e, _⟩ := p.isList
    exact Heap.lt_size e
  refine call_all_walk (wpAny_pyIter_list p.isList ?_)
  refine ⟨s.heap.objs.size, _, _, _, _, _, fun i => (bs[i]?).getD true, rfl, Walks.list (show X.A.in1.handled = none from I.ok.hd hc) s.heap.objs.size a (Nat.ne_of_lt ha) its.toArray, ⟨⟨_, Heap.get?_push_size _ rfl, rfl, rfl⟩, p.isList.push _⟩, ?_, ?_⟩
  · intro i v s' Q' E' hv hQ
    have hv' : its[i]? = some v := by simpa using hv
    have hi : i < its.length := (List.getElem?_eq_some_iff.mp hv').1
    have hb : i < bs.length := by have := rv.length; rw [List.length_map] at this; omega
    obtain ⟨u, hu, ru⟩ := rv.get (i := i) (x := .bl bs[i]) (by rw [List.getElem?_map, List.getElem?_eq_getElem hb]; rfl)
    rw [hv'] at hu
    cases hu
    cases (show v = Value.bool bs[i] from ru)
    dsimp only at hQ
    rw [List.getElem?_eq_getElem hb] at hQ
    exact wpAny_truthy_bool hQ
  · intro h' tk kk
    have e : (List.range its.toArray.size).all (fun i => (bs[i]?).getD true) = bs.all id := by
      have hl : its.toArray.size = bs.length := by rw [List.size_toArray, ← rv.length, List.length_map]
      rw [hl, Bool.eq_iff_iff, List.all_eq_true, List.all_eq_true]
      constructor
      · intro h b hb
        obtain ⟨i, hi, e⟩ := List.mem_iff_getElem.mp hb
        have := h i (List.mem_range.mpr hi)
        rw [List.getElem?_eq_getElem hi, e] at this
        exact this
      · intro h i hi
        rw [List.getElem?_eq_getElem (List.mem_range.mp hi)]
        exact h _ (List.getElem_mem _)
    rw [e]
    have I1 : Inv X pins σ H { s with heap := s.heap.push { cls := .type "list_iterator", data := .fields #[.ref a, rawInt 0] }, toks := s.toks } := I.kept fun b o e => Heap.get?_push_of_some _ e
    have hn : H s.heap.objs.size = none := I.hok.fresh (Nat.le_refl _)
    have I2 : Inv X pins σ H { s with heap := h', toks := tk } := I.kept fun b o e => kk b o (by
      intro z
      have := List.mem_singleton.mp z
      rw [this] at e
      exact absurd (Heap.lt_size e) (Nat.lt_irrefl _)) (Heap.get?_push_of_some _ e)
    exact ⟨.bl _, H, I2, rfl, q⟩
/-- t[lo:hi] of a text -/
def cutS (x : Str) (lo hi : Option Int) : Str := ⟨((x.cps.toList.drop (HT.sIx x.length 0 lo)).take (HT.sIx x.length x.length hi - HT.sIx x.length 0 lo)).toArray⟩
theorem strIx (lo hi : Option Int) (n : Nat) : Builtin.Str.strSliceIndices lo hi 1 n = (List.range (HT.sIx n n hi - HT.sIx n 0 lo)).map (HT.sIx n 0 lo + ·) := by
  rw [← sliceRange_one]
  unfold Builtin.Str.strSliceIndices
  dsimp only
  have h1 : (1 : Int) > 0 := by decide
  have e0 : (match lo with | none => (if (1 : Int) > 0 then 0 else (n : Int) - 1) | some i => if (1 : Int) > 0 then max 0 (min (if i < 0 then i + (n : Int) else i) (n : Int)) else max (-1) (min (if i < 0 then i + (n : Int) else i) ((n : Int) - 1))) = ((HT.sIx n 0 lo : Nat) : Int) := by
    cases lo with
    | none => simp [HT.sIx]
    | some i =>
      simp only [HT.sIx, h1, if_true]
      by_cases h : i < 0
      · simp only [h, if_true] <;> omega
      · simp only [h, if_false] <;> omega
  have e1 : (match hi with | none => (if (1 : Int) > 0 then (n : Int) else -1) | some i => if (1 : Int) > 0 then max 0 (min (if i < 0 then i + (n : Int) else i) (n : Int)) else max (-1) (min (if i < 0 then i + (n : Int) else i) ((n : Int) - 1))) = ((HT.sIx n n hi : Nat) : Int) := by
    cases hi with
    | none => simp [HT.sIx]
    | some i =>
      simp only [HT.sIx, h1, if_true]
      by_cases h : i < 0
      · simp only [h, if_true] <;> omega
      · simp only [h, if_false] <;> omega
  rw [← e0, ← e1]
  cases lo <;> cases hi <;> rfl
theorem sIx_le (n : Nat) (v : Option Int) : HT.sIx n n v ≤ n ∧ HT.sIx n 0 v ≤ n := by
  cases v with
  | none => simp [HT.sIx]
  | some i =>
    simp only [HT.sIx]
    split <;> omega
def rSlS : V → Option Int → Option Int → Hp → VK → Prop := fun x lo hi H Q => ∃ z, x = .str z ∧ z.length ≤ sizeLine ∧ Q (.str (cutS z lo hi)) H
theorem cutS_length (x : Str) (lo hi : Option Int) : (cutS x lo hi).length ≤ x.length := by
  have e : x.cps.toList.length = x.length := by simp [Str.length]
  show (((x.cps.toList.drop _).take _).toArray).size ≤ x.length
  rw [List.size_toArray, List.length_take, List.length_drop, e]
  omega
theorem sl_str : SlR X rSlS := by
  intro pins s σ H x v vl vu lo hi sl Q I rx hs pl pu h
  obtain ⟨z, rfl, hz, q⟩ := h
  obtain ⟨t, rfl⟩ := rx
  refine ⟨"str", _, F.slot_str_getitem.lookup, typeIs_str _ _ _, ?_⟩
  obtain ⟨l, el, el'⟩ : ∃ l : Option (Int × Tok), l.map (·.1) = lo ∧ vl = partValue l := by
    cases pl with
    | none => exact ⟨none, rfl, rfl⟩
    | int i t => exact ⟨some (i, t), rfl, rfl⟩
  obtain ⟨u, eu, eu'⟩ : ∃ l : Option (Int × Tok), l.map (·.1) = hi ∧ vu = partValue l := by
    cases pu with
    | none => exact ⟨none, rfl, rfl⟩
    | int i t => exact ⟨some (i, t), rfl, rfl⟩
  subst el' eu'
  obtain ⟨o, h1, h2, h3⟩ := hs
  refine wpAny_getItem_str_slice (l := l) (u := u) (st := none) ⟨o, h1, h2, h3⟩ rfl ?_
  have pk : slicePicked z l u none = (List.range (HT.sIx z.length z.length hi - HT.sIx z.length 0 lo)).map (HT.sIx z.length 0 lo + ·) := by
    rw [← strIx, ← el, ← eu]
    rfl
  have ez : z.cps.toList.length = z.length := by simp [Str.length]
  have cut : (⟨((slicePicked z l u none).filterMap (z.cps[·]?)).toArray⟩ : Str) = cutS z lo hi := by
    rw [pk, pick_run]
    rfl
  unfold sliceMade
  split
  · rename_i hc
    have hl : (slicePicked z l u none).length = z.length := by
      have := (Bool.and_eq_true_iff.mp hc).2
      simpa using this
    rw [pk, List.length_map, List.length_range] at hl
    have b1 := sIx_le z.length hi
    have b2 := sIx_le z.length lo
    have h0 : HT.sIx z.length 0 lo = 0 ∨ z.length = 0 := by omega
    have e : cutS z lo hi = z := by
      unfold cutS
      rcases h0 with h0 | h0
      · rw [h0, List.drop_zero, List.take_of_length_le (by omega)]
      · have hn : z.cps.toList = [] := List.eq_nil_of_length_eq_zero (by omega)
        rw [hn]
        have : z.cps = #[] := by
          have := congrArg List.toArray hn
          simpa using this
        obtain ⟨c⟩ := z
        simp only at this
        subst this
        simp
    rw [e] at q
    exact ⟨.str z, H, I, ⟨t, rfl⟩, q⟩
  · rw [cut]
    exact ⟨Nat.le_trans (cutS_length _ _ _) hz, ⟨.str _, H, I.tok _, ⟨_, rfl⟩, q⟩⟩
end
/-! ### pure data in the abstract heap; p: an address that it does not lean on -/
mutual
def Dn (p : Addr) (H : Hp) : PyData → V → Prop
  | .none, v => v = .non
  | .bool b, v => v = .bl b
  | .int i, v => v = .int i
  | .str x, v => v = .str x
  | .list ds, v => ∃ a xs, v = .ref a ∧ a ≠ p ∧ H a = some (.lst xs) ∧ DnL p H ds xs
  | .tuple ds, v => ∃ a xs, v = .ref a ∧ a ≠ p ∧ H a = some (.tup xs) ∧ DnL p H ds xs
  | .dict kvs, v => kvs = [] ∧ ∃ a, v = .ref a ∧ a ≠ p ∧ H a = some (.dK [])
def DnL (p : Addr) (H : Hp) : List PyData → List V → Prop
  | [], vs => vs = []
  | d :: ds, vs => ∃ v r, vs = v :: r ∧ Dn p H d v ∧ DnL p H ds r
end
/-- all but what stands at p is as it was -/
def Keep (p : Addr) (H H' : Hp) : Prop := ∀ b o, b ≠ p → H b = some o → H' b = some o
theorem Keep.refl (p : Addr) (H : Hp) : Keep p H H := fun _ _ _ h => h
theorem Keep.trans {p : Addr} {H H1 H2 : Hp} (a : Keep p H H1) (b : Keep p H1 H2) : Keep p H H2 := fun c o n h => b c o n (a c o n h)
theorem Same.keep {p : Addr} {H H' : Hp} (a : Same H H') : Keep p H H' := fun c o _ h => a c o h
theorem Keep.new {p : Addr} {H : Hp} {a : Addr} (o : HO) (h : H a = none) : Keep p H (upd H a o) := fun b u _ q => by rw [upd_ne (ne_of_none q h)]; exact q
theorem Same.new {H : Hp} {a : Addr} (o : HO) (h : H a = none) : Same H (upd H a o) := fun b u q => by rw [upd_ne (ne_of_none q h)]; exact q
theorem Keep.put {p : Addr} {H : Hp} (o : HO) : Keep p H (upd H p o) := fun b u n q => by rw [upd_ne n]; exact q
mutual
theorem Dn.keep {p : Addr} {H H' : Hp} (k : Keep p H H') : ∀ {d : PyData} {v : V}, Dn p H d v → Dn p H' d v
  | .none, v, h => h
  | .bool b, v, h => h
  | .int i, v, h => h
  | .str x, v, h => h
  | .list ds, v, h => by
    obtain ⟨a, xs, e, n, q, r⟩ := h
    exact ⟨a, xs, e, n, k _ _ n q, DnL.keep k r⟩
  | .tuple ds, v, h => by
    obtain ⟨a, xs, e, n, q, r⟩ := h
    exact ⟨a, xs, e, n, k _ _ n q, DnL.keep k r⟩
  | .dict kvs, v, h => by
    obtain ⟨e0, a, e, n, q⟩ := h
    exact ⟨e0, a, e, n, k _ _ n q⟩
theorem DnL.keep {p : Addr} {H H' : Hp} (k : Keep p H H') : ∀ {ds : List PyData} {vs : List V}, DnL p H ds vs → DnL p H' ds vs
  | [], vs, h => h
  | d :: ds, vs, h => by
    obtain ⟨v, r, e, h1, h2⟩ := h
    exact ⟨v, r, e, Dn.keep k h1, DnL.keep k h2⟩
end
theorem Dn.same {p : Addr} {H H' : Hp} (k : Same H H') {d : PyData} {v : V} (h : Dn p H d v) : Dn p H' d v := h.keep k.keep
theorem DnL.len {p : Addr} {H : Hp} : ∀ {ds : List PyData} {vs : List V}, DnL p H ds vs → vs.length = ds.length
  | [], vs, h => by rw [show vs = [] from h]; rfl
  | d :: ds, vs, h => by
    obtain ⟨v, r, e, h1, h2⟩ := h
    rw [e, List.length_cons, List.length_cons, DnL.len h2]
theorem DnL.get {p : Addr} {H : Hp} : ∀ {ds : List PyData} {vs : List V} {i : Nat} {d : PyData}, DnL p H ds vs → ds[i]? = some d → ∃ v, vs[i]? = some v ∧ Dn p H d v
  | [], vs, _, _, h, e => by simp at e
  | d :: ds, vs, 0, d', h, e => by
    obtain ⟨v, r, e1, h1, h2⟩ := h
    simp at e; subst e; subst e1
    exact ⟨v, rfl, h1⟩
  | d :: ds, vs, i + 1, d', h, e => by
    obtain ⟨v, r, e1, h1, h2⟩ := h
    subst e1
    obtain ⟨w, q1, q2⟩ := DnL.get (i := i) h2 (by simpa using e)
    exact ⟨w, by simpa using q1, q2⟩
mutual
theorem Dn.reads {P : Program} {w : World} {p : Addr} {H : Hp} {h : Heap} (x : HOk P w H h) : ∀ {d : PyData} {v : V} {u : Value}, Dn p H d v → RelV v u → ∃ as, Reads h u d as ∧ (∀ kvs, d = .dict kvs → sysModules ∉ as)
  | .none, v, u, hd, r => by
    have e : v = .non := hd
    subst e
    cases (show u = Value.none from r)
    exact ⟨_, .none, fun _ z => nomatch z⟩
  | .bool b, v, u, hd, r => by
    have e : v = .bl b := hd
    subst e
    cases (show u = Value.bool b from r)
    exact ⟨_, .bool b, fun _ z => nomatch z⟩
  | .int i, v, u, hd, r => by
    have e : v = .int i := hd
    subst e
    obtain ⟨t, e⟩ := (show ∃ t, u = Value.int i t from r)
    subst e
    exact ⟨_, .int i t, fun _ z => nomatch z⟩
  | .str y, v, u, hd, r => by
    have e : v = .str y := hd
    subst e
    obtain ⟨t, e⟩ := (show ∃ t, u = Value.str y t from r)
    subst e
    exact ⟨_, .str y t, fun _ z => nomatch z⟩
  | .list ds, v, u, hd, r => by
    obtain ⟨a, xs, e, n, q, rs⟩ := hd
    subst e
    cases (show u = Value.ref a from r)
    obtain ⟨_, its, k, rv, e⟩ := (show ObjOk P w H h a (.lst xs) from x a _ q)
    obtain ⟨as, ra⟩ := DnL.reads x rs rv
    exact ⟨_, .list e rfl rfl (by simpa using ra), fun _ z => nomatch z⟩
  | .tuple ds, v, u, hd, r => by
    obtain ⟨a, xs, e, n, q, rs⟩ := hd
    subst e
    cases (show u = Value.ref a from r)
    obtain ⟨_, its, rv, o, e, c, k, dd⟩ := (show ObjOk P w H h a (.tup xs) from x a _ q)
    obtain ⟨as, ra⟩ := DnL.reads x rs rv
    exact ⟨_, .tuple e c dd (by simpa using ra), fun _ z => nomatch z⟩
  | .dict kvs, v, u, hd, r => by
    obtain ⟨e0, a, e, n, q⟩ := hd
    subst e0 e
    cases (show u = Value.ref a from r)
    obtain ⟨_, ne, vs, kv, o, es, ep, h1, h2, h3⟩ := (show ObjOk P w H h a (.dK []) from x a _ q)
    have ev : vs = [] := by
      have kv' : Paired (fun (p : Key × V) (q : Key × Value) => p.1 = q.1 ∧ RelV p.2 q.2) [] vs := kv
      cases kv'
      rfl
    subst ev
    obtain ⟨h4, h5, h6, h7⟩ := h3
    have e1 : es.toList = [] := by
      cases hh : es.toList with
      | nil => rfl
      | cons a r =>
        rw [hh] at h6
        first | cases h6 | exact absurd h6 (by simp [Pairs])
    refine ⟨_, .dict (kvs := []) h1 h2.1 h4 (by rw [e1]; exact .nil) (by rw [e1]; exact .nil), fun _ _ z => ?_⟩
    have : sysModules = a := by simpa using z
    rw [this] at ne
    simp at ne
theorem DnL.reads {P : Program} {w : World} {p : Addr} {H : Hp} {h : Heap} (x : HOk P w H h) : ∀ {ds : List PyData} {vs : List V} {us : List Value}, DnL p H ds vs → Vals vs us → ∃ as, ReadsAll h us ds as
  | [], vs, us, hd, r => by
    have e : vs = [] := hd
    subst e
    cases r
    exact ⟨_, .nil⟩
  | d :: ds, vs, us, hd, r => by
    obtain ⟨v, rr, e, h1, h2⟩ := hd
    subst e
    cases r with
    | cons r1 r2 =>
      obtain ⟨as, q1, _⟩ := Dn.reads x h1 r1
      obtain ⟨bs, q2⟩ := DnL.reads x h2 r2
      exact ⟨_, .cons q1 q2⟩
end
section
variable {X : Cx}
/-- == and != of data -/
theorem op_eqD (hu : X.A.units + 64 < cLine) : OpR X (compareOp .Eq) (fun x y H Q => ∃ p q d e, Dn p H d x ∧ Dn q H e y ∧ SeqAt.shaped d = true ∧ SeqAt.shaped e = true ∧ Q (.bl (PyData.eqv d e)) H) := by
  intro pins s σ H x y v u Q I rx ry h
  obtain ⟨p, q, d, e, h1, h2, s1, s2, hq⟩ := h
  obtain ⟨as, r1, _⟩ := Dn.reads I.hok h1 rx
  obtain ⟨bs, r2, _⟩ := Dn.reads I.hok h2 ry
  exact SeqAt.compareEq_shaped r1 r2 s1 s2 hu ⟨.bl _, H, I, rfl, hq⟩
theorem op_neD (hu : X.A.units + 64 < cLine) : OpR X (compareOp .NotEq) (fun x y H Q => ∃ p q d e, Dn p H d x ∧ Dn q H e y ∧ SeqAt.shaped d = true ∧ SeqAt.shaped e = true ∧ Q (.bl (!PyData.eqv d e)) H) := by
  intro pins s σ H x y v u Q I rx ry h
  obtain ⟨p, q, d, e, h1, h2, s1, s2, hq⟩ := h
  obtain ⟨as, r1, _⟩ := Dn.reads I.hok h1 rx
  obtain ⟨bs, r2, _⟩ := Dn.reads I.hok h2 ry
  exact SeqAt.compareNe_shaped r1 r2 s1 s2 hu ⟨.bl _, H, I, rfl, hq⟩
/-- repr of data -/
theorem call_repr (hg : X.A.guards = some []) (hu : X.A.units + 64 < cLine) : CallR X (.builtin "repr") (fun xs H Q => ∃ p d v, xs = [v] ∧ Dn p H d v ∧ d.showable = true ∧ (d.hasDict = true → ∃ kvs, d = .dict kvs) ∧ d.depth ≤ 60 ∧ d.shown.length ≤ sizeLine ∧ Q (.str d.shown) H) := by
  intro pins s σ H xs us Q I r h
  obtain ⟨p, d, v, rfl, hd, h1, h2, h3, h4, q⟩ := h
  obtain ⟨u, rfl, ru⟩ := vals1 r
  obtain ⟨as, rd, ns⟩ := Dn.reads I.hok hd ru
  have fin : ∀ h' tk t, (∀ b o, s.heap.get? b = some o → h'.get? b = some o) → EP X pins σ Q (.str d.shown t) { s with heap := h', toks := tk } := fun h' tk t k => ⟨.str _, H, I.kept k, ⟨t, rfl⟩, q⟩
  cases rd with
  | none => exact P.repr_of_none (fin _ _ _ fun _ _ e => e)
  | bool b => exact P.repr_of_bool (fin _ _ _ fun _ _ e => e)
  | int i t => exact P.repr_of_int (by simpa [PyData.showable] using h1) (fin _ _ _ fun _ _ e => e)
  | str y t => exact P.repr_of_str (fin _ _ _ fun _ _ e => e) h4
  | list e c dd ra => exact repr_of_reads' (.list e c dd ra) h1 (fun z => by obtain ⟨k, z⟩ := h2 z; cases z) hg (by omega) (fun _ _ e => e) (fun h' u tk k => fin h' tk u k) h4
  | tuple e c dd ra => exact repr_of_reads' (.tuple e c dd ra) h1 (fun z => by obtain ⟨k, z⟩ := h2 z; cases z) hg (by omega) (fun _ _ e => e) (fun h' u tk k => fin h' tk u k) h4
  | dict e c dd ra rb => exact repr_of_reads' (.dict e c dd ra rb) h1 (fun z => ns _ rfl) hg (by omega) (fun _ _ e => e) (fun h' u tk k => fin h' tk u k) h4
end
end L2

end
section
set_option Elab.async false
set_option linter.all false
set_option maxRecDepth 100000
set_option maxHeartbeats 1000000
namespace L2
open PySem PySem.Spec PyProof.Rows
section
variable {t u : TS} {D : Ends} {σ : St} {H : Hp} {te ta tb tc : TE} {g : TG} {Q : VK} {c a b : TT} {QB : Bool → Hp → Prop} {i : Nat} {v x y : V} {r r' : R2} {QA : List V → Hp → Prop} {tA tR : TA} {sp : Sp} {dvs : List V} {E : XK}
theorem i_seq (h : t { D with nx := u D } σ H) : tSeq t u D σ H := h
theorem i_next (h : D.nx σ H) : tNext D σ H := h
theorem i_asg (h : te σ H (fun x H1 => g x σ H1 D.nx)) : tAsg te g D σ H := h
theorem i_gname {Q : St → Hp → Prop} (h : Q (σ.set i (some v)) H) : gName i v σ H Q := h
theorem i_ret (h : te σ H D.rt) : tRet te D σ H := h
theorem i_retN (h : D.rt .non H) : tRetN D σ H := h
theorem i_drop (h : te σ H fun _ H1 => D.nx σ H1) : tDrop te D σ H := h
theorem i_ifS (h : c σ H fun b H1 => if b = true then t D σ H1 else u D σ H1) : tIfS c t u D σ H := h
theorem i_C (h : Q v H) : tC v σ H Q := h
theorem i_var (e : σ[i]? = some (some v)) (h : Q v H) : tVar i σ H Q := ⟨v, e, h⟩
theorem i_op (h : ta σ H fun x H1 => tb σ H1 fun y H2 => r x y H2 Q) : tOp r ta tb σ H Q := h
theorem i_un {r : V → Hp → VK → Prop} (h : ta σ H fun x H1 => r x H1 Q) : tUn r ta σ H Q := h
theorem i_test (h : te σ H fun x H' => ∃ k, x = .bl k ∧ QB k H') : tTest te σ H QB := h
theorem i_B (h : te σ H fun x H' => ∃ k, x = .bl k ∧ QB k H') : tB te σ H QB := h
theorem i_and (h : a σ H fun c H1 => if c = true then b σ H1 QB else QB false H1) : tAnd a b σ H QB := h
theorem i_or (h : a σ H fun c H1 => if c = true then QB true H1 else b σ H1 QB) : tOr a b σ H QB := h
theorem i_not (h : a σ H fun c H1 => QB (!c) H1) : tNot a σ H QB := h
theorem i_andV (h : ta σ H fun x H1 => ∃ c, x = .bl c ∧ if c = true then tb σ H1 Q else Q (.bl false) H1) : tAndV ta tb σ H Q := h
theorem i_orV (h : ta σ H fun x H1 => ∃ c, x = .bl c ∧ if c = true then Q (.bl true) H1 else tb σ H1 Q) : tOrV ta tb σ H Q := h
theorem i_notV (h : ta σ H fun x H1 => ∃ c, x = .bl c ∧ Q (.bl (!c)) H1) : tNotV ta σ H Q := h
theorem i_tif (h : c σ H fun b H1 => if b = true then ta σ H1 Q else tb σ H1 Q) : tIf c ta tb σ H Q := h
theorem i_chain (h : ta σ H fun x H1 => tb σ H1 fun y H2 => r x y H2 fun z H3 => ∃ k, z = .bl k ∧ if k = true then tc σ H3 fun z' H4 => r' y z' H4 Q else Q (.bl false) H3) : tChain r r' ta tb tc σ H Q := h
theorem i_nil (h : QA [] H) : tNil σ H QA := h
theorem i_cons (h : ta σ H fun x H1 => tR σ H1 fun xs H2 => QA (x :: xs) H2) : tCons ta tR σ H QA := h
theorem i_tup (h : tA σ H fun xs H1 => xs.length ≤ sizeLine ∧ ∀ p, H1 p = none → Q (.ref p) (upd H1 p (.tup xs))) : tTup tA σ H Q := h
theorem i_lst (h : tA σ H fun xs H1 => xs.length ≤ sizeLine ∧ ∀ p, H1 p = none → Q (.ref p) (upd H1 p (.lst xs))) : tLst tA σ H Q := h
theorem i_call (h : tA σ H fun vs H1 => sp (vs ++ dvs) H1 Q E) : tCall sp dvs E tA σ H Q := h
theorem i_CB {r : List V → Hp → VK → Prop} (h : tA σ H fun vs H1 => r vs H1 Q) : tCB r tA σ H Q := h
theorem i_dget (h : ta σ H fun x H1 => tb σ H1 fun y H2 => ∃ a v, x = .ref a ∧ DGet H2 a y (some v) ∧ Q v H2) : tDGet ta tb σ H Q := h
theorem i_dput (h : tc σ H fun v H1 => ta σ H1 fun x H2 => tb σ H2 fun y H3 => ∃ a H4, x = .ref a ∧ DPut H3 a y v H4 ∧ D.nx σ H4) : sDPut ta tb tc D σ H := h
theorem i_sl {r : V → Option Int → Option Int → Hp → VK → Prop} {tl th : TO} (h : te σ H fun x H1 => tl σ H1 fun l H2 => th σ H2 fun u H3 => r x l u H3 Q) : tSl r te tl th σ H Q := h
theorem i_noPart {QO : Option Int → Hp → Prop} (h : QO none H) : tNoPart σ H QO := h
theorem i_part {QO : Option Int → Hp → Prop} (h : te σ H fun x H1 => ∃ i, x = .int i ∧ QO (some i) H1) : tPart te σ H QO := h
theorem i_iStr {R : It → Hp → Prop} (h : te σ H fun x H1 => ∃ z, x = .str z ∧ R (Its z) H1) : iStr te σ H R := h
theorem i_yes (h : QB true H) : tYes σ H QB := h
end
/-! ### readings by name -/
def rOr (r r' : R2) : R2 := fun x y H Q => r x y H Q ∨ r' x y H Q
def rOrS (r r' : V → Option Int → Option Int → Hp → VK → Prop) : V → Option Int → Option Int → Hp → VK → Prop := fun x l u H Q => r x l u H Q ∨ r' x l u H Q
def rAddS : R2 := fun x y H Q => ∃ i j, x = .str i ∧ y = .str j ∧ i.length + j.length ≤ sizeLine ∧ Q (.str (i ++ j)) H
def rLtS : R2 := fun x y H Q => ∃ i j, x = .str i ∧ y = .str j ∧ Q (.bl (decide (i.cps.toList < j.cps.toList))) H
def rLeS : R2 := fun x y H Q => ∃ i j, x = .str i ∧ y = .str j ∧ Q (.bl (!(decide (j.cps.toList < i.cps.toList)))) H
def rInS : R2 := fun x y H Q => ∃ i j, x = .str i ∧ y = .str j ∧ Q (.bl (!(Builtin.Str.occurrences j i 0 j.length 1).isEmpty)) H
def rNotInS : R2 := fun x y H Q => ∃ i j, x = .str i ∧ y = .str j ∧ Q (.bl (!(!(Builtin.Str.occurrences j i 0 j.length 1).isEmpty))) H
def rEqD : R2 := fun x y H Q => ∃ p q d e, Dn p H d x ∧ Dn q H e y ∧ SeqAt.shaped d = true ∧ SeqAt.shaped e = true ∧ Q (.bl (PyData.eqv d e)) H
def rNeD : R2 := fun x y H Q => ∃ p q d e, Dn p H d x ∧ Dn q H e y ∧ SeqAt.shaped d = true ∧ SeqAt.shaped e = true ∧ Q (.bl (!PyData.eqv d e)) H
def rIsi (K : PySem.W.Frag) : List V → Hp → VK → Prop := fun xs H Q => ∃ x t T b, xs = [x, .ty T] ∧ TyOf K H x t ∧ PySem.W.kitOne K t (.type T) = some b ∧ Q (.bl b) H
def rRepr : List V → Hp → VK → Prop := fun xs H Q => ∃ p d v, xs = [v] ∧ Dn p H d v ∧ d.showable = true ∧ (d.hasDict = true → ∃ kvs, d = .dict kvs) ∧ d.depth ≤ 60 ∧ d.shown.length ≤ sizeLine ∧ Q (.str d.shown) H
def rAll (K : PySem.W.Frag) : List V → Hp → VK → Prop := fun xs H Q => ∃ (a : Addr) (bs : List Bool), xs = [.ref a] ∧ SqL K H a (bs.map V.bl) ∧ Q (.bl (bs.all id)) H
def rLen (K : PySem.W.Frag) : List V → Hp → VK → Prop := fun xs H Q => ∃ x n, xs = [x] ∧ LenV K x H n ∧ Q (.int n) H
def rAbs : List V → Hp → VK → Prop := fun xs H Q => ∃ i, xs = [.int i] ∧ Q (.int (if i < 0 then -i else i)) H
def rInt1 : List V → Hp → VK → Prop := fun xs H Q => (∃ i, xs = [.int i] ∧ Q (.int i) H) ∨ ∃ k, xs = [.bl k] ∧ Q (.int (if k then 1 else 0)) H
section
variable {X : Cx}
theorem orR {f : Value → Value → Sem Value} {r r' : R2} (h : OpR X f r) (h' : OpR X f r') : OpR X f (rOr r r') := OpR.or' h h'
theorem orS {r r' : V → Option Int → Option Int → Hp → VK → Prop} (h : SlR X r) (h' : SlR X r') : SlR X (rOrS r r') := SlR.or h h'
theorem op_addS : OpR X (binaryOp .Add) rAddS := op_add_str
theorem op_ltS : OpR X (compareOp .Lt) rLtS := op_lt_str
theorem op_leS : OpR X (compareOp .LtE) rLeS := op_le_str
theorem op_inS : OpR X (compareOp .In) rInS := op_in_str
theorem op_notInS : OpR X (compareOp .NotIn) rNotInS := op_notIn_str
theorem op_eqDn (hu : X.A.units + 64 < cLine) : OpR X (compareOp .Eq) rEqD := op_eqD hu
theorem op_neDn (hu : X.A.units + 64 < cLine) : OpR X (compareOp .NotEq) rNeD := op_neD hu
theorem call_isi : CallR X (.builtin "isinstance") (rIsi X.K) := call_isinst
theorem call_reprD {k : Nat} (hr : Room k X.A) : CallR X (.builtin "repr") rRepr := call_repr hr.gd hr.units
theorem call_allL (hc : X.calm = true) : CallR X (.builtin "all") (rAll X.K) := call_allB hc
theorem call_lenV : CallR X (.builtin "len") (rLen X.K) := call_len
theorem call_absI : CallR X (.builtin "abs") rAbs := call_abs
theorem call_intV : CallR X (.type "int") rInt1 := call_int1
end
end L2
namespace L2
open PySem
def bscopeOk (sc scope : Scope) (x : Str) : Bool :=
  (scope.kind == .function) && scope.names.all (fun y => y.2 != .cell) && scope.names.all (fun y => y.2 != .local || scope.names.lookup y.1 == some .local) && (scope.names.lookup x == some .local) && scope.names.all (fun y => y.2 != .free || sc.names.lookup y.1 == some .cell)
theorem bsc {X : Cx} {sc scope : Scope} {x : Str} (e : X.env.scope = sc) (h : bscopeOk sc scope x = true) : BScope X scope x := by
  unfold bscopeOk at h
  simp only [Bool.and_eq_true, List.all_eq_true, Bool.or_eq_true, bne_iff_ne, beq_iff_eq, ne_eq] at h
  obtain ⟨⟨⟨⟨h1, h2⟩, h3⟩, h4⟩, h5⟩ := h
  exact ⟨h1, fun y hy => h2 y hy, fun y hy e => (h3 y hy).resolve_left fun z => z e, h4, fun y hy e' => by rw [e]; exact (h5 y hy).resolve_left fun z => z e'⟩
end L2
namespace L2
open PySem
theorem star_cons {e : Expr} {es : List Expr} {env : Env} (h : PySem.W.isStarred e = false) : starEach (e :: es) env = (false, eval e env) :: starEach es env := by
  cases e <;> first | rfl | exact absurd h (by simp [PySem.W.isStarred])
theorem star_none {pos : Pos} {env : Env} : ∀ {es : List Expr}, es.all (fun e => !PySem.W.isStarred e) = true → (backTo pos (starEach es env)).any (·.1) = false
  | [], _ => rfl
  | e :: es, h => by
    rw [List.all_cons, Bool.and_eq_true] at h
    rw [star_cons (by simpa using h.1)]
    have ih := star_none (pos := pos) (env := env) h.2
    unfold backTo at ih ⊢
    rw [List.map_cons, List.any_cons, ih]
    rfl
section
variable {X : Cx} {e : Expr} {es : List Expr} {te : TE} {t : TA} {x : Str} {p pos : Pos} {id T : String} {r : List V → Hp → VK → Prop} {CX : CXT} {k : Nat} {f : Addr} {fd : FuncData} {ps : List Str} {sp : Sp} {ds : List Value} {dvs : List V} {E : XK}
theorem paC (ha : PE X e te) (hr : PA X es t) (h : PySem.W.isStarred e = false := by rfl) : PA X (e :: es) (tCons te t) := pa_cons ha hr (star_cons h)
theorem peCall (F : FnOk X.prog X.w X.K X.mg X.base CX k f fd ps sp) (hr : Room k X.A) (hg : Gl X x) (hm : X.mg x = some (.ref f)) (hk : PySem.W.keepIn X.K (.ref f) = true) (hb : Binds X.K fd ps ds) (hd : Vals dvs ds) (hx : Passes CX X E)
    (ha : PA X (e :: es) t) (h1 : PySem.W.isStarred e = false := by rfl) (h2 : es.all (fun e => !PySem.W.isStarred e) = true := by rfl) (hdb : (x == ("__debug__" : Str)) = false := by decide) : PE X (.Call (.Name x p) (e :: es) [] pos) (tCall sp dvs E t) :=
  pe_call F hr hg hm hk hb hd hx ha hdb (star_cons h1) (star_none h2)
theorem peB (hc : CallR X (.builtin id) r) (hg : Gl X x) (hm : X.mg x = none) (hv : bootBuiltins x = some (.builtin id)) (ha : PA X (e :: es) t) (h1 : PySem.W.isStarred e = false := by rfl) (h2 : es.all (fun e => !PySem.W.isStarred e) = true := by rfl)
    (hn : x ≠ "__name__" := by decide) (hdb : (x == ("__debug__" : Str)) = false := by decide) : PE X (.Call (.Name x p) (e :: es) [] pos) (tCB r t) := pe_callB hc hg hm hv ha hn hdb (star_cons h1) (star_none h2)
theorem peTy (hc : CallR X (.type T) r) (hg : Gl X x) (hm : X.mg x = none) (hv : bootBuiltins x = some (.type T)) (ha : PA X (e :: es) t) (h1 : PySem.W.isStarred e = false := by rfl) (h2 : es.all (fun e => !PySem.W.isStarred e) = true := by rfl)
    (hn : x ≠ "__name__" := by decide) (hdb : (x == ("__debug__" : Str)) = false := by decide) : PE X (.Call (.Name x p) (e :: es) [] pos) (tCB r t) := pe_callTy hc hg hm hv ha hn hdb (star_cons h1) (star_none h2)
theorem piR1 {tg a : Expr} {ta : TA} (hg : Gl X "range") (hm : X.mg "range" = none) (ha : PA X [a] ta) (h : PySem.W.isStarred a = false := by rfl) : PI X tg (.Call (.Name "range" p) [a] [] pos) (iRng1 ta) := pi_range1 hg hm ha (star_cons h)
theorem piR2 {tg a b : Expr} {ta : TA} (hg : Gl X "range") (hm : X.mg "range" = none) (ha : PA X [a, b] ta) (h : PySem.W.isStarred a = false := by rfl) (h2 : PySem.W.isStarred b = false := by rfl) : PI X tg (.Call (.Name "range" p) [a, b] [] pos) (iRng2 ta) :=
  pi_range2 hg hm ha (by rw [star_cons h, star_cons h2]; rfl) (star_cons h2)
end
end L2

end
section
set_option Elab.async false
set_option linter.all false
set_option maxRecDepth 100000
namespace L2
open PySem
/-! ### the rules once more over closed judgements: what is wanted is known ahead of the parts, and nothing of the machine is unfolded -/
structure JE (X : Cx) (e : Expr) (t : TE) : Prop where
  h : PE X e t
structure JT (X : Cx) (e : Expr) (t : TT) : Prop where
  h : PT X e t
structure JW (X : Cx) (e : Expr) (t : TT) : Prop where
  h : PW X e t
structure JA (X : Cx) (es : List Expr) (t : TA) : Prop where
  h : PA X es t
structure JS (X : Cx) (s : Stmt) (t : TS) : Prop where
  h : PS X s t
structure JSs (X : Cx) (s : List Stmt) (t : TS) : Prop where
  h : PSs X s t
structure JG (X : Cx) (e : Expr) (t : TG) : Prop where
  h : PG X e t
structure JI (X : Cx) (tg e : Expr) (t : TI) : Prop where
  h : PI X tg e t
structure JO (X : Cx) (e : Option Expr) (t : TO) : Prop where
  h : PO X e t
structure JC (X : Cx) (N : List Str) (scope : Scope) (e : Expr) (t : TE) : Prop where
  h : ∀ C s3 H3 ex, PE (cxB X N scope C s3 H3 ex) e t
structure JTs (X : Cx) (N : List Str) (scope : Scope) (e : List Expr) (t : TT) : Prop where
  h : ∀ C s3 H3 ex, PTs (cxB X N scope C s3 H3 ex) e t
structure JP (X : Cx) (pos : Pos) (ks : List (Option Expr)) (vs : List Expr) (t : List (TE × TE)) : Prop where
  h : PPs X pos ks vs t
section
variable {X : Cx} {e a b c : Expr} {es rest : List Expr} {te ta tb tc : TE} {tA tB' : TT} {t : TA} {x : Str} {p pos : Pos} {id T : String} {r : List V → Hp → VK → Prop} {CX : CXT} {k : Nat} {f : Addr} {fd : FuncData} {ps : List Str} {sp : Sp} {ds : List Value} {dvs : List V} {E : XK}
theorem eVar (i : Nat) (hN : X.N[i]? = some x) (hv : Vis X.env.scope x) (hd : (x == ("__debug__" : Str)) = false) (hcd : (x == ("__classdict__" : Str)) = false) : JE X (.Name x pos) (tVar i) := ⟨pe_var hN hv hd hcd⟩
theorem eInt {i j} : JE X (.Constant (.int i) j pos) (tC (.int i)) := ⟨pe_int⟩
theorem eBl {b j} : JE X (.Constant (.bool b) j pos) (tC (.bl b)) := ⟨pe_bl⟩
theorem eNon {j} : JE X (.Constant .none j pos) (tC .non) := ⟨pe_non⟩
theorem eStr {x j} : JE X (.Constant (.str x) j pos) (tC (.str x)) := ⟨pe_str⟩
theorem eNil : JA X [] tNil := ⟨pa_nil⟩
theorem eA (ha : JE X e te) (hr : JA X es t) (h : PySem.W.isStarred e = false) : JA X (e :: es) (tCons te t) := ⟨pa_cons ha.h hr.h (star_cons h)⟩
theorem eCall (F : FnOk X.prog X.w X.K X.mg X.base CX k f fd ps sp) (hr : Room k X.A) (hg : Gl X x) (hm : X.mg x = some (.ref f)) (hk : PySem.W.keepIn X.K (.ref f) = true) (hb : Binds X.K fd ps ds) (hd : Vals dvs ds) (hx : Passes CX X E)
    (ha : JA X (e :: es) t) (h1 : PySem.W.isStarred e = false) (h2 : es.all (fun e => !PySem.W.isStarred e) = true) (hdb : (x == ("__debug__" : Str)) = false) : JE X (.Call (.Name x p) (e :: es) [] pos) (tCall sp dvs E t) :=
  ⟨pe_call F hr hg hm hk hb hd hx ha.h hdb (star_cons h1) (star_none h2)⟩
theorem eB (hc : CallR X (.builtin id) r) (hg : Gl X x) (hm : X.mg x = none) (hv : bootBuiltins x = some (.builtin id)) (ha : JA X (e :: es) t) (h1 : PySem.W.isStarred e = false) (h2 : es.all (fun e => !PySem.W.isStarred e) = true)
    (hn : x ≠ "__name__") (hdb : (x == ("__debug__" : Str)) = false) : JE X (.Call (.Name x p) (e :: es) [] pos) (tCB r t) := ⟨pe_callB hc hg hm hv ha.h hn hdb (star_cons h1) (star_none h2)⟩
theorem eTy (hc : CallR X (.type T) r) (hg : Gl X x) (hm : X.mg x = none) (hv : bootBuiltins x = some (.type T)) (ha : JA X (e :: es) t) (h1 : PySem.W.isStarred e = false) (h2 : es.all (fun e => !PySem.W.isStarred e) = true)
    (hn : x ≠ "__name__") (hdb : (x == ("__debug__" : Str)) = false) : JE X (.Call (.Name x p) (e :: es) [] pos) (tCB r t) := ⟨pe_callTy hc hg hm hv ha.h hn hdb (star_cons h1) (star_none h2)⟩
theorem eR1 {tg a : Expr} {ta : TA} (hg : Gl X "range") (hm : X.mg "range" = none) (ha : JA X [a] ta) (h : PySem.W.isStarred a = false) : JI X tg (.Call (.Name "range" p) [a] [] pos) (iRng1 ta) := ⟨pi_range1 hg hm ha.h (star_cons h)⟩
theorem eR2 {tg a b : Expr} {ta : TA} (hg : Gl X "range") (hm : X.mg "range" = none) (ha : JA X [a, b] ta) (h : PySem.W.isStarred a = false) (h2 : PySem.W.isStarred b = false) : JI X tg (.Call (.Name "range" p) [a, b] [] pos) (iRng2 ta) :=
  ⟨pi_range2 hg hm ha.h (by rw [star_cons h, star_cons h2]; rfl) (star_cons h2)⟩
theorem eIL {tg : Expr} (h : JE X e te) : JI X tg e (iList X.K te) := ⟨pi_list h.h⟩
theorem eIT {tg : Expr} (h : JE X e te) : JI X tg e (iTup X.K te) := ⟨pi_tup h.h⟩
theorem eIS {y : Str} {py : Pos} (h : JE X e te) : JI X (.Name y py) e (iStr te) := ⟨pi_str h.h⟩
theorem eGlob {v : V} {u : Value} (hg : Gl X x) (hm : X.mg x = some u) (r : RelV v u) (hd : (x == ("__debug__" : Str)) = false) : JE X (.Name x pos) (tC v) := ⟨pe_glob hg hm r hd⟩
theorem eBlt {v : V} {u : Value} (hg : Gl X x) (hm : X.mg x = none) (hv : bootBuiltins x = some u) (r : RelV v u) (hn : x ≠ "__name__") (hd : (x == ("__debug__" : Str)) = false) : JE X (.Name x pos) (tC v) := ⟨pe_bltn hg hm hv r hn hd⟩
theorem eOp {op : Operator} {r : R2} (ho : OpR X (binaryOp op) r) (ha : JE X a ta) (hb : JE X b tb) : JE X (.BinOp a op b pos) (tOp r ta tb) := ⟨pe_op ho ha.h hb.h⟩
theorem eUn {op : UnaryOp} {r : V → Hp → VK → Prop} (ho : UnR X (unaryOp op) r) (ha : JE X a ta) : JE X (.UnaryOp op a pos) (tUn r ta) := ⟨pe_un ho ha.h⟩
theorem eNot (ha : JE X a ta) : JE X (.UnaryOp .Not a pos) (tNotV ta) := ⟨pe_not ha.h⟩
theorem eOne {op} (h : JE X a te) : JE X (.BoolOp op [a] pos) te := ⟨pe_one h.h⟩
theorem eAnd (ha : JE X a ta) (hb : JE X (.BoolOp .And (b :: rest) pos) tb) : JE X (.BoolOp .And (a :: b :: rest) pos) (tAndV ta tb) := ⟨pe_and ha.h hb.h⟩
theorem eOr (ha : JE X a ta) (hb : JE X (.BoolOp .Or (b :: rest) pos) tb) : JE X (.BoolOp .Or (a :: b :: rest) pos) (tOrV ta tb) := ⟨pe_or ha.h hb.h⟩
theorem eIf (hc : JT X c tA) (ha : JE X a ta) (hb : JE X b tb) : JE X (.IfExp c a b pos) (tIf tA ta tb) := ⟨pe_ifExp hc.h ha.h hb.h⟩
theorem eCmp {op : CmpOp} {r : R2} (ho : OpR X (compareOp op) r) (ha : JE X a ta) (hb : JE X b tb) (hm : behindInMarks op b = false) : JE X (.Compare a [op] [b] pos) (tOp r ta tb) := ⟨pe_cmpR ho ha.h hb.h hm⟩
theorem eCmpT {op : CmpOp} {r : R2} (ho : OpR X (compareOp op) r) (ha : JE X a ta) (hb : JE X b tb) (hm : behindInMarks op b = false) : JT X (.Compare a [op] [b] pos) (tTest (tOp r ta tb)) := ⟨pt_cmpR ho ha.h hb.h hm⟩
theorem eChain {op op' : CmpOp} {r r' : R2} (ho : OpR X (compareOp op) r) (ho' : OpR X (compareOp op') r') (ha : JE X a ta) (hb : JE X b tb) (hc : JE X c tc) (hm : lastMarks [op, op'] [b, c] = false) : JE X (.Compare a [op, op'] [b, c] pos) (tChain r r' ta tb tc) := ⟨pe_chain ho ho' ha.h hb.h hc.h hm⟩
theorem eChainT {op op' : CmpOp} {r r' : R2} (ho : OpR X (compareOp op) r) (ho' : OpR X (compareOp op') r') (ha : JE X a ta) (hb : JE X b tb) (hc : JE X c tc) (hm : lastMarks [op, op'] [b, c] = false) : JT X (.Compare a [op, op'] [b, c] pos) (tTest (tChain r r' ta tb tc)) := ⟨pt_chain ho ho' ha.h hb.h hc.h hm⟩
theorem eVal (h : JE X e te) (he : ∀ whole, isTrue e X.env whole = (do let v ← whole; standAt e.pos; holding [v] (truthy v))) : JT X e (tB te) := ⟨pt_val h.h he⟩
theorem eNotT (ha : JT X a tA) : JT X (.UnaryOp .Not a pos) (tNot tA) := ⟨pt_not ha.h⟩
theorem eAndT1 (ha : JT X a tA) : JW X (.BoolOp .And [a] pos) tA := ⟨pw_and1 ha.h⟩
theorem eOrT1 (ha : JT X a tA) : JW X (.BoolOp .Or [a] pos) tA := ⟨pw_or1 ha.h⟩
theorem eAndT (ha : JT X a tA) (hb : JW X (.BoolOp .And (b :: rest) pos) tB') : JW X (.BoolOp .And (a :: b :: rest) pos) (tAnd tA tB') := ⟨pw_and ha.h hb.h⟩
theorem eOrT (ha : JT X a tA) (hb : JW X (.BoolOp .Or (b :: rest) pos) tB') : JW X (.BoolOp .Or (a :: b :: rest) pos) (tOr tA tB') := ⟨pw_or ha.h hb.h⟩
theorem eW (h : JW X e tA) : JT X e tA := ⟨PW.pt h.h⟩
theorem eTup {x1} (h : JA X es t) : JE X (.Tuple es x1 pos) (tTup t) := ⟨pe_tup h.h⟩
theorem eLst (h : JA X es t) : JE X (.List es pos) (tLst t) := ⟨pe_lst h.h⟩
theorem eIx {r : R2} (hr : IxR X r) (ha : JE X a ta) (hb : JE X b tb) (hs : PlainIx b) : JE X (.Subscript a b pos) (tOp r ta tb) := ⟨pe_ix hr ha.h hb.h hs⟩
theorem eDGet (hu : X.A.units + 1 < cLine) (ha : JE X a ta) (hb : JE X b tb) (hs : NoSl b) : JE X (.Subscript a b pos) (tDGet ta tb) := ⟨pe_dget hu ha.h hb.h hs⟩
theorem eNoP : JO X none tNoPart := ⟨po_none⟩
theorem eP (h : JE X e te) : JO X (some e) (tPart te) := ⟨po_some h.h⟩
theorem eSl {p2 : Pos} {lo hi : Option Expr} {tl th : TO} {r : V → Option Int → Option Int → Hp → VK → Prop} (hr : SlR X r) (he : JE X e te) (hl : JO X lo tl) (hu : JO X hi th) : JE X (.Subscript e (.Slice lo hi none p2) pos) (tSl r te tl th) := ⟨pe_slice hr he.h hl.h hu.h⟩
theorem ePN : JP X pos [] [] [] := ⟨pps_nil⟩
theorem ePC {k v : Expr} {ks : List (Option Expr)} {vs : List Expr} {tk tv : TE} {trs : List (TE × TE)} (hk : JE X k tk) (hv : JE X v tv) (hr : JP X pos ks vs trs) : JP X pos (some k :: ks) (v :: vs) ((tk, tv) :: trs) := ⟨pps_cons hk.h hv.h hr.h⟩
theorem eDict {keys : List (Option Expr)} {values : List Expr} {trs : List (TE × TE)} (h : JP X pos keys values trs) (hall : keys.all (·.isSome) = true) (hl : keys.length = values.length) (h0 : keys ≠ []) (h15 : keys.length ≤ 15) : JE X (.Dict keys values pos) (tDisp trs) := ⟨pe_disp h.h hall hl h0 h15⟩
theorem eDNew : JE X (.Dict [] [] pos) tDNewK := ⟨pe_dnewK⟩
theorem eSet {i : Nat} {pos' : Pos} (he : JE X e te) (hN : X.N.Nodup) (hi : X.N[i]? = some x) (hx : Loc X.env.scope x) (hs : swapsWith e (some (.Name x pos')) pos.line X.env = pure false) (hf : X.fn x = true ∨ X.env.scope.names.lookup x = some .local) :
    JS X (.Assign [.Name x pos'] e pos) (tAsg te (gName i)) := ⟨ps_set hN hi hx he.h hs hf⟩
theorem eAsg {tg : Expr} {g : TG} (he : JE X e te) (hg : JG X tg g) (hs : swapsWithSole [tg] e pos.line X.env = pure false) (hw : swappedStores [tg] e X.env = pure none) (h1 : (assignEach [tg] X.env).map (·.2) = [assign tg X.env]) : JS X (.Assign [tg] e pos) (tAsg te g) := ⟨ps_asg he.h hg.h hs hw h1⟩
theorem eDPut {o i value : Expr} {td ty tv : TE} {pos' : Pos} (hu : X.A.units + 1 < cLine) (ho : JE X o td) (hi : JE X i ty) (hv : JE X value tv) (hs : swapsWith value (some (.Subscript o i pos')) pos.line X.env = pure false) : JS X (.Assign [.Subscript o i pos'] value pos) (sDPut td ty tv) := ⟨ps_dput hu ho.h hi.h hv.h hs⟩
theorem eFor {iter tg : Expr} {body : List Stmt} {wi : TI} {g : TG} {tb : TS} (hi : JI X tg iter wi) (hg : JG X tg g) (hb : JSs X body tb) (hp : PassesOwn (model X.prog X.w) X.A X.env X.xe) (hc : X.calm = true) (hs : ∀ x, foldedSetIterable iter X.env x = pure x) : JS X (.For tg iter body [] pos) (tFor wi g tb) := ⟨ps_for hp hc hi.h hg.h hb.h hs⟩
theorem eWhile {c : Expr} {body : List Stmt} {tc : TT} {tb : TS} (hc : JT X c tc) (hb : JSs X body tb) (hp : PassesOwn (model X.prog X.w) X.A X.env X.xe) : JS X (.While c body [] pos) (tWhile tc tb) := ⟨ps_while hp hc.h hb.h⟩
theorem eIfS {a b : List Stmt} {tc : TT} {t u : TS} (hc : JT X c tc) (ha : JSs X a t) (hb : JSs X b u) : JS X (.If c a b pos) (tIfS tc t u) := ⟨ps_if hc.h ha.h hb.h⟩
theorem eRet (he : JE X e te) : JS X (.Return (some e) pos) (tRet te) := ⟨ps_ret he.h⟩
theorem eRetN : JS X (.Return none pos) tRetN := ⟨ps_retN⟩
theorem eGN {i : Nat} (hN : X.N.Nodup) (hi : X.N[i]? = some x) (hx : Loc X.env.scope x) (hf : X.fn x = true ∨ X.env.scope.names.lookup x = some .local) : JG X (.Name x pos) (gName i) := ⟨pg_name hN hi hx hf⟩
theorem eExpr (he : JE X e te) (hs : swapsWith e none pos.line X.env = pure false) : JS X (.Expr e pos) (tDrop te) := ⟨ps_expr he.h hs⟩
theorem eSub {o i : Expr} {to ti : TE} {t : TSet} (ho : JE X o to) (hi : JE X i ti) (hs : PSet X t) (ha : ∀ v, assign (.Subscript o i pos) X.env v = (do
      let ov ← holding [v] (eval o X.env)
      let iv ← holding [v, ov] (eval i X.env)
      standAt pos
      holding [v, ov, iv] (setItem ov iv v)
      release [v, ov, iv] [])) : JG X (.Subscript o i pos) (gSub to ti t) := ⟨pg_sub ho.h hi.h hs ha⟩
theorem eSs0 : JSs X [] tNext := ⟨pss_nil⟩
theorem eSs1 {s : Stmt} {t : TS} (h : JS X s t) : JSs X [s] t := ⟨pss_one h.h⟩
theorem eSsC {s : Stmt} {rest : List Stmt} {t u : TS} (h : JS X s t) (hr : JSs X rest u) : JSs X (s :: rest) (tSeq t u) := ⟨pss_cons h.h hr.h⟩
theorem eComp {elt iter : Expr} {px : Pos} {ifs : List Expr} {scope : Scope} {wi : TI} {tt : TT} {js : List Nat} (ys : List Str) (hi : JI X (.Name x px) iter wi) (ht : JTs X (x :: ys) scope ifs tt) (he : JC X (x :: ys) scope elt te)
    (hc : X.calm = true) (B : BScope X scope x) (nd : (x :: ys).Nodup) (cap : capOk X scope ys js) (hs : ∀ x, foldedSetIterable iter X.env x = pure x) : JE X (.ListComp elt [⟨.Name x px, iter, ifs, 0⟩] scope pos) (tComp js wi tt te) := ⟨pe_comp hc hi.h B nd cap ht.h he.h hs⟩
theorem eSetC {elt iter : Expr} {y : Str} {px py spos : Pos} {ifs : List Expr} {scope : Scope} {wi : TI} {tt : TT} {js : List Nat} {i : Nat} (ys : List Str) (hi : JI X (.Name x px) iter wi) (ht : JTs X (x :: ys) scope ifs tt) (he : JC X (x :: ys) scope elt te)
    (hN : X.N.Nodup) (hi' : X.N[i]? = some y) (hy : X.env.scope.names.lookup y = some .local) (hsw : swapsWith (.ListComp elt [⟨.Name x px, iter, ifs, 0⟩] scope pos) (some (.Name y py)) spos.line X.env = pure true)
    (hc : X.calm = true) (B : BScope X scope x) (nd : (x :: ys).Nodup) (cap : capOk X scope ys js) (hs : ∀ x, foldedSetIterable iter X.env x = pure x) : JS X (.Assign [.Name y py] (.ListComp elt [⟨.Name x px, iter, ifs, 0⟩] scope pos) spos) (tAsg (tComp js wi tt te) (gName i)) := ⟨ps_setC hN hi' hy hsw hc hi.h B nd cap ht.h he.h hs⟩
theorem eC {N : List Str} {scope : Scope} (h : ∀ C s3 H3 ex, JE (cxB X N scope C s3 H3 ex) e te) : JC X N scope e te := ⟨fun C s3 H3 ex => (h C s3 H3 ex).h⟩
theorem eT0 {N : List Str} {scope : Scope} : JTs X N scope [] tYes := ⟨fun _ _ _ _ => pts_nil⟩
theorem eT1 {N : List Str} {scope : Scope} (h : ∀ C s3 H3 ex, JT (cxB X N scope C s3 H3 ex) e tA) : JTs X N scope [e] tA := ⟨fun C s3 H3 ex => pts_one (h C s3 H3 ex).h⟩
theorem eBM {apos cpos : Pos} {o : Expr} {name : Str} {to : TE} {r : V → List V → Hp → VK → Prop} (ho : JE X o to) (ha : JA X (e :: es) t) (hm : MtR X id r) (pa : PlainAttrs T) (slot : Slot T name id) (hty : typeOf (.builtin id) = pure (.type "method_descriptor"))
    (hbase : attributeBase o name X.env (eval o X.env) = eval o X.env)
    (hfew : ((backTo cpos (starEach (e :: es) X.env)).all (fun x => !x.1) && (backToKw cpos (keywordEach [] X.env)).all (fun x => x.1.isSome)
      && decide ((e :: es).length + ([] : List Keyword).length + (if ([] : List Keyword).isEmpty then 0 else 1) < 30)) = true)
    (hline : (apos.endLine == cpos.line) = true) (h1 : PySem.W.isStarred e = false) (h2 : es.all (fun e => !PySem.W.isStarred e) = true) : JE X (.Call (.Attribute o name apos) (e :: es) [] cpos) (tBM X.K T r to t) := ⟨pe_bm pa slot hty hm ho.h ha.h hbase hfew hline (star_cons h1) (star_none h2)⟩
end
end L2

end
section
set_option Elab.async false
set_option linter.all false
set_option maxRecDepth 100000
set_option maxHeartbeats 1000000
namespace L2
open PySem PySem.Spec PyProof.Rows
/-! ### kinds of data -/
def tyN : PyData → String
  | .none => "NoneType" | .bool _ => "bool" | .int _ => "int" | .str _ => "str" | .list _ => "list" | .tuple _ => "tuple" | .dict _ => "dict"
def isS : PyData → Bool | .str _ => true | _ => false
def isI : PyData → Bool | .int _ => true | .bool _ => true | _ => false
def isB : PyData → Bool | .bool _ => true | _ => false
def isT : PyData → Bool | .tuple _ => true | _ => false
def isL : PyData → Bool | .list _ => true | _ => false
theorem tyOf_of {K : PySem.W.Frag} {p : Addr} {H : Hp} : ∀ {d : PyData} {v : V}, Dn p H d v → TyOf K H v (.type (tyN d))
  | .none, v, h => by rw [show v = .non from h]; exact .non
  | .bool b, v, h => by rw [show v = .bl b from h]; exact .bl b
  | .int i, v, h => by rw [show v = .int i from h]; exact .int i
  | .str x, v, h => by rw [show v = .str x from h]; exact .str x
  | .list ds, v, h => by
    obtain ⟨a, xs, e, n, q, r⟩ := h
    subst e
    exact .lst q
  | .tuple ds, v, h => by
    obtain ⟨a, xs, e, n, q, r⟩ := h
    subst e
    exact .tup q
  | .dict kvs, v, h => by
    obtain ⟨e0, a, e, n, q⟩ := h
    subst e
    exact .dK q
section
variable {K : PySem.W.Frag}
theorem kit_S (d : PyData) : PySem.W.kitOne K (.type (tyN d)) (.type "str") = some (isS d) := by cases d <;> with_unfolding_all rfl
theorem kit_I (d : PyData) : PySem.W.kitOne K (.type (tyN d)) (.type "int") = some (isI d) := by cases d <;> with_unfolding_all rfl
theorem kit_B (d : PyData) : PySem.W.kitOne K (.type (tyN d)) (.type "bool") = some (isB d) := by cases d <;> with_unfolding_all rfl
theorem kit_T (d : PyData) : PySem.W.kitOne K (.type (tyN d)) (.type "tuple") = some (isT d) := by cases d <;> with_unfolding_all rfl
theorem kit_L (d : PyData) : PySem.W.kitOne K (.type (tyN d)) (.type "list") = some (isL d) := by cases d <;> with_unfolding_all rfl
variable {p : Addr} {H : Hp} {d : PyData} {v : V} {Q : VK}
theorem isi_S (hd : Dn p H d v) (h : Q (.bl (isS d)) H) : rIsi K [v, .ty "str"] H Q := ⟨_, _, _, _, rfl, tyOf_of hd, kit_S d, h⟩
theorem isi_I (hd : Dn p H d v) (h : Q (.bl (isI d)) H) : rIsi K [v, .ty "int"] H Q := ⟨_, _, _, _, rfl, tyOf_of hd, kit_I d, h⟩
theorem isi_B (hd : Dn p H d v) (h : Q (.bl (isB d)) H) : rIsi K [v, .ty "bool"] H Q := ⟨_, _, _, _, rfl, tyOf_of hd, kit_B d, h⟩
theorem isi_T (hd : Dn p H d v) (h : Q (.bl (isT d)) H) : rIsi K [v, .ty "tuple"] H Q := ⟨_, _, _, _, rfl, tyOf_of hd, kit_T d, h⟩
theorem isi_L (hd : Dn p H d v) (h : Q (.bl (isL d)) H) : rIsi K [v, .ty "list"] H Q := ⟨_, _, _, _, rfl, tyOf_of hd, kit_L d, h⟩
end
/-! ### small data -/
mutual
def sml : PyData → Bool
  | .none => true
  | .bool _ => true
  | .int i => decide (i.natAbs < 2 ^ 400)
  | .str x => decide (x.length ≤ 400) && x.cps.all (· < 128)
  | .list ds => decide (ds.length ≤ 60) && smlAll ds
  | .tuple ds => decide (ds.length ≤ 60) && smlAll ds
  | .dict kvs => kvs.isEmpty
def smlAll : List PyData → Bool
  | [] => true
  | d :: ds => sml d && smlAll ds
end
mutual
theorem sml_show : ∀ d : PyData, sml d = true → d.showable = true
  | .none, _ => by simp [PyData.showable]
  | .bool _, _ => by simp [PyData.showable]
  | .int i, h => by
    have h' : i.natAbs < 2 ^ 400 := by simpa [sml] using h
    have : i.natAbs.log2 < 1920 := by
      by_cases e : i.natAbs = 0
      · rw [e]; decide
      · exact Nat.lt_of_lt_of_le ((Nat.log2_lt e).mpr h') (by decide)
    simp [PyData.showable, this]
  | .str x, _ => by simp [PyData.showable]
  | .list ds, h => by
    have h' := (Bool.and_eq_true_iff.mp (show (decide (ds.length ≤ 60) && smlAll ds) = true by simpa [sml] using h)).2
    simpa [PyData.showable] using sml_showAll ds h'
  | .tuple ds, h => by
    have h' := (Bool.and_eq_true_iff.mp (show (decide (ds.length ≤ 60) && smlAll ds) = true by simpa [sml] using h)).2
    simpa [PyData.showable] using sml_showAll ds h'
  | .dict kvs, h => by
    have h' : kvs = [] := by simpa [sml] using h
    subst h'
    simp [PyData.showable, PyData.showableKv]
theorem sml_showAll : ∀ ds : List PyData, smlAll ds = true → PyData.showableAll ds = true
  | [], _ => by simp [PyData.showableAll]
  | d :: ds, h => by
    have h' := Bool.and_eq_true_iff.mp (show (sml d && smlAll ds) = true by simpa [smlAll] using h)
    simp [PyData.showableAll, sml_show d h'.1, sml_showAll ds h'.2]
end
/-! ### letters -/
def isLow (c : Nat) : Bool := decide (97 ≤ c) && decide (c ≤ 122)
def Low (x : Str) : Prop := ∀ c ∈ x.cps.toList, isLow c = true
def lowB (x : Str) : Bool := x.cps.toList.all isLow
def areL (d : PyData) (f : Int) : Bool := match d with | .str x => decide (f ≤ x.length) && decide ((x.length : Int) ≤ 8) && lowB x | _ => false
def isName (d : PyData) : Bool := areL d 1
def isNum (d : PyData) : Bool := match d with | .int i => decide (i.natAbs ≤ 999999999999999999999999999999) | _ => false
def isSaid (d : PyData) : Bool := match d with | .tuple [x] => areL x 0 | _ => false
def isNode (d : PyData) : Bool := isName d || isNum d || isSaid d
end L2

end
section
set_option Elab.async false
set_option linter.all false
set_option maxRecDepth 100000
set_option maxHeartbeats 1000000
namespace L2
open PySem PySem.Spec PyProof.Rows
theorem iteTr {b : Bool} {A B : Prop} (e : b = true) (h : A) : if b = true then A else B := by rw [if_pos e]; exact h
theorem iteFr {b : Bool} {A B : Prop} (e : b = false) (h : B) : if b = true then A else B := by rw [if_neg (by rw [e]; exact Bool.false_ne_true)]; exact h
theorem ite3 {b : Bool} {A B : Prop} (h1 : b = true → A) (h2 : b = false → B) : if b = true then A else B := by
  cases b with
  | true => rw [if_pos rfl]; exact h1 rfl
  | false => rw [if_neg Bool.false_ne_true]; exact h2 rfl
section
variable {r r' : R2} {x y : V} {H : Hp} {Q : VK}
theorem o_L (h : r x y H Q) : rOr r r' x y H Q := Or.inl h
theorem o_R (h : r' x y H Q) : rOr r r' x y H Q := Or.inr h
theorem o_I0 {g : Int → Int → V} {i j : Int} (h : Q (g i j) H) : rI0 g (.int i) (.int j) H Q := ⟨i, j, rfl, rfl, h⟩
theorem o_I {C : Int → Int → Prop} {g : Int → Int → V} {i j : Int} (c : C i j) (h : Q (g i j) H) : rI C g (.int i) (.int j) H Q := ⟨i, j, rfl, rfl, c, h⟩
theorem o_addS {i j : Str} (c : i.length + j.length ≤ sizeLine) (h : Q (.str (i ++ j)) H) : rAddS (.str i) (.str j) H Q := ⟨i, j, rfl, rfl, c, h⟩
theorem o_leS {i j : Str} (h : Q (.bl (!(decide (j.cps.toList < i.cps.toList)))) H) : rLeS (.str i) (.str j) H Q := ⟨i, j, rfl, rfl, h⟩
theorem o_notInS {i j : Str} (h : Q (.bl (!(!(Builtin.Str.occurrences j i 0 j.length 1).isEmpty))) H) : rNotInS (.str i) (.str j) H Q := ⟨i, j, rfl, rfl, h⟩
theorem o_eq (e : scal x y = true) (h : Q (.bl (decide (x = y))) H) : rEq x y H Q := ⟨e, h⟩
theorem o_ne (e : scal x y = true) (h : Q (.bl (!decide (x = y))) H) : rNe x y H Q := ⟨e, h⟩
theorem o_ixL {K : PySem.W.Frag} {p : Addr} {xs : List V} {i : Int} {v : V} (s : SqL K H p xs) (e : atI xs i = some v) (h : Q v H) : rIx K (.ref p) (.int i) H Q := .inl ⟨p, xs, i, v, rfl, rfl, s, e, h⟩
theorem o_ixT {K : PySem.W.Frag} {p : Addr} {xs : List V} {i : Int} {v : V} (s : SqT K H p xs) (e : atI xs i = some v) (h : Q v H) : rIx K (.ref p) (.int i) H Q := .inr (.inl ⟨p, xs, i, v, rfl, rfl, s, e, h⟩)
theorem o_ixS {K : PySem.W.Frag} {z : Str} {i : Int} {c : Nat} (l : z.length ≤ sizeLine) (e : atI z.cps.toList i = some c) (h : Q (.str ⟨#[c]⟩) H) : rIx K (.str z) (.int i) H Q := .inr (.inr ⟨z, i, c, rfl, rfl, l, e, h⟩)
theorem o_lenS {K : PySem.W.Frag} {z : Str} (l : z.length ≤ sizeLine) (h : Q (.int z.length) H) : rLen K [.str z] H Q := ⟨_, _, rfl, ⟨l, rfl⟩, h⟩
theorem o_lenL {K : PySem.W.Frag} {p : Addr} {xs : List V} (s : SqL K H p xs) (h : Q (.int xs.length) H) : rLen K [.ref p] H Q := ⟨_, _, rfl, .inl ⟨xs, s, rfl⟩, h⟩
theorem o_lenT {K : PySem.W.Frag} {p : Addr} {xs : List V} (s : SqT K H p xs) (h : Q (.int xs.length) H) : rLen K [.ref p] H Q := ⟨_, _, rfl, .inr ⟨xs, s, rfl⟩, h⟩
theorem o_abs {i : Int} (h : Q (.int (if i < 0 then -i else i)) H) : rAbs [.int i] H Q := ⟨i, rfl, h⟩
theorem o_intB {k : Bool} (h : Q (.int (if k then 1 else 0)) H) : rInt1 [.bl k] H Q := .inr ⟨k, rfl, h⟩
theorem o_slS {z : Str} {lo hi : Option Int} {r' : V → Option Int → Option Int → Hp → VK → Prop} (l : z.length ≤ sizeLine) (h : Q (.str (cutS z lo hi)) H) : rOrS rSlS r' (.str z) lo hi H Q := .inl ⟨z, rfl, l, h⟩
theorem o_cat {l b : Addr} {xs zs : List V} (h1 : H l = some (.lst xs)) (h2 : H b = some (.lst zs)) (c : xs.length + zs.length ≤ sizeLine) (h : ∀ p, H p = none → Q (.ref p) (upd H p (.lst (xs ++ zs)))) : rCat (.ref l) (.ref b) H Q := ⟨l, b, xs, zs, rfl, rfl, h1, h2, c, h⟩
theorem o_neg {i : Int} (h : Q (.int (-i)) H) : rU (fun i => .int (-i)) (.int i) H Q := ⟨i, rfl, h⟩
theorem o_all {K : PySem.W.Frag} {a : Addr} {bs : List Bool} (s : SqL K H a (bs.map V.bl)) (h : Q (.bl (bs.all id)) H) : rAll K [.ref a] H Q := ⟨a, bs, rfl, s, h⟩
end
theorem i_comp {js : List Nat} {wi : TI} {tt : TT} {te : TE} {σ : St} {H : Hp} {Q : VK} (h : wi σ H fun J H1 => ∃ W : Nat → Nat → List V → Hp → Prop, (∃ m, W 0 m [] H1) ∧ ∀ i m acc H, W i m acc H →
  (J.stop i H ∧ acc.length ≤ sizeLine ∧ ∀ p, H p = none → Q (.ref p) (upd H p (.lst acc))) ∨ (J.go i H ∧ acc.length < sizeLine ∧ ∀ x H', J.yld i H x H' →
    tt (some x :: caps js σ) H' fun b H2 => if b = true then te (some x :: caps js σ) H2 fun y H3 => ∃ m', m' < m ∧ W (i + 1) m' (acc ++ [y]) H3 else ∃ m', m' < m ∧ W (i + 1) m' acc H2)) : tComp js wi tt te σ H Q := h
/-- a comprehension over a text's signs -/
theorem comp_str {js : List Nat} {tt : TT} {te : TE} {σ : St} {H : Hp} {Q : VK} {z : Str} (f : Nat → V) (q : Nat → Bool) (hl : z.length ≤ sizeLine)
    (ht : ∀ c H' (Q' : Bool → Hp → Prop), Q' (q c) H' → tt (some (.str ⟨#[c]⟩) :: caps js σ) H' Q') (he : ∀ c H' (Q' : VK), q c = true → Q' (f c) H' → te (some (.str ⟨#[c]⟩) :: caps js σ) H' Q')
    (h : ∀ p, H p = none → Q (.ref p) (upd H p (.lst ((z.cps.toList.filter q).map f)))) :
    ∃ W : Nat → Nat → List V → Hp → Prop, (∃ m, W 0 m [] H) ∧ ∀ i m acc H, W i m acc H →
      ((Its z).stop i H ∧ acc.length ≤ sizeLine ∧ ∀ p, H p = none → Q (.ref p) (upd H p (.lst acc))) ∨ ((Its z).go i H ∧ acc.length < sizeLine ∧ ∀ x H', (Its z).yld i H x H' →
        tt (some x :: caps js σ) H' fun b H2 => if b = true then te (some x :: caps js σ) H2 fun y H3 => ∃ m', m' < m ∧ W (i + 1) m' (acc ++ [y]) H3 else ∃ m', m' < m ∧ W (i + 1) m' acc H2) := by
  have ez : z.cps.toList.length = z.length := by simp [Str.length]
  refine ⟨fun i m acc H' => H' = H ∧ i ≤ z.length ∧ m = z.length - i ∧ acc = ((z.cps.toList.take i).filter q).map f, ⟨z.length, rfl, Nat.zero_le _, rfl, rfl⟩, ?_⟩
  rintro i m acc H' ⟨rfl, hi, rfl, rfl⟩
  by_cases hlt : i < z.length
  · right
    have hacc : (((z.cps.toList.take i).filter q).map f).length ≤ i := by
      rw [List.length_map]
      exact Nat.le_trans (List.length_filter_le _ _) (by rw [List.length_take]; exact Nat.min_le_left _ _)
    refine ⟨hlt, Nat.lt_of_le_of_lt hacc (Nat.lt_of_lt_of_le hlt hl), ?_⟩
    rintro x H'' ⟨rfl, c, hc, rfl⟩
    have hc' : z.cps.toList[i]? = some c := by rw [← hc]; simp
    have step := take_succ_filter q z.cps.toList i c hc'
    refine ht c _ _ ?_
    cases hq : q c with
    | true =>
      refine iteTr rfl (he c _ _ hq ⟨z.length - (i + 1), by omega, rfl, hlt, rfl, ?_⟩)
      rw [step, hq, List.map_append]
      rfl
    | false =>
      refine iteFr rfl ⟨z.length - (i + 1), by omega, rfl, hlt, rfl, ?_⟩
      rw [step, hq]
      simp
  · left
    have e : i = z.length := by omega
    subst e
    rw [List.take_of_length_le (by omega)]
    refine ⟨Nat.le_refl _, ?_, h⟩
    rw [List.length_map]
    exact Nat.le_trans (List.length_filter_le _ _) (by omega)
theorem i_compS {js : List Nat} {ti : TE} {tt : TT} {te : TE} {σ : St} {H : Hp} {Q : VK} (z : Str) (f : Nat → V) (q : Nat → Bool) (hi : ∀ R : VK, R (.str z) H → ti σ H R) (hl : z.length ≤ sizeLine)
    (ht : ∀ c H' (Q' : Bool → Hp → Prop), Q' (q c) H' → tt (some (.str ⟨#[c]⟩) :: caps js σ) H' Q') (he : ∀ c H' (Q' : VK), q c = true → Q' (f c) H' → te (some (.str ⟨#[c]⟩) :: caps js σ) H' Q')
    (h : ∀ p, H p = none → Q (.ref p) (upd H p (.lst ((z.cps.toList.filter q).map f)))) : tComp js (iStr ti) tt te σ H Q :=
  i_comp (hi _ ⟨z, rfl, comp_str f q hl ht he h⟩)
theorem Fun.okJ {P : Program} {w : World} {K : PySem.W.Frag} {mg : Str → Option Value} {base : Heap} {x qual : Str} {st : Stmt} {f : Addr} {fd : FuncData} {N ps : List Str} {k : Nat} {sp : Sp} (F : Fun K x qual st f fd) (S : FnScope N ps (defScope st)) (len : ∀ vs H Q E, sp vs H Q E → vs.length = ps.length)
    (hbody : ∀ (cdv : Value) (A : Around) (outer : List Env) (s : Shared) (H : Hp) (vs : List V) (Q : VK) (E : XK), Room k (A.deeper (envOfC qual (defScope st) s.heap.objs.size f cdv)) → sp vs H Q E →
      ∃ t, JSs (cxOf CX0 P w K mg base N qual (defScope st) f cdv A outer s H E).nox (defBody st) t ∧ t { nx := fun _ H' => Q .non H', rt := Q } (start N vs) H) : FnOk P w K mg base CX0 (k + 1) f fd ps sp :=
  F.ok S len fun cdv A outer s H vs Q E hr h => let ⟨t, j, q⟩ := hbody cdv A outer s H vs Q E hr h; ⟨t, j.h, q⟩
end L2

end
section
set_option Elab.async false
set_option linter.all false
set_option maxRecDepth 100000
set_option maxHeartbeats 1000000
namespace L2
open PySem PySem.Spec PyProof.Rows
theorem strsAre_of : ∀ {ss : List Str} {us : List Value}, Vals (ss.map V.str) us → StrsAre us ss
  | [], _, r => by cases r; exact .nil
  | s :: ss, _, r => by
    cases r with
    | cons r1 r2 =>
      obtain ⟨t, rfl⟩ := r1
      exact .cons _ _ (strsAre_of r2)
theorem vals_of : ∀ {ss : List Str} {us : List Value}, StrsAre us ss → Vals (ss.map V.str) us
  | [], _, r => by cases r; exact .nil
  | s :: ss, _, r => by
    cases r with
    | cons _ _ r2 => exact .cons ⟨_, rfl⟩ (vals_of r2)
section
variable {X : Cx}
def rSortS (K : PySem.W.Frag) : List V → Hp → VK → Prop := fun xs H Q => ∃ (a : Addr) (ss : List Str), xs = [.ref a] ∧ SqL K H a (ss.map V.str) ∧ ss.length < 64 ∧ ∀ p ss', H p = none → ss'.Perm ss → sortedS ss' = true → Q (.ref p) (upd H p (.lst (ss'.map V.str)))
/-- sorted(xs) of fewer than 64 texts -/
theorem call_sortedS : CallR X (.builtin "sorted") (rSortS X.K) := by
  intro pins s σ H xs us Q I r h
  obtain ⟨a, ss, rfl, hq, h64, q⟩ := h
  obtain ⟨u, rfl, r1⟩ := vals1 r
  cases (show u = Value.ref a from r1)
  obtain ⟨its, rv, p, hz⟩ := I.list hq
  have hS := strsAre_of rv
  have hl : its.length = ss.length := by rw [← rv.length, List.length_map]
  refine sorted_strs p.isList hS (by omega) fun out ss' h1 h2 h3 => ?_
  obtain ⟨e, he⟩ := sortedAll_at s.heap its out
  have hn : H (s.heap.objs.size + 1) = none := I.hok.fresh (Nat.le_succ _)
  have hl' : ss'.length ≤ sizeLine := by rw [h2.length_eq]; exact Nat.le_trans (Nat.le_of_lt h64) (by decide)
  refine ⟨.ref (s.heap.objs.size + 1), _, I.laid (t' := s.toks) (o := .lst (ss'.map V.str)) (fun b o hb => sortedAll_old hb) (Nat.le_succ _) ?_, rfl, q _ ss' hn h2 h3⟩
  exact ⟨by rw [List.length_map]; exact hl', out.toList, e, vals_of h1, by rw [Array.toArray_toList]; exact he⟩
def rJoin (K : PySem.W.Frag) : V → List V → Hp → VK → Prop := fun x vs H Q => ∃ (z : Str) (a : Addr) (ss : List Str), x = .str z ∧ vs = [.ref a] ∧ SqL K H a (ss.map V.str) ∧ (ss.map (·.length)).sum + ss.length * z.length ≤ 16777216 ∧ Q (.str (Txt.join z ss)) H
theorem mt_join : MtM X "str.join" (rJoin X.K) := by
  intro pins s σ H x vs v us Q I rx rv h
  obtain ⟨z, a, ss, rfl, rfl, hq, hok, q⟩ := h
  obtain ⟨t, rfl⟩ := rx
  obtain ⟨u, rfl, ru⟩ := rv.one
  cases (show u = Value.ref a from ru)
  obtain ⟨its, r, p, hz⟩ := I.list hq
  exact join_list p.isList (by simpa using strsAre_of r) hok fun t' k => ⟨.str _, H, I.tok k, ⟨t', rfl⟩, q⟩
def rStarts : V → List V → Hp → VK → Prop := fun x vs H Q => ∃ z y : Str, x = .str z ∧ vs = [.str y] ∧ Q (.bl (decide (y.length ≤ z.length) && Builtin.Str.subAt z y 0)) H
theorem mt_starts : MtM X "str.startswith" rStarts := by
  intro pins s σ H x vs v us Q I rx rv h
  obtain ⟨z, y, rfl, rfl, q⟩ := h
  obtain ⟨t, rfl⟩ := rx
  obtain ⟨u, rfl, ru⟩ := rv.one
  obtain ⟨t', rfl⟩ := ru
  refine call_meets F.slot_str_startswith (typeIs_str _ _ _) F.entry_str_startswith (F.args_str_startswith_2 _ _) (gives_str_startswith z y t t').meets ?_
  exact ⟨.bl _, H, I, by simp only [Nat.zero_add]; rfl, q⟩
def rList (K : PySem.W.Frag) : List V → Hp → VK → Prop := fun xs H Q => ∃ p ys, xs = [.ref p] ∧ (SqL K H p ys ∨ SqT K H p ys) ∧ ∀ l, H l = none → Q (.ref l) (upd H l (.lst ys))
def rTuple (K : PySem.W.Frag) : List V → Hp → VK → Prop := fun xs H Q => ∃ p ys, xs = [.ref p] ∧ ((SqL K H p ys ∧ ∀ l, H l = none → Q (.ref l) (upd H l (.tup ys))) ∨ (SqT K H p ys ∧ Q (.ref p) H))
def rMin2 : List V → Hp → VK → Prop := fun xs H Q => ∃ i j, xs = [.int i, .int j] ∧ Q (.int (if j < i then j else i)) H
def rIsN : R2 := fun x y H Q => y = .non ∧ Q (.bl (decide (x = .non))) H
def rNotN : R2 := fun x y H Q => y = .non ∧ Q (.bl (!decide (x = .non))) H
theorem call_listV : CallR X (.type "list") (rList X.K) := call_list_of
theorem call_tupleV : CallR X (.type "tuple") (rTuple X.K) := call_tuple_of
theorem call_min2I (hc : X.calm = true) : CallR X (.builtin "min") rMin2 := call_min2 hc
theorem op_isNn : OpR X (compareOp .Is) rIsN := op_isN
theorem op_notNn : OpR X (compareOp .IsNot) rNotN := op_notN
theorem eBM0 {apos cpos : Pos} {o : Expr} {name : Str} {to : TE} {id T : String} {r : V → List V → Hp → VK → Prop} (ho : JE X o to) (hm : MtR X id r) (pa : PlainAttrs T) (slot : Slot T name id) (hty : typeOf (.builtin id) = pure (.type "method_descriptor"))
    (hbase : attributeBase o name X.env (eval o X.env) = eval o X.env) (hline : (apos.endLine == cpos.line) = true) : JE X (.Call (.Attribute o name apos) [] [] cpos) (tBM0 X.K T r to) := ⟨pe_bm0 pa slot hty hm ho.h hbase hline⟩
/-- any(xs) of a list of truths -/
theorem call_anyB (hc : X.calm = true) : CallR X (.builtin "any") (fun xs H Q => ∃ (a : Addr) (bs : List Bool), xs = [.ref a] ∧ SqL X.K H a (bs.map V.bl) ∧ Q (.bl (bs.any id)) H) := by
  intro pins s σ H xs us Q I r h
  obtain ⟨a, bs, rfl, hq, q⟩ := h
  obtain ⟨u, rfl, r1⟩ := vals1 r
  cases (show u = Value.ref a from r1)
  obtain ⟨its, rv, p, hz⟩ := I.list hq
  have ha : a < s.heap.objs.size := by
    obtain ⟨o, e, _⟩ := p.isList
    exact Heap.lt_size e
  refine call_any_walk (wpAny_pyIter_list p.isList ?_)
  refine ⟨s.heap.objs.size, _, _, _, _, _, fun i => (bs[i]?).getD false, rfl, Walks.list (show X.A.in1.handled = none from I.ok.hd hc) s.heap.objs.size a (Nat.ne_of_lt ha) its.toArray, ⟨⟨_, Heap.get?_push_size _ rfl, rfl, rfl⟩, p.isList.push _⟩, ?_, ?_⟩
  · intro i v s' Q' E' hv hQ
    have hv' : its[i]? = some v := by simpa using hv
    have hi : i < its.length := (List.getElem?_eq_some_iff.mp hv').1
    have hb : i < bs.length := by have := rv.length; rw [List.length_map] at this; omega
    obtain ⟨u, hu, ru⟩ := rv.get (i := i) (x := .bl bs[i]) (by rw [List.getElem?_map, List.getElem?_eq_getElem hb]; rfl)
    rw [hv'] at hu
    cases hu
    cases (show v = Value.bool bs[i] from ru)
    dsimp only at hQ
    rw [List.getElem?_eq_getElem hb] at hQ
    exact wpAny_truthy_bool hQ
  · intro h' tk kk
    have e : (List.range its.toArray.size).any (fun i => (bs[i]?).getD false) = bs.any id := by
      have hl : its.toArray.size = bs.length := by rw [List.size_toArray, ← rv.length, List.length_map]
      rw [hl, Bool.eq_iff_iff, List.any_eq_true, List.any_eq_true]
      constructor
      · rintro ⟨i, hi, h⟩
        rw [List.getElem?_eq_getElem (List.mem_range.mp hi)] at h
        exact ⟨_, List.getElem_mem _, h⟩
      · rintro ⟨b, hb, h⟩
        obtain ⟨i, hi, e⟩ := List.mem_iff_getElem.mp hb
        refine ⟨i, List.mem_range.mpr hi, ?_⟩
        rw [List.getElem?_eq_getElem hi, e]
        exact h
    rw [e]
    have I1 : Inv X pins σ H { s with heap := s.heap.push { cls := .type "list_iterator", data := .fields #[.ref a, rawInt 0] }, toks := s.toks } := I.kept fun b o e => Heap.get?_push_of_some _ e
    have hn : H s.heap.objs.size = none := I.hok.fresh (Nat.le_refl _)
    have I2 : Inv X pins σ H { s with heap := h', toks := tk } := I.kept fun b o e => kk b o (by
      intro z
      have := List.mem_singleton.mp z
      rw [this] at e
      exact absurd (Heap.lt_size e) (Nat.lt_irrefl _)) (Heap.get?_push_of_some _ e)
    exact ⟨.bl _, H, I2, rfl, q⟩
def rAny (K : PySem.W.Frag) : List V → Hp → VK → Prop := fun xs H Q => ∃ (a : Addr) (bs : List Bool), xs = [.ref a] ∧ SqL K H a (bs.map V.bl) ∧ Q (.bl (bs.any id)) H
theorem call_anyL (hc : X.calm = true) : CallR X (.builtin "any") (rAny X.K) := call_anyB hc
end
end L2

end
section
set_option Elab.async false
set_option linter.all false
set_option maxRecDepth 100000
set_option maxHeartbeats 1000000
namespace L2
open PySem PySem.Spec PyProof.Rows
/-! ### comprehensions over lists and tuples, by a word -/
section
variable {K : PySem.W.Frag} {js : List Nat} {tt : TT} {te : TE} {σ : St} {H : Hp} {Q : VK} {a : Addr} {xs : List V}
theorem i_iList {ti : TE} {R : It → Hp → Prop} (h : ti σ H fun x H1 => ∃ a, x = .ref a ∧ (∃ xs, SqL K H1 a xs) ∧ R (Itl K a) H1) : iList K ti σ H R := h
theorem i_iTup {ti : TE} {R : It → Hp → Prop} (h : ti σ H fun x H1 => ∃ a, x = .ref a ∧ (∃ xs, SqT K H1 a xs) ∧ R (Itt K a) H1) : iTup K ti σ H R := h
theorem comp_listI (Pv : Nat → List V → Hp → Prop) (h0 : Pv 0 [] H) (hl : ∀ i acc H, i ≤ xs.length → Pv i acc H → SqL K H a xs ∧ acc.length ≤ i) (hz : xs.length ≤ sizeLine)
    (hs : ∀ i x acc H (C : List V → Hp → Prop), xs[i]? = some x → Pv i acc H → (∀ acc' H', Pv (i + 1) acc' H' → C acc' H') →
      tt (some x :: caps js σ) H fun b H2 => if b = true then te (some x :: caps js σ) H2 fun y H3 => C (acc ++ [y]) H3 else C acc H2)
    (hd : ∀ acc H, Pv xs.length acc H → ∀ p, H p = none → Q (.ref p) (upd H p (.lst acc))) :
    ∃ W : Nat → Nat → List V → Hp → Prop, (∃ m, W 0 m [] H) ∧ ∀ i m acc H, W i m acc H →
      ((Itl K a).stop i H ∧ acc.length ≤ sizeLine ∧ ∀ p, H p = none → Q (.ref p) (upd H p (.lst acc))) ∨ ((Itl K a).go i H ∧ acc.length < sizeLine ∧ ∀ x H', (Itl K a).yld i H x H' →
        tt (some x :: caps js σ) H' fun b H2 => if b = true then te (some x :: caps js σ) H2 fun y H3 => ∃ m', m' < m ∧ W (i + 1) m' (acc ++ [y]) H3 else ∃ m', m' < m ∧ W (i + 1) m' acc H2) := by
  refine ⟨fun i m acc H => m = xs.length - i ∧ i ≤ xs.length ∧ Pv i acc H, ⟨xs.length, by simp, Nat.zero_le _, h0⟩, ?_⟩
  rintro i m acc H ⟨rfl, hi, p⟩
  obtain ⟨q, hacc⟩ := hl i acc H hi p
  by_cases hlt : i < xs.length
  · refine .inr ⟨⟨xs, xs[i], q, by simp [hlt]⟩, by omega, fun x H' y => ?_⟩
    obtain ⟨e, y⟩ := y
    subst e
    exact hs i x acc _ (fun acc' H' => ∃ m', m' < xs.length - i ∧ (m' = xs.length - (i + 1) ∧ i + 1 ≤ xs.length ∧ Pv (i + 1) acc' H')) (y xs q) p fun acc' H' p' => ⟨xs.length - (i + 1), by omega, rfl, hlt, p'⟩
  · have e : i = xs.length := by omega
    subst e
    exact .inl ⟨⟨xs, q, Nat.le_refl _⟩, by omega, hd acc H p⟩
theorem comp_tupI (Pv : Nat → List V → Hp → Prop) (h0 : Pv 0 [] H) (hl : ∀ i acc H, i ≤ xs.length → Pv i acc H → SqT K H a xs ∧ acc.length ≤ i) (hz : xs.length ≤ sizeLine)
    (hs : ∀ i x acc H (C : List V → Hp → Prop), xs[i]? = some x → Pv i acc H → (∀ acc' H', Pv (i + 1) acc' H' → C acc' H') →
      tt (some x :: caps js σ) H fun b H2 => if b = true then te (some x :: caps js σ) H2 fun y H3 => C (acc ++ [y]) H3 else C acc H2)
    (hd : ∀ acc H, Pv xs.length acc H → ∀ p, H p = none → Q (.ref p) (upd H p (.lst acc))) :
    ∃ W : Nat → Nat → List V → Hp → Prop, (∃ m, W 0 m [] H) ∧ ∀ i m acc H, W i m acc H →
      ((Itt K a).stop i H ∧ acc.length ≤ sizeLine ∧ ∀ p, H p = none → Q (.ref p) (upd H p (.lst acc))) ∨ ((Itt K a).go i H ∧ acc.length < sizeLine ∧ ∀ x H', (Itt K a).yld i H x H' →
        tt (some x :: caps js σ) H' fun b H2 => if b = true then te (some x :: caps js σ) H2 fun y H3 => ∃ m', m' < m ∧ W (i + 1) m' (acc ++ [y]) H3 else ∃ m', m' < m ∧ W (i + 1) m' acc H2) := by
  refine ⟨fun i m acc H => m = xs.length - i ∧ i ≤ xs.length ∧ Pv i acc H, ⟨xs.length, by simp, Nat.zero_le _, h0⟩, ?_⟩
  rintro i m acc H ⟨rfl, hi, p⟩
  obtain ⟨q, hacc⟩ := hl i acc H hi p
  by_cases hlt : i < xs.length
  · refine .inr ⟨⟨xs, xs[i], q, by simp [hlt]⟩, by omega, fun x H' y => ?_⟩
    obtain ⟨e, y⟩ := y
    subst e
    exact hs i x acc _ (fun acc' H' => ∃ m', m' < xs.length - i ∧ (m' = xs.length - (i + 1) ∧ i + 1 ≤ xs.length ∧ Pv (i + 1) acc' H')) (y xs q) p fun acc' H' p' => ⟨xs.length - (i + 1), by omega, rfl, hlt, p'⟩
  · have e : i = xs.length := by omega
    subst e
    exact .inl ⟨⟨xs, q, Nat.le_refl _⟩, by omega, hd acc H p⟩
/-- what is kept of a list, nothing changed by asking -/
theorem comp_listF (q : V → Bool) (f : V → V) (hq : SqL K H a xs) (hz : xs.length ≤ sizeLine) (ht : ∀ x ∈ xs, ∀ Q' : Bool → Hp → Prop, Q' (q x) H → tt (some x :: caps js σ) H Q') (he : ∀ x ∈ xs, q x = true → ∀ Q' : VK, Q' (f x) H → te (some x :: caps js σ) H Q')
    (h : ∀ p, H p = none → Q (.ref p) (upd H p (.lst ((xs.filter q).map f)))) :
    ∃ W : Nat → Nat → List V → Hp → Prop, (∃ m, W 0 m [] H) ∧ ∀ i m acc H, W i m acc H →
      ((Itl K a).stop i H ∧ acc.length ≤ sizeLine ∧ ∀ p, H p = none → Q (.ref p) (upd H p (.lst acc))) ∨ ((Itl K a).go i H ∧ acc.length < sizeLine ∧ ∀ x H', (Itl K a).yld i H x H' →
        tt (some x :: caps js σ) H' fun b H2 => if b = true then te (some x :: caps js σ) H2 fun y H3 => ∃ m', m' < m ∧ W (i + 1) m' (acc ++ [y]) H3 else ∃ m', m' < m ∧ W (i + 1) m' acc H2) := by
  refine comp_listI (xs := xs) (fun i acc H' => H' = H ∧ acc = ((xs.take i).filter q).map f) ⟨rfl, by simp⟩ ?_ hz ?_ ?_
  · rintro i acc H' hi ⟨rfl, rfl⟩
    refine ⟨hq, ?_⟩
    rw [List.length_map]
    exact Nat.le_trans (List.length_filter_le _ _) (by rw [List.length_take]; exact Nat.min_le_left _ _)
  · rintro i x acc H' C hx ⟨rfl, rfl⟩ hC
    have hm : x ∈ xs := List.mem_of_getElem? hx
    have step := take_succ_filter q xs i x hx
    refine ht x hm _ ?_
    cases e : q x with
    | true =>
      refine iteTr rfl (he x hm e _ (hC _ _ ⟨rfl, ?_⟩))
      rw [step, e, List.map_append]
      rfl
    | false =>
      refine iteFr rfl (hC _ _ ⟨rfl, ?_⟩)
      rw [step, e]
      simp
  · rintro acc H' ⟨rfl, rfl⟩
    rw [List.take_length]
    exact h
theorem comp_tupF (q : V → Bool) (f : V → V) (hq : SqT K H a xs) (hz : xs.length ≤ sizeLine) (ht : ∀ x ∈ xs, ∀ Q' : Bool → Hp → Prop, Q' (q x) H → tt (some x :: caps js σ) H Q') (he : ∀ x ∈ xs, q x = true → ∀ Q' : VK, Q' (f x) H → te (some x :: caps js σ) H Q')
    (h : ∀ p, H p = none → Q (.ref p) (upd H p (.lst ((xs.filter q).map f)))) :
    ∃ W : Nat → Nat → List V → Hp → Prop, (∃ m, W 0 m [] H) ∧ ∀ i m acc H, W i m acc H →
      ((Itt K a).stop i H ∧ acc.length ≤ sizeLine ∧ ∀ p, H p = none → Q (.ref p) (upd H p (.lst acc))) ∨ ((Itt K a).go i H ∧ acc.length < sizeLine ∧ ∀ x H', (Itt K a).yld i H x H' →
        tt (some x :: caps js σ) H' fun b H2 => if b = true then te (some x :: caps js σ) H2 fun y H3 => ∃ m', m' < m ∧ W (i + 1) m' (acc ++ [y]) H3 else ∃ m', m' < m ∧ W (i + 1) m' acc H2) := by
  refine comp_tupI (xs := xs) (fun i acc H' => H' = H ∧ acc = ((xs.take i).filter q).map f) ⟨rfl, by simp⟩ ?_ hz ?_ ?_
  · rintro i acc H' hi ⟨rfl, rfl⟩
    refine ⟨hq, ?_⟩
    rw [List.length_map]
    exact Nat.le_trans (List.length_filter_le _ _) (by rw [List.length_take]; exact Nat.min_le_left _ _)
  · rintro i x acc H' C hx ⟨rfl, rfl⟩ hC
    have hm : x ∈ xs := List.mem_of_getElem? hx
    have step := take_succ_filter q xs i x hx
    refine ht x hm _ ?_
    cases e : q x with
    | true =>
      refine iteTr rfl (he x hm e _ (hC _ _ ⟨rfl, ?_⟩))
      rw [step, e, List.map_append]
      rfl
    | false =>
      refine iteFr rfl (hC _ _ ⟨rfl, ?_⟩)
      rw [step, e]
      simp
  · rintro acc H' ⟨rfl, rfl⟩
    rw [List.take_length]
    exact h
end
/-! ### [elt for a, b in iter] -/
structure BScopeT (X : Cx) (scope : Scope) (xs : List Str) : Prop where
  kind : scope.kind = .function
  cells : ∀ y ∈ scope.names, y.2 ≠ .cell
  locs : ∀ y ∈ scope.names, y.2 = .local → scope.names.lookup y.1 = some .local
  free : ∀ y ∈ scope.names, y.2 = .free → X.env.scope.names.lookup y.1 = some .cell
def nones (xs : List Str) : St := xs.map fun _ => none
theorem inv_blockT {X : Cx} {pins : List (Addr × Obj)} {σ : St} {H : Hp} {s3 : Shared} {h1 : Heap} {tk : Nat} {scope : Scope} {xs ys : List Str} {js : List Nat} {ex : List Addr} (I : Inv X pins σ H s3) (hc : X.calm = true) (B : BScopeT X scope xs) (cap : capOk X scope ys js)
    (hns : h1.Ns s3.heap.objs.size (fun _ => none)) (hk : ∀ b o, s3.heap.get? b = some o → h1.get? b = some o)
    (hex : ∀ b ∈ ex, b ∉ frs X.stack ∧ b < s3.heap.objs.size ∧ (∀ y c, X.env.cells.lookup y = some c → c ≠ b) ∧ X.base.get? b = none) :
    Inv (cxB X (xs ++ ys) scope s3.heap.objs.size s3 H ex) [] (nones xs ++ caps js σ) H { s3 with heap := h1, toks := tk } := by
  have hfree : ∀ y ∈ scope.names, y.2 = .free → ∃ c, X.env.cells.lookup y.1 = some c := fun y hy hf => I.ok.has y.1 (.inl (B.free y hy hf))
  have sub := clOf_sub (env := X.env) scope.names [] hfree (fun _ _ e => by simp at e)
  refine ⟨⟨I.ok.mod, B.kind, I.ok.glob, I.ok.blt, Nat.le_refl _, fun y z c h1 h2 => I.ok.inj y z c (sub _ _ h1) (sub _ _ h2), fun y hy => ?_, fun y c hf _ => ?_, fun _ => I.ok.hd hc, I.ok.frames, .inl rfl, fun b hb => ?_, fun b o e => I.bs b o e, Nat.le_trans I.ok.bsz I.sz, fun b o e hb => ?_, fun b hb => (hex b hb).1, I.stack, I.stkFree⟩,
    rfl, I.bare, Un.kept hk, ⟨_, hns, fun i y v e1 e2 e3 => ?_⟩, fun y c e => ?_, I.hok.fresh (Nat.le_refl _), fun y c e => I.freeC y c (sub _ _ e), fun p hp => absurd (show p ∈ ([] : List (Addr × Obj)) from hp) (by simp), I.hok.kept hk, ?_⟩
  · have hy : (relabel scope X.env).names.lookup y = some .cell ∨ (relabel scope X.env).names.lookup y = some .free := hy
    rcases hy with hy | hy
    · rcases relabel_kind _ hy with q | ⟨_, q⟩
      · exact absurd rfl (B.cells _ q)
      · exact clOf_has _ _ q
    · rcases relabel_kind _ hy with q | ⟨q, _⟩
      · exact clOf_has _ _ q
      · cases q
  · exact absurd (show false = true from hf) (by simp)
  · exact ⟨Nat.ne_of_lt (hex b hb).2.1, fun y c e => (hex b hb).2.2.1 y c (sub _ _ e)⟩
  · have e' : X.base.get? b = some o := e
    have := (hex b hb).2.2.2
    rw [e'] at this; cases this
  · have hnl : (nones xs).length = xs.length := by unfold nones; rw [List.length_map]
    by_cases hi : i < xs.length
    · rw [List.getElem?_append_left (by rw [hnl]; exact hi)] at e2
      unfold nones at e2
      rw [List.getElem?_map, List.getElem?_eq_getElem hi] at e2
      cases e2
    · have hi' : xs.length ≤ i := Nat.le_of_not_lt hi
      have e1' : ys[i - xs.length]? = some y := by
        have e1 : (xs ++ ys)[i]? = some y := e1
        rwa [List.getElem?_append_right hi'] at e1
      have e2' : (caps js σ)[i - xs.length]? = some (some v) := by
        rwa [List.getElem?_append_right (by rw [hnl]; exact hi'), hnl] at e2
      obtain ⟨j, ej, en, ec, ef⟩ := cap.get e1'
      have e4 : σ[j]? = some (some v) := by
        unfold caps at e2'
        rw [List.getElem?_map, ej] at e2'
        simp only [Option.map_some, Option.some.injEq] at e2'
        cases q : σ[j]? with
        | none => rw [q] at e2'; cases e2'
        | some w => rw [q] at e2'; simp at e2'; rw [e2']
      obtain ⟨m, hn, hl⟩ := I.loc
      obtain ⟨u, r, l⟩ := hl j y v en e4 (.inr (.inl ec))
      refine ⟨u, r, .inr ?_⟩
      rcases l with ⟨kl, _⟩ | ⟨kc, c, ecl, cell⟩
      · have kl : X.env.scope.names.lookup y = some .local := kl
        rw [ec] at kl; cases kl
      · have e3 : (relabel scope X.env).names.lookup y = some .local ∨ (relabel scope X.env).names.lookup y = some .cell ∨ (relabel scope X.env).names.lookup y = some .free := e3
        refine ⟨?_, ?_⟩
        · rcases e3 with q | q | q
          · rcases relabel_kind _ q with q | ⟨q, _⟩
            · have := B.locs _ q rfl
              rw [ef] at this; cases this
            · cases q
          · exact .inl q
          · exact .inr q
        · have mem : (y, NameKind.free) ∈ scope.names := PySem.mem_of_lookup ef
          obtain ⟨c', ec'⟩ := clOf_has (env := X.env) scope.names [] mem
          have := sub _ _ ec'
          rw [ecl] at this; cases this
          obtain ⟨o, ho, hd⟩ := cell
          exact ⟨c, ec', o, hk _ _ ho, hd⟩
  · obtain ⟨v, o, ho, hd⟩ := I.cell y c (sub _ _ e)
    exact ⟨v, o, hk _ _ ho, hd⟩
  · show (nones xs ++ caps js σ).length = (xs ++ ys).length
    rw [List.length_append, List.length_append, cap.len]
    unfold caps nones
    rw [List.length_map, List.length_map]
def tCompT (n : List Str) (js : List Nat) (wi : TI) (g : TG) (te : TE) : TE := fun σ H Q => wi σ H fun J H1 => ∃ W : Nat → Nat → St → List V → Hp → Prop, (∃ m, W 0 m (nones n ++ caps js σ) [] H1) ∧ ∀ i m σB acc H, W i m σB acc H →
  (J.stop i H ∧ acc.length ≤ sizeLine ∧ ∀ p, H p = none → Q (.ref p) (upd H p (.lst acc))) ∨ (J.go i H ∧ acc.length < sizeLine ∧ ∀ x H', J.yld i H x H' →
    g x σB H' fun σ2 H2 => te σ2 H2 fun y H3 => ∃ m', m' < m ∧ W (i + 1) m' σ2 (acc ++ [y]) H3)
theorem comp_runT {X : Cx} {pins : List (Addr × Obj)} {σ : St} {H : Hp} {s2 : Shared} {elt iter : Expr} {es : List Expr} {ek} {tp pos : Pos} {scope : Scope} {g : TG} {te : TE} {xs ys : List Str} {js : List Nat} {it : Addr} {fp : List Addr} {tn : Nat → Heap → Prop} {J : It}
    {Q : VK} {E : Value → Shared → Prop} {RR : Value → Addr → Result → Shared → Prop} (hc : X.calm = true) (B : BScopeT X scope xs) (cap : capOk X scope ys js)
    (hg : ∀ C s3 H3 ex, PG (cxB X (xs ++ ys) scope C s3 H3 ex) (.Tuple es ek tp) g) (he : ∀ C s3 H3 ex, PE (cxB X (xs ++ ys) scope C s3 H3 ex) elt te)
    (I : Inv X pins σ H s2) (T : Turn X.prog X.w X.K (.Tuple es ek tp) J fp it tn) (h0 : tn 0 s2.heap) (hf : ∀ b ∈ fp, FpOk X pins H b)
    (W : Nat → Nat → St → List V → Hp → Prop) (w0 : ∃ m, W 0 m (nones xs ++ caps js σ) [] H)
    (turn : ∀ i m σB acc H, W i m σB acc H → (J.stop i H ∧ acc.length ≤ sizeLine ∧ ∀ p, H p = none → Q (.ref p) (upd H p (.lst acc))) ∨ (J.go i H ∧ acc.length < sizeLine ∧ ∀ x H', J.yld i H x H' →
      g x σB H' fun σ2 H2 => te σ2 H2 fun y H3 => ∃ m', m' < m ∧ W (i + 1) m' σ2 (acc ++ [y]) H3))
    (hRR : ∀ (D C : Addr) (H' : Hp) (s' : Shared) (m' : Str → Option Value), s'.heap.Ns C m' → s2.heap.objs.size ≤ C → C ≠ D → H' C = none → Inv X pins σ H' s' → Q (.ref D) H' → RR (.ref D) C (.ok .next) s') :
    wpAny (model X.prog X.w) X.A (newList []) (fun acc s₃ => wpAny (model X.prog X.w) X.A (newFunctionEnv scope X.env.globals (clOf X.env scope.names []) [] X.env.qual none .none (some X.env)) (fun cenv s₄ =>
      codeAny (model X.prog X.w) X.A (.compStart (.ListComp elt [⟨.Tuple es ek tp, iter, [], 0⟩] scope pos) 0 (.ref it) acc { cenv with scope := relabel scope X.env }) (RR acc cenv.locals) s₄) E s₃) E s2 := by
  refine wpAny_newObj_type (wpAny_newFunctionEnv B.cells (by intro y hy; simp at hy) (fun h1 hns hsb => ?_) B.kind)
  dsimp only at hns hsb ⊢
  have hD : H s2.heap.objs.size = none := I.hok.fresh (Nat.le_refl _)
  generalize hH2 : s2.heap.push { cls := .type "list", dict := none, data := .seq ([] : List Value).toArray } = P2 at hns hsb ⊢
  have hgetD : P2.get? s2.heap.objs.size = some { cls := .type "list", dict := none, data := .seq ([] : List Value).toArray } := by rw [← hH2]; exact Heap.get?_push_size _ rfl
  have hold : ∀ b o, s2.heap.get? b = some o → P2.get? b = some o := fun b o e => by rw [← hH2]; exact Heap.get?_push_of_some _ e
  have hsz : P2.objs.size = s2.heap.objs.size + 1 := by rw [← hH2, Heap.size_push]
  have I3 : Inv X pins σ H { s2 with heap := P2, toks := s2.toks } := I.kept hold
  generalize hDe : s2.heap.objs.size = D at *
  have keep1 : ∀ b o, P2.get? b = some o → h1.get? b = some o := fun b o e => hsb.extBut b o (Nat.ne_of_lt (Heap.lt_size e)) (Heap.get?_push_of_some _ e)
  have hfp : ∀ b ∈ fp, b < D := fun b hb => by
    obtain ⟨o, e, _⟩ := T.obj _ _ h0 b hb
    rw [← hDe]
    exact Heap.lt_size e
  have hstk : ∀ b, b ≠ X.env.locals → b ∉ X.fs → b ∉ frs X.stack := fun b h1 h2 z => (List.mem_cons.mp (I.stkSub b z)).elim h1 h2
  have hDl : D ≠ X.env.locals := fun z => absurd I.lt (by rw [hDe, z]; exact Nat.lt_irrefl _)
  have hDfs : D ∉ X.fs := I.nofs (by rw [hDe]; exact Nat.le_refl _)
  have hDc : ∀ y c, X.env.cells.lookup y = some c → c ≠ D := fun y c e z => by
    obtain ⟨v, q⟩ := I.cell y c e
    have := q.lt
    rw [z, hDe] at this
    exact absurd this (Nat.lt_irrefl _)
  have hex : ∀ b ∈ D :: fp, b ∉ frs X.stack ∧ b < ({ s2 with heap := P2, toks := s2.toks } : Shared).heap.objs.size ∧ (∀ y c, X.env.cells.lookup y = some c → c ≠ b) ∧ X.base.get? b = none := fun b hb => by
    rcases List.mem_cons.mp hb with rfl | hb
    · refine ⟨hstk _ hDl hDfs, by show _ < P2.objs.size; rw [hsz]; exact Nat.lt_succ_self _, hDc, ?_⟩
      cases q : X.base.get? b with
      | none => rfl
      | some o =>
        have := Heap.lt_size (I.bk b o q)
        rw [hDe] at this
        exact absurd this (Nat.lt_irrefl _)
    · obtain ⟨f0, f1, f2, f3, f4, f5⟩ := hf b hb
      refine ⟨hstk _ f1 f2, by show _ < P2.objs.size; rw [hsz]; exact Nat.lt_succ_of_lt (hfp b hb), f4, ?_⟩
      cases q : X.base.get? b with
      | none => rfl
      | some o =>
        rcases f3 with z | z
        · exact absurd z (I.ok.noex b o q)
        · exact absurd (Nat.lt_of_lt_of_le (Heap.lt_size q) (Nat.le_trans I.ok.bsz z)) (Nat.lt_irrefl _)
  have IB := inv_blockT (tk := s2.toks) (ex := D :: fp) I3 hc B cap (h1 := h1) hns keep1 hex
  have hCD : P2.objs.size ≠ D := by rw [hsz]; exact Nat.succ_ne_self _
  have start : codeAny (model X.prog X.w) X.A (.compLoop (.ListComp elt [⟨.Tuple es ek tp, iter, [], 0⟩] scope pos) 0 (.ref it) (.ref D) (compEnvC scope (clOf X.env scope.names []) P2.objs.size X.env)) (RR (.ref D) P2.objs.size) { s2 with heap := h1, toks := s2.toks } := by
    obtain ⟨m0, w0⟩ := w0
    refine LCp.codeAny_compLoop_pair (fun n s => ∃ i σB H' acc its k, Inv (cxB X (xs ++ ys) scope P2.objs.size { s2 with heap := P2, toks := s2.toks } H (D :: fp)) [] σB H' s ∧ tn i s.heap ∧ (∀ b ∈ D :: fp, H' b = none) ∧ s.heap.get? D = some { cls := .type "list", data := .seq its k } ∧ Vals acc its.toList ∧ acc.length ≤ sizeLine ∧ W i n σB acc H') ?_ m0 ?_
    · rintro n s ⟨i, σB, H3, acc, its, k, I4, t4, fr4, g4, va, hl4, w4⟩
      have hDm : D ∈ D :: fp := List.mem_cons_self
      have exf := I4.ok.exf
      have fsub : ∀ b ∈ D :: fp, b ∉ (cxB X (xs ++ ys) scope P2.objs.size { s2 with heap := P2, toks := s2.toks } H (D :: fp)).fs := fun b hb => (hex b hb).1
      have stat : ∀ {H' : Hp} {ob : Obj}, (∀ b ∈ fp, H' b = none) → ∀ b ∈ fp, FpOk (cxB X (xs ++ ys) scope P2.objs.size { s2 with heap := P2, toks := s2.toks } H (D :: fp)) [(D, ob)] H' b := fun {H' ob} hn b hb =>
        ⟨hn b hb, (exf b (List.mem_cons_of_mem _ hb)).1, fsub b (List.mem_cons_of_mem _ hb), .inl (List.mem_cons_of_mem _ hb), (exf b (List.mem_cons_of_mem _ hb)).2, fun p hp z => by
          have hp' : p ∈ [(D, ob)] := hp
          have e := List.mem_singleton.mp hp'
          rw [e] at z
          exact absurd (hfp b hb) (by rw [← show D = b from z]; exact Nat.lt_irrefl _)⟩
      have frp : ∀ b ∈ fp, H3 b = none := fun b hb => fr4 b (List.mem_cons_of_mem _ hb)
      have I5 : Inv (cxB X (xs ++ ys) scope P2.objs.size { s2 with heap := P2, toks := s2.toks } H (D :: fp)) [(D, { cls := .type "list", data := .seq its k })] σB H3 s := I4.pins_of fun p hp => by
        rw [List.mem_singleton.mp hp]
        exact ⟨g4, fr4 D hDm, (exf D hDm).1, fsub D hDm, fun v z => nomatch z⟩
      rcases turn i n σB acc H3 w4 with ⟨stop, hacc, q⟩ | ⟨go, hacc, step⟩
      · refine wpAny_mono (T.done (cxB X (xs ++ ys) scope P2.objs.size { s2 with heap := P2, toks := s2.toks } H (D :: fp)) rfl rfl rfl rfl i _ s _ H3 (fun _ _ => False) I5 (stat frp) t4 stop) (fun r s1 ⟨hr, I6⟩ => ?_) (fun _ _ z => z.elim)
        subst hr
        obtain ⟨m', hn', _⟩ := id I6.loc
        have pD := (I6.pin (D, { cls := .type "list", data := .seq its k }) (List.mem_append_right _ (List.mem_singleton.mpr rfl))).1
        have nD : H3 D = none := fr4 D hDm
        have u := I6.base
        have uu : Un (frs X.stack) (D :: fp) H (upd H3 D (.lst acc)) P2 s1.heap :=
          ⟨u.keep, u.slot, fun b o q n hx => by rw [upd_ne fun z => hx (by rw [z]; exact hDm)]; exact u.free b o q n hx, u.there,
           fun b xs q => by rw [upd_ne (ne_of_none (u.tups b xs q) nD)]; exact u.tups b xs q, fun b o v q => by rw [upd_ne (ne_of_none (u.frzs b o v q) nD)]; exact u.frzs b o v q,
           fun b ps q => by
            obtain ⟨more, z⟩ := u.tbls b ps q
            exact ⟨more, by rw [upd_ne (ne_of_none z nD)]; exact z⟩⟩
        have hok : HOk X.prog X.w (upd H3 D (.lst acc)) s1.heap := fun b o e => by
          by_cases hb : b = D
          · subst hb
            rw [upd_same] at e; cases e
            exact ⟨hacc, its.toList, k, va, by rw [Array.toArray_toList]; exact pD⟩
          · rw [upd_ne hb] at e
            exact (I6.hok b o e).stay (fun c v _ q => q) (fun c q => by rw [upd_ne (ne_of_none q nD)]; exact q) fun c xs q => by rw [upd_ne (ne_of_none q nD)]; exact q
        have fin := I3.call (g' := s1.gens) (t' := s1.toks) (d' := s1.drawn) uu hok I6.bare (fun b hb => by
          rcases List.mem_cons.mp hb with z | hb
          · rw [z]
            refine ⟨.inr (by rw [← hDe]; exact I.sz), hDl, hDc, fun p hp z => ?_⟩
            have := Heap.lt_size (I.pin p hp).1
            rw [z, hDe] at this
            exact Nat.lt_irrefl _ this
          · exact ⟨(hf b hb).2.2.2.1, (hf b hb).2.1, (hf b hb).2.2.2.2.1, (hf b hb).2.2.2.2.2⟩)
        have es' : ({ heap := s1.heap, gens := s1.gens, drawn := s1.drawn, toks := s1.toks, os := s2.os } : Shared) = s1 := by
          have := I6.os
          obtain ⟨a1, a2, a3, a4, a5⟩ := s1
          have e5 : a5 = s2.os := this
          rw [e5]
        have fin' : Inv X pins σ (upd H3 D (.lst acc)) s1 := es' ▸ fin
        exact hRR D P2.objs.size (upd H3 D (.lst acc)) s1 m' hn' (by rw [hsz]; exact Nat.le_succ _) hCD (by rw [upd_ne hCD]; exact I6.free) fin' (q D nD)
      · refine wpAny_mono (T.item (cxB X (xs ++ ys) scope P2.objs.size { s2 with heap := P2, toks := s2.toks } H (D :: fp)) rfl rfl rfl rfl i _ s _ H3 (fun _ _ => False) I5 (stat frp) t4 go) (fun r s1 ⟨u, hr, h4⟩ => ?_) (fun _ _ z => z.elim)
        subst hr
        refine wpAny_mono h4 (fun _ s1' ⟨x', H5, I6, r6, y6, t6, fr6⟩ => ?_) (fun _ _ z => z.elim)
        have I7 := I6.pinned (stat fr6) (T.obj _ _ t6)
        refine wpAny_mono (hg _ _ _ _ _ s1' _ H5 x' u _ I7 r6 (step x' H5 y6)) (fun _ s2' ⟨σ6, H6, I8, q8⟩ => ?_) (fun _ _ z => z.elim)
        have pinsKeep : ∀ {σ' : St} {H' : Hp} {s' : Shared}, Inv (cxB X (xs ++ ys) scope P2.objs.size { s2 with heap := P2, toks := s2.toks } H (D :: fp)) ([(D, { cls := .type "list", data := .seq its k })] ++ pinsAt fp s1'.heap) σ' H' s' →
            s'.heap.get? D = some { cls := .type "list", data := .seq its k } ∧ (∀ b ∈ D :: fp, H' b = none) ∧ ∀ b ∈ fp, ∀ o, s1'.heap.get? b = some o → s'.heap.get? b = some o := fun {σ' H' s'} J => by
          have pd := J.pin (D, { cls := .type "list", data := .seq its k }) (List.mem_append_right _ (List.mem_append_left _ (List.mem_singleton.mpr rfl)))
          refine ⟨pd.1, fun b hb => ?_, fun b hb o e => (J.pin (b, o) (List.mem_append_right _ (List.mem_append_right _ (mem_pinsAt hb e)))).1⟩
          rcases List.mem_cons.mp hb with rfl | hb
          · exact pd.2.1
          · obtain ⟨o, e, _⟩ := T.obj _ _ t6 b hb
            exact (J.pin (b, o) (List.mem_append_right _ (List.mem_append_right _ (mem_pinsAt hb e)))).2.1
        refine wpAny_mono (he _ _ _ _ _ s2' _ _ _ I8 q8) (fun y s4' ⟨yv, H8, I10, ry, m', hm, w10⟩ => ?_) (fun _ _ z => z.elim)
        obtain ⟨p1, p2, p3⟩ := pinsKeep I10
        have hsize : its.size = acc.length := by rw [va.length]; simp
        have I11 := I10.pins_of (pins' := []) (fun p hp => absurd hp (by simp))
        refine wpAny_list_append_plain ⟨k, p1⟩ (fun h' hpl hsame => ?_) (by rw [hsize]; exact Nat.le_of_lt hacc)
        obtain ⟨k', e'⟩ := hpl
        have neD : ∀ {b : Addr} {o : HO}, H8 b = some o → b ≠ D := fun e z => by rw [z, p2 D hDm] at e; cases e
        refine ⟨m', hm, i + 1, σ6, H8, acc ++ [yv], its.push y, k', ?_, ?_, p2, e', ?_, ?_, w10⟩
        · refine I11.step (g' := s4'.gens) (t' := s4'.toks) (d' := s4'.drawn) (ch := [D]) (fun b hb => ?_) (fun b o _ _ hc' e _ => ?_) (fun b o _ _ hc' e _ => ⟨o.slots, ?_⟩) (fun b o hc' e n => n) (fun b o hc' e => ⟨o, ?_⟩) (fun _ _ z => z) (fun _ _ _ z => z) (fun b ps z => ⟨#[], by rw [z]; simp⟩) (fun m hn => hn.sameBut hsame (Ne.symm (exf D hDm).1)) (fun b o e => ?_) I11.bare
          · rw [List.mem_singleton.mp hb]
            exact ⟨.inl hDm, (exf D hDm).1, (exf D hDm).2, fun p hp => absurd (show p ∈ ([] : List (Addr × Obj)) from hp) (by simp)⟩
          · exact (hsame.2 b fun z => hc' (List.mem_singleton.mpr z)).trans e
          · exact (hsame.2 b fun z => hc' (List.mem_singleton.mpr z)).trans e
          · exact (hsame.2 b fun z => hc' (List.mem_singleton.mpr z)).trans e
          · refine (I11.hok b o e).stay (fun c v hc' q => (hsame.2 c ?_).trans q) (fun _ q => q) fun _ _ q => q
            rcases hc' with z | z
            · rw [z]; exact neD e
            · exact neD z
        · refine T.keep _ _ _ t6 fun b hb o e => (hsame.2 b ?_).trans (p3 b hb o e)
          exact Nat.ne_of_lt (hfp b hb)
        · rw [Array.toList_push]
          exact va.append (.cons ry .nil)
        · rw [List.length_append, List.length_singleton]; exact hacc
    · refine ⟨0, nones xs ++ caps js σ, H, [], #[], _, IB, T.keep _ _ _ h0 (fun b hb o e => keep1 b o (hold b o e)), fun b hb => ?_, keep1 _ _ hgetD, .nil, Nat.zero_le _, w0⟩
      rcases List.mem_cons.mp hb with rfl | hb
      · exact hD
      · exact (hf b hb).1
  exact codeAny_compStart_list start (T.self _ 0 _ _ _ (T.keep _ _ _ h0 (fun b hb o e => keep1 b o (hold b o e))) start)
theorem pe_compT {X : Cx} {elt iter : Expr} {es : List Expr} {ek} {tp pos : Pos} {scope : Scope} {wi : TI} {g : TG} {te : TE} {xs ys : List Str} {js : List Nat} (hc : X.calm = true) (hi : PI X (.Tuple es ek tp) iter wi) (B : BScopeT X scope xs) (cap : capOk X scope ys js)
    (hg : ∀ C s3 H3 ex, PG (cxB X (xs ++ ys) scope C s3 H3 ex) (.Tuple es ek tp) g) (he : ∀ C s3 H3 ex, PE (cxB X (xs ++ ys) scope C s3 H3 ex) elt te) (hs : ∀ x, foldedSetIterable iter X.env x = pure x) :
    PE X (.ListComp elt [⟨.Tuple es ek tp, iter, [], 0⟩] scope pos) (tCompT xs js wi g te) := by
  intro pins s σ H Q I h
  have hcl := closure_of (scope := scope) (env := X.env) fun y hy hf => I.ok.has y.1 (.inl (B.free y hy hf))
  rw [eval_ListComp]
  refine wpAny_comprehension_free (use := none) rfl hs hcl B.kind B.locs (wpAny_mono (hi pins s σ H _ I h) (fun xv s1 h1 => wpAny_mono h1 (fun itv s2 h2 => ?_) fun _ _ e => e) fun _ _ e => e)
  obtain ⟨it, fp, tn, J, H2, e, I2, T, st2, f2, W, w0, turn⟩ := h2
  subst e
  refine comp_runT (RR := fun acc C => compPost (model X.prog X.w) X.A X.xe none (EP X pins σ Q) acc C) hc B cap hg he I2 T st2 f2 W w0 turn ?_
  intro D C H' s' m' hn hC hCD hCn I' q
  refine ⟨m', hn, fun h' hs' => ⟨.ref D, H', ?_, rfl, q⟩⟩
  have hL : X.env.locals ≠ C := Nat.ne_of_lt (Nat.lt_of_lt_of_le I2.lt hC)
  have neC : ∀ {b : Addr} {o : HO}, H' b = some o → b ≠ C := fun e z => by rw [z, hCn] at e; cases e
  refine I'.step (g' := s'.gens) (t' := s'.toks) (d' := s'.drawn) (ch := [C]) (fun b hb => ?_) (fun b o _ _ hc' e _ => ?_) (fun b o _ _ hc' e _ => ⟨o.slots, ?_⟩) (fun b o hc' e n => n) (fun b o hc' e => ⟨o, ?_⟩) (fun _ _ z => z) (fun _ _ _ z => z) (fun b ps z => ⟨#[], by rw [z]; simp⟩) (fun m hn => hn.sameBut hs' hL) (fun b o e => ?_) I'.bare
  · rw [List.mem_singleton.mp hb]
    refine ⟨.inr (Nat.le_trans I2.sz hC), Ne.symm hL, fun y c e z => ?_, fun p hp z => ?_⟩
    · obtain ⟨v, q⟩ := I2.cell y c e
      have := q.lt
      rw [z] at this
      exact absurd (Nat.lt_of_lt_of_le this hC) (Nat.lt_irrefl _)
    · have := Heap.lt_size (I2.pin p hp).1
      rw [z] at this
      exact absurd (Nat.lt_of_lt_of_le this hC) (Nat.lt_irrefl _)
  · exact (hs'.2 b fun z => hc' (List.mem_singleton.mpr z)).trans e
  · exact (hs'.2 b fun z => hc' (List.mem_singleton.mpr z)).trans e
  · exact (hs'.2 b fun z => hc' (List.mem_singleton.mpr z)).trans e
  · refine (I'.hok b o e).stay (fun c v hc' q => (hs'.2 c ?_).trans q) (fun _ q => q) fun _ _ q => q
    rcases hc' with z | z
    · rw [z]; exact neC e
    · exact neC z
structure JGs (X : Cx) (N : List Str) (scope : Scope) (es : List Expr) (t : TGs) : Prop where
  h : ∀ C s3 H3 ex, PGs (cxB X N scope C s3 H3 ex) es t
theorem eGs0 {X : Cx} {N : List Str} {scope : Scope} : JGs X N scope [] gNil := ⟨fun _ _ _ _ => pgs_nil⟩
theorem eGsC {X : Cx} {N : List Str} {scope : Scope} {es : List Expr} {u : TGs} {i : Nat} {x : Str} {px : Pos} (nd : N.Nodup) (hi : N[i]? = some x) (hv : scope.names.lookup x = some .local) (h : JGs X N scope es u) : JGs X N scope (.Name x px :: es) (gCons (gName i) u) :=
  ⟨fun C s3 H3 ex => pgs_cons (pg_name nd hi (.inl (lookup_relabel_local hv)) (.inr (lookup_relabel_local hv))) (h.h C s3 H3 ex) rfl⟩
theorem eCompT {X : Cx} {elt iter : Expr} {es : List Expr} {ek} {tp pos : Pos} {scope : Scope} {wi : TI} {u : TGs} {te : TE} {js : List Nat} {n : Nat} (xs ys : List Str) (hi : JI X (.Tuple es ek tp) iter wi) (hg : JGs X (xs ++ ys) scope es u) (he : JC X (xs ++ ys) scope elt te) (hc : X.calm = true) (B : BScopeT X scope xs) (cap : capOk X scope ys js)
    (hn : ∀ env, (assignEach es env).length = n) (hst : ∀ env, (assignEach es env).findIdx? (·.1) = none) (hs : ∀ x, foldedSetIterable iter X.env x = pure x) :
    JE X (.ListComp elt [⟨.Tuple es ek tp, iter, [], 0⟩] scope pos) (tCompT xs js wi (gTup X.K n u) te) :=
  ⟨pe_compT hc hi.h B cap (fun C s3 H3 ex => pg_tup rfl (hg.h C s3 H3 ex) (hn _) (hst _)) he.h hs⟩
def bscopeOkT (sc scope : Scope) : Bool :=
  (scope.kind == .function) && scope.names.all (fun y => y.2 != .cell) && scope.names.all (fun y => y.2 != .local || scope.names.lookup y.1 == some .local) && scope.names.all (fun y => y.2 != .free || sc.names.lookup y.1 == some .cell)
theorem bscT {X : Cx} {sc scope : Scope} {xs : List Str} (e : X.env.scope = sc) (h : bscopeOkT sc scope = true) : BScopeT X scope xs := by
  unfold bscopeOkT at h
  simp only [Bool.and_eq_true, List.all_eq_true, Bool.or_eq_true, bne_iff_ne, beq_iff_eq, ne_eq] at h
  obtain ⟨⟨⟨h1, h2⟩, h3⟩, h5⟩ := h
  exact ⟨h1, fun y hy => h2 y hy, fun y hy e => (h3 y hy).resolve_left fun z => z e, fun y hy e' => by rw [e]; exact (h5 y hy).resolve_left fun z => z e'⟩
section
variable {K : PySem.W.Frag} {n : List Str} {js : List Nat} {g : TG} {te : TE} {σ : St} {H : Hp} {Q : VK} {a : Addr} {xs : List V}
theorem i_compT {wi : TI} (h : wi σ H fun J H1 => ∃ W : Nat → Nat → St → List V → Hp → Prop, (∃ m, W 0 m (nones n ++ caps js σ) [] H1) ∧ ∀ i m σB acc H, W i m σB acc H →
  (J.stop i H ∧ acc.length ≤ sizeLine ∧ ∀ p, H p = none → Q (.ref p) (upd H p (.lst acc))) ∨ (J.go i H ∧ acc.length < sizeLine ∧ ∀ x H', J.yld i H x H' →
    g x σB H' fun σ2 H2 => te σ2 H2 fun y H3 => ∃ m', m' < m ∧ W (i + 1) m' σ2 (acc ++ [y]) H3)) : tCompT n js wi g te σ H Q := h
theorem compT_tup (Pv : Nat → List V → Hp → Prop) (h0 : Pv 0 [] H) (hl : ∀ i acc H, i ≤ xs.length → Pv i acc H → SqT K H a xs ∧ acc.length ≤ i) (hz : xs.length ≤ sizeLine)
    (hs : ∀ i x acc H σB (C : St → List V → Hp → Prop), σB.length = n.length + js.length → xs[i]? = some x → Pv i acc H → (∀ σ2 acc' H', σ2.length = n.length + js.length → Pv (i + 1) acc' H' → C σ2 acc' H') →
      g x σB H fun σ2 H2 => te σ2 H2 fun y H3 => C σ2 (acc ++ [y]) H3)
    (hd : ∀ acc H, Pv xs.length acc H → ∀ p, H p = none → Q (.ref p) (upd H p (.lst acc))) :
    ∃ W : Nat → Nat → St → List V → Hp → Prop, (∃ m, W 0 m (nones n ++ caps js σ) [] H) ∧ ∀ i m σB acc H, W i m σB acc H →
      ((Itt K a).stop i H ∧ acc.length ≤ sizeLine ∧ ∀ p, H p = none → Q (.ref p) (upd H p (.lst acc))) ∨ ((Itt K a).go i H ∧ acc.length < sizeLine ∧ ∀ x H', (Itt K a).yld i H x H' →
        g x σB H' fun σ2 H2 => te σ2 H2 fun y H3 => ∃ m', m' < m ∧ W (i + 1) m' σ2 (acc ++ [y]) H3) := by
  refine ⟨fun i m σB acc H => m = xs.length - i ∧ i ≤ xs.length ∧ σB.length = n.length + js.length ∧ Pv i acc H, ⟨xs.length, by simp, Nat.zero_le _, by simp [nones, caps], h0⟩, ?_⟩
  rintro i m σB acc H ⟨rfl, hi, hσ, p⟩
  obtain ⟨q, hacc⟩ := hl i acc H hi p
  by_cases hlt : i < xs.length
  · refine .inr ⟨⟨xs, xs[i], q, by simp [hlt]⟩, by omega, fun x H' y => ?_⟩
    obtain ⟨e, y⟩ := y
    subst e
    exact hs i x acc _ σB (fun σ2 acc' H' => ∃ m', m' < xs.length - i ∧ (m' = xs.length - (i + 1) ∧ i + 1 ≤ xs.length ∧ σ2.length = n.length + js.length ∧ Pv (i + 1) acc' H')) hσ (y xs q) p fun σ2 acc' H' hσ' p' => ⟨xs.length - (i + 1), by omega, rfl, hlt, hσ', p'⟩
  · have e : i = xs.length := by omega
    subst e
    exact .inl ⟨⟨xs, q, Nat.le_refl _⟩, by omega, hd acc H p⟩
end
section
variable {K : PySem.W.Frag} {js : List Nat} {ti : TE} {tt : TT} {te : TE} {σ : St} {H : Hp} {Q : VK} {a : Addr} {xs : List V}
theorem c_listF (q : V → Bool) (f : V → V) (hq : SqL K H a xs) (hz : xs.length ≤ sizeLine) (hi : ∀ R : VK, R (.ref a) H → ti σ H R) (ht : ∀ x ∈ xs, ∀ Q' : Bool → Hp → Prop, Q' (q x) H → tt (some x :: caps js σ) H Q') (he : ∀ x ∈ xs, q x = true → ∀ Q' : VK, Q' (f x) H → te (some x :: caps js σ) H Q')
    (h : ∀ p, H p = none → Q (.ref p) (upd H p (.lst ((xs.filter q).map f)))) : tComp js (iList K ti) tt te σ H Q := i_comp (hi _ ⟨a, rfl, ⟨xs, hq⟩, comp_listF q f hq hz ht he h⟩)
theorem c_tupF (q : V → Bool) (f : V → V) (hq : SqT K H a xs) (hz : xs.length ≤ sizeLine) (hi : ∀ R : VK, R (.ref a) H → ti σ H R) (ht : ∀ x ∈ xs, ∀ Q' : Bool → Hp → Prop, Q' (q x) H → tt (some x :: caps js σ) H Q') (he : ∀ x ∈ xs, q x = true → ∀ Q' : VK, Q' (f x) H → te (some x :: caps js σ) H Q')
    (h : ∀ p, H p = none → Q (.ref p) (upd H p (.lst ((xs.filter q).map f)))) : tComp js (iTup K ti) tt te σ H Q := i_comp (hi _ ⟨a, rfl, ⟨xs, hq⟩, comp_tupF q f hq hz ht he h⟩)
theorem c_listI (Pv : Nat → List V → Hp → Prop) (hq : SqL K H a xs) (hz : xs.length ≤ sizeLine) (hi : ∀ R : VK, R (.ref a) H → ti σ H R) (h0 : Pv 0 [] H) (hl : ∀ i acc H, i ≤ xs.length → Pv i acc H → SqL K H a xs ∧ acc.length ≤ i)
    (hs : ∀ i x acc H (C : List V → Hp → Prop), xs[i]? = some x → Pv i acc H → (∀ acc' H', Pv (i + 1) acc' H' → C acc' H') →
      tt (some x :: caps js σ) H fun b H2 => if b = true then te (some x :: caps js σ) H2 fun y H3 => C (acc ++ [y]) H3 else C acc H2)
    (hd : ∀ acc H, Pv xs.length acc H → ∀ p, H p = none → Q (.ref p) (upd H p (.lst acc))) : tComp js (iList K ti) tt te σ H Q := i_comp (hi _ ⟨a, rfl, ⟨xs, hq⟩, comp_listI Pv h0 hl hz hs hd⟩)
theorem c_tupI (Pv : Nat → List V → Hp → Prop) (hq : SqT K H a xs) (hz : xs.length ≤ sizeLine) (hi : ∀ R : VK, R (.ref a) H → ti σ H R) (h0 : Pv 0 [] H) (hl : ∀ i acc H, i ≤ xs.length → Pv i acc H → SqT K H a xs ∧ acc.length ≤ i)
    (hs : ∀ i x acc H (C : List V → Hp → Prop), xs[i]? = some x → Pv i acc H → (∀ acc' H', Pv (i + 1) acc' H' → C acc' H') →
      tt (some x :: caps js σ) H fun b H2 => if b = true then te (some x :: caps js σ) H2 fun y H3 => C (acc ++ [y]) H3 else C acc H2)
    (hd : ∀ acc H, Pv xs.length acc H → ∀ p, H p = none → Q (.ref p) (upd H p (.lst acc))) : tComp js (iTup K ti) tt te σ H Q := i_comp (hi _ ⟨a, rfl, ⟨xs, hq⟩, comp_tupI Pv h0 hl hz hs hd⟩)
theorem cT_tup {n : List Str} {g : TG} (Pv : Nat → List V → Hp → Prop) (hq : SqT K H a xs) (hz : xs.length ≤ sizeLine) (hi : ∀ R : VK, R (.ref a) H → ti σ H R) (h0 : Pv 0 [] H) (hl : ∀ i acc H, i ≤ xs.length → Pv i acc H → SqT K H a xs ∧ acc.length ≤ i)
    (hs : ∀ i x acc H σB (C : St → List V → Hp → Prop), σB.length = n.length + js.length → xs[i]? = some x → Pv i acc H → (∀ σ2 acc' H', σ2.length = n.length + js.length → Pv (i + 1) acc' H' → C σ2 acc' H') →
      g x σB H fun σ2 H2 => te σ2 H2 fun y H3 => C σ2 (acc ++ [y]) H3)
    (hd : ∀ acc H, Pv xs.length acc H → ∀ p, H p = none → Q (.ref p) (upd H p (.lst acc))) : tCompT n js (iTup K ti) g te σ H Q := i_compT (hi _ ⟨a, rfl, ⟨xs, hq⟩, compT_tup Pv h0 hl hz hs hd⟩)
end
section
variable {K : PySem.W.Frag} {js : List Nat} {ti : TE} {tt : TT} {te : TE} {σ : St} {H : Hp} {Q : VK} {a : Addr} {xs : List V}
/-- what is wanted of a comprehension once its list has come -/
def CompL (K : PySem.W.Frag) (js : List Nat) (tt : TT) (te : TE) (σ : St) (Q : VK) (x : V) (H1 : Hp) : Prop := ∃ a, x = .ref a ∧ (∃ xs, SqL K H1 a xs) ∧ ∃ W : Nat → Nat → List V → Hp → Prop, (∃ m, W 0 m [] H1) ∧ ∀ i m acc H, W i m acc H →
  ((Itl K a).stop i H ∧ acc.length ≤ sizeLine ∧ ∀ p, H p = none → Q (.ref p) (upd H p (.lst acc))) ∨ ((Itl K a).go i H ∧ acc.length < sizeLine ∧ ∀ x H', (Itl K a).yld i H x H' →
    tt (some x :: caps js σ) H' fun b H2 => if b = true then te (some x :: caps js σ) H2 fun y H3 => ∃ m', m' < m ∧ W (i + 1) m' (acc ++ [y]) H3 else ∃ m', m' < m ∧ W (i + 1) m' acc H2)
theorem i_compG (h : ti σ H (CompL K js tt te σ Q)) : tComp js (iList K ti) tt te σ H Q := h
theorem CompL.of (Pv : Nat → List V → Hp → Prop) (hq : SqL K H a xs) (hz : xs.length ≤ sizeLine) (h0 : Pv 0 [] H) (hl : ∀ i acc H, i ≤ xs.length → Pv i acc H → SqL K H a xs ∧ acc.length ≤ i)
    (hs : ∀ i x acc H (C : List V → Hp → Prop), xs[i]? = some x → Pv i acc H → (∀ acc' H', Pv (i + 1) acc' H' → C acc' H') →
      tt (some x :: caps js σ) H fun b H2 => if b = true then te (some x :: caps js σ) H2 fun y H3 => C (acc ++ [y]) H3 else C acc H2)
    (hd : ∀ acc H, Pv xs.length acc H → ∀ p, H p = none → Q (.ref p) (upd H p (.lst acc))) : CompL K js tt te σ Q (.ref a) H := ⟨a, rfl, ⟨xs, hq⟩, comp_listI Pv h0 hl hz hs hd⟩
end
/-! ### xs[::k] -/
def pickV (xs : List V) (lo hi st : Option Int) : List V := (sliceRange (sliceBounds lo hi st xs.length).1 (sliceBounds lo hi st xs.length).2.1 (sliceBounds lo hi st xs.length).2.2).filterMap (xs[·]?)
theorem pickV_mem {xs : List V} {lo hi st : Option Int} {x : V} (h : x ∈ pickV xs lo hi st) : x ∈ xs := by
  obtain ⟨i, _, e⟩ := List.mem_filterMap.mp h
  exact List.mem_of_getElem? e
theorem vals_pick {xs : List V} {us : List Value} (r : Vals xs us) : ∀ is : List Nat, Vals (is.filterMap (xs[·]?)) (is.filterMap (us[·]?))
  | [] => .nil
  | i :: is => by
    have ih := vals_pick r is
    cases e : xs[i]? with
    | none =>
      have hi : us[i]? = none := by
        rw [List.getElem?_eq_none_iff] at e ⊢
        rw [← r.length]; exact e
      rw [List.filterMap_cons_none e, List.filterMap_cons_none hi]
      exact ih
    | some x =>
      obtain ⟨u, hu, ru⟩ := r.get e
      rw [List.filterMap_cons_some e, List.filterMap_cons_some hu]
      exact .cons ru ih
section
variable {X : Cx} {e st : Expr} {te : TE} {lo hi : Option Expr} {tl th ts : TO} {pos p2 : Pos}
def tSl3 (K : PySem.W.Frag) (te : TE) (tl th ts : TO) : TE := fun σ H Q => te σ H fun x H1 => tl σ H1 fun l H2 => th σ H2 fun u H3 => ts σ H3 fun k H4 => ∃ a xs, x = .ref a ∧ k ≠ some 0 ∧ SqL K H4 a xs ∧ ∀ p, H4 p = none → (pickV xs l u k).length ≤ xs.length → Q (.ref p) (upd H4 p (.lst (pickV xs l u k)))
theorem pe_slice3 (he : PE X e te) (hl : PO X lo tl) (hu : PO X hi th) (hst : PO X (some st) ts) : PE X (.Subscript e (.Slice lo hi (some st) p2) pos) (tSl3 X.K te tl th ts) := by
  intro pins s σ H Q I h
  refine Subscript_ (thn (he pins s σ H _ I h) fun v s1 ⟨x, H1, I1, r1, q1⟩ => ?_)
  refine wpAny_Slice (thn (hl pins s1 σ H1 _ I1 q1) fun vl s2 ⟨l, H2, I2, pl, q2⟩ => thn (hu pins s2 σ H2 _ I2 q2) fun vu s3 ⟨u, H3, I3, pu, q3⟩ => thn (hst pins s3 σ H3 _ I3 q3) fun vk s4 ⟨k, H4, I4, pk, q4⟩ => ?_)
  obtain ⟨a, xs, rfl, k0, hx, q⟩ := q4
  cases r1
  have I5 : Inv X pins σ H4 { s4 with heap := s4.heap.push { cls := .type "slice", data := .fields #[vl, vu, vk] } } := I4.kept (t' := s4.toks) fun b ob q => Heap.get?_push_of_some _ q
  obtain ⟨its, r, ht, hz⟩ := I5.list hx
  have hlen := r.length
  show wpAny (model X.prog X.w) X.A (subscriptTail e (.Slice lo hi (some st) p2) (.ref a) (.ref s4.heap.objs.size)) (EP X pins σ Q) X.xe { s4 with heap := s4.heap.push { cls := .type "slice", data := .fields #[vl, vu, vk] } }
  refine tail_any (ops := [.ref a, .ref s4.heap.objs.size]) ht.isList.typeIs slot_list_getitem.lookup ?_ (by with_unfolding_all rfl)
  refine wpAny_getItem_list_slice ht.isList (Heap.IsSliceOf.new ..) pl pu pk k0 ?_ (by rw [List.size_toArray] <;> omega)
  have hp : (slicePick its.toArray l u k).size ≤ its.toArray.size := slicePick_size_le _ _ _ _
  have es : slicePick its.toArray l u k = ((sliceRange (sliceBounds l u k xs.length).1 (sliceBounds l u k xs.length).2.1 (sliceBounds l u k xs.length).2.2).filterMap (its[·]?)).toArray := by
    unfold slicePick
    rw [List.size_toArray, ← hlen]
    congr 2
    funext i
    simp
  have rv := vals_pick r (sliceRange (sliceBounds l u k xs.length).1 (sliceBounds l u k xs.length).2.1 (sliceBounds l u k xs.length).2.2)
  have hpl : (pickV xs l u k).length ≤ xs.length := by
    have := rv.length
    rw [es, List.size_toArray] at hp
    unfold pickV
    rw [this]
    rw [List.size_toArray] at hp
    omega
  refine ⟨.ref _, _, I5.laid (t' := s4.toks) (o := .lst (pickV xs l u k)) (fun b ob q => Heap.get?_push_of_some _ q) (Nat.le_refl _) ?_, rfl, q _ (I5.hok.fresh (Nat.le_refl _)) hpl⟩
  exact ⟨Nat.le_trans hpl hz, _, 0, rv, by rw [← es]; exact Heap.get?_push_size _ rfl⟩
end
theorem eSl3 {X : Cx} {e st : Expr} {te : TE} {lo hi : Option Expr} {tl th ts : TO} {pos p2 : Pos} (he : JE X e te) (hl : JO X lo tl) (hu : JO X hi th) (hst : JO X (some st) ts) : JE X (.Subscript e (.Slice lo hi (some st) p2) pos) (tSl3 X.K te tl th ts) := ⟨pe_slice3 he.h hl.h hu.h hst.h⟩
theorem i_sl3 {K : PySem.W.Frag} {te : TE} {tl th ts : TO} {σ : St} {H : Hp} {Q : VK} (h : te σ H fun x H1 => tl σ H1 fun l H2 => th σ H2 fun u H3 => ts σ H3 fun k H4 => ∃ a xs, x = .ref a ∧ k ≠ some 0 ∧ SqL K H4 a xs ∧ ∀ p, H4 p = none → (pickV xs l u k).length ≤ xs.length → Q (.ref p) (upd H4 p (.lst (pickV xs l u k)))) : tSl3 K te tl th ts σ H Q := h
/-! ### == and != of two tuples of flat things, the module's own too -/
def flatD : V → PyData
  | .bl b => .bool b
  | .int i => .int i
  | .str x => .str x
  | _ => .none
theorem flat_reads {h : Heap} : ∀ {xs : List V} {us : List Value}, Vals xs us → xs.all flatV = true → ∃ as, ReadsAll h us (xs.map flatD) as
  | [], _, r, _ => by cases r; exact ⟨_, .nil⟩
  | x :: xs, _, r, f => by
    rw [List.all_cons, Bool.and_eq_true] at f
    cases r with
    | cons r1 r2 =>
      obtain ⟨as, q⟩ := flat_reads (h := h) r2 f.2
      have f1 := f.1
      cases x with
      | non => cases r1; exact ⟨_, .cons .none q⟩
      | bl b => cases r1; exact ⟨_, .cons (.bool b) q⟩
      | int i => obtain ⟨t, rfl⟩ := r1; exact ⟨_, .cons (.int i t) q⟩
      | str y => obtain ⟨t, rfl⟩ := r1; exact ⟨_, .cons (.str y t) q⟩
      | _ => cases f1
def rEqF (K : PySem.W.Frag) : R2 := fun x y H Q => ∃ a b xs ys, x = .ref a ∧ y = .ref b ∧ SqT K H a xs ∧ SqT K H b ys ∧ xs.all flatV = true ∧ ys.all flatV = true ∧ SeqAt.shaped (.tuple (xs.map flatD)) = true ∧ SeqAt.shaped (.tuple (ys.map flatD)) = true ∧ Q (.bl (PyData.eqv (.tuple (xs.map flatD)) (.tuple (ys.map flatD)))) H
def rNeF (K : PySem.W.Frag) : R2 := fun x y H Q => ∃ a b xs ys, x = .ref a ∧ y = .ref b ∧ SqT K H a xs ∧ SqT K H b ys ∧ xs.all flatV = true ∧ ys.all flatV = true ∧ SeqAt.shaped (.tuple (xs.map flatD)) = true ∧ SeqAt.shaped (.tuple (ys.map flatD)) = true ∧ Q (.bl (!PyData.eqv (.tuple (xs.map flatD)) (.tuple (ys.map flatD)))) H
section
variable {X : Cx}
theorem tup_reads {pins : List (Addr × Obj)} {σ : St} {H : Hp} {s : Shared} {a : Addr} {xs : List V} (I : Inv X pins σ H s) (h : SqT X.K H a xs) (f : xs.all flatV = true) : ∃ as, Reads s.heap (.ref a) (.tuple (xs.map flatD)) as := by
  obtain ⟨its, r, ht, _⟩ := I.tuple h
  obtain ⟨as, q⟩ := flat_reads (h := s.heap) r f
  obtain ⟨o, e, c, k, dd⟩ := ht
  exact ⟨_, .tuple e c dd (by simpa using q)⟩
theorem op_eqF (hu : X.A.units + 64 < cLine) : OpR X (compareOp .Eq) (rEqF X.K) := by
  intro pins s σ H x y v u Q I rx ry h
  obtain ⟨a, b, xs, ys, rfl, rfl, h1, h2, f1, f2, s1, s2, hq⟩ := h
  cases rx
  cases ry
  obtain ⟨as, r1⟩ := tup_reads I h1 f1
  obtain ⟨bs, r2⟩ := tup_reads I h2 f2
  exact SeqAt.compareEq_shaped r1 r2 s1 s2 hu ⟨.bl _, H, I, rfl, hq⟩
theorem op_neF (hu : X.A.units + 64 < cLine) : OpR X (compareOp .NotEq) (rNeF X.K) := by
  intro pins s σ H x y v u Q I rx ry h
  obtain ⟨a, b, xs, ys, rfl, rfl, h1, h2, f1, f2, s1, s2, hq⟩ := h
  cases rx
  cases ry
  obtain ⟨as, r1⟩ := tup_reads I h1 f1
  obtain ⟨bs, r2⟩ := tup_reads I h2 f2
  exact SeqAt.compareNe_shaped r1 r2 s1 s2 hu ⟨.bl _, H, I, rfl, hq⟩
end
/-! ### the truth of a list, a tuple, a dict -/
def tTru (K : PySem.W.Frag) (te : TE) : TT := fun σ H Q => te σ H fun x H' => ∃ k, TruV K x H' k ∧ Q k H'
theorem eTru {X : Cx} {e : Expr} {te : TE} (h : JE X e te) (he : ∀ whole, isTrue e X.env whole = (do let v ← whole; standAt e.pos; holding [v] (truthy v))) : JT X e (tTru X.K te) := ⟨pt_truth h.h he⟩
theorem i_tru {K : PySem.W.Frag} {te : TE} {σ : St} {H : Hp} {QB : Bool → Hp → Prop} (h : te σ H fun x H' => ∃ k, TruV K x H' k ∧ QB k H') : tTru K te σ H QB := h
theorem tru_L {K : PySem.W.Frag} {H : Hp} {p : Addr} {xs : List V} {QB : Bool → Hp → Prop} (s : SqL K H p xs) (h : QB (!xs.isEmpty) H) : ∃ k, TruV K (.ref p) H k ∧ QB k H := ⟨_, .inl ⟨xs, s, rfl⟩, h⟩
theorem i_for {wi : TI} {g : TG} {tb : TS} {D : Ends} {σ : St} {H : Hp} (h : wi σ H fun J H1 => ∃ W : Nat → Nat → St → Hp → Prop, (∃ m, W 0 m σ H1) ∧ ∀ i m σ H, W i m σ H →
  (J.stop i H ∧ D.nx σ H) ∨ (J.go i H ∧ ∃ N : St → Hp → Prop, (∀ σ' H', N σ' H' → ∃ m', m' < m ∧ W (i + 1) m' σ' H') ∧ ∀ x H', J.yld i H x H' → g x σ H' fun σ2 H2 => tb { D with nx := N, ct := N, bk := D.nx } σ2 H2)) : tFor wi g tb D σ H := h
theorem i_bm {K : PySem.W.Frag} {T : String} {r : V → List V → Hp → VK → Prop} {to : TE} {t : TA} {σ : St} {H : Hp} {Q : VK} (h : to σ H fun x H1 => tyV K T x H1 ∧ t σ H1 fun xs H2 => r x xs H2 Q) : tBM K T r to t σ H Q := h
theorem i_bm0 {K : PySem.W.Frag} {T : String} {r : V → List V → Hp → VK → Prop} {to : TE} {σ : St} {H : Hp} {Q : VK} (h : to σ H fun x H1 => tyV K T x H1 ∧ r x [] H1 Q) : tBM0 K T r to σ H Q := h
theorem i_rng1 {ta : TA} {σ : St} {H : Hp} {R : It → Hp → Prop} (h : ta σ H fun vs H1 => ∃ j : Int, vs = [.int j] ∧ -(2 ^ 62) ≤ j ∧ j < 2 ^ 62 ∧ R (Itr 0 j.toNat) H1) : iRng1 ta σ H R := h
mutual
theorem Dn.any {p c : Addr} {H : Hp} (hc : H c = none) : ∀ {d : PyData} {v : V}, Dn p H d v → Dn c H d v
  | .none, v, h => h
  | .bool b, v, h => h
  | .int i, v, h => h
  | .str x, v, h => h
  | .list ds, v, h => by
    obtain ⟨a, xs, e, n, q, r⟩ := h
    exact ⟨a, xs, e, ne_of_none q hc, q, DnL.any hc r⟩
  | .tuple ds, v, h => by
    obtain ⟨a, xs, e, n, q, r⟩ := h
    exact ⟨a, xs, e, ne_of_none q hc, q, DnL.any hc r⟩
  | .dict kvs, v, h => by
    obtain ⟨e0, a, e, n, q⟩ := h
    exact ⟨e0, a, e, ne_of_none q hc, q⟩
theorem DnL.any {p c : Addr} {H : Hp} (hc : H c = none) : ∀ {ds : List PyData} {vs : List V}, DnL p H ds vs → DnL c H ds vs
  | [], vs, h => h
  | d :: ds, vs, h => by
    obtain ⟨v, r, e, h1, h2⟩ := h
    exact ⟨v, r, e, Dn.any hc h1, DnL.any hc h2⟩
end
/-! ### a test that is known to come out false -/
def tIfNo (c : TT) (u : TS) : TS := fun D σ H => c σ H fun b H1 => b = false ∧ u D σ H1
theorem i_ifNo {c : TT} {u : TS} {D : Ends} {σ : St} {H : Hp} (h : c σ H fun b H1 => b = false ∧ u D σ H1) : tIfNo c u D σ H := h
end L2

end
section
set_option Elab.async false
set_option linter.all false
set_option maxRecDepth 100000
set_option maxHeartbeats 1000000
namespace L2
open PySem PySem.Spec PyProof.Rows
section
variable {X : Cx} {a b : Expr} {ta tb : TE} {pos : Pos}
theorem eDIn (hu : X.A.units + 1 < cLine) (ha : JE X a ta) (hb : JE X b tb) (hm : behindInMarks .In b = false) : JE X (.Compare a [.In] [b] pos) (tDIn ta tb) := ⟨pe_cmp (pc_din hu ha.h hb.h) hm⟩
theorem eDInT (hu : X.A.units + 1 < cLine) (ha : JE X a ta) (hb : JE X b tb) (hm : behindInMarks .In b = false) : JT X (.Compare a [.In] [b] pos) (tB (tDIn ta tb)) := ⟨pt_cmp (pc_din hu ha.h hb.h) hm⟩
theorem eDNotIn (hu : X.A.units + 1 < cLine) (ha : JE X a ta) (hb : JE X b tb) (hm : behindInMarks .NotIn b = false) : JE X (.Compare a [.NotIn] [b] pos) (tDNotIn ta tb) := ⟨pe_cmp (pc_dnotin hu ha.h hb.h) hm⟩
theorem eDNotInT (hu : X.A.units + 1 < cLine) (ha : JE X a ta) (hb : JE X b tb) (hm : behindInMarks .NotIn b = false) : JT X (.Compare a [.NotIn] [b] pos) (tB (tDNotIn ta tb)) := ⟨pt_cmp (pc_dnotin hu ha.h hb.h) hm⟩
end
section
variable {ty td : TE} {σ : St} {H : Hp} {Q : VK}
theorem i_din (h : ty σ H fun y H1 => td σ H1 fun x H2 => ∃ a o, x = .ref a ∧ DGet H2 a y o ∧ Q (.bl o.isSome) H2) : tDIn ty td σ H Q := h
theorem i_dnotin (h : ty σ H fun y H1 => td σ H1 fun x H2 => ∃ a o, x = .ref a ∧ DGet H2 a y o ∧ Q (.bl (!o.isSome)) H2) : tDNotIn ty td σ H Q := h
theorem i_dnewK (h : ∀ p, H p = none → Q (.ref p) (upd H p (.dK []))) : tDNewK σ H Q := h
end
structure JGl (X : Cx) (es : List Expr) (t : TGs) : Prop where
  h : PGs X es t
section
variable {X : Cx} {es : List Expr} {t : TGs} {pos : Pos} {x : Str} {i : Nat}
theorem eGl0 : JGl X [] gNil := ⟨pgs_nil⟩
theorem eGlC (hN : X.N.Nodup) (hi : X.N[i]? = some x) (hx : Loc X.env.scope x) (hf : X.fn x = true ∨ X.env.scope.names.lookup x = some .local) (h : JGl X es t) : JGl X (.Name x pos :: es) (gCons (gName i) t) := ⟨pgs_cons (pg_name hN hi hx hf) h.h rfl⟩
theorem eGT {n : Nat} {k} (hc : X.calm = true) (h : JGl X es t) (hn : (assignEach es X.env).length = n) (hst : (assignEach es X.env).findIdx? (·.1) = none) : JG X (.Tuple es k pos) (gTup X.K n t) := ⟨pg_tup hc h.h hn hst⟩
end
section
variable {K : PySem.W.Frag} {σ : St} {H : Hp} {Q : St → Hp → Prop} {v x : V} {xs : List V} {t : TG} {u : TGs} {n : Nat} {a : Addr}
theorem i_gtup (hq : SqT K H a xs) (hl : xs.length = n) (h : u xs σ H Q) : gTup K n u (.ref a) σ H Q := ⟨a, xs, rfl, hq, hl, h⟩
theorem i_gcons (h : t x σ H fun σ' H' => u xs σ' H' Q) : gCons t u (x :: xs) σ H Q := ⟨x, xs, rfl, h⟩
theorem i_gnil (h : Q σ H) : gNil [] σ H Q := ⟨rfl, h⟩
end
theorem i_sub {to ti : TE} {ts : TSet} {v : V} {σ : St} {H : Hp} {Q : St → Hp → Prop} (h : to σ H fun o H1 => ti σ H1 fun i H2 => ts o i v H2 fun H3 => Q σ H3) : gSub to ti ts v σ H Q := h
/-! ### a list that has come, walked by a comprehension whose test may grow the heap -/
theorem put_len {kvs : List (Key × V)} {k : Key} {v : V} : (putK kvs k v).length ≤ kvs.length + 1 := by
  unfold putK
  split
  · rw [List.length_map]; exact Nat.le_succ _
  · rw [List.length_append]; exact Nat.le_refl _
end L2

end
section
set_option Elab.async false
set_option linter.all false
set_option maxRecDepth 100000
set_option maxHeartbeats 1000000
namespace L2
open PySem PySem.Spec PyProof.Rows
section
variable {X : Cx}
/-- str(x) of a number, of None, of a text -/
def rStr1 : List V → Hp → VK → Prop := fun xs H Q => (∃ i : Int, xs = [.int i] ∧ i.natAbs.log2 < 1920 ∧ Q (.str (toString i)) H) ∨ (xs = [.non] ∧ Q (.str "None") H) ∨ ∃ x, xs = [.str x] ∧ Q (.str x) H
theorem call_strV : CallR X (.type "str") rStr1 := by
  intro pins s σ H xs us Q I r h
  rcases h with ⟨i, rfl, hz, q⟩ | ⟨rfl, q⟩ | ⟨x, rfl, q⟩
  · obtain ⟨u, rfl, t, rfl⟩ := vals1 r
    exact PySem.P.str_of_int hz ⟨.str _, H, I.tok _, ⟨_, rfl⟩, q⟩
  · obtain ⟨u, rfl, r1⟩ := vals1 r
    cases r1
    exact PySem.P.str_of_none ⟨.str _, H, I.tok _, ⟨_, rfl⟩, q⟩
  · obtain ⟨u, rfl, t, rfl⟩ := vals1 r
    exact PySem.P.str_of_str ⟨.str _, H, I, ⟨_, rfl⟩, q⟩
/-! ### f'..' -/
def tFv (te : TE) : TE := fun σ H Q => te σ H fun x H1 => ∃ y, x = .str y ∧ y.length ≤ sizeLine ∧ Q (.str y) H1
def tFs : List TE → Str → TE
  | [], out => fun _ H Q => out.length ≤ sizeLine ∧ Q (.str out) H
  | t :: ts, out => fun σ H Q => t σ H fun x H1 => ∃ y, x = .str y ∧ (out ++ y).length ≤ sizeLine ∧ tFs ts (out ++ y) σ H1 Q
def PFs (X : Cx) (vs : List Expr) (ts : List TE) : Prop :=
  ∀ (pins : List (Addr × Obj)) (s : Shared) (σ : St) (H : Hp) (Q : VK) (out : Str), Inv X pins σ H s → tFs ts out σ H Q → wpAny (model X.prog X.w) X.A (joinParts out (evalEach vs X.env)) (EP X pins σ Q) X.xe s
theorem pfs_nil : PFs X [] [] := by
  intro pins s σ H Q out I h
  exact joinParts_nil ⟨.str out, H, I.tok _, ⟨_, rfl⟩, h.2⟩ h.1
theorem pfs_cons {v : Expr} {vs : List Expr} {t : TE} {ts : List TE} (hv : PE X v t) (hr : PFs X vs ts) : PFs X (v :: vs) (t :: ts) := by
  intro pins s σ H Q out I h
  show wpAny _ _ (joinParts out (eval v X.env :: evalEach vs X.env)) _ _ s
  refine joinParts_cons (thn (hv pins s σ H _ I h) fun u s1 ⟨x, H1, I1, r1, y, ex, hz, q⟩ => ?_)
  subst ex
  obtain ⟨t', rfl⟩ := r1
  exact ⟨hz, hr pins s1 σ H1 Q _ I1 q⟩
theorem pe_fv {e : Expr} {te : TE} {pos : Pos} (he : PE X e te) : PE X (.FormattedValue e (-1) none pos) (tFv te) := by
  intro pins s σ H Q I h
  refine FormattedValue_plain (thn (he pins s σ H _ I h) fun u s1 ⟨x, H1, I1, r1, y, ex, hz, q⟩ => ?_)
  subst ex
  obtain ⟨t', rfl⟩ := r1
  exact formatField_str (fun t2 tk => ⟨.str y, H1, I1.tok _, ⟨_, rfl⟩, q⟩) hz
theorem pe_fs {v1 v2 : Expr} {rest : List Expr} {pos : Pos} {ts : List TE} (h : PFs X (v1 :: v2 :: rest) ts) : PE X (.JoinedStr (v1 :: v2 :: rest) pos) (tFs ts Str.empty) := by
  intro pins s σ H Q I hw
  exact JoinedStr_many (h pins s σ H Q Str.empty I hw)
end
structure JF (X : Cx) (vs : List Expr) (ts : List TE) : Prop where
  h : PFs X vs ts
section
variable {X : Cx}
theorem eF0 : JF X [] [] := ⟨pfs_nil⟩
theorem eFc {v : Expr} {vs : List Expr} {t : TE} {ts : List TE} (hv : JE X v t) (hr : JF X vs ts) : JF X (v :: vs) (t :: ts) := ⟨pfs_cons hv.h hr.h⟩
theorem eFv {e : Expr} {te : TE} {pos : Pos} (he : JE X e te) : JE X (.FormattedValue e (-1) none pos) (tFv te) := ⟨pe_fv he.h⟩
theorem eFs {v1 v2 : Expr} {rest : List Expr} {pos : Pos} {ts : List TE} (h : JF X (v1 :: v2 :: rest) ts) : JE X (.JoinedStr (v1 :: v2 :: rest) pos) (tFs ts Str.empty) := ⟨pe_fs h.h⟩
end
section
variable {te : TE} {ts : List TE} {t : TE} {σ : St} {H : Hp} {Q : VK} {out : Str}
theorem i_fv (h : te σ H fun x H1 => ∃ y, x = .str y ∧ y.length ≤ sizeLine ∧ Q (.str y) H1) : tFv te σ H Q := h
theorem i_fc (h : t σ H fun x H1 => ∃ y, x = .str y ∧ (out ++ y).length ≤ sizeLine ∧ tFs ts (out ++ y) σ H1 Q) : tFs (t :: ts) out σ H Q := h
theorem i_f0 (h1 : out.length ≤ sizeLine) (h : Q (.str out) H) : tFs [] out σ H Q := ⟨h1, h⟩
end
/-! ### a module's dict, asked by get -/
def KD (w : World) (K : PySem.W.Frag) (a : Addr) (f : Str → Option V) : Prop := ∃ es n, K.lookup a = some ⟨.type "dict", none, .dict es n, #[]⟩ ∧ PySem.W.KeysLit w.params es.toList ∧ (a == sysModules) = false ∧ ∀ z v, f z = some v → ∃ u, findBy Value.isStrOf es z = some u ∧ RelV v u
theorem kd_of {es : Array DictEntry} {l : List (Str × V)} (h : ∀ p ∈ l, ∃ u, findBy Value.isStrOf es p.1 = some u ∧ RelV p.2 u) : ∀ z v, (l.find? fun p => decide (p.1 = z)).map (·.2) = some v → ∃ u, findBy Value.isStrOf es z = some u ∧ RelV v u := by
  intro z v e
  cases hf : l.find? (fun p => decide (p.1 = z)) with
  | none => rw [hf] at e; cases e
  | some p =>
    rw [hf] at e
    have hp := List.mem_of_find?_eq_some hf
    have hz : p.1 = z := by simpa using List.find?_some hf
    have hv : p.2 = v := by simpa using e
    obtain ⟨u, h1, h2⟩ := h p hp
    exact ⟨u, by rw [← hz]; exact h1, by rw [← hv]; exact h2⟩
def tKGet (f : Str → Option V) (te : TE) : TE := fun σ H Q => te σ H fun y H1 => ∃ z v, y = .str z ∧ f z = some v ∧ Q v H1
theorem i_kget {f : Str → Option V} {te : TE} {σ : St} {H : Hp} {Q : VK} (h : te σ H fun y H1 => ∃ z v, y = .str z ∧ f z = some v ∧ Q v H1) : tKGet f te σ H Q := h
section
variable {X : Cx} {o e : Expr} {apos cpos : Pos} {te : TE} {a : Addr} {f : Str → Option V}
theorem pe_kget (ho : PE X o (tC (.ref a))) (hk : KD X.w X.K a f) (he : PE X e te) (m : M1 X o "get" apos e cpos) : PE X (.Call (.Attribute o "get" apos) [e] [] cpos) (tKGet f te) := by
  intro pins s σ H Q I h
  obtain ⟨es, n, hl, hks, hsm, hf⟩ := hk
  refine wpAny_Call_method m.base m.few m.line PySem.F.plainAttrs_dict PySem.F.slot_dict_get PySem.F.type_dict_get (thn (ho pins s σ H (fun x H1 => x = .ref a ∧ H1 = H) I ⟨rfl, rfl⟩) fun u s1 ⟨x, H1, I1, rx, ex, eH⟩ => ?_)
  subst ex eH
  obtain rfl : u = Value.ref a := rx
  have hm : s1.heap.MapOf (PySem.strKind X.prog X.w) a (fun k => findBy Value.isStrOf es k) := PySem.W.mapOf_K I1.kIn hl hks
  refine ⟨hm.typeIs, hm.noDict, ?_⟩
  rw [m.trees]
  refine Calls.callWith_builtin rfl (Calls.evalArgs_plain (Calls.spliced_cons (thn (he pins s1 σ H1 _ I1 h) fun iv s2 ⟨y, H2, I2, ry, z, v, ey, hz, q2⟩ => Calls.spliced_nil ?_)))
  subst ey
  obtain ⟨t, rfl⟩ := ry
  obtain ⟨u, hu, ru⟩ := hf z v hz
  have hm2 : s2.heap.MapOf (PySem.strKind X.prog X.w) a (fun k => findBy Value.isStrOf es k) := PySem.W.mapOf_K I2.kIn hl hks
  refine call_meetsIn PySem.F.slot_dict_get hm2.typeIs PySem.F.entry_dict_get (PySem.F.args_dict_get_2 _ _) (meets_dict_get (PySem.strKind X.prog X.w) a (strKind_is X.prog X.w z t) hsm) ⟨_, hm2, ?_⟩
  rw [hu]
  exact ⟨v, H2, I2.tok _, ru, q2⟩
theorem eKGet (ho : JE X o (tC (.ref a))) (hk : KD X.w X.K a f) (he : JE X e te) (hbase : attributeBase o "get" X.env (eval o X.env) = eval o X.env)
    (hfew : ((backTo cpos (starEach [e] X.env)).all (fun x => !x.1) && (backToKw cpos (keywordEach [] X.env)).all (fun x => x.1.isSome) && decide (([e] : List Expr).length + ([] : List Keyword).length + (if ([] : List Keyword).isEmpty then 0 else 1) < 30)) = true)
    (hline : (apos.endLine == cpos.line) = true) (h1 : PySem.W.isStarred e = false) : JE X (.Call (.Attribute o "get" apos) [e] [] cpos) (tKGet f te) :=
  ⟨pe_kget ho.h hk he.h ⟨hbase, hfew, hline, by rw [star_cons h1]; rfl⟩⟩
end
/-! ### join of a list or a tuple of texts -/
def rJoin2 (K : PySem.W.Frag) : V → List V → Hp → VK → Prop := fun x vs H Q => ∃ (z : Str) (a : Addr) (ss : List Str), x = .str z ∧ vs = [.ref a] ∧ (SqL K H a (ss.map V.str) ∨ SqT K H a (ss.map V.str)) ∧ (ss.map (·.length)).sum + ss.length * z.length ≤ 16777216 ∧ Q (.str (Txt.join z ss)) H
theorem mt_join2 {X : Cx} : MtM X "str.join" (rJoin2 X.K) := by
  intro pins s σ H x vs v us Q I rx rv h
  obtain ⟨z, a, ss, rfl, rfl, hq, hok, q⟩ := h
  obtain ⟨t, rfl⟩ := rx
  obtain ⟨u, rfl, ru⟩ := rv.one
  cases (show u = Value.ref a from ru)
  rcases hq with hq | hq
  · obtain ⟨its, r, p, hz⟩ := I.list hq
    exact join_list p.isList (by simpa using strsAre_of r) hok fun t' k => ⟨.str _, H, I.tok k, ⟨t', rfl⟩, q⟩
  · obtain ⟨its, r, p, hz⟩ := I.tuple hq
    exact join_tuple p (by simpa using strsAre_of r) hok fun t' k => ⟨.str _, H, I.tok k, ⟨t', rfl⟩, q⟩
/-! ### a comprehension over range(n) -/
section
variable {js : List Nat} {ta : TA} {tt : TT} {te : TE} {σ : St} {H : Hp} {Q : VK}
theorem c_rngI (n : Nat) (Pv : Nat → List V → Hp → Prop) (hn : n < 1000) (hi : ∀ R : List V → Hp → Prop, R [.int (n : Int)] H → ta σ H R) (h0 : Pv 0 [] H) (hl : ∀ i acc H, i ≤ n → Pv i acc H → acc.length ≤ i)
    (hs : ∀ i acc H (C : List V → Hp → Prop), i < n → Pv i acc H → (∀ acc' H', Pv (i + 1) acc' H' → C acc' H') →
      tt (some (.int (0 + (i : Int))) :: caps js σ) H fun b H2 => if b = true then te (some (.int (0 + (i : Int))) :: caps js σ) H2 fun y H3 => C (acc ++ [y]) H3 else C acc H2)
    (hd : ∀ acc H, Pv n acc H → ∀ p, H p = none → Q (.ref p) (upd H p (.lst acc))) : tComp js (iRng1 ta) tt te σ H Q := by
  refine i_comp (hi _ ⟨(n : Int), rfl, by omega, by omega, ?_⟩)
  refine ⟨fun i m acc H => m = n - i ∧ i ≤ n ∧ Pv i acc H, ⟨n, by simp, Nat.zero_le _, h0⟩, ?_⟩
  rintro i m acc H ⟨rfl, hi, p⟩
  have hacc := hl i acc H hi p
  have hz : (1000 : Nat) ≤ sizeLine := by decide
  have en : ((n : Int)).toNat = n := by simp
  rw [en]
  by_cases hlt : i < n
  · refine .inr ⟨hlt, by omega, fun x H' y => ?_⟩
    obtain ⟨e, y⟩ := y
    subst e y
    exact hs i acc _ (fun acc' H' => ∃ m', m' < n - i ∧ (m' = n - (i + 1) ∧ i + 1 ≤ n ∧ Pv (i + 1) acc' H')) hlt p fun acc' H' p' => ⟨n - (i + 1), by omega, rfl, hlt, p'⟩
  · have e : i = n := by omega
    subst e
    exact .inl ⟨Nat.le_refl _, by omega, hd acc H p⟩
end
section
variable {K : PySem.W.Frag} {js : List Nat} {ti : TE} {tt : TT} {te : TE} {σ : St} {H : Hp} {Q : VK} {a : Addr} {xs : List V}
/-- what is wanted of a comprehension once its tuple has come -/
def CompU (K : PySem.W.Frag) (js : List Nat) (tt : TT) (te : TE) (σ : St) (Q : VK) (x : V) (H1 : Hp) : Prop := ∃ a, x = .ref a ∧ (∃ xs, SqT K H1 a xs) ∧ ∃ W : Nat → Nat → List V → Hp → Prop, (∃ m, W 0 m [] H1) ∧ ∀ i m acc H, W i m acc H →
  ((Itt K a).stop i H ∧ acc.length ≤ sizeLine ∧ ∀ p, H p = none → Q (.ref p) (upd H p (.lst acc))) ∨ ((Itt K a).go i H ∧ acc.length < sizeLine ∧ ∀ x H', (Itt K a).yld i H x H' →
    tt (some x :: caps js σ) H' fun b H2 => if b = true then te (some x :: caps js σ) H2 fun y H3 => ∃ m', m' < m ∧ W (i + 1) m' (acc ++ [y]) H3 else ∃ m', m' < m ∧ W (i + 1) m' acc H2)
theorem i_compGT (h : ti σ H (CompU K js tt te σ Q)) : tComp js (iTup K ti) tt te σ H Q := h
theorem CompU.of (Pv : Nat → List V → Hp → Prop) (hq : SqT K H a xs) (hz : xs.length ≤ sizeLine) (h0 : Pv 0 [] H) (hl : ∀ i acc H, i ≤ xs.length → Pv i acc H → SqT K H a xs ∧ acc.length ≤ i)
    (hs : ∀ i x acc H (C : List V → Hp → Prop), xs[i]? = some x → Pv i acc H → (∀ acc' H', Pv (i + 1) acc' H' → C acc' H') →
      tt (some x :: caps js σ) H fun b H2 => if b = true then te (some x :: caps js σ) H2 fun y H3 => C (acc ++ [y]) H3 else C acc H2)
    (hd : ∀ acc H, Pv xs.length acc H → ∀ p, H p = none → Q (.ref p) (upd H p (.lst acc))) : CompU K js tt te σ Q (.ref a) H := ⟨a, rfl, ⟨xs, hq⟩, comp_tupI Pv h0 hl hz hs hd⟩
end
end L2

end
section
set_option Elab.async false
set_option linter.all false
set_option maxRecDepth 100000
set_option maxHeartbeats 4000000
namespace K18
open PySem PySem.Spec PyProof.Rows L2
/-! ### the text by places -/
def top (i : Nat) : Stmt := PySem.Challenge.pw_webshapes_k18_forms_shown.main.body.getD i (.Pass ⟨0, 0, 0, 0⟩)
abbrev top_kind_of : Stmt := top 1
abbrev top_show_node : Stmt := top 2
abbrev top_length_of : Stmt := top 7
abbrev top_straight_parts : Stmt := top 8
abbrev top_show_high : Stmt := top 10
abbrev top_show_inside : Stmt := top 11
abbrev top_show_form : Stmt := top 12
abbrev top_pen : Stmt := top 14
abbrev top_take : Stmt := top 15
abbrev top_names : Stmt := top 16
abbrev top_number : Stmt := top 17
abbrev top_node : Stmt := top 18
abbrev top_tip : Stmt := top 19
abbrev top_count : Stmt := top 20
abbrev top_form : Stmt := top 21
abbrev top_inner : Stmt := top 22
abbrev top_node_text : Stmt := top 23
abbrev top_text : Stmt := top 24
abbrev top_law : Stmt := top 25
structure Adr where
  a_kind_of : Addr
  d_kind_of : FuncData
  a_show_node : Addr
  d_show_node : FuncData
  a_length_of : Addr
  d_length_of : FuncData
  a_straight_parts : Addr
  d_straight_parts : FuncData
  a_show_high : Addr
  d_show_high : FuncData
  a_show_inside : Addr
  d_show_inside : FuncData
  a_show_form : Addr
  d_show_form : FuncData
  a_pen : Addr
  d_pen : FuncData
  a_take : Addr
  d_take : FuncData
  a_names : Addr
  d_names : FuncData
  a_number : Addr
  d_number : FuncData
  a_node : Addr
  d_node : FuncData
  a_tip : Addr
  d_tip : FuncData
  a_count : Addr
  d_count : FuncData
  a_form : Addr
  d_form : FuncData
  a_inner : Addr
  d_inner : FuncData
  a_node_text : Addr
  d_node_text : FuncData
  a_text : Addr
  d_text : FuncData
  a_law : Addr
  d_law : FuncData
  c_LENGTHS : Addr
  c_LISTS : Addr
  c_WALKS : Addr
def f_LENGTHS : Str → Option V := fun z => (([("any", .int 1), ("thing", .int 1), ("number", .int 1), ("said", .int 1), ("from", .int 2), ("upto", .int 2), ("is", .int 2), ("keeps", .int 2), ("not", .int 2), ("all", .int 2), ("some", .int 2), ("one", .int 2), ("none", .int 2), ("many", .int 5), ("each", .int 5), ("closed", .int 2)] : List (Str × V)).find? fun p => decide (p.1 = z)).map (·.2)
structure Txt (w : World) (K : PySem.W.Frag) (mg : Str → Option Value) (t : Adr) : Prop where
  F_kind_of : Fun K "kind_of" "kind_of" top_kind_of t.a_kind_of t.d_kind_of
  b_kind_of : Binds K t.d_kind_of ["node"] []
  m_kind_of : mg "kind_of" = some (.ref t.a_kind_of)
  F_show_node : Fun K "show_node" "show_node" top_show_node t.a_show_node t.d_show_node
  b_show_node : Binds K t.d_show_node ["node"] []
  m_show_node : mg "show_node" = some (.ref t.a_show_node)
  F_length_of : Fun K "length_of" "length_of" top_length_of t.a_length_of t.d_length_of
  b_length_of : Binds K t.d_length_of ["word"] []
  m_length_of : mg "length_of" = some (.ref t.a_length_of)
  F_straight_parts : Fun K "straight_parts" "straight_parts" top_straight_parts t.a_straight_parts t.d_straight_parts
  b_straight_parts : Binds K t.d_straight_parts ["form"] []
  m_straight_parts : mg "straight_parts" = some (.ref t.a_straight_parts)
  F_show_high : Fun K "show_high" "show_high" top_show_high t.a_show_high t.d_show_high
  b_show_high : Binds K t.d_show_high ["high"] []
  m_show_high : mg "show_high" = some (.ref t.a_show_high)
  F_show_inside : Fun K "show_inside" "show_inside" top_show_inside t.a_show_inside t.d_show_inside
  b_show_inside : Binds K t.d_show_inside ["form"] []
  m_show_inside : mg "show_inside" = some (.ref t.a_show_inside)
  F_show_form : Fun K "show_form" "show_form" top_show_form t.a_show_form t.d_show_form
  b_show_form : Binds K t.d_show_form ["form"] []
  m_show_form : mg "show_form" = some (.ref t.a_show_form)
  F_pen : Fun K "_law_pen" "_law_pen" top_pen t.a_pen t.d_pen
  b_pen : Binds K t.d_pen ["_law_script"] []
  m_pen : mg "_law_pen" = some (.ref t.a_pen)
  F_take : Fun K "_law_take" "_law_take" top_take t.a_take t.d_take
  b_take : Binds K t.d_take ["_law_pen_here", "_law_most"] []
  m_take : mg "_law_take" = some (.ref t.a_take)
  F_names : Fun K "_law_names" "_law_names" top_names t.a_names t.d_names
  b_names : Binds K t.d_names ["_law_pen_here", "_law_many"] []
  m_names : mg "_law_names" = some (.ref t.a_names)
  F_number : Fun K "_law_number" "_law_number" top_number t.a_number t.d_number
  b_number : Binds K t.d_number ["_law_pen_here"] []
  m_number : mg "_law_number" = some (.ref t.a_number)
  F_node : Fun K "_law_node" "_law_node" top_node t.a_node t.d_node
  b_node : Binds K t.d_node ["_law_pen_here", "_law_things"] []
  m_node : mg "_law_node" = some (.ref t.a_node)
  F_tip : Fun K "_law_tip" "_law_tip" top_tip t.a_tip t.d_tip
  b_tip : Binds K t.d_tip ["_law_pen_here", "_law_names_here", "_law_free"] []
  m_tip : mg "_law_tip" = some (.ref t.a_tip)
  F_count : Fun K "_law_count" "_law_count" top_count t.a_count t.d_count
  b_count : Binds K t.d_count ["_law_pen_here", "_law_names_here"] []
  m_count : mg "_law_count" = some (.ref t.a_count)
  F_form : Fun K "_law_form" "_law_form" top_form t.a_form t.d_form
  b_form : Binds K t.d_form ["_law_pen_here", "_law_names_here", "_law_room", "_law_deep", "_law_free"] []
  m_form : mg "_law_form" = some (.ref t.a_form)
  F_inner : Fun K "_law_inner" "_law_inner" top_inner t.a_inner t.d_inner
  b_inner : Binds K t.d_inner ["_law_form_here"] []
  m_inner : mg "_law_inner" = some (.ref t.a_inner)
  F_node_text : Fun K "_law_node_text" "_law_node_text" top_node_text t.a_node_text t.d_node_text
  b_node_text : Binds K t.d_node_text ["_law_node_here"] []
  m_node_text : mg "_law_node_text" = some (.ref t.a_node_text)
  F_text : Fun K "_law_text" "_law_text" top_text t.a_text t.d_text
  b_text : Binds K t.d_text ["_law_form_here"] []
  m_text : mg "_law_text" = some (.ref t.a_text)
  F_law : Fun K "law" "law" top_law t.a_law t.d_law
  b_law : Binds K t.d_law ["_law_script"] []
  m_law : mg "law" = some (.ref t.a_law)
  z_abs : mg "abs" = none
  z_int : mg "int" = none
  z_isinstance : mg "isinstance" = none
  z_len : mg "len" = none
  z_list : mg "list" = none
  z_min : mg "min" = none
  z_range : mg "range" = none
  z_sorted : mg "sorted" = none
  z_str : mg "str" = none
  z_tuple : mg "tuple" = none
  g_LENGTHS : mg "LENGTHS" = some (.ref t.c_LENGTHS)
  k_LENGTHS : KD w K t.c_LENGTHS f_LENGTHS
  g_LISTS : mg "LISTS" = some (.ref t.c_LISTS)
  s_LISTS : ∀ H, SqT K H t.c_LISTS [.str "all", .str "some", .str "one", .str "none"]
  g_WALKS : mg "WALKS" = some (.ref t.c_WALKS)
  s_WALKS : ∀ H, SqT K H t.c_WALKS [.str "many", .str "each"]
theorem sc_kind_of : FnScope ["node"] ["node"] (defScope top_kind_of) := ⟨rfl, rfl, rfl, by decide +kernel, rfl, by decide +kernel, by decide +kernel⟩
theorem sc_show_node : FnScope ["node", "kind"] ["node"] (defScope top_show_node) := ⟨rfl, rfl, rfl, by decide +kernel, rfl, by decide +kernel, by decide +kernel⟩
theorem sc_length_of : FnScope ["word"] ["word"] (defScope top_length_of) := ⟨rfl, rfl, rfl, by decide +kernel, rfl, by decide +kernel, by decide +kernel⟩
theorem sc_straight_parts : FnScope ["form", "head"] ["form"] (defScope top_straight_parts) := ⟨rfl, rfl, rfl, by decide +kernel, rfl, by decide +kernel, by decide +kernel⟩
theorem sc_show_high : FnScope ["high"] ["high"] (defScope top_show_high) := ⟨rfl, rfl, rfl, by decide +kernel, rfl, by decide +kernel, by decide +kernel⟩
theorem sc_show_inside : FnScope ["form", "ahead"] ["form"] (defScope top_show_inside) := ⟨rfl, rfl, rfl, by decide +kernel, rfl, by decide +kernel, by decide +kernel⟩
theorem sc_show_form : FnScope ["form", "head", "inside"] ["form"] (defScope top_show_form) := ⟨rfl, rfl, rfl, by decide +kernel, rfl, by decide +kernel, by decide +kernel⟩
theorem sc_pen : FnScope ["_law_script"] ["_law_script"] (defScope top_pen) := ⟨rfl, rfl, rfl, by decide +kernel, rfl, by decide +kernel, by decide +kernel⟩
theorem sc_take : FnScope ["_law_pen_here", "_law_most", "_law_found", "_law_at", "_law_cell", "_law_number_here"] ["_law_pen_here", "_law_most"] (defScope top_take) := ⟨rfl, rfl, rfl, by decide +kernel, rfl, by decide +kernel, by decide +kernel⟩
theorem sc_names : FnScope ["_law_pen_here", "_law_many", "_law_letters", "_law_base", "_law_words", "_law_way", "_law_size", "_law_at", "_law_turn", "_law_found", "_law_k", "_law_sign"] ["_law_pen_here", "_law_many"] (defScope top_names) := ⟨rfl, rfl, rfl, by decide +kernel, rfl, by decide +kernel, by decide +kernel⟩
theorem sc_number : FnScope ["_law_pen_here", "_law_way", "_law_number_here"] ["_law_pen_here"] (defScope top_number) := ⟨rfl, rfl, rfl, by decide +kernel, rfl, by decide +kernel, by decide +kernel⟩
theorem sc_node : FnScope ["_law_pen_here", "_law_things", "_law_way", "_law_word", "_law_k"] ["_law_pen_here", "_law_things"] (defScope top_node) := ⟨rfl, rfl, rfl, by decide +kernel, rfl, by decide +kernel, by decide +kernel⟩
theorem sc_tip : FnScope ["_law_pen_here", "_law_names_here", "_law_free", "_law_word"] ["_law_pen_here", "_law_names_here", "_law_free"] (defScope top_tip) := ⟨rfl, rfl, rfl, by decide +kernel, rfl, by decide +kernel, by decide +kernel⟩
theorem sc_count : FnScope ["_law_pen_here", "_law_names_here", "_law_low", "_law_high", "_law_step"] ["_law_pen_here", "_law_names_here"] (defScope top_count) := ⟨rfl, rfl, rfl, by decide +kernel, rfl, by decide +kernel, by decide +kernel⟩
theorem sc_form : FnScope ["_law_pen_here", "_law_names_here", "_law_room", "_law_deep", "_law_free", "_law_way", "_law_many", "_law_some"] ["_law_pen_here", "_law_names_here", "_law_room", "_law_deep", "_law_free"] (defScope top_form) := ⟨rfl, rfl, rfl, by decide +kernel, rfl, by decide +kernel, by decide +kernel⟩
theorem sc_inner : FnScope ["_law_form_here"] ["_law_form_here"] (defScope top_inner) := ⟨rfl, rfl, rfl, by decide +kernel, rfl, by decide +kernel, by decide +kernel⟩
theorem sc_node_text : FnScope ["_law_node_here"] ["_law_node_here"] (defScope top_node_text) := ⟨rfl, rfl, rfl, by decide +kernel, rfl, by decide +kernel, by decide +kernel⟩
theorem sc_text : FnScope ["_law_form_here", "_law_word", "_law_some"] ["_law_form_here"] (defScope top_text) := ⟨rfl, rfl, rfl, by decide +kernel, rfl, by decide +kernel, by decide +kernel⟩
theorem sc_law : FnScope ["_law_script", "_law_pen_here", "_law_turn", "_law_names_here", "_law_form_here", "_law_due", "_law_found"] ["_law_script"] (defScope top_law) := ⟨rfl, rfl, rfl, by decide +kernel, rfl, by decide +kernel, by decide +kernel⟩
/-! ### forms and their texts -/
def Sh (x : Str) : Prop := x.length ≤ 9
def TK (H H' : Hp) : Prop := ∀ b xs, H b = some (.tup xs) → H' b = some (.tup xs)
def iT (i : Int) : Str := Str.ofString (toString i)
def hiV : Option Int → V | none => .non | some i => .int i
def hiT : Option Int → Str | none => "*" | some i => iT i
def NodeV (H : Hp) (v : V) (T : Str) : Prop := (∃ x, v = .str x ∧ Sh x ∧ T = x) ∨ (∃ i : Int, v = .int i ∧ i.natAbs < 10 ^ 60 ∧ T = iT i) ∨ ∃ a x, v = .ref a ∧ H a = some (.tup [.str x]) ∧ Sh x ∧ T = ("'" : Str) ++ x
def W0 : List Str := ["any", "thing", "number", "said"]
def W1 : List Str := ["from", "upto"]
def WL : List Str := ["all", "some", "one", "none"]
def WW : List Str := ["many", "each"]
def Tip (H : Hp) (v : V) (T : Str) (k : Nat) : Prop := k = 1 ∧ (
    (∃ a w, v = .ref a ∧ H a = some (.tup [.str w]) ∧ w ∈ W0 ∧ T = w)
  ∨ (∃ a w, ∃ i : Int, v = .ref a ∧ H a = some (.tup [.str w, .int i]) ∧ w ∈ W1 ∧ i.natAbs < 10 ^ 60 ∧ T = w ++ (" " : Str) ++ iT i)
  ∨ (∃ a u S, v = .ref a ∧ H a = some (.tup [.str "is", u]) ∧ NodeV H u S ∧ T = ("is" : Str) ++ (" " : Str) ++ S)
  ∨ ∃ a x, v = .ref a ∧ H a = some (.tup [.str "keeps", .str x]) ∧ Sh x ∧ T = ("keeps" : Str) ++ (" " : Str) ++ x)
def AllF (P : V → Str → Nat → Prop) : List V → List Str → Nat → Prop
  | [], [], k => k = 0
  | u :: us, S :: Ss, k => ∃ j m, P u S j ∧ AllF P us Ss m ∧ k = j + m
  | _, _, _ => False
def Ins (P : V → Str → Nat → Prop) (H : Hp) (v : V) (w J : Str) (k : Nat) : Prop :=
    (w = "closed" ∧ k = 1 ∧ ∃ a b, ∃ l : List Str, v = .ref a ∧ H a = some (.tup [.str "closed", .ref b]) ∧ H b = some (.tup (l.map V.str)) ∧ (∀ x ∈ l, Sh x) ∧ l.length ≤ 8 ∧ J = Txt.join ", " l)
  ∨ (w = "not" ∧ ∃ a u S j, v = .ref a ∧ H a = some (.tup [.str "not", u]) ∧ P u S j ∧ k = j + 1 ∧ J = Txt.join ", " [S])
  ∨ (w ∈ WL ∧ ∃ a b us Ss j, v = .ref a ∧ H a = some (.tup [.str w, .ref b]) ∧ H b = some (.tup us) ∧ AllF P us Ss j ∧ us.length ≤ 6 ∧ k = j + 1 ∧ J = Txt.join ", " Ss)
  ∨ (w ∈ WW ∧ ∃ a, ∃ lo : Int, ∃ hi : Option Int, ∃ st u S j, v = .ref a ∧ H a = some (.tup [.str w, .int lo, hiV hi, .str st, u]) ∧ 0 ≤ lo ∧ lo ≤ 60 ∧ (∀ h, hi = some h → 0 ≤ h ∧ h ≤ 60) ∧ st.length ≤ 10 ∧ P u S j ∧ k = j + 1 ∧ J = Txt.join ", " [iT lo, hiT hi, st, S])
def Fv : Nat → Hp → V → Str → Nat → Prop
  | 0, _, _, _, _ => False
  | n + 1, H, v, T, k => Tip H v T k ∨ ∃ w J, Ins (Fv n H) H v w J k ∧ T = w ++ ("(" : Str) ++ J ++ (")" : Str)
/-- the forms straight within -/
def Parts (H : Hp) (v : V) (us : List V) : Prop :=
    (∃ a u, v = .ref a ∧ H a = some (.tup [.str "not", u]) ∧ us = [u])
  ∨ (∃ a b w, v = .ref a ∧ H a = some (.tup [.str w, .ref b]) ∧ w ∈ WL ∧ H b = some (.tup us))
  ∨ ∃ a w x y z u, v = .ref a ∧ H a = some (.tup [.str w, x, y, z, u]) ∧ w ∈ WW ∧ us = [u]
/-! ### the promises -/
def Pen (K : PySem.W.Frag) (H : Hp) (p sc : Addr) (B : Int) : Prop := ∃ (ns : List Int) (k l : Int), H p = some (.lst [.ref sc, .int k, .int l]) ∧ SqL K H sc (ns.map V.int) ∧ 0 ≤ k ∧ k ≤ B ∧ 0 ≤ l
def Drawn (K : PySem.W.Frag) (p sc : Addr) (B : Int) (H H' : Hp) : Prop := Keep p H H' ∧ Pen K H' p sc B
def Txts (p : Addr) (H : Hp) (a : Addr) (xs : List Str) : Prop := a ≠ p ∧ H a = some (.lst (xs.map V.str))
def Keep2 (p r : Addr) (H H' : Hp) : Prop := ∀ b o, b ≠ p → b ≠ r → H b = some o → H' b = some o
def kindW : V → Str | .str _ => "thing" | .ref _ => "said" | _ => "number"
def sp_kind_of (K : PySem.W.Frag) : Sp := fun vs H Q _ => ∃ v T, vs = [v] ∧ NodeV H v T ∧ Q (.str (kindW v)) H
def sp_show_node (K : PySem.W.Frag) : Sp := fun vs H Q _ => ∃ v T, vs = [v] ∧ NodeV H v T ∧ Q (.str T) H
def sp_length_of (K : PySem.W.Frag) : Sp := fun vs H Q _ => ∃ w, ∃ i : Int, vs = [.str w] ∧ f_LENGTHS w = some (.int i) ∧ Q (.int i) H
def sp_straight_parts (K : PySem.W.Frag) : Sp := fun vs H Q _ => ∃ v us, vs = [v] ∧ Parts H v us ∧ ∀ b H', Same H H' → H' b = some (.tup us) → Q (.ref b) H'
def sp_show_high (K : PySem.W.Frag) : Sp := fun vs H Q _ => ∃ hi : Option Int, vs = [hiV hi] ∧ (∀ h, hi = some h → 0 ≤ h ∧ h ≤ 60) ∧ Q (.str (hiT hi)) H
def sp_show_form (K : PySem.W.Frag) (n : Nat) : Sp := fun vs H Q _ => ∃ v T k, vs = [v] ∧ Fv n H v T k ∧ k ≤ 60 ∧ ∀ H', Same H H' → Q (.str T) H'
def sp_show_inside (K : PySem.W.Frag) (n : Nat) : Sp := fun vs H Q _ => ∃ v w J k, vs = [v] ∧ Ins (Fv n H) H v w J k ∧ k ≤ 60 ∧ ∀ H', Same H H' → Q (.str J) H'
def sp_pen (K : PySem.W.Frag) : Sp := fun vs H Q _ => ∃ (a : Addr) (ns : List Int), vs = [.ref a] ∧ SqL K H a (ns.map V.int) ∧ ∀ p H', Pen K H' p a 0 → Q (.ref p) H'
def sp_take (K : PySem.W.Frag) : Sp := fun vs H Q _ => ∃ p sc, ∃ (m B : Int), vs = [.ref p, .int m] ∧ Pen K H p sc B ∧ B < 2 ^ 60 ∧ 0 < m ∧ m < 2 ^ 200 ∧ ∀ r H', 0 ≤ r → r < m → Drawn K p sc (B + 1) H H' → Q (.int r) H'
def sp_names (K : PySem.W.Frag) : Sp := fun vs H Q _ => ∃ p sc, ∃ (m B : Int), vs = [.ref p, .int m] ∧ Pen K H p sc B ∧ B < 2 ^ 59 ∧ 0 ≤ m ∧ m ≤ 8 ∧ ∀ a (xs : List Str) H', (xs.length : Int) = m → (∀ x ∈ xs, Sh x) → Txts p H' a xs → Drawn K p sc (B + 60) H H' → Q (.ref a) H'
def sp_number (K : PySem.W.Frag) : Sp := fun vs H Q _ => ∃ p sc, ∃ (B : Int), vs = [.ref p] ∧ Pen K H p sc B ∧ B < 2 ^ 59 ∧ ∀ (i : Int) H', i.natAbs < 10 ^ 60 → Drawn K p sc (B + 10) H H' → Q (.int i) H'
def sp_node (K : PySem.W.Frag) : Sp := fun vs H Q _ => ∃ p sc na, ∃ (ns : List Str) (B : Int), vs = [.ref p, .ref na] ∧ Pen K H p sc B ∧ B < 2 ^ 58 ∧ Txts p H na ns ∧ ns ≠ [] ∧ (∀ x ∈ ns, Sh x) ∧ ns.length ≤ 8 ∧ ∀ v T H', NodeV H' v T → Drawn K p sc (B + 30) H H' → Q v H'
def sp_tip (K : PySem.W.Frag) : Sp := fun vs H Q _ => ∃ p sc na, ∃ (ns : List Str) (B : Int) (fr : Bool), vs = [.ref p, .ref na, .bl fr] ∧ Pen K H p sc B ∧ B < 2 ^ 57 ∧ Txts p H na ns ∧ ns ≠ [] ∧ (∀ x ∈ ns, Sh x) ∧ ns.length ≤ 8 ∧ ∀ v T H', (∀ n, Fv (n + 1) H' v T 1) → Drawn K p sc (B + 40) H H' → Q v H'
def sp_count (K : PySem.W.Frag) : Sp := fun vs H Q _ => ∃ p sc na, ∃ (ns : List Str) (B : Int), vs = [.ref p, .ref na] ∧ Pen K H p sc B ∧ B < 2 ^ 57 ∧ Txts p H na ns ∧ ns ≠ [] ∧ (∀ x ∈ ns, Sh x) ∧ ns.length ≤ 8 ∧
  ∀ a w (lo : Int) (hi : Option Int) st H', w ∈ WW → 0 ≤ lo → lo ≤ 60 → (∀ h, hi = some h → 0 ≤ h ∧ h ≤ 60) → st.length ≤ 10 → H' a = some (.tup [.str w, .int lo, hiV hi, .str st]) → Drawn K p sc (B + 10) H H' → Q (.ref a) H'
def sp_form (K : PySem.W.Frag) (n : Nat) : Sp := fun vs H Q _ => ∃ p sc na ra, ∃ (ns : List Str) (B R d : Int) (fr : Bool), vs = [.ref p, .ref na, .ref ra, .int d, .bl fr] ∧ 1 ≤ n ∧ d ≤ n ∧ Pen K H p sc B ∧ 0 ≤ R ∧ R ≤ 39 ∧ B + 60 * (R + 1) < 2 ^ 56 ∧ Txts p H na ns ∧ ns ≠ [] ∧ (∀ x ∈ ns, Sh x) ∧ ns.length ≤ 8 ∧ ra ≠ p ∧ ra ≠ na ∧ (ra ≠ sc ∨ ∃ ns : List Int, ∀ H, SqL K H sc (ns.map V.int)) ∧ H ra = some (.lst [.int R]) ∧
  ∀ v T (k : Nat) (R' : Int) H', Fv n H' v T k → 0 ≤ R' → (k : Int) + R' ≤ 1 + R → H' ra = some (.lst [.int R']) → Keep2 p ra H H' → Pen K H' p sc (B + 60 * k) → Q v H'
def sp_inner (K : PySem.W.Frag) : Sp := fun vs H Q _ => ∃ v us, vs = [v] ∧ (Parts H v us ∨ ∃ a u, v = .ref a ∧ H a = some (.tup [.str "closed", u]) ∧ us = []) ∧ ∀ b H', Same H H' → H' b = some (.lst us) → Q (.ref b) H'
def sp_node_text (K : PySem.W.Frag) : Sp := sp_show_node K
def sp_text (K : PySem.W.Frag) (n : Nat) : Sp := sp_show_form K n
def sp_law (K : PySem.W.Frag) : Sp := fun vs H Q _ => ∃ (a : Addr) (ns : List Int), vs = [.ref a] ∧ SqL K H a (ns.map V.int) ∧ ns.length ≤ 63 ∧ ∀ H', Q (.bl true) H'

def rd_kind_of (K : PySem.W.Frag) (t : Adr) : TS :=
  (tSeq (tIfS (tB (tCB (rIsi K) (tCons (tVar 0) (tCons (tC (.ty "str")) tNil)))) (tRet (tC (.str "thing"))) tNext)
    (tSeq (tIfS (tB (tCB (rIsi K) (tCons (tVar 0) (tCons (tC (.ty "tuple")) tNil)))) (tRet (tC (.str "said"))) tNext)
    (tRet (tC (.str "number")))))
theorem der_kind_of {P : Program} {w : World} {K : PySem.W.Frag} {mg : Str → Option Value} {base : Heap} {t : Adr} (T : Txt w K mg t) {cdv : Value} {A : Around} {outer : List Env} {s : Shared} {H : Hp} {E : XK} (hr : Room 0 (A.deeper (envOfC "kind_of" (defScope top_kind_of) s.heap.objs.size t.a_kind_of cdv))) :
    JSs (cxOf CX0 P w K mg base ["node"] "kind_of" (defScope top_kind_of) t.a_kind_of cdv A outer s H E).nox (defBody top_kind_of) (rd_kind_of K t) := by
  unfold rd_kind_of
  refine eSsC ?_ ?_
  · refine eIfS ?_ ?_ ?_
    · exact (eVal (eB call_isi rfl T.z_isinstance (by decide +kernel) (eA (eVar 0 rfl (Or.inl rfl) rfl rfl) (eA (eBlt (v := .ty "str") rfl T.z_str (by decide +kernel) rfl (by decide) rfl) eNil rfl) rfl) rfl rfl (by decide) rfl) (fun _ => rfl))
    · refine eSs1 ?_
      exact (eRet eStr)
    · exact eSs0
  · refine eSsC ?_ ?_
    · refine eIfS ?_ ?_ ?_
      · exact (eVal (eB call_isi rfl T.z_isinstance (by decide +kernel) (eA (eVar 0 rfl (Or.inl rfl) rfl rfl) (eA (eBlt (v := .ty "tuple") rfl T.z_tuple (by decide +kernel) rfl (by decide) rfl) eNil rfl) rfl) rfl rfl (by decide) rfl) (fun _ => rfl))
      · refine eSs1 ?_
        exact (eRet eStr)
      · exact eSs0
    · refine eSs1 ?_
      exact (eRet eStr)
def rd_show_node (K : PySem.W.Frag) (t : Adr) : TS :=
  (tSeq (tAsg (tCall (sp_kind_of K) [] E0 (tCons (tVar 0) tNil)) (gName 1))
    (tSeq (tIfS (tTest (tOp (rOr rEq (rOr rEqD (rEqF K))) (tVar 1) (tC (.str "number")))) (tRet (tCB (rStr1) (tCons (tVar 0) tNil))) tNext)
    (tSeq (tIfS (tTest (tOp (rOr rEq (rOr rEqD (rEqF K))) (tVar 1) (tC (.str "said")))) (tRet (tOp (rOr (rI0 fun i j => .int (i + j)) (rOr rAddS (rOr rCat (rCatT K)))) (tC (.str "'")) (tOp (rIx K) (tVar 0) (tC (.int 0))))) tNext)
    (tRet (tVar 0)))))
theorem der_show_node {P : Program} {w : World} {K : PySem.W.Frag} {mg : Str → Option Value} {base : Heap} {t : Adr} (T : Txt w K mg t) (G_kind_of : FnOk P w K mg base CX0 1 t.a_kind_of t.d_kind_of ["node"] (sp_kind_of K)) {cdv : Value} {A : Around} {outer : List Env} {s : Shared} {H : Hp} {E : XK} (hr : Room 1 (A.deeper (envOfC "show_node" (defScope top_show_node) s.heap.objs.size t.a_show_node cdv))) :
    JSs (cxOf CX0 P w K mg base ["node", "kind"] "show_node" (defScope top_show_node) t.a_show_node cdv A outer s H E).nox (defBody top_show_node) (rd_show_node K t) := by
  unfold rd_show_node
  refine eSsC ?_ ?_
  · refine eSet (i := 1) ?_ sc_show_node.nd rfl (Or.inl rfl) rfl (Or.inl rfl)
    exact (eCall G_kind_of (hr.mono (by omega)) rfl T.m_kind_of T.F_kind_of.kp T.b_kind_of .nil pass0 (eA (eVar 0 rfl (Or.inl rfl) rfl rfl) eNil rfl) rfl rfl rfl)
  · refine eSsC ?_ ?_
    · refine eIfS ?_ ?_ ?_
      · exact (eCmpT (orR op_eq (orR (op_eqDn hr.units) (op_eqF hr.units))) (eVar 1 rfl (Or.inl rfl) rfl rfl) eStr (nomark _))
      · refine eSs1 ?_
        exact (eRet (eTy call_strV rfl T.z_str (by decide +kernel) (eA (eVar 0 rfl (Or.inl rfl) rfl rfl) eNil rfl) rfl rfl (by decide) rfl))
      · exact eSs0
    · refine eSsC ?_ ?_
      · refine eIfS ?_ ?_ ?_
        · exact (eCmpT (orR op_eq (orR (op_eqDn hr.units) (op_eqF hr.units))) (eVar 1 rfl (Or.inl rfl) rfl rfl) eStr (nomark _))
        · refine eSs1 ?_
          exact (eRet (eOp (orR op_add (orR op_addS (orR op_cat op_catT))) eStr (eIx ix_seq (eVar 0 rfl (Or.inl rfl) rfl rfl) eInt (fun _ _ => rfl))))
        · exact eSs0
      · refine eSs1 ?_
        exact (eRet (eVar 0 rfl (Or.inl rfl) rfl rfl))
def rd_length_of (K : PySem.W.Frag) (t : Adr) : TS :=
  (tRet (tKGet f_LENGTHS (tVar 0)))
theorem der_length_of {P : Program} {w : World} {K : PySem.W.Frag} {mg : Str → Option Value} {base : Heap} {t : Adr} (T : Txt w K mg t) {cdv : Value} {A : Around} {outer : List Env} {s : Shared} {H : Hp} {E : XK} (hr : Room 0 (A.deeper (envOfC "length_of" (defScope top_length_of) s.heap.objs.size t.a_length_of cdv))) :
    JSs (cxOf CX0 P w K mg base ["word"] "length_of" (defScope top_length_of) t.a_length_of cdv A outer s H E).nox (defBody top_length_of) (rd_length_of K t) := by
  unfold rd_length_of
  refine eSs1 ?_
  exact (eRet (eKGet (eGlob (v := .ref t.c_LENGTHS) rfl T.g_LENGTHS rfl rfl) T.k_LENGTHS (eVar 0 rfl (Or.inl rfl) rfl rfl) rfl rfl rfl rfl))
def rd_straight_parts (K : PySem.W.Frag) (t : Adr) : TS :=
  (tSeq (tAsg (tOp (rIx K) (tVar 0) (tC (.int 0))) (gName 1))
    (tSeq (tIfS (tTest (tOp (rOr rEq (rOr rEqD (rEqF K))) (tVar 1) (tC (.str "not")))) (tRet (tTup (tCons (tOp (rIx K) (tVar 0) (tC (.int 1))) tNil))) tNext)
    (tSeq (tIfS (tTest (tOp (rOr rInS (rIn K false)) (tVar 1) (tC (.ref t.c_LISTS)))) (tRet (tOp (rIx K) (tVar 0) (tC (.int 1)))) tNext)
    (tSeq (tIfS (tTest (tOp (rOr rInS (rIn K false)) (tVar 1) (tC (.ref t.c_WALKS)))) (tRet (tTup (tCons (tOp (rIx K) (tVar 0) (tC (.int 4))) tNil))) tNext)
    (tRet (tTup tNil))))))
theorem der_straight_parts {P : Program} {w : World} {K : PySem.W.Frag} {mg : Str → Option Value} {base : Heap} {t : Adr} (T : Txt w K mg t) {cdv : Value} {A : Around} {outer : List Env} {s : Shared} {H : Hp} {E : XK} (hr : Room 0 (A.deeper (envOfC "straight_parts" (defScope top_straight_parts) s.heap.objs.size t.a_straight_parts cdv))) :
    JSs (cxOf CX0 P w K mg base ["form", "head"] "straight_parts" (defScope top_straight_parts) t.a_straight_parts cdv A outer s H E).nox (defBody top_straight_parts) (rd_straight_parts K t) := by
  unfold rd_straight_parts
  refine eSsC ?_ ?_
  · refine eSet (i := 1) ?_ sc_straight_parts.nd rfl (Or.inl rfl) rfl (Or.inl rfl)
    exact (eIx ix_seq (eVar 0 rfl (Or.inl rfl) rfl rfl) eInt (fun _ _ => rfl))
  · refine eSsC ?_ ?_
    · refine eIfS ?_ ?_ ?_
      · exact (eCmpT (orR op_eq (orR (op_eqDn hr.units) (op_eqF hr.units))) (eVar 1 rfl (Or.inl rfl) rfl rfl) eStr (nomark _))
      · refine eSs1 ?_
        exact (eRet (eTup (eA (eIx ix_seq (eVar 0 rfl (Or.inl rfl) rfl rfl) eInt (fun _ _ => rfl)) eNil rfl)))
      · exact eSs0
    · refine eSsC ?_ ?_
      · refine eIfS ?_ ?_ ?_
        · exact (eCmpT (orR op_inS op_in_seq) (eVar 1 rfl (Or.inl rfl) rfl rfl) (eGlob (v := .ref t.c_LISTS) rfl T.g_LISTS rfl rfl) (by with_unfolding_all rfl))
        · refine eSs1 ?_
          exact (eRet (eIx ix_seq (eVar 0 rfl (Or.inl rfl) rfl rfl) eInt (fun _ _ => rfl)))
        · exact eSs0
      · refine eSsC ?_ ?_
        · refine eIfS ?_ ?_ ?_
          · exact (eCmpT (orR op_inS op_in_seq) (eVar 1 rfl (Or.inl rfl) rfl rfl) (eGlob (v := .ref t.c_WALKS) rfl T.g_WALKS rfl rfl) (by with_unfolding_all rfl))
          · refine eSs1 ?_
            exact (eRet (eTup (eA (eIx ix_seq (eVar 0 rfl (Or.inl rfl) rfl rfl) eInt (fun _ _ => rfl)) eNil rfl)))
          · exact eSs0
        · refine eSs1 ?_
          exact (eRet (eTup eNil))
def rd_show_high (K : PySem.W.Frag) (t : Adr) : TS :=
  (tRet (tIf (tTest (tOp rIsN (tVar 0) (tC .non))) (tC (.str "*")) (tCB (rStr1) (tCons (tVar 0) tNil))))
theorem der_show_high {P : Program} {w : World} {K : PySem.W.Frag} {mg : Str → Option Value} {base : Heap} {t : Adr} (T : Txt w K mg t) {cdv : Value} {A : Around} {outer : List Env} {s : Shared} {H : Hp} {E : XK} (hr : Room 0 (A.deeper (envOfC "show_high" (defScope top_show_high) s.heap.objs.size t.a_show_high cdv))) :
    JSs (cxOf CX0 P w K mg base ["high"] "show_high" (defScope top_show_high) t.a_show_high cdv A outer s H E).nox (defBody top_show_high) (rd_show_high K t) := by
  unfold rd_show_high
  refine eSs1 ?_
  exact (eRet (eIf (eCmpT op_isNn (eVar 0 rfl (Or.inl rfl) rfl rfl) eNon (nomark _)) eStr (eTy call_strV rfl T.z_str (by decide +kernel) (eA (eVar 0 rfl (Or.inl rfl) rfl rfl) eNil rfl) rfl rfl (by decide) rfl)))
def rd_show_inside (K : PySem.W.Frag) (t : Adr) (n : Nat) : TS :=
  (tSeq (tIfS (tTest (tOp (rOr rEq (rOr rEqD (rEqF K))) (tOp (rIx K) (tVar 0) (tC (.int 0))) (tC (.str "closed")))) (tRet (tBM K "str" (rJoin2 K) (tC (.str ", ")) (tCons (tOp (rIx K) (tVar 0) (tC (.int 1))) tNil))) tNext)
    (tSeq (tAsg (tIf (tTest (tOp (rOr rInS (rIn K false)) (tOp (rIx K) (tVar 0) (tC (.int 0))) (tC (.ref t.c_WALKS)))) (tLst (tCons (tCB (rStr1) (tCons (tOp (rIx K) (tVar 0) (tC (.int 1))) tNil)) (tCons (tCall (sp_show_high K) [] E0 (tCons (tOp (rIx K) (tVar 0) (tC (.int 2))) tNil)) (tCons (tOp (rIx K) (tVar 0) (tC (.int 3))) tNil)))) (tLst tNil)) (gName 1))
    (tRet (tBM K "str" (rJoin2 K) (tC (.str ", ")) (tCons (tOp (rOr (rI0 fun i j => .int (i + j)) (rOr rAddS (rOr rCat (rCatT K)))) (tVar 1) (tComp [] (iTup K (tCall (sp_straight_parts K) [] E0 (tCons (tVar 0) tNil))) tYes (tCall (sp_show_form K n) [] E0 (tCons (tVar 0) tNil)))) tNil)))))
theorem der_show_inside {P : Program} {w : World} {K : PySem.W.Frag} {mg : Str → Option Value} {base : Heap} {t : Adr} {n : Nat} (T : Txt w K mg t) (G_show_high : FnOk P w K mg base CX0 1 t.a_show_high t.d_show_high ["high"] (sp_show_high K)) (G_straight_parts : FnOk P w K mg base CX0 1 t.a_straight_parts t.d_straight_parts ["form"] (sp_straight_parts K)) (G_show_form : FnOk P w K mg base CX0 (2 + 2 * n) t.a_show_form t.d_show_form ["form"] (sp_show_form K n)) {cdv : Value} {A : Around} {outer : List Env} {s : Shared} {H : Hp} {E : XK} (hr : Room (2 + 2 * n) (A.deeper (envOfC "show_inside" (defScope top_show_inside) s.heap.objs.size t.a_show_inside cdv))) :
    JSs (cxOf CX0 P w K mg base ["form", "ahead"] "show_inside" (defScope top_show_inside) t.a_show_inside cdv A outer s H E).nox (defBody top_show_inside) (rd_show_inside K t n) := by
  unfold rd_show_inside
  refine eSsC ?_ ?_
  · refine eIfS ?_ ?_ ?_
    · exact (eCmpT (orR op_eq (orR (op_eqDn hr.units) (op_eqF hr.units))) (eIx ix_seq (eVar 0 rfl (Or.inl rfl) rfl rfl) eInt (fun _ _ => rfl)) eStr (nomark _))
    · refine eSs1 ?_
      exact (eRet (eBM eStr (eA (eIx ix_seq (eVar 0 rfl (Or.inl rfl) rfl rfl) eInt (fun _ _ => rfl)) eNil rfl) mt_join2 PySem.F.plainAttrs_str PySem.F.slot_str_join PySem.F.type_str_join rfl rfl rfl rfl rfl))
    · exact eSs0
  · refine eSsC ?_ ?_
    · refine eSet (i := 1) ?_ sc_show_inside.nd rfl (Or.inl rfl) rfl (Or.inl rfl)
      exact (eIf (eCmpT (orR op_inS op_in_seq) (eIx ix_seq (eVar 0 rfl (Or.inl rfl) rfl rfl) eInt (fun _ _ => rfl)) (eGlob (v := .ref t.c_WALKS) rfl T.g_WALKS rfl rfl) (by with_unfolding_all rfl)) (eLst (eA (eTy call_strV rfl T.z_str (by decide +kernel) (eA (eIx ix_seq (eVar 0 rfl (Or.inl rfl) rfl rfl) eInt (fun _ _ => rfl)) eNil rfl) rfl rfl (by decide) rfl) (eA (eCall G_show_high (hr.mono (by omega)) rfl T.m_show_high T.F_show_high.kp T.b_show_high .nil pass0 (eA (eIx ix_seq (eVar 0 rfl (Or.inl rfl) rfl rfl) eInt (fun _ _ => rfl)) eNil rfl) rfl rfl rfl) (eA (eIx ix_seq (eVar 0 rfl (Or.inl rfl) rfl rfl) eInt (fun _ _ => rfl)) eNil rfl) rfl) rfl)) (eLst eNil))
    · refine eSs1 ?_
      exact (eRet (eBM eStr (eA (eOp (orR op_add (orR op_addS (orR op_cat op_catT))) (eVar 1 rfl (Or.inl rfl) rfl rfl) (eComp [] (eIT (eCall G_straight_parts (hr.mono (by omega)) rfl T.m_straight_parts T.F_straight_parts.kp T.b_straight_parts .nil pass0 (eA (eVar 0 rfl (Or.inl rfl) rfl rfl) eNil rfl) rfl rfl rfl)) eT0 (eC fun _ _ _ _ => (eCall G_show_form (hr.mono (by omega)) rfl T.m_show_form T.F_show_form.kp T.b_show_form .nil pass0 (eA (eVar 0 rfl (Or.inl rfl) rfl rfl) eNil rfl) rfl rfl rfl)) rfl (bsc (sc := defScope top_show_inside) rfl (by decide +kernel)) (by decide +kernel) trivial (fun _ => rfl))) eNil rfl) mt_join2 PySem.F.plainAttrs_str PySem.F.slot_str_join PySem.F.type_str_join rfl rfl rfl rfl rfl))
def rd_show_form (K : PySem.W.Frag) (t : Adr) (n : Nat) : TS :=
  (tSeq (tAsg (tOp (rIx K) (tVar 0) (tC (.int 0))) (gName 1))
    (tSeq (tIfS (tTest (tOp (rOr rEq (rOr rEqD (rEqF K))) (tCall (sp_length_of K) [] E0 (tCons (tVar 1) tNil)) (tC (.int 1)))) (tRet (tVar 1)) tNext)
    (tSeq (tIfS (tTest (tOp (rOr rEq (rOr rEqD (rEqF K))) (tVar 1) (tC (.str "keeps")))) (tRet (tOp (rOr (rI0 fun i j => .int (i + j)) (rOr rAddS (rOr rCat (rCatT K)))) (tOp (rOr (rI0 fun i j => .int (i + j)) (rOr rAddS (rOr rCat (rCatT K)))) (tVar 1) (tC (.str " "))) (tOp (rIx K) (tVar 0) (tC (.int 1))))) tNext)
    (tSeq (tIfS (tTest (tOp (rOr rInS (rIn K false)) (tVar 1) (tTup (tCons (tC (.str "from")) (tCons (tC (.str "upto")) (tCons (tC (.str "is")) tNil)))))) (tRet (tOp (rOr (rI0 fun i j => .int (i + j)) (rOr rAddS (rOr rCat (rCatT K)))) (tOp (rOr (rI0 fun i j => .int (i + j)) (rOr rAddS (rOr rCat (rCatT K)))) (tVar 1) (tC (.str " "))) (tCall (sp_show_node K) [] E0 (tCons (tOp (rIx K) (tVar 0) (tC (.int 1))) tNil)))) tNext)
    (tSeq (tAsg (tCall (sp_show_inside K n) [] E0 (tCons (tVar 0) tNil)) (gName 2))
    (tRet (tFs ((tFv (tVar 1)) :: ((tC (.str "(")) :: ((tFv (tVar 2)) :: ((tC (.str ")")) :: [])))) Str.empty)))))))
theorem der_show_form {P : Program} {w : World} {K : PySem.W.Frag} {mg : Str → Option Value} {base : Heap} {t : Adr} {n : Nat} (T : Txt w K mg t) (G_length_of : FnOk P w K mg base CX0 1 t.a_length_of t.d_length_of ["word"] (sp_length_of K)) (G_show_node : FnOk P w K mg base CX0 2 t.a_show_node t.d_show_node ["node"] (sp_show_node K)) (G_show_inside : FnOk P w K mg base CX0 (3 + 2 * n) t.a_show_inside t.d_show_inside ["form"] (sp_show_inside K n)) {cdv : Value} {A : Around} {outer : List Env} {s : Shared} {H : Hp} {E : XK} (hr : Room (3 + 2 * n) (A.deeper (envOfC "show_form" (defScope top_show_form) s.heap.objs.size t.a_show_form cdv))) :
    JSs (cxOf CX0 P w K mg base ["form", "head", "inside"] "show_form" (defScope top_show_form) t.a_show_form cdv A outer s H E).nox (defBody top_show_form) (rd_show_form K t n) := by
  unfold rd_show_form
  refine eSsC ?_ ?_
  · refine eSet (i := 1) ?_ sc_show_form.nd rfl (Or.inl rfl) rfl (Or.inl rfl)
    exact (eIx ix_seq (eVar 0 rfl (Or.inl rfl) rfl rfl) eInt (fun _ _ => rfl))
  · refine eSsC ?_ ?_
    · refine eIfS ?_ ?_ ?_
      · exact (eCmpT (orR op_eq (orR (op_eqDn hr.units) (op_eqF hr.units))) (eCall G_length_of (hr.mono (by omega)) rfl T.m_length_of T.F_length_of.kp T.b_length_of .nil pass0 (eA (eVar 1 rfl (Or.inl rfl) rfl rfl) eNil rfl) rfl rfl rfl) eInt (nomark _))
      · refine eSs1 ?_
        exact (eRet (eVar 1 rfl (Or.inl rfl) rfl rfl))
      · exact eSs0
    · refine eSsC ?_ ?_
      · refine eIfS ?_ ?_ ?_
        · exact (eCmpT (orR op_eq (orR (op_eqDn hr.units) (op_eqF hr.units))) (eVar 1 rfl (Or.inl rfl) rfl rfl) eStr (nomark _))
        · refine eSs1 ?_
          exact (eRet (eOp (orR op_add (orR op_addS (orR op_cat op_catT))) (eOp (orR op_add (orR op_addS (orR op_cat op_catT))) (eVar 1 rfl (Or.inl rfl) rfl rfl) eStr) (eIx ix_seq (eVar 0 rfl (Or.inl rfl) rfl rfl) eInt (fun _ _ => rfl))))
        · exact eSs0
      · refine eSsC ?_ ?_
        · refine eIfS ?_ ?_ ?_
          · exact (eCmpT (orR op_inS op_in_seq) (eVar 1 rfl (Or.inl rfl) rfl rfl) (eTup (eA eStr (eA eStr (eA eStr eNil rfl) rfl) rfl)) (by with_unfolding_all rfl))
          · refine eSs1 ?_
            exact (eRet (eOp (orR op_add (orR op_addS (orR op_cat op_catT))) (eOp (orR op_add (orR op_addS (orR op_cat op_catT))) (eVar 1 rfl (Or.inl rfl) rfl rfl) eStr) (eCall G_show_node (hr.mono (by omega)) rfl T.m_show_node T.F_show_node.kp T.b_show_node .nil pass0 (eA (eIx ix_seq (eVar 0 rfl (Or.inl rfl) rfl rfl) eInt (fun _ _ => rfl)) eNil rfl) rfl rfl rfl)))
          · exact eSs0
        · refine eSsC ?_ ?_
          · refine eSet (i := 2) ?_ sc_show_form.nd rfl (Or.inl rfl) rfl (Or.inl rfl)
            exact (eCall G_show_inside (hr.mono (by omega)) rfl T.m_show_inside T.F_show_inside.kp T.b_show_inside .nil pass0 (eA (eVar 0 rfl (Or.inl rfl) rfl rfl) eNil rfl) rfl rfl rfl)
          · refine eSs1 ?_
            exact (eRet (eFs (eFc (eFv (eVar 1 rfl (Or.inl rfl) rfl rfl)) (eFc eStr (eFc (eFv (eVar 2 rfl (Or.inl rfl) rfl rfl)) (eFc eStr eF0))))))
def rd_pen (K : PySem.W.Frag) (t : Adr) : TS :=
  (tRet (tLst (tCons (tVar 0) (tCons (tC (.int 0)) (tCons (tC (.int 0)) tNil)))))
theorem der_pen {P : Program} {w : World} {K : PySem.W.Frag} {mg : Str → Option Value} {base : Heap} {t : Adr} (T : Txt w K mg t) {cdv : Value} {A : Around} {outer : List Env} {s : Shared} {H : Hp} {E : XK} (hr : Room 0 (A.deeper (envOfC "_law_pen" (defScope top_pen) s.heap.objs.size t.a_pen cdv))) :
    JSs (cxOf CX0 P w K mg base ["_law_script"] "_law_pen" (defScope top_pen) t.a_pen cdv A outer s H E).nox (defBody top_pen) (rd_pen K t) := by
  unfold rd_pen
  refine eSs1 ?_
  exact (eRet (eLst (eA (eVar 0 rfl (Or.inl rfl) rfl rfl) (eA eInt (eA eInt eNil rfl) rfl) rfl)))
def rd_take (K : PySem.W.Frag) (t : Adr) : TS :=
  (tSeq (tIfS (tTest (tOp (rI0 fun i j => .bl (decide (i > j))) (tOp (rIx K) (tVar 0) (tC (.int 2))) (tC (.int 0)))) (tSeq (tAsg (tOp (rI (fun _ j => 0 < j) fun i j => .int (i % j)) (tOp (rIx K) (tVar 0) (tC (.int 2))) (tVar 1)) (gName 2))
    (tSeq (tAsg (tOp (rI (fun _ j => 0 < j ∧ j.natAbs.log2 < 9000) fun i j => .int (i / j)) (tOp (rIx K) (tVar 0) (tC (.int 2))) (tVar 1)) (gSub (tVar 0) (tC (.int 2)) rSetL))
    (tRet (tVar 2)))) tNext)
    (tSeq (tAsg (tOp (rIx K) (tVar 0) (tC (.int 1))) (gName 3))
    (tSeq (tAsg (tOp (rOr (rI0 fun i j => .int (i + j)) (rOr rAddS (rOr rCat (rCatT K)))) (tVar 3) (tC (.int 1))) (gSub (tVar 0) (tC (.int 1)) rSetL))
    (tSeq (tAsg (tC (.int 0)) (gName 4))
    (tSeq (tIfS (tTest (tOp (rI0 fun i j => .bl (decide (i > j))) (tCB (rLen K) (tCons (tOp (rIx K) (tVar 0) (tC (.int 0))) tNil)) (tC (.int 0)))) (tAsg (tOp (rIx K) (tOp (rIx K) (tVar 0) (tC (.int 0))) (tOp (rI (fun _ j => 0 < j) fun i j => .int (i % j)) (tVar 3) (tCB (rLen K) (tCons (tOp (rIx K) (tVar 0) (tC (.int 0))) tNil)))) (gName 4)) tNext)
    (tSeq (tIfS (tAnd (tTest (tOp (rOr (rI0 fun i j => .bl (decide (i < j))) rLtS) (tVar 3) (tCB (rLen K) (tCons (tOp (rIx K) (tVar 0) (tC (.int 0))) tNil)))) (tTest (tOp (rI0 fun i j => .bl (decide (i ≥ j))) (tCB (rAbs) (tCons (tVar 4) tNil)) (tOp (rI CPow fun i j => .int (i ^ j.toNat)) (tC (.int 10)) (tC (.int 18)))))) (tSeq (tAsg (tOp (rI (fun _ j => 0 < j ∧ j.natAbs.log2 < 9000) fun i j => .int (i / j)) (tCB (rAbs) (tCons (tVar 4) tNil)) (tVar 1)) (gSub (tVar 0) (tC (.int 2)) rSetL))
    (tRet (tOp (rI (fun _ j => 0 < j) fun i j => .int (i % j)) (tCB (rAbs) (tCons (tVar 4) tNil)) (tVar 1)))) tNext)
    (tSeq (tAsg (tOp (rI (fun _ j => 0 < j) fun i j => .int (i % j)) (tOp (rOr (rI CMul fun i j => .int (i * j)) rRep) (tOp (rOr (rI0 fun i j => .int (i + j)) (rOr rAddS (rOr rCat (rCatT K)))) (tOp (rOr (rI0 fun i j => .int (i + j)) (rOr rAddS (rOr rCat (rCatT K)))) (tOp (rOr (rI0 fun i j => .int (i + j)) (rOr rAddS (rOr rCat (rCatT K)))) (tOp (rI (fun _ j => 0 < j) fun i j => .int (i % j)) (tVar 4) (tC (.int 2147483629))) (tOp (rOr (rI CMul fun i j => .int (i * j)) rRep) (tOp (rOr (rI CMul fun i j => .int (i * j)) rRep) (tC (.int 7919)) (tVar 3)) (tVar 3))) (tOp (rOr (rI CMul fun i j => .int (i * j)) rRep) (tC (.int 41)) (tVar 3))) (tC (.int 17))) (tC (.int 48271))) (tC (.int 2147483647))) (gName 5))
    (tSeq (tAsg (tOp (rI (fun _ j => 0 < j) fun i j => .int (i % j)) (tOp (rOr (rI0 fun i j => .int (i + j)) (rOr rAddS (rOr rCat (rCatT K)))) (tOp (rOr (rI0 fun i j => .int (i + j)) (rOr rAddS (rOr rCat (rCatT K)))) (tOp (rOr (rI CMul fun i j => .int (i * j)) rRep) (tVar 5) (tVar 5)) (tOp (rOr (rI CMul fun i j => .int (i * j)) rRep) (tC (.int 69621)) (tVar 5))) (tVar 3)) (tC (.int 2147483587))) (gName 5))
    (tRet (tOp (rI (fun _ j => 0 < j) fun i j => .int (i % j)) (tOp (rI (fun _ j => 0 < j ∧ j.natAbs.log2 < 9000) fun i j => .int (i / j)) (tVar 5) (tC (.int 7))) (tVar 1)))))))))))
theorem der_take {P : Program} {w : World} {K : PySem.W.Frag} {mg : Str → Option Value} {base : Heap} {t : Adr} (T : Txt w K mg t) {cdv : Value} {A : Around} {outer : List Env} {s : Shared} {H : Hp} {E : XK} (hr : Room 0 (A.deeper (envOfC "_law_take" (defScope top_take) s.heap.objs.size t.a_take cdv))) :
    JSs (cxOf CX0 P w K mg base ["_law_pen_here", "_law_most", "_law_found", "_law_at", "_law_cell", "_law_number_here"] "_law_take" (defScope top_take) t.a_take cdv A outer s H E).nox (defBody top_take) (rd_take K t) := by
  unfold rd_take
  refine eSsC ?_ ?_
  · refine eIfS ?_ ?_ ?_
    · exact (eCmpT op_gt (eIx ix_seq (eVar 0 rfl (Or.inl rfl) rfl rfl) eInt (fun _ _ => rfl)) eInt (nomark _))
    · refine eSsC ?_ ?_
      · refine eSet (i := 2) ?_ sc_take.nd rfl (Or.inl rfl) rfl (Or.inl rfl)
        exact (eOp op_mod (eIx ix_seq (eVar 0 rfl (Or.inl rfl) rfl rfl) eInt (fun _ _ => rfl)) (eVar 1 rfl (Or.inl rfl) rfl rfl))
      · refine eSsC ?_ ?_
        · exact (eAsg (eOp op_fdivB (eIx ix_seq (eVar 0 rfl (Or.inl rfl) rfl rfl) eInt (fun _ _ => rfl)) (eVar 1 rfl (Or.inl rfl) rfl rfl)) (eSub (eVar 0 rfl (Or.inl rfl) rfl rfl) eInt set_list (fun _ => rfl)) rfl rfl rfl)
        · refine eSs1 ?_
          exact (eRet (eVar 2 rfl (Or.inl rfl) rfl rfl))
    · exact eSs0
  · refine eSsC ?_ ?_
    · refine eSet (i := 3) ?_ sc_take.nd rfl (Or.inl rfl) rfl (Or.inl rfl)
      exact (eIx ix_seq (eVar 0 rfl (Or.inl rfl) rfl rfl) eInt (fun _ _ => rfl))
    · refine eSsC ?_ ?_
      · exact (eAsg (eOp (orR op_add (orR op_addS (orR op_cat op_catT))) (eVar 3 rfl (Or.inl rfl) rfl rfl) eInt) (eSub (eVar 0 rfl (Or.inl rfl) rfl rfl) eInt set_list (fun _ => rfl)) rfl rfl rfl)
      · refine eSsC ?_ ?_
        · refine eSet (i := 4) ?_ sc_take.nd rfl (Or.inl rfl) rfl (Or.inl rfl)
          exact eInt
        · refine eSsC ?_ ?_
          · refine eIfS ?_ ?_ ?_
            · exact (eCmpT op_gt (eB call_lenV rfl T.z_len (by decide +kernel) (eA (eIx ix_seq (eVar 0 rfl (Or.inl rfl) rfl rfl) eInt (fun _ _ => rfl)) eNil rfl) rfl rfl (by decide) rfl) eInt (nomark _))
            · refine eSs1 ?_
              refine eSet (i := 4) ?_ sc_take.nd rfl (Or.inl rfl) rfl (Or.inl rfl)
              exact (eIx ix_seq (eIx ix_seq (eVar 0 rfl (Or.inl rfl) rfl rfl) eInt (fun _ _ => rfl)) (eOp op_mod (eVar 3 rfl (Or.inl rfl) rfl rfl) (eB call_lenV rfl T.z_len (by decide +kernel) (eA (eIx ix_seq (eVar 0 rfl (Or.inl rfl) rfl rfl) eInt (fun _ _ => rfl)) eNil rfl) rfl rfl (by decide) rfl)) (fun _ _ => rfl))
            · exact eSs0
          · refine eSsC ?_ ?_
            · refine eIfS ?_ ?_ ?_
              · exact (eW (eAndT (eCmpT (orR op_lt op_ltS) (eVar 3 rfl (Or.inl rfl) rfl rfl) (eB call_lenV rfl T.z_len (by decide +kernel) (eA (eIx ix_seq (eVar 0 rfl (Or.inl rfl) rfl rfl) eInt (fun _ _ => rfl)) eNil rfl) rfl rfl (by decide) rfl) (nomark _)) (eAndT1 (eCmpT op_ge (eB call_absI rfl T.z_abs (by decide +kernel) (eA (eVar 4 rfl (Or.inl rfl) rfl rfl) eNil rfl) rfl rfl (by decide) rfl) (eOp op_pow eInt eInt) (nomark _)))))
              · refine eSsC ?_ ?_
                · exact (eAsg (eOp op_fdivB (eB call_absI rfl T.z_abs (by decide +kernel) (eA (eVar 4 rfl (Or.inl rfl) rfl rfl) eNil rfl) rfl rfl (by decide) rfl) (eVar 1 rfl (Or.inl rfl) rfl rfl)) (eSub (eVar 0 rfl (Or.inl rfl) rfl rfl) eInt set_list (fun _ => rfl)) rfl rfl rfl)
                · refine eSs1 ?_
                  exact (eRet (eOp op_mod (eB call_absI rfl T.z_abs (by decide +kernel) (eA (eVar 4 rfl (Or.inl rfl) rfl rfl) eNil rfl) rfl rfl (by decide) rfl) (eVar 1 rfl (Or.inl rfl) rfl rfl)))
              · exact eSs0
            · refine eSsC ?_ ?_
              · refine eSet (i := 5) ?_ sc_take.nd rfl (Or.inl rfl) rfl (Or.inl rfl)
                exact (eOp op_mod (eOp (orR op_mul op_rep) (eOp (orR op_add (orR op_addS (orR op_cat op_catT))) (eOp (orR op_add (orR op_addS (orR op_cat op_catT))) (eOp (orR op_add (orR op_addS (orR op_cat op_catT))) (eOp op_mod (eVar 4 rfl (Or.inl rfl) rfl rfl) eInt) (eOp (orR op_mul op_rep) (eOp (orR op_mul op_rep) eInt (eVar 3 rfl (Or.inl rfl) rfl rfl)) (eVar 3 rfl (Or.inl rfl) rfl rfl))) (eOp (orR op_mul op_rep) eInt (eVar 3 rfl (Or.inl rfl) rfl rfl))) eInt) eInt) eInt)
              · refine eSsC ?_ ?_
                · refine eSet (i := 5) ?_ sc_take.nd rfl (Or.inl rfl) rfl (Or.inl rfl)
                  exact (eOp op_mod (eOp (orR op_add (orR op_addS (orR op_cat op_catT))) (eOp (orR op_add (orR op_addS (orR op_cat op_catT))) (eOp (orR op_mul op_rep) (eVar 5 rfl (Or.inl rfl) rfl rfl) (eVar 5 rfl (Or.inl rfl) rfl rfl)) (eOp (orR op_mul op_rep) eInt (eVar 5 rfl (Or.inl rfl) rfl rfl))) (eVar 3 rfl (Or.inl rfl) rfl rfl)) eInt)
                · refine eSs1 ?_
                  exact (eRet (eOp op_mod (eOp op_fdivB (eVar 5 rfl (Or.inl rfl) rfl rfl) eInt) (eVar 1 rfl (Or.inl rfl) rfl rfl)))
def rd_names (K : PySem.W.Frag) (t : Adr) : TS :=
  (tSeq (tAsg (tC (.str "abcdefghijklmnopqrstuvwxyz")) (gName 2))
    (tSeq (tAsg (tBM K "str" (rJoin2 K) (tC (.str "")) (tCons (tComp [2, 0] (iRng1 (tCons (tC (.int 8)) tNil)) tYes (tOp (rIx K) (tVar 1) (tCall (sp_take K) [] E0 (tCons (tVar 2) (tCons (tC (.int 26)) tNil))))) tNil)) (gName 3))
    (tSeq (tAsg (tLst (tCons (tC (.str "any")) (tCons (tC (.str "all")) (tCons (tC (.str "keeps")) (tCons (tC (.str "is")) (tCons (tC (.str "many")) (tCons (tC (.str "each")) (tCons (tC (.str "not")) (tCons (tC (.str "closed")) tNil))))))))) (gName 4))
    (tSeq (tAsg (tCall (sp_take K) [] E0 (tCons (tVar 0) (tCons (tC (.int 4)) tNil))) (gName 5))
    (tSeq (tAsg (tOp (rOr (rI0 fun i j => .int (i + j)) (rOr rAddS (rOr rCat (rCatT K)))) (tC (.int 1)) (tCall (sp_take K) [] E0 (tCons (tVar 0) (tCons (tC (.int 8)) tNil)))) (gName 6))
    (tSeq (tAsg (tCall (sp_take K) [] E0 (tCons (tVar 0) (tCons (tVar 6) tNil))) (gName 7))
    (tSeq (tAsg (tCall (sp_take K) [] E0 (tCons (tVar 0) (tCons (tC (.int 26)) tNil))) (gName 8))
    (tSeq (tAsg (tLst tNil) (gName 9))
    (tSeq (tFor (iRng1 (tCons (tVar 1) tNil)) (gName 10) (tSeq (tAsg (tOp (rIx K) (tVar 2) (tOp (rI (fun _ j => 0 < j) fun i j => .int (i % j)) (tOp (rOr (rI0 fun i j => .int (i + j)) (rOr rAddS (rOr rCat (rCatT K)))) (tVar 8) (tOp (rOr (rI CMul fun i j => .int (i * j)) rRep) (tC (.int 5)) (tVar 10))) (tC (.int 26)))) (gName 11))
    (tIfS (tAnd (tTest (tOp (rOr rEq (rOr rEqD (rEqF K))) (tVar 5) (tC (.int 0)))) (tTest (tOp (rOr (rI0 fun i j => .bl (decide (i < j))) rLtS) (tVar 1) (tC (.int 9))))) (tDrop (tBM K "list" rAppend (tVar 9) (tCons (tSl (rOrS rSlS (rOrS (rSlL K) (rSlT K))) (tVar 3) tNoPart (tPart (tOp (rOr (rI0 fun i j => .int (i + j)) (rOr rAddS (rOr rCat (rCatT K)))) (tOp (rI (fun _ j => 0 < j) fun i j => .int (i % j)) (tOp (rOr (rI0 fun i j => .int (i + j)) (rOr rAddS (rOr rCat (rCatT K)))) (tVar 8) (tOp (rOr (rI CMul fun i j => .int (i * j)) rRep) (tC (.int 3)) (tVar 10))) (tC (.int 8))) (tC (.int 1))))) tNil))) (tIfS (tAnd (tTest (tOp (rOr rEq (rOr rEqD (rEqF K))) (tVar 5) (tC (.int 1)))) (tTest (tOp (rOr (rI0 fun i j => .bl (decide (i < j))) rLtS) (tVar 1) (tC (.int 9))))) (tDrop (tBM K "list" rAppend (tVar 9) (tCons (tOp (rIx K) (tVar 4) (tOp (rI (fun _ j => 0 < j) fun i j => .int (i % j)) (tOp (rOr (rI0 fun i j => .int (i + j)) (rOr rAddS (rOr rCat (rCatT K)))) (tVar 8) (tVar 10)) (tC (.int 8)))) tNil))) (tIfS (tTest (tOp (rOr rEq (rOr rEqD (rEqF K))) (tVar 5) (tC (.int 2)))) (tDrop (tBM K "list" rAppend (tVar 9) (tCons (tOp (rOr (rI0 fun i j => .int (i + j)) (rOr rAddS (rOr rCat (rCatT K)))) (tOp (rIx K) (tVar 4) (tOp (rI (fun _ j => 0 < j) fun i j => .int (i % j)) (tVar 10) (tC (.int 8)))) (tVar 11)) tNil))) (tDrop (tBM K "list" rAppend (tVar 9) (tCons (tOp (rOr (rI0 fun i j => .int (i + j)) (rOr rAddS (rOr rCat (rCatT K)))) (tOp (rOr (rI0 fun i j => .int (i + j)) (rOr rAddS (rOr rCat (rCatT K)))) (tSl (rOrS rSlS (rOrS (rSlL K) (rSlT K))) (tVar 3) tNoPart (tPart (tVar 7))) (tVar 11)) (tSl (rOrS rSlS (rOrS (rSlL K) (rSlT K))) (tVar 3) (tPart (tOp (rOr (rI0 fun i j => .int (i + j)) (rOr rAddS (rOr rCat (rCatT K)))) (tVar 7) (tC (.int 1)))) (tPart (tVar 6)))) tNil))))))))
    (tRet (tVar 9)))))))))))
theorem der_names {P : Program} {w : World} {K : PySem.W.Frag} {mg : Str → Option Value} {base : Heap} {t : Adr} (T : Txt w K mg t) (G_take : FnOk P w K mg base CX0 1 t.a_take t.d_take ["_law_pen_here", "_law_most"] (sp_take K)) {cdv : Value} {A : Around} {outer : List Env} {s : Shared} {H : Hp} {E : XK} (hr : Room 1 (A.deeper (envOfC "_law_names" (defScope top_names) s.heap.objs.size t.a_names cdv))) :
    JSs (cxOf CX0 P w K mg base ["_law_pen_here", "_law_many", "_law_letters", "_law_base", "_law_words", "_law_way", "_law_size", "_law_at", "_law_turn", "_law_found", "_law_k", "_law_sign"] "_law_names" (defScope top_names) t.a_names cdv A outer s H E).nox (defBody top_names) (rd_names K t) := by
  unfold rd_names
  refine eSsC ?_ ?_
  · refine eSet (i := 2) ?_ sc_names.nd rfl (Or.inr rfl) rfl (Or.inl rfl)
    exact eStr
  · refine eSsC ?_ ?_
    · refine eSet (i := 3) ?_ sc_names.nd rfl (Or.inl rfl) rfl (Or.inl rfl)
      exact (eBM eStr (eA (eComp ["_law_letters", "_law_pen_here"] (eR1 rfl T.z_range (eA eInt eNil rfl) rfl) eT0 (eC fun _ _ _ _ => (eIx ix_seq (eVar 1 rfl (Or.inr (Or.inl rfl)) rfl rfl) (eCall G_take (hr.mono (by omega)) rfl T.m_take T.F_take.kp T.b_take .nil pass0 (eA (eVar 2 rfl (Or.inr (Or.inl rfl)) rfl rfl) (eA eInt eNil rfl) rfl) rfl rfl rfl) (fun _ _ => rfl))) rfl (bsc (sc := defScope top_names) rfl (by decide +kernel)) (by decide +kernel) ⟨rfl, ⟨rfl, rfl⟩, ⟨rfl, ⟨rfl, rfl⟩, trivial⟩⟩ (fun _ => rfl)) eNil rfl) mt_join2 PySem.F.plainAttrs_str PySem.F.slot_str_join PySem.F.type_str_join rfl rfl rfl rfl rfl)
    · refine eSsC ?_ ?_
      · refine eSet (i := 4) ?_ sc_names.nd rfl (Or.inl rfl) rfl (Or.inl rfl)
        exact (eLst (eA eStr (eA eStr (eA eStr (eA eStr (eA eStr (eA eStr (eA eStr (eA eStr eNil rfl) rfl) rfl) rfl) rfl) rfl) rfl) rfl))
      · refine eSsC ?_ ?_
        · refine eSet (i := 5) ?_ sc_names.nd rfl (Or.inl rfl) rfl (Or.inl rfl)
          exact (eCall G_take (hr.mono (by omega)) rfl T.m_take T.F_take.kp T.b_take .nil pass0 (eA (eVar 0 rfl (Or.inr (Or.inl rfl)) rfl rfl) (eA eInt eNil rfl) rfl) rfl rfl rfl)
        · refine eSsC ?_ ?_
          · refine eSet (i := 6) ?_ sc_names.nd rfl (Or.inl rfl) rfl (Or.inl rfl)
            exact (eOp (orR op_add (orR op_addS (orR op_cat op_catT))) eInt (eCall G_take (hr.mono (by omega)) rfl T.m_take T.F_take.kp T.b_take .nil pass0 (eA (eVar 0 rfl (Or.inr (Or.inl rfl)) rfl rfl) (eA eInt eNil rfl) rfl) rfl rfl rfl))
          · refine eSsC ?_ ?_
            · refine eSet (i := 7) ?_ sc_names.nd rfl (Or.inl rfl) rfl (Or.inl rfl)
              exact (eCall G_take (hr.mono (by omega)) rfl T.m_take T.F_take.kp T.b_take .nil pass0 (eA (eVar 0 rfl (Or.inr (Or.inl rfl)) rfl rfl) (eA (eVar 6 rfl (Or.inl rfl) rfl rfl) eNil rfl) rfl) rfl rfl rfl)
            · refine eSsC ?_ ?_
              · refine eSet (i := 8) ?_ sc_names.nd rfl (Or.inl rfl) rfl (Or.inl rfl)
                exact (eCall G_take (hr.mono (by omega)) rfl T.m_take T.F_take.kp T.b_take .nil pass0 (eA (eVar 0 rfl (Or.inr (Or.inl rfl)) rfl rfl) (eA eInt eNil rfl) rfl) rfl rfl rfl)
              · refine eSsC ?_ ?_
                · refine eSet (i := 9) ?_ sc_names.nd rfl (Or.inl rfl) rfl (Or.inl rfl)
                  exact (eLst eNil)
                · refine eSsC ?_ ?_
                  · refine eFor ?_ (eGN (i := 10) sc_names.nd rfl (Or.inl rfl) (Or.inl rfl)) ?_ PassesOwn.never rfl (fun _ => rfl)
                    · exact (eR1 rfl T.z_range (eA (eVar 1 rfl (Or.inl rfl) rfl rfl) eNil rfl) rfl)
                    · refine eSsC ?_ ?_
                      · refine eSet (i := 11) ?_ sc_names.nd rfl (Or.inl rfl) rfl (Or.inl rfl)
                        exact (eIx ix_seq (eVar 2 rfl (Or.inr (Or.inl rfl)) rfl rfl) (eOp op_mod (eOp (orR op_add (orR op_addS (orR op_cat op_catT))) (eVar 8 rfl (Or.inl rfl) rfl rfl) (eOp (orR op_mul op_rep) eInt (eVar 10 rfl (Or.inl rfl) rfl rfl))) eInt) (fun _ _ => rfl))
                      · refine eSs1 ?_
                        refine eIfS ?_ ?_ ?_
                        · exact (eW (eAndT (eCmpT (orR op_eq (orR (op_eqDn hr.units) (op_eqF hr.units))) (eVar 5 rfl (Or.inl rfl) rfl rfl) eInt (nomark _)) (eAndT1 (eCmpT (orR op_lt op_ltS) (eVar 1 rfl (Or.inl rfl) rfl rfl) eInt (nomark _)))))
                        · refine eSs1 ?_
                          exact (eExpr (eBM (eVar 9 rfl (Or.inl rfl) rfl rfl) (eA (eSl (orS sl_str (orS sl_list sl_tup)) (eVar 3 rfl (Or.inl rfl) rfl rfl) eNoP (eP (eOp (orR op_add (orR op_addS (orR op_cat op_catT))) (eOp op_mod (eOp (orR op_add (orR op_addS (orR op_cat op_catT))) (eVar 8 rfl (Or.inl rfl) rfl rfl) (eOp (orR op_mul op_rep) eInt (eVar 10 rfl (Or.inl rfl) rfl rfl))) eInt) eInt))) eNil rfl) mt_append PySem.F.plainAttrs_list PySem.F.slot_list_append PySem.F.type_list_append rfl rfl rfl rfl rfl) rfl)
                        · refine eSs1 ?_
                          refine eIfS ?_ ?_ ?_
                          · exact (eW (eAndT (eCmpT (orR op_eq (orR (op_eqDn hr.units) (op_eqF hr.units))) (eVar 5 rfl (Or.inl rfl) rfl rfl) eInt (nomark _)) (eAndT1 (eCmpT (orR op_lt op_ltS) (eVar 1 rfl (Or.inl rfl) rfl rfl) eInt (nomark _)))))
                          · refine eSs1 ?_
                            exact (eExpr (eBM (eVar 9 rfl (Or.inl rfl) rfl rfl) (eA (eIx ix_seq (eVar 4 rfl (Or.inl rfl) rfl rfl) (eOp op_mod (eOp (orR op_add (orR op_addS (orR op_cat op_catT))) (eVar 8 rfl (Or.inl rfl) rfl rfl) (eVar 10 rfl (Or.inl rfl) rfl rfl)) eInt) (fun _ _ => rfl)) eNil rfl) mt_append PySem.F.plainAttrs_list PySem.F.slot_list_append PySem.F.type_list_append rfl rfl rfl rfl rfl) rfl)
                          · refine eSs1 ?_
                            refine eIfS ?_ ?_ ?_
                            · exact (eCmpT (orR op_eq (orR (op_eqDn hr.units) (op_eqF hr.units))) (eVar 5 rfl (Or.inl rfl) rfl rfl) eInt (nomark _))
                            · refine eSs1 ?_
                              exact (eExpr (eBM (eVar 9 rfl (Or.inl rfl) rfl rfl) (eA (eOp (orR op_add (orR op_addS (orR op_cat op_catT))) (eIx ix_seq (eVar 4 rfl (Or.inl rfl) rfl rfl) (eOp op_mod (eVar 10 rfl (Or.inl rfl) rfl rfl) eInt) (fun _ _ => rfl)) (eVar 11 rfl (Or.inl rfl) rfl rfl)) eNil rfl) mt_append PySem.F.plainAttrs_list PySem.F.slot_list_append PySem.F.type_list_append rfl rfl rfl rfl rfl) rfl)
                            · refine eSs1 ?_
                              exact (eExpr (eBM (eVar 9 rfl (Or.inl rfl) rfl rfl) (eA (eOp (orR op_add (orR op_addS (orR op_cat op_catT))) (eOp (orR op_add (orR op_addS (orR op_cat op_catT))) (eSl (orS sl_str (orS sl_list sl_tup)) (eVar 3 rfl (Or.inl rfl) rfl rfl) eNoP (eP (eVar 7 rfl (Or.inl rfl) rfl rfl))) (eVar 11 rfl (Or.inl rfl) rfl rfl)) (eSl (orS sl_str (orS sl_list sl_tup)) (eVar 3 rfl (Or.inl rfl) rfl rfl) (eP (eOp (orR op_add (orR op_addS (orR op_cat op_catT))) (eVar 7 rfl (Or.inl rfl) rfl rfl) eInt)) (eP (eVar 6 rfl (Or.inl rfl) rfl rfl)))) eNil rfl) mt_append PySem.F.plainAttrs_list PySem.F.slot_list_append PySem.F.type_list_append rfl rfl rfl rfl rfl) rfl)
                  · refine eSs1 ?_
                    exact (eRet (eVar 9 rfl (Or.inl rfl) rfl rfl))
def rd_number (K : PySem.W.Frag) (t : Adr) : TS :=
  (tSeq (tAsg (tCall (sp_take K) [] E0 (tCons (tVar 0) (tCons (tC (.int 4)) tNil))) (gName 1))
    (tSeq (tAsg (tCall (sp_take K) [] E0 (tCons (tVar 0) (tCons (tC (.int 21)) tNil))) (gName 2))
    (tSeq (tIfS (tTest (tOp (rOr rEq (rOr rEqD (rEqF K))) (tVar 1) (tC (.int 1)))) (tAsg (tOp (rI0 fun i j => .int (i - j)) (tOp (rI0 fun i j => .int (i - j)) (tOp (rI CPow fun i j => .int (i ^ j.toNat)) (tC (.int 10)) (tC (.int 30))) (tC (.int 1))) (tCall (sp_take K) [] E0 (tCons (tVar 0) (tCons (tC (.int 3)) tNil)))) (gName 2)) tNext)
    (tSeq (tIfS (tTest (tOp (rOr rEq (rOr rEqD (rEqF K))) (tVar 1) (tC (.int 2)))) (tAsg (tOp (rOr (rI0 fun i j => .int (i + j)) (rOr rAddS (rOr rCat (rCatT K)))) (tOp (rOr (rI CMul fun i j => .int (i * j)) rRep) (tOp (rOr (rI0 fun i j => .int (i + j)) (rOr rAddS (rOr rCat (rCatT K)))) (tOp (rOr (rI CMul fun i j => .int (i * j)) rRep) (tCall (sp_take K) [] E0 (tCons (tVar 0) (tCons (tOp (rI CPow fun i j => .int (i ^ j.toNat)) (tC (.int 10)) (tC (.int 9))) tNil))) (tOp (rI CPow fun i j => .int (i ^ j.toNat)) (tC (.int 10)) (tC (.int 9)))) (tCall (sp_take K) [] E0 (tCons (tVar 0) (tCons (tOp (rI CPow fun i j => .int (i ^ j.toNat)) (tC (.int 10)) (tC (.int 9))) tNil)))) (tOp (rI CPow fun i j => .int (i ^ j.toNat)) (tC (.int 10)) (tC (.int 12)))) (tCall (sp_take K) [] E0 (tCons (tVar 0) (tCons (tOp (rI CPow fun i j => .int (i ^ j.toNat)) (tC (.int 10)) (tC (.int 12))) tNil)))) (gName 2)) tNext)
    (tSeq (tIfS (tTest (tOp (rOr rEq (rOr rEqD (rEqF K))) (tCall (sp_take K) [] E0 (tCons (tVar 0) (tCons (tC (.int 3)) tNil))) (tC (.int 0)))) (tAsg (tOp (rI0 fun i j => .int (i - j)) (tC (.int 0)) (tVar 2)) (gName 2)) tNext)
    (tRet (tVar 2)))))))
theorem der_number {P : Program} {w : World} {K : PySem.W.Frag} {mg : Str → Option Value} {base : Heap} {t : Adr} (T : Txt w K mg t) (G_take : FnOk P w K mg base CX0 1 t.a_take t.d_take ["_law_pen_here", "_law_most"] (sp_take K)) {cdv : Value} {A : Around} {outer : List Env} {s : Shared} {H : Hp} {E : XK} (hr : Room 1 (A.deeper (envOfC "_law_number" (defScope top_number) s.heap.objs.size t.a_number cdv))) :
    JSs (cxOf CX0 P w K mg base ["_law_pen_here", "_law_way", "_law_number_here"] "_law_number" (defScope top_number) t.a_number cdv A outer s H E).nox (defBody top_number) (rd_number K t) := by
  unfold rd_number
  refine eSsC ?_ ?_
  · refine eSet (i := 1) ?_ sc_number.nd rfl (Or.inl rfl) rfl (Or.inl rfl)
    exact (eCall G_take (hr.mono (by omega)) rfl T.m_take T.F_take.kp T.b_take .nil pass0 (eA (eVar 0 rfl (Or.inl rfl) rfl rfl) (eA eInt eNil rfl) rfl) rfl rfl rfl)
  · refine eSsC ?_ ?_
    · refine eSet (i := 2) ?_ sc_number.nd rfl (Or.inl rfl) rfl (Or.inl rfl)
      exact (eCall G_take (hr.mono (by omega)) rfl T.m_take T.F_take.kp T.b_take .nil pass0 (eA (eVar 0 rfl (Or.inl rfl) rfl rfl) (eA eInt eNil rfl) rfl) rfl rfl rfl)
    · refine eSsC ?_ ?_
      · refine eIfS ?_ ?_ ?_
        · exact (eCmpT (orR op_eq (orR (op_eqDn hr.units) (op_eqF hr.units))) (eVar 1 rfl (Or.inl rfl) rfl rfl) eInt (nomark _))
        · refine eSs1 ?_
          refine eSet (i := 2) ?_ sc_number.nd rfl (Or.inl rfl) rfl (Or.inl rfl)
          exact (eOp op_sub (eOp op_sub (eOp op_pow eInt eInt) eInt) (eCall G_take (hr.mono (by omega)) rfl T.m_take T.F_take.kp T.b_take .nil pass0 (eA (eVar 0 rfl (Or.inl rfl) rfl rfl) (eA eInt eNil rfl) rfl) rfl rfl rfl))
        · exact eSs0
      · refine eSsC ?_ ?_
        · refine eIfS ?_ ?_ ?_
          · exact (eCmpT (orR op_eq (orR (op_eqDn hr.units) (op_eqF hr.units))) (eVar 1 rfl (Or.inl rfl) rfl rfl) eInt (nomark _))
          · refine eSs1 ?_
            refine eSet (i := 2) ?_ sc_number.nd rfl (Or.inl rfl) rfl (Or.inl rfl)
            exact (eOp (orR op_add (orR op_addS (orR op_cat op_catT))) (eOp (orR op_mul op_rep) (eOp (orR op_add (orR op_addS (orR op_cat op_catT))) (eOp (orR op_mul op_rep) (eCall G_take (hr.mono (by omega)) rfl T.m_take T.F_take.kp T.b_take .nil pass0 (eA (eVar 0 rfl (Or.inl rfl) rfl rfl) (eA (eOp op_pow eInt eInt) eNil rfl) rfl) rfl rfl rfl) (eOp op_pow eInt eInt)) (eCall G_take (hr.mono (by omega)) rfl T.m_take T.F_take.kp T.b_take .nil pass0 (eA (eVar 0 rfl (Or.inl rfl) rfl rfl) (eA (eOp op_pow eInt eInt) eNil rfl) rfl) rfl rfl rfl)) (eOp op_pow eInt eInt)) (eCall G_take (hr.mono (by omega)) rfl T.m_take T.F_take.kp T.b_take .nil pass0 (eA (eVar 0 rfl (Or.inl rfl) rfl rfl) (eA (eOp op_pow eInt eInt) eNil rfl) rfl) rfl rfl rfl))
          · exact eSs0
        · refine eSsC ?_ ?_
          · refine eIfS ?_ ?_ ?_
            · exact (eCmpT (orR op_eq (orR (op_eqDn hr.units) (op_eqF hr.units))) (eCall G_take (hr.mono (by omega)) rfl T.m_take T.F_take.kp T.b_take .nil pass0 (eA (eVar 0 rfl (Or.inl rfl) rfl rfl) (eA eInt eNil rfl) rfl) rfl rfl rfl) eInt (nomark _))
            · refine eSs1 ?_
              refine eSet (i := 2) ?_ sc_number.nd rfl (Or.inl rfl) rfl (Or.inl rfl)
              exact (eOp op_sub eInt (eVar 2 rfl (Or.inl rfl) rfl rfl))
            · exact eSs0
          · refine eSs1 ?_
            exact (eRet (eVar 2 rfl (Or.inl rfl) rfl rfl))
def rd_node (K : PySem.W.Frag) (t : Adr) : TS :=
  (tSeq (tAsg (tCall (sp_take K) [] E0 (tCons (tVar 0) (tCons (tC (.int 3)) tNil))) (gName 2))
    (tSeq (tIfS (tTest (tOp (rOr rEq (rOr rEqD (rEqF K))) (tVar 2) (tC (.int 0)))) (tRet (tOp (rIx K) (tVar 1) (tCall (sp_take K) [] E0 (tCons (tVar 0) (tCons (tCB (rLen K) (tCons (tVar 1) tNil)) tNil))))) tNext)
    (tSeq (tIfS (tTest (tOp (rOr rEq (rOr rEqD (rEqF K))) (tVar 2) (tC (.int 1)))) (tRet (tCall (sp_number K) [] E0 (tCons (tVar 0) tNil))) tNext)
    (tSeq (tAsg (tC (.str "")) (gName 3))
    (tSeq (tFor (iRng1 (tCons (tOp (rIx K) (tLst (tCons (tC (.int 0)) (tCons (tC (.int 8)) (tCons (tOp (rOr (rI0 fun i j => .int (i + j)) (rOr rAddS (rOr rCat (rCatT K)))) (tC (.int 1)) (tCall (sp_take K) [] E0 (tCons (tVar 0) (tCons (tC (.int 8)) tNil)))) (tCons (tC (.int 3)) tNil))))) (tCall (sp_take K) [] E0 (tCons (tVar 0) (tCons (tC (.int 4)) tNil)))) tNil)) (gName 4) (tAsg (tOp (rOr (rI0 fun i j => .int (i + j)) (rOr rAddS (rOr rCat (rCatT K)))) (tVar 3) (tOp (rIx K) (tC (.str "abcdefghijklmnopqrstuvwxyz")) (tCall (sp_take K) [] E0 (tCons (tVar 0) (tCons (tC (.int 26)) tNil))))) (gName 3)))
    (tRet (tTup (tCons (tVar 3) tNil))))))))
theorem der_node {P : Program} {w : World} {K : PySem.W.Frag} {mg : Str → Option Value} {base : Heap} {t : Adr} (T : Txt w K mg t) (G_take : FnOk P w K mg base CX0 1 t.a_take t.d_take ["_law_pen_here", "_law_most"] (sp_take K)) (G_number : FnOk P w K mg base CX0 2 t.a_number t.d_number ["_law_pen_here"] (sp_number K)) {cdv : Value} {A : Around} {outer : List Env} {s : Shared} {H : Hp} {E : XK} (hr : Room 2 (A.deeper (envOfC "_law_node" (defScope top_node) s.heap.objs.size t.a_node cdv))) :
    JSs (cxOf CX0 P w K mg base ["_law_pen_here", "_law_things", "_law_way", "_law_word", "_law_k"] "_law_node" (defScope top_node) t.a_node cdv A outer s H E).nox (defBody top_node) (rd_node K t) := by
  unfold rd_node
  refine eSsC ?_ ?_
  · refine eSet (i := 2) ?_ sc_node.nd rfl (Or.inl rfl) rfl (Or.inl rfl)
    exact (eCall G_take (hr.mono (by omega)) rfl T.m_take T.F_take.kp T.b_take .nil pass0 (eA (eVar 0 rfl (Or.inl rfl) rfl rfl) (eA eInt eNil rfl) rfl) rfl rfl rfl)
  · refine eSsC ?_ ?_
    · refine eIfS ?_ ?_ ?_
      · exact (eCmpT (orR op_eq (orR (op_eqDn hr.units) (op_eqF hr.units))) (eVar 2 rfl (Or.inl rfl) rfl rfl) eInt (nomark _))
      · refine eSs1 ?_
        exact (eRet (eIx ix_seq (eVar 1 rfl (Or.inl rfl) rfl rfl) (eCall G_take (hr.mono (by omega)) rfl T.m_take T.F_take.kp T.b_take .nil pass0 (eA (eVar 0 rfl (Or.inl rfl) rfl rfl) (eA (eB call_lenV rfl T.z_len (by decide +kernel) (eA (eVar 1 rfl (Or.inl rfl) rfl rfl) eNil rfl) rfl rfl (by decide) rfl) eNil rfl) rfl) rfl rfl rfl) (fun _ _ => rfl)))
      · exact eSs0
    · refine eSsC ?_ ?_
      · refine eIfS ?_ ?_ ?_
        · exact (eCmpT (orR op_eq (orR (op_eqDn hr.units) (op_eqF hr.units))) (eVar 2 rfl (Or.inl rfl) rfl rfl) eInt (nomark _))
        · refine eSs1 ?_
          exact (eRet (eCall G_number (hr.mono (by omega)) rfl T.m_number T.F_number.kp T.b_number .nil pass0 (eA (eVar 0 rfl (Or.inl rfl) rfl rfl) eNil rfl) rfl rfl rfl))
        · exact eSs0
      · refine eSsC ?_ ?_
        · refine eSet (i := 3) ?_ sc_node.nd rfl (Or.inl rfl) rfl (Or.inl rfl)
          exact eStr
        · refine eSsC ?_ ?_
          · refine eFor ?_ (eGN (i := 4) sc_node.nd rfl (Or.inl rfl) (Or.inl rfl)) ?_ PassesOwn.never rfl (fun _ => rfl)
            · exact (eR1 rfl T.z_range (eA (eIx ix_seq (eLst (eA eInt (eA eInt (eA (eOp (orR op_add (orR op_addS (orR op_cat op_catT))) eInt (eCall G_take (hr.mono (by omega)) rfl T.m_take T.F_take.kp T.b_take .nil pass0 (eA (eVar 0 rfl (Or.inl rfl) rfl rfl) (eA eInt eNil rfl) rfl) rfl rfl rfl)) (eA eInt eNil rfl) rfl) rfl) rfl)) (eCall G_take (hr.mono (by omega)) rfl T.m_take T.F_take.kp T.b_take .nil pass0 (eA (eVar 0 rfl (Or.inl rfl) rfl rfl) (eA eInt eNil rfl) rfl) rfl rfl rfl) (fun _ _ => rfl)) eNil rfl) rfl)
            · refine eSs1 ?_
              refine eSet (i := 3) ?_ sc_node.nd rfl (Or.inl rfl) rfl (Or.inl rfl)
              exact (eOp (orR op_add (orR op_addS (orR op_cat op_catT))) (eVar 3 rfl (Or.inl rfl) rfl rfl) (eIx ix_seq eStr (eCall G_take (hr.mono (by omega)) rfl T.m_take T.F_take.kp T.b_take .nil pass0 (eA (eVar 0 rfl (Or.inl rfl) rfl rfl) (eA eInt eNil rfl) rfl) rfl rfl rfl) (fun _ _ => rfl)))
          · refine eSs1 ?_
            exact (eRet (eTup (eA (eVar 3 rfl (Or.inl rfl) rfl rfl) eNil rfl)))
def rd_tip (K : PySem.W.Frag) (t : Adr) : TS :=
  (tSeq (tAsg (tOp (rIx K) (tLst (tCons (tC (.str "any")) (tCons (tC (.str "thing")) (tCons (tC (.str "number")) (tCons (tC (.str "said")) (tCons (tC (.str "from")) (tCons (tC (.str "upto")) (tCons (tC (.str "is")) (tCons (tC (.str "keeps")) (tCons (tC (.str "keeps")) (tCons (tC (.str "closed")) tNil))))))))))) (tCall (sp_take K) [] E0 (tCons (tVar 0) (tCons (tC (.int 10)) tNil)))) (gName 3))
    (tSeq (tIfS (tTest (tOp (rOr rInS (rIn K false)) (tVar 3) (tTup (tCons (tC (.str "from")) (tCons (tC (.str "upto")) tNil))))) (tRet (tTup (tCons (tVar 3) (tCons (tCall (sp_number K) [] E0 (tCons (tVar 0) tNil)) tNil)))) tNext)
    (tSeq (tIfS (tTest (tOp (rOr rEq (rOr rEqD (rEqF K))) (tVar 3) (tC (.str "is")))) (tRet (tTup (tCons (tVar 3) (tCons (tCall (sp_node K) [] E0 (tCons (tVar 0) (tCons (tVar 1) tNil))) tNil)))) tNext)
    (tSeq (tIfS (tOr (tTest (tOp (rOr rEq (rOr rEqD (rEqF K))) (tVar 3) (tC (.str "keeps")))) (tAnd (tTest (tOp (rOr rEq (rOr rEqD (rEqF K))) (tVar 3) (tC (.str "closed")))) (tNot (tB (tVar 2))))) (tRet (tTup (tCons (tC (.str "keeps")) (tCons (tOp (rIx K) (tVar 1) (tCall (sp_take K) [] E0 (tCons (tVar 0) (tCons (tCB (rLen K) (tCons (tVar 1) tNil)) tNil)))) tNil)))) tNext)
    (tSeq (tIfS (tTest (tOp (rOr rEq (rOr rEqD (rEqF K))) (tVar 3) (tC (.str "closed")))) (tRet (tTup (tCons (tVar 3) (tCons (tCB (rTuple K) (tCons (tCB (rSortS K) (tCons (tSl (rOrS rSlS (rOrS (rSlL K) (rSlT K))) (tVar 1) tNoPart (tPart (tCall (sp_take K) [] E0 (tCons (tVar 0) (tCons (tOp (rOr (rI0 fun i j => .int (i + j)) (rOr rAddS (rOr rCat (rCatT K)))) (tCB (rLen K) (tCons (tVar 1) tNil)) (tC (.int 1))) tNil))))) tNil)) tNil)) tNil)))) tNext)
    (tRet (tTup (tCons (tVar 3) tNil))))))))
theorem der_tip {P : Program} {w : World} {K : PySem.W.Frag} {mg : Str → Option Value} {base : Heap} {t : Adr} (T : Txt w K mg t) (G_take : FnOk P w K mg base CX0 1 t.a_take t.d_take ["_law_pen_here", "_law_most"] (sp_take K)) (G_number : FnOk P w K mg base CX0 2 t.a_number t.d_number ["_law_pen_here"] (sp_number K)) (G_node : FnOk P w K mg base CX0 3 t.a_node t.d_node ["_law_pen_here", "_law_things"] (sp_node K)) {cdv : Value} {A : Around} {outer : List Env} {s : Shared} {H : Hp} {E : XK} (hr : Room 3 (A.deeper (envOfC "_law_tip" (defScope top_tip) s.heap.objs.size t.a_tip cdv))) :
    JSs (cxOf CX0 P w K mg base ["_law_pen_here", "_law_names_here", "_law_free", "_law_word"] "_law_tip" (defScope top_tip) t.a_tip cdv A outer s H E).nox (defBody top_tip) (rd_tip K t) := by
  unfold rd_tip
  refine eSsC ?_ ?_
  · refine eSet (i := 3) ?_ sc_tip.nd rfl (Or.inl rfl) rfl (Or.inl rfl)
    exact (eIx ix_seq (eLst (eA eStr (eA eStr (eA eStr (eA eStr (eA eStr (eA eStr (eA eStr (eA eStr (eA eStr (eA eStr eNil rfl) rfl) rfl) rfl) rfl) rfl) rfl) rfl) rfl) rfl)) (eCall G_take (hr.mono (by omega)) rfl T.m_take T.F_take.kp T.b_take .nil pass0 (eA (eVar 0 rfl (Or.inl rfl) rfl rfl) (eA eInt eNil rfl) rfl) rfl rfl rfl) (fun _ _ => rfl))
  · refine eSsC ?_ ?_
    · refine eIfS ?_ ?_ ?_
      · exact (eCmpT (orR op_inS op_in_seq) (eVar 3 rfl (Or.inl rfl) rfl rfl) (eTup (eA eStr (eA eStr eNil rfl) rfl)) (by with_unfolding_all rfl))
      · refine eSs1 ?_
        exact (eRet (eTup (eA (eVar 3 rfl (Or.inl rfl) rfl rfl) (eA (eCall G_number (hr.mono (by omega)) rfl T.m_number T.F_number.kp T.b_number .nil pass0 (eA (eVar 0 rfl (Or.inl rfl) rfl rfl) eNil rfl) rfl rfl rfl) eNil rfl) rfl)))
      · exact eSs0
    · refine eSsC ?_ ?_
      · refine eIfS ?_ ?_ ?_
        · exact (eCmpT (orR op_eq (orR (op_eqDn hr.units) (op_eqF hr.units))) (eVar 3 rfl (Or.inl rfl) rfl rfl) eStr (nomark _))
        · refine eSs1 ?_
          exact (eRet (eTup (eA (eVar 3 rfl (Or.inl rfl) rfl rfl) (eA (eCall G_node (hr.mono (by omega)) rfl T.m_node T.F_node.kp T.b_node .nil pass0 (eA (eVar 0 rfl (Or.inl rfl) rfl rfl) (eA (eVar 1 rfl (Or.inl rfl) rfl rfl) eNil rfl) rfl) rfl rfl rfl) eNil rfl) rfl)))
        · exact eSs0
      · refine eSsC ?_ ?_
        · refine eIfS ?_ ?_ ?_
          · exact (eW (eOrT (eCmpT (orR op_eq (orR (op_eqDn hr.units) (op_eqF hr.units))) (eVar 3 rfl (Or.inl rfl) rfl rfl) eStr (nomark _)) (eOrT1 (eW (eAndT (eCmpT (orR op_eq (orR (op_eqDn hr.units) (op_eqF hr.units))) (eVar 3 rfl (Or.inl rfl) rfl rfl) eStr (nomark _)) (eAndT1 (eNotT (eVal (eVar 2 rfl (Or.inl rfl) rfl rfl) (fun _ => rfl)))))))))
          · refine eSs1 ?_
            exact (eRet (eTup (eA eStr (eA (eIx ix_seq (eVar 1 rfl (Or.inl rfl) rfl rfl) (eCall G_take (hr.mono (by omega)) rfl T.m_take T.F_take.kp T.b_take .nil pass0 (eA (eVar 0 rfl (Or.inl rfl) rfl rfl) (eA (eB call_lenV rfl T.z_len (by decide +kernel) (eA (eVar 1 rfl (Or.inl rfl) rfl rfl) eNil rfl) rfl rfl (by decide) rfl) eNil rfl) rfl) rfl rfl rfl) (fun _ _ => rfl)) eNil rfl) rfl)))
          · exact eSs0
        · refine eSsC ?_ ?_
          · refine eIfS ?_ ?_ ?_
            · exact (eCmpT (orR op_eq (orR (op_eqDn hr.units) (op_eqF hr.units))) (eVar 3 rfl (Or.inl rfl) rfl rfl) eStr (nomark _))
            · refine eSs1 ?_
              exact (eRet (eTup (eA (eVar 3 rfl (Or.inl rfl) rfl rfl) (eA (eTy call_tupleV rfl T.z_tuple (by decide +kernel) (eA (eB call_sortedS rfl T.z_sorted (by decide +kernel) (eA (eSl (orS sl_str (orS sl_list sl_tup)) (eVar 1 rfl (Or.inl rfl) rfl rfl) eNoP (eP (eCall G_take (hr.mono (by omega)) rfl T.m_take T.F_take.kp T.b_take .nil pass0 (eA (eVar 0 rfl (Or.inl rfl) rfl rfl) (eA (eOp (orR op_add (orR op_addS (orR op_cat op_catT))) (eB call_lenV rfl T.z_len (by decide +kernel) (eA (eVar 1 rfl (Or.inl rfl) rfl rfl) eNil rfl) rfl rfl (by decide) rfl) eInt) eNil rfl) rfl) rfl rfl rfl))) eNil rfl) rfl rfl (by decide) rfl) eNil rfl) rfl rfl (by decide) rfl) eNil rfl) rfl)))
            · exact eSs0
          · refine eSs1 ?_
            exact (eRet (eTup (eA (eVar 3 rfl (Or.inl rfl) rfl rfl) eNil rfl)))
def rd_count (K : PySem.W.Frag) (t : Adr) : TS :=
  (tSeq (tAsg (tOp (rIx K) (tLst (tCons (tC (.int 0)) (tCons (tC (.int 0)) (tCons (tC (.int 1)) (tCons (tC (.int 2)) (tCons (tC (.int 60)) (tCons (tCall (sp_take K) [] E0 (tCons (tVar 0) (tCons (tC (.int 61)) tNil))) tNil))))))) (tCall (sp_take K) [] E0 (tCons (tVar 0) (tCons (tC (.int 6)) tNil)))) (gName 2))
    (tSeq (tAsg (tOp (rIx K) (tLst (tCons (tC .non) (tCons (tVar 2) (tCons (tOp (rOr (rI0 fun i j => .int (i + j)) (rOr rAddS (rOr rCat (rCatT K)))) (tVar 2) (tCall (sp_take K) [] E0 (tCons (tVar 0) (tCons (tOp (rI0 fun i j => .int (i - j)) (tC (.int 61)) (tVar 2)) tNil)))) tNil)))) (tCall (sp_take K) [] E0 (tCons (tVar 0) (tCons (tC (.int 3)) tNil)))) (gName 3))
    (tSeq (tAsg (tOp (rOr (rI0 fun i j => .int (i + j)) (rOr rAddS (rOr rCat (rCatT K)))) (tOp (rIx K) (tLst (tCons (tC (.str "")) (tCons (tC (.str "")) (tCons (tC (.str "^")) tNil)))) (tCall (sp_take K) [] E0 (tCons (tVar 0) (tCons (tC (.int 3)) tNil)))) (tOp (rIx K) (tVar 1) (tCall (sp_take K) [] E0 (tCons (tVar 0) (tCons (tCB (rLen K) (tCons (tVar 1) tNil)) tNil))))) (gName 4))
    (tRet (tTup (tCons (tOp (rIx K) (tLst (tCons (tC (.str "many")) (tCons (tC (.str "each")) tNil))) (tCall (sp_take K) [] E0 (tCons (tVar 0) (tCons (tC (.int 2)) tNil)))) (tCons (tVar 2) (tCons (tVar 3) (tCons (tVar 4) tNil)))))))))
theorem der_count {P : Program} {w : World} {K : PySem.W.Frag} {mg : Str → Option Value} {base : Heap} {t : Adr} (T : Txt w K mg t) (G_take : FnOk P w K mg base CX0 1 t.a_take t.d_take ["_law_pen_here", "_law_most"] (sp_take K)) {cdv : Value} {A : Around} {outer : List Env} {s : Shared} {H : Hp} {E : XK} (hr : Room 1 (A.deeper (envOfC "_law_count" (defScope top_count) s.heap.objs.size t.a_count cdv))) :
    JSs (cxOf CX0 P w K mg base ["_law_pen_here", "_law_names_here", "_law_low", "_law_high", "_law_step"] "_law_count" (defScope top_count) t.a_count cdv A outer s H E).nox (defBody top_count) (rd_count K t) := by
  unfold rd_count
  refine eSsC ?_ ?_
  · refine eSet (i := 2) ?_ sc_count.nd rfl (Or.inl rfl) rfl (Or.inl rfl)
    exact (eIx ix_seq (eLst (eA eInt (eA eInt (eA eInt (eA eInt (eA eInt (eA (eCall G_take (hr.mono (by omega)) rfl T.m_take T.F_take.kp T.b_take .nil pass0 (eA (eVar 0 rfl (Or.inl rfl) rfl rfl) (eA eInt eNil rfl) rfl) rfl rfl rfl) eNil rfl) rfl) rfl) rfl) rfl) rfl)) (eCall G_take (hr.mono (by omega)) rfl T.m_take T.F_take.kp T.b_take .nil pass0 (eA (eVar 0 rfl (Or.inl rfl) rfl rfl) (eA eInt eNil rfl) rfl) rfl rfl rfl) (fun _ _ => rfl))
  · refine eSsC ?_ ?_
    · refine eSet (i := 3) ?_ sc_count.nd rfl (Or.inl rfl) rfl (Or.inl rfl)
      exact (eIx ix_seq (eLst (eA eNon (eA (eVar 2 rfl (Or.inl rfl) rfl rfl) (eA (eOp (orR op_add (orR op_addS (orR op_cat op_catT))) (eVar 2 rfl (Or.inl rfl) rfl rfl) (eCall G_take (hr.mono (by omega)) rfl T.m_take T.F_take.kp T.b_take .nil pass0 (eA (eVar 0 rfl (Or.inl rfl) rfl rfl) (eA (eOp op_sub eInt (eVar 2 rfl (Or.inl rfl) rfl rfl)) eNil rfl) rfl) rfl rfl rfl)) eNil rfl) rfl) rfl)) (eCall G_take (hr.mono (by omega)) rfl T.m_take T.F_take.kp T.b_take .nil pass0 (eA (eVar 0 rfl (Or.inl rfl) rfl rfl) (eA eInt eNil rfl) rfl) rfl rfl rfl) (fun _ _ => rfl))
    · refine eSsC ?_ ?_
      · refine eSet (i := 4) ?_ sc_count.nd rfl (Or.inl rfl) rfl (Or.inl rfl)
        exact (eOp (orR op_add (orR op_addS (orR op_cat op_catT))) (eIx ix_seq (eLst (eA eStr (eA eStr (eA eStr eNil rfl) rfl) rfl)) (eCall G_take (hr.mono (by omega)) rfl T.m_take T.F_take.kp T.b_take .nil pass0 (eA (eVar 0 rfl (Or.inl rfl) rfl rfl) (eA eInt eNil rfl) rfl) rfl rfl rfl) (fun _ _ => rfl)) (eIx ix_seq (eVar 1 rfl (Or.inl rfl) rfl rfl) (eCall G_take (hr.mono (by omega)) rfl T.m_take T.F_take.kp T.b_take .nil pass0 (eA (eVar 0 rfl (Or.inl rfl) rfl rfl) (eA (eB call_lenV rfl T.z_len (by decide +kernel) (eA (eVar 1 rfl (Or.inl rfl) rfl rfl) eNil rfl) rfl rfl (by decide) rfl) eNil rfl) rfl) rfl rfl rfl) (fun _ _ => rfl)))
      · refine eSs1 ?_
        exact (eRet (eTup (eA (eIx ix_seq (eLst (eA eStr (eA eStr eNil rfl) rfl)) (eCall G_take (hr.mono (by omega)) rfl T.m_take T.F_take.kp T.b_take .nil pass0 (eA (eVar 0 rfl (Or.inl rfl) rfl rfl) (eA eInt eNil rfl) rfl) rfl rfl rfl) (fun _ _ => rfl)) (eA (eVar 2 rfl (Or.inl rfl) rfl rfl) (eA (eVar 3 rfl (Or.inl rfl) rfl rfl) (eA (eVar 4 rfl (Or.inl rfl) rfl rfl) eNil rfl) rfl) rfl) rfl)))
def rd_form (K : PySem.W.Frag) (t : Adr) (n : Nat) : TS :=
  (tSeq (tAsg (tCall (sp_take K) [] E0 (tCons (tVar 0) (tCons (tC (.int 10)) tNil))) (gName 5))
    (tSeq (tIfS (tOr (tTest (tOp (rOr (rI0 fun i j => .bl (decide (i < j))) rLtS) (tVar 5) (tC (.int 3)))) (tOr (tTest (tOp (rOr (rI0 fun i j => .bl (decide (i < j))) rLtS) (tVar 3) (tC (.int 2)))) (tTest (tOp (rOr (rI0 fun i j => .bl (decide (i < j))) rLtS) (tOp (rIx K) (tVar 2) (tC (.int 0))) (tC (.int 1)))))) (tRet (tCall (sp_tip K) [] E0 (tCons (tVar 0) (tCons (tVar 1) (tCons (tVar 4) tNil))))) tNext)
    (tSeq (tIfS (tTest (tOp (rOr rEq (rOr rEqD (rEqF K))) (tVar 5) (tC (.int 3)))) (tSeq (tAsg (tOp (rI0 fun i j => .int (i - j)) (tOp (rIx K) (tVar 2) (tC (.int 0))) (tC (.int 1))) (gSub (tVar 2) (tC (.int 0)) rSetL))
    (tRet (tTup (tCons (tC (.str "not")) (tCons (tCall (sp_form K n) [] E0 (tCons (tVar 0) (tCons (tVar 1) (tCons (tVar 2) (tCons (tOp (rI0 fun i j => .int (i - j)) (tVar 3) (tC (.int 1))) (tCons (tVar 4) tNil)))))) tNil))))) tNext)
    (tSeq (tIfS (tAnd (tTest (tOp (rOr (rI0 fun i j => .bl (decide (i < j))) rLtS) (tVar 5) (tC (.int 7)))) (tB (tVar 4))) (tSeq (tAsg (tOp (rI0 fun i j => .int (i - j)) (tOp (rIx K) (tVar 2) (tC (.int 0))) (tC (.int 1))) (gSub (tVar 2) (tC (.int 0)) rSetL))
    (tRet (tOp (rOr (rI0 fun i j => .int (i + j)) (rOr rAddS (rOr rCat (rCatT K)))) (tCall (sp_count K) [] E0 (tCons (tVar 0) (tCons (tVar 1) tNil))) (tTup (tCons (tCall (sp_form K n) [] E0 (tCons (tVar 0) (tCons (tVar 1) (tCons (tVar 2) (tCons (tOp (rI0 fun i j => .int (i - j)) (tVar 3) (tC (.int 1))) (tCons (tC (.bl false)) tNil)))))) tNil))))) tNext)
    (tSeq (tAsg (tCB (rMin2) (tCons (tCall (sp_take K) [] E0 (tCons (tVar 0) (tCons (tC (.int 7)) tNil))) (tCons (tOp (rIx K) (tVar 2) (tC (.int 0))) tNil))) (gName 6))
    (tSeq (tAsg (tOp (rI0 fun i j => .int (i - j)) (tOp (rIx K) (tVar 2) (tC (.int 0))) (tVar 6)) (gSub (tVar 2) (tC (.int 0)) rSetL))
    (tSeq (tAsg (tComp [0, 1, 2, 4, 3] (iRng1 (tCons (tVar 6) tNil)) tYes (tCall (sp_form K n) [] E0 (tCons (tVar 1) (tCons (tVar 2) (tCons (tVar 3) (tCons (tOp (rI0 fun i j => .int (i - j)) (tVar 5) (tC (.int 1))) (tCons (tVar 4) tNil))))))) (gName 7))
    (tRet (tTup (tCons (tOp (rIx K) (tLst (tCons (tC (.str "all")) (tCons (tC (.str "some")) (tCons (tC (.str "one")) (tCons (tC (.str "none")) tNil))))) (tCall (sp_take K) [] E0 (tCons (tVar 0) (tCons (tC (.int 4)) tNil)))) (tCons (tCB (rTuple K) (tCons (tVar 7) tNil)) tNil)))))))))))
theorem der_form {P : Program} {w : World} {K : PySem.W.Frag} {mg : Str → Option Value} {base : Heap} {t : Adr} {n : Nat} (T : Txt w K mg t) (G_take : FnOk P w K mg base CX0 1 t.a_take t.d_take ["_law_pen_here", "_law_most"] (sp_take K)) (G_tip : FnOk P w K mg base CX0 4 t.a_tip t.d_tip ["_law_pen_here", "_law_names_here", "_law_free"] (sp_tip K)) (G_form : FnOk P w K mg base CX0 (4 + n) t.a_form t.d_form ["_law_pen_here", "_law_names_here", "_law_room", "_law_deep", "_law_free"] (sp_form K n)) (G_count : FnOk P w K mg base CX0 2 t.a_count t.d_count ["_law_pen_here", "_law_names_here"] (sp_count K)) {cdv : Value} {A : Around} {outer : List Env} {s : Shared} {H : Hp} {E : XK} (hr : Room (4 + n) (A.deeper (envOfC "_law_form" (defScope top_form) s.heap.objs.size t.a_form cdv))) :
    JSs (cxOf CX0 P w K mg base ["_law_pen_here", "_law_names_here", "_law_room", "_law_deep", "_law_free", "_law_way", "_law_many", "_law_some"] "_law_form" (defScope top_form) t.a_form cdv A outer s H E).nox (defBody top_form) (rd_form K t n) := by
  unfold rd_form
  refine eSsC ?_ ?_
  · refine eSet (i := 5) ?_ sc_form.nd rfl (Or.inl rfl) rfl (Or.inl rfl)
    exact (eCall G_take (hr.mono (by omega)) rfl T.m_take T.F_take.kp T.b_take .nil pass0 (eA (eVar 0 rfl (Or.inr (Or.inl rfl)) rfl rfl) (eA eInt eNil rfl) rfl) rfl rfl rfl)
  · refine eSsC ?_ ?_
    · refine eIfS ?_ ?_ ?_
      · exact (eW (eOrT (eCmpT (orR op_lt op_ltS) (eVar 5 rfl (Or.inl rfl) rfl rfl) eInt (nomark _)) (eOrT (eCmpT (orR op_lt op_ltS) (eVar 3 rfl (Or.inr (Or.inl rfl)) rfl rfl) eInt (nomark _)) (eOrT1 (eCmpT (orR op_lt op_ltS) (eIx ix_seq (eVar 2 rfl (Or.inr (Or.inl rfl)) rfl rfl) eInt (fun _ _ => rfl)) eInt (nomark _))))))
      · refine eSs1 ?_
        exact (eRet (eCall G_tip (hr.mono (by omega)) rfl T.m_tip T.F_tip.kp T.b_tip .nil pass0 (eA (eVar 0 rfl (Or.inr (Or.inl rfl)) rfl rfl) (eA (eVar 1 rfl (Or.inr (Or.inl rfl)) rfl rfl) (eA (eVar 4 rfl (Or.inr (Or.inl rfl)) rfl rfl) eNil rfl) rfl) rfl) rfl rfl rfl))
      · exact eSs0
    · refine eSsC ?_ ?_
      · refine eIfS ?_ ?_ ?_
        · exact (eCmpT (orR op_eq (orR (op_eqDn hr.units) (op_eqF hr.units))) (eVar 5 rfl (Or.inl rfl) rfl rfl) eInt (nomark _))
        · refine eSsC ?_ ?_
          · exact (eAsg (eOp op_sub (eIx ix_seq (eVar 2 rfl (Or.inr (Or.inl rfl)) rfl rfl) eInt (fun _ _ => rfl)) eInt) (eSub (eVar 2 rfl (Or.inr (Or.inl rfl)) rfl rfl) eInt set_list (fun _ => rfl)) rfl rfl rfl)
          · refine eSs1 ?_
            exact (eRet (eTup (eA eStr (eA (eCall G_form (hr.mono (by omega)) rfl T.m_form T.F_form.kp T.b_form .nil pass0 (eA (eVar 0 rfl (Or.inr (Or.inl rfl)) rfl rfl) (eA (eVar 1 rfl (Or.inr (Or.inl rfl)) rfl rfl) (eA (eVar 2 rfl (Or.inr (Or.inl rfl)) rfl rfl) (eA (eOp op_sub (eVar 3 rfl (Or.inr (Or.inl rfl)) rfl rfl) eInt) (eA (eVar 4 rfl (Or.inr (Or.inl rfl)) rfl rfl) eNil rfl) rfl) rfl) rfl) rfl) rfl rfl rfl) eNil rfl) rfl)))
        · exact eSs0
      · refine eSsC ?_ ?_
        · refine eIfS ?_ ?_ ?_
          · exact (eW (eAndT (eCmpT (orR op_lt op_ltS) (eVar 5 rfl (Or.inl rfl) rfl rfl) eInt (nomark _)) (eAndT1 (eVal (eVar 4 rfl (Or.inr (Or.inl rfl)) rfl rfl) (fun _ => rfl)))))
          · refine eSsC ?_ ?_
            · exact (eAsg (eOp op_sub (eIx ix_seq (eVar 2 rfl (Or.inr (Or.inl rfl)) rfl rfl) eInt (fun _ _ => rfl)) eInt) (eSub (eVar 2 rfl (Or.inr (Or.inl rfl)) rfl rfl) eInt set_list (fun _ => rfl)) rfl rfl rfl)
            · refine eSs1 ?_
              exact (eRet (eOp (orR op_add (orR op_addS (orR op_cat op_catT))) (eCall G_count (hr.mono (by omega)) rfl T.m_count T.F_count.kp T.b_count .nil pass0 (eA (eVar 0 rfl (Or.inr (Or.inl rfl)) rfl rfl) (eA (eVar 1 rfl (Or.inr (Or.inl rfl)) rfl rfl) eNil rfl) rfl) rfl rfl rfl) (eTup (eA (eCall G_form (hr.mono (by omega)) rfl T.m_form T.F_form.kp T.b_form .nil pass0 (eA (eVar 0 rfl (Or.inr (Or.inl rfl)) rfl rfl) (eA (eVar 1 rfl (Or.inr (Or.inl rfl)) rfl rfl) (eA (eVar 2 rfl (Or.inr (Or.inl rfl)) rfl rfl) (eA (eOp op_sub (eVar 3 rfl (Or.inr (Or.inl rfl)) rfl rfl) eInt) (eA eBl eNil rfl) rfl) rfl) rfl) rfl) rfl rfl rfl) eNil rfl))))
          · exact eSs0
        · refine eSsC ?_ ?_
          · refine eSet (i := 6) ?_ sc_form.nd rfl (Or.inl rfl) rfl (Or.inl rfl)
            exact (eB (call_min2I rfl) rfl T.z_min (by decide +kernel) (eA (eCall G_take (hr.mono (by omega)) rfl T.m_take T.F_take.kp T.b_take .nil pass0 (eA (eVar 0 rfl (Or.inr (Or.inl rfl)) rfl rfl) (eA eInt eNil rfl) rfl) rfl rfl rfl) (eA (eIx ix_seq (eVar 2 rfl (Or.inr (Or.inl rfl)) rfl rfl) eInt (fun _ _ => rfl)) eNil rfl) rfl) rfl rfl (by decide) rfl)
          · refine eSsC ?_ ?_
            · exact (eAsg (eOp op_sub (eIx ix_seq (eVar 2 rfl (Or.inr (Or.inl rfl)) rfl rfl) eInt (fun _ _ => rfl)) (eVar 6 rfl (Or.inl rfl) rfl rfl)) (eSub (eVar 2 rfl (Or.inr (Or.inl rfl)) rfl rfl) eInt set_list (fun _ => rfl)) rfl rfl rfl)
            · refine eSsC ?_ ?_
              · exact (eSetC (i := 7) ["_law_pen_here", "_law_names_here", "_law_room", "_law_free", "_law_deep"] (eR1 rfl T.z_range (eA (eVar 6 rfl (Or.inl rfl) rfl rfl) eNil rfl) rfl) eT0 (eC fun _ _ _ _ => (eCall G_form (hr.mono (by omega)) rfl T.m_form T.F_form.kp T.b_form .nil pass0 (eA (eVar 1 rfl (Or.inr (Or.inl rfl)) rfl rfl) (eA (eVar 2 rfl (Or.inr (Or.inl rfl)) rfl rfl) (eA (eVar 3 rfl (Or.inr (Or.inl rfl)) rfl rfl) (eA (eOp op_sub (eVar 5 rfl (Or.inr (Or.inl rfl)) rfl rfl) eInt) (eA (eVar 4 rfl (Or.inr (Or.inl rfl)) rfl rfl) eNil rfl) rfl) rfl) rfl) rfl) rfl rfl rfl)) sc_form.nd rfl rfl rfl rfl (bsc (sc := defScope top_form) rfl (by decide +kernel)) (by decide +kernel) ⟨rfl, ⟨rfl, rfl⟩, ⟨rfl, ⟨rfl, rfl⟩, ⟨rfl, ⟨rfl, rfl⟩, ⟨rfl, ⟨rfl, rfl⟩, ⟨rfl, ⟨rfl, rfl⟩, trivial⟩⟩⟩⟩⟩ (fun _ => rfl))
              · refine eSs1 ?_
                exact (eRet (eTup (eA (eIx ix_seq (eLst (eA eStr (eA eStr (eA eStr (eA eStr eNil rfl) rfl) rfl) rfl)) (eCall G_take (hr.mono (by omega)) rfl T.m_take T.F_take.kp T.b_take .nil pass0 (eA (eVar 0 rfl (Or.inr (Or.inl rfl)) rfl rfl) (eA eInt eNil rfl) rfl) rfl rfl rfl) (fun _ _ => rfl)) (eA (eTy call_tupleV rfl T.z_tuple (by decide +kernel) (eA (eVar 7 rfl (Or.inl rfl) rfl rfl) eNil rfl) rfl rfl (by decide) rfl) eNil rfl) rfl)))
def rd_inner (K : PySem.W.Frag) (t : Adr) : TS :=
  (tSeq (tIfS (tTest (tOp (rOr rEq (rOr rEqD (rEqF K))) (tOp (rIx K) (tVar 0) (tC (.int 0))) (tC (.str "not")))) (tRet (tLst (tCons (tOp (rIx K) (tVar 0) (tC (.int 1))) tNil))) tNext)
    (tSeq (tIfS (tTest (tOp (rOr rInS (rIn K false)) (tOp (rIx K) (tVar 0) (tC (.int 0))) (tTup (tCons (tC (.str "many")) (tCons (tC (.str "each")) tNil))))) (tRet (tLst (tCons (tOp (rIx K) (tVar 0) (tC (.int 4))) tNil))) tNext)
    (tSeq (tIfS (tTest (tOp (rOr rInS (rIn K false)) (tOp (rIx K) (tVar 0) (tC (.int 0))) (tTup (tCons (tC (.str "all")) (tCons (tC (.str "some")) (tCons (tC (.str "one")) (tCons (tC (.str "none")) tNil))))))) (tRet (tCB (rList K) (tCons (tOp (rIx K) (tVar 0) (tC (.int 1))) tNil))) tNext)
    (tRet (tLst tNil)))))
theorem der_inner {P : Program} {w : World} {K : PySem.W.Frag} {mg : Str → Option Value} {base : Heap} {t : Adr} (T : Txt w K mg t) {cdv : Value} {A : Around} {outer : List Env} {s : Shared} {H : Hp} {E : XK} (hr : Room 0 (A.deeper (envOfC "_law_inner" (defScope top_inner) s.heap.objs.size t.a_inner cdv))) :
    JSs (cxOf CX0 P w K mg base ["_law_form_here"] "_law_inner" (defScope top_inner) t.a_inner cdv A outer s H E).nox (defBody top_inner) (rd_inner K t) := by
  unfold rd_inner
  refine eSsC ?_ ?_
  · refine eIfS ?_ ?_ ?_
    · exact (eCmpT (orR op_eq (orR (op_eqDn hr.units) (op_eqF hr.units))) (eIx ix_seq (eVar 0 rfl (Or.inl rfl) rfl rfl) eInt (fun _ _ => rfl)) eStr (nomark _))
    · refine eSs1 ?_
      exact (eRet (eLst (eA (eIx ix_seq (eVar 0 rfl (Or.inl rfl) rfl rfl) eInt (fun _ _ => rfl)) eNil rfl)))
    · exact eSs0
  · refine eSsC ?_ ?_
    · refine eIfS ?_ ?_ ?_
      · exact (eCmpT (orR op_inS op_in_seq) (eIx ix_seq (eVar 0 rfl (Or.inl rfl) rfl rfl) eInt (fun _ _ => rfl)) (eTup (eA eStr (eA eStr eNil rfl) rfl)) (by with_unfolding_all rfl))
      · refine eSs1 ?_
        exact (eRet (eLst (eA (eIx ix_seq (eVar 0 rfl (Or.inl rfl) rfl rfl) eInt (fun _ _ => rfl)) eNil rfl)))
      · exact eSs0
    · refine eSsC ?_ ?_
      · refine eIfS ?_ ?_ ?_
        · exact (eCmpT (orR op_inS op_in_seq) (eIx ix_seq (eVar 0 rfl (Or.inl rfl) rfl rfl) eInt (fun _ _ => rfl)) (eTup (eA eStr (eA eStr (eA eStr (eA eStr eNil rfl) rfl) rfl) rfl)) (by with_unfolding_all rfl))
        · refine eSs1 ?_
          exact (eRet (eTy call_listV rfl T.z_list (by decide +kernel) (eA (eIx ix_seq (eVar 0 rfl (Or.inl rfl) rfl rfl) eInt (fun _ _ => rfl)) eNil rfl) rfl rfl (by decide) rfl))
        · exact eSs0
      · refine eSs1 ?_
        exact (eRet (eLst eNil))
def rd_node_text (K : PySem.W.Frag) (t : Adr) : TS :=
  (tSeq (tIfS (tB (tCB (rIsi K) (tCons (tVar 0) (tCons (tC (.ty "tuple")) tNil)))) (tRet (tOp (rOr (rI0 fun i j => .int (i + j)) (rOr rAddS (rOr rCat (rCatT K)))) (tC (.str "'")) (tOp (rIx K) (tVar 0) (tC (.int 0))))) tNext)
    (tRet (tCB (rStr1) (tCons (tVar 0) tNil))))
theorem der_node_text {P : Program} {w : World} {K : PySem.W.Frag} {mg : Str → Option Value} {base : Heap} {t : Adr} (T : Txt w K mg t) {cdv : Value} {A : Around} {outer : List Env} {s : Shared} {H : Hp} {E : XK} (hr : Room 0 (A.deeper (envOfC "_law_node_text" (defScope top_node_text) s.heap.objs.size t.a_node_text cdv))) :
    JSs (cxOf CX0 P w K mg base ["_law_node_here"] "_law_node_text" (defScope top_node_text) t.a_node_text cdv A outer s H E).nox (defBody top_node_text) (rd_node_text K t) := by
  unfold rd_node_text
  refine eSsC ?_ ?_
  · refine eIfS ?_ ?_ ?_
    · exact (eVal (eB call_isi rfl T.z_isinstance (by decide +kernel) (eA (eVar 0 rfl (Or.inl rfl) rfl rfl) (eA (eBlt (v := .ty "tuple") rfl T.z_tuple (by decide +kernel) rfl (by decide) rfl) eNil rfl) rfl) rfl rfl (by decide) rfl) (fun _ => rfl))
    · refine eSs1 ?_
      exact (eRet (eOp (orR op_add (orR op_addS (orR op_cat op_catT))) eStr (eIx ix_seq (eVar 0 rfl (Or.inl rfl) rfl rfl) eInt (fun _ _ => rfl))))
    · exact eSs0
  · refine eSs1 ?_
    exact (eRet (eTy call_strV rfl T.z_str (by decide +kernel) (eA (eVar 0 rfl (Or.inl rfl) rfl rfl) eNil rfl) rfl rfl (by decide) rfl))
def rd_text (K : PySem.W.Frag) (t : Adr) (n : Nat) : TS :=
  (tSeq (tAsg (tOp (rIx K) (tVar 0) (tC (.int 0))) (gName 1))
    (tSeq (tIfS (tTest (tOp (rOr rEq (rOr rEqD (rEqF K))) (tVar 1) (tC (.str "is")))) (tRet (tOp (rOr (rI0 fun i j => .int (i + j)) (rOr rAddS (rOr rCat (rCatT K)))) (tC (.str "is ")) (tCall (sp_node_text K) [] E0 (tCons (tOp (rIx K) (tVar 0) (tC (.int 1))) tNil)))) tNext)
    (tSeq (tIfS (tTest (tOp (rOr rInS (rIn K false)) (tVar 1) (tTup (tCons (tC (.str "from")) (tCons (tC (.str "upto")) (tCons (tC (.str "keeps")) tNil)))))) (tRet (tOp (rOr (rI0 fun i j => .int (i + j)) (rOr rAddS (rOr rCat (rCatT K)))) (tOp (rOr (rI0 fun i j => .int (i + j)) (rOr rAddS (rOr rCat (rCatT K)))) (tVar 1) (tC (.str " "))) (tCB (rStr1) (tCons (tOp (rIx K) (tVar 0) (tC (.int 1))) tNil)))) tNext)
    (tSeq (tIfS (tTest (tOp (rOr rInS (rIn K false)) (tVar 1) (tTup (tCons (tC (.str "any")) (tCons (tC (.str "thing")) (tCons (tC (.str "number")) (tCons (tC (.str "said")) tNil))))))) (tRet (tVar 1)) tNext)
    (tSeq (tAsg (tComp [] (iList K (tCall (sp_inner K) [] E0 (tCons (tVar 0) tNil))) tYes (tCall (sp_text K n) [] E0 (tCons (tVar 0) tNil))) (gName 2))
    (tSeq (tIfS (tTest (tOp (rOr rEq (rOr rEqD (rEqF K))) (tVar 1) (tC (.str "closed")))) (tAsg (tCB (rList K) (tCons (tOp (rIx K) (tVar 0) (tC (.int 1))) tNil)) (gName 2)) tNext)
    (tSeq (tIfS (tTest (tOp (rOr rInS (rIn K false)) (tVar 1) (tTup (tCons (tC (.str "many")) (tCons (tC (.str "each")) tNil))))) (tAsg (tOp (rOr (rI0 fun i j => .int (i + j)) (rOr rAddS (rOr rCat (rCatT K)))) (tLst (tCons (tCB (rStr1) (tCons (tOp (rIx K) (tVar 0) (tC (.int 1))) tNil)) (tCons (tOp (rIx K) (tLst (tCons (tC (.str "*")) (tCons (tCB (rStr1) (tCons (tOp (rIx K) (tVar 0) (tC (.int 2))) tNil)) tNil))) (tCB (rInt1) (tCons (tOp rNotN (tOp (rIx K) (tVar 0) (tC (.int 2))) (tC .non)) tNil))) (tCons (tOp (rIx K) (tVar 0) (tC (.int 3))) tNil)))) (tVar 2)) (gName 2)) tNext)
    (tRet (tOp (rOr (rI0 fun i j => .int (i + j)) (rOr rAddS (rOr rCat (rCatT K)))) (tOp (rOr (rI0 fun i j => .int (i + j)) (rOr rAddS (rOr rCat (rCatT K)))) (tOp (rOr (rI0 fun i j => .int (i + j)) (rOr rAddS (rOr rCat (rCatT K)))) (tVar 1) (tC (.str "("))) (tBM K "str" (rJoin2 K) (tC (.str ", ")) (tCons (tVar 2) tNil))) (tC (.str ")")))))))))))
theorem der_text {P : Program} {w : World} {K : PySem.W.Frag} {mg : Str → Option Value} {base : Heap} {t : Adr} {n : Nat} (T : Txt w K mg t) (G_node_text : FnOk P w K mg base CX0 1 t.a_node_text t.d_node_text ["_law_node_here"] (sp_node_text K)) (G_inner : FnOk P w K mg base CX0 1 t.a_inner t.d_inner ["_law_form_here"] (sp_inner K)) (G_text : FnOk P w K mg base CX0 (1 + n) t.a_text t.d_text ["_law_form_here"] (sp_text K n)) {cdv : Value} {A : Around} {outer : List Env} {s : Shared} {H : Hp} {E : XK} (hr : Room (1 + n) (A.deeper (envOfC "_law_text" (defScope top_text) s.heap.objs.size t.a_text cdv))) :
    JSs (cxOf CX0 P w K mg base ["_law_form_here", "_law_word", "_law_some"] "_law_text" (defScope top_text) t.a_text cdv A outer s H E).nox (defBody top_text) (rd_text K t n) := by
  unfold rd_text
  refine eSsC ?_ ?_
  · refine eSet (i := 1) ?_ sc_text.nd rfl (Or.inl rfl) rfl (Or.inl rfl)
    exact (eIx ix_seq (eVar 0 rfl (Or.inl rfl) rfl rfl) eInt (fun _ _ => rfl))
  · refine eSsC ?_ ?_
    · refine eIfS ?_ ?_ ?_
      · exact (eCmpT (orR op_eq (orR (op_eqDn hr.units) (op_eqF hr.units))) (eVar 1 rfl (Or.inl rfl) rfl rfl) eStr (nomark _))
      · refine eSs1 ?_
        exact (eRet (eOp (orR op_add (orR op_addS (orR op_cat op_catT))) eStr (eCall G_node_text (hr.mono (by omega)) rfl T.m_node_text T.F_node_text.kp T.b_node_text .nil pass0 (eA (eIx ix_seq (eVar 0 rfl (Or.inl rfl) rfl rfl) eInt (fun _ _ => rfl)) eNil rfl) rfl rfl rfl)))
      · exact eSs0
    · refine eSsC ?_ ?_
      · refine eIfS ?_ ?_ ?_
        · exact (eCmpT (orR op_inS op_in_seq) (eVar 1 rfl (Or.inl rfl) rfl rfl) (eTup (eA eStr (eA eStr (eA eStr eNil rfl) rfl) rfl)) (by with_unfolding_all rfl))
        · refine eSs1 ?_
          exact (eRet (eOp (orR op_add (orR op_addS (orR op_cat op_catT))) (eOp (orR op_add (orR op_addS (orR op_cat op_catT))) (eVar 1 rfl (Or.inl rfl) rfl rfl) eStr) (eTy call_strV rfl T.z_str (by decide +kernel) (eA (eIx ix_seq (eVar 0 rfl (Or.inl rfl) rfl rfl) eInt (fun _ _ => rfl)) eNil rfl) rfl rfl (by decide) rfl)))
        · exact eSs0
      · refine eSsC ?_ ?_
        · refine eIfS ?_ ?_ ?_
          · exact (eCmpT (orR op_inS op_in_seq) (eVar 1 rfl (Or.inl rfl) rfl rfl) (eTup (eA eStr (eA eStr (eA eStr (eA eStr eNil rfl) rfl) rfl) rfl)) (by with_unfolding_all rfl))
          · refine eSs1 ?_
            exact (eRet (eVar 1 rfl (Or.inl rfl) rfl rfl))
          · exact eSs0
        · refine eSsC ?_ ?_
          · exact (eSetC (i := 2) [] (eIL (eCall G_inner (hr.mono (by omega)) rfl T.m_inner T.F_inner.kp T.b_inner .nil pass0 (eA (eVar 0 rfl (Or.inl rfl) rfl rfl) eNil rfl) rfl rfl rfl)) eT0 (eC fun _ _ _ _ => (eCall G_text (hr.mono (by omega)) rfl T.m_text T.F_text.kp T.b_text .nil pass0 (eA (eVar 0 rfl (Or.inl rfl) rfl rfl) eNil rfl) rfl rfl rfl)) sc_text.nd rfl rfl rfl rfl (bsc (sc := defScope top_text) rfl (by decide +kernel)) (by decide +kernel) trivial (fun _ => rfl))
          · refine eSsC ?_ ?_
            · refine eIfS ?_ ?_ ?_
              · exact (eCmpT (orR op_eq (orR (op_eqDn hr.units) (op_eqF hr.units))) (eVar 1 rfl (Or.inl rfl) rfl rfl) eStr (nomark _))
              · refine eSs1 ?_
                refine eSet (i := 2) ?_ sc_text.nd rfl (Or.inl rfl) rfl (Or.inl rfl)
                exact (eTy call_listV rfl T.z_list (by decide +kernel) (eA (eIx ix_seq (eVar 0 rfl (Or.inl rfl) rfl rfl) eInt (fun _ _ => rfl)) eNil rfl) rfl rfl (by decide) rfl)
              · exact eSs0
            · refine eSsC ?_ ?_
              · refine eIfS ?_ ?_ ?_
                · exact (eCmpT (orR op_inS op_in_seq) (eVar 1 rfl (Or.inl rfl) rfl rfl) (eTup (eA eStr (eA eStr eNil rfl) rfl)) (by with_unfolding_all rfl))
                · refine eSs1 ?_
                  refine eSet (i := 2) ?_ sc_text.nd rfl (Or.inl rfl) rfl (Or.inl rfl)
                  exact (eOp (orR op_add (orR op_addS (orR op_cat op_catT))) (eLst (eA (eTy call_strV rfl T.z_str (by decide +kernel) (eA (eIx ix_seq (eVar 0 rfl (Or.inl rfl) rfl rfl) eInt (fun _ _ => rfl)) eNil rfl) rfl rfl (by decide) rfl) (eA (eIx ix_seq (eLst (eA eStr (eA (eTy call_strV rfl T.z_str (by decide +kernel) (eA (eIx ix_seq (eVar 0 rfl (Or.inl rfl) rfl rfl) eInt (fun _ _ => rfl)) eNil rfl) rfl rfl (by decide) rfl) eNil rfl) rfl)) (eTy call_intV rfl T.z_int (by decide +kernel) (eA (eCmp op_notNn (eIx ix_seq (eVar 0 rfl (Or.inl rfl) rfl rfl) eInt (fun _ _ => rfl)) eNon (nomark _)) eNil rfl) rfl rfl (by decide) rfl) (fun _ _ => rfl)) (eA (eIx ix_seq (eVar 0 rfl (Or.inl rfl) rfl rfl) eInt (fun _ _ => rfl)) eNil rfl) rfl) rfl)) (eVar 2 rfl (Or.inl rfl) rfl rfl))
                · exact eSs0
              · refine eSs1 ?_
                exact (eRet (eOp (orR op_add (orR op_addS (orR op_cat op_catT))) (eOp (orR op_add (orR op_addS (orR op_cat op_catT))) (eOp (orR op_add (orR op_addS (orR op_cat op_catT))) (eVar 1 rfl (Or.inl rfl) rfl rfl) eStr) (eBM eStr (eA (eVar 2 rfl (Or.inl rfl) rfl rfl) eNil rfl) mt_join2 PySem.F.plainAttrs_str PySem.F.slot_str_join PySem.F.type_str_join rfl rfl rfl rfl rfl)) eStr))
def rd_law (K : PySem.W.Frag) (t : Adr) : TS :=
  (tSeq (tAsg (tCall (sp_pen K) [] E0 (tCons (tVar 0) tNil)) (gName 1))
    (tSeq (tFor (iRng1 (tCons (tC (.int 4)) tNil)) (gName 2) (tSeq (tAsg (tCall (sp_names K) [] E0 (tCons (tVar 1) (tCons (tC (.int 6)) tNil))) (gName 3))
    (tSeq (tAsg (tCall (sp_form K 9) [] E0 (tCons (tVar 1) (tCons (tVar 3) (tCons (tLst (tCons (tOp (rIx K) (tLst (tCons (tC (.int 3)) (tCons (tC (.int 12)) (tCons (tC (.int 39)) tNil)))) (tCall (sp_take K) [] E0 (tCons (tVar 1) (tCons (tC (.int 3)) tNil)))) tNil)) (tCons (tOp (rIx K) (tLst (tCons (tC (.int 3)) (tCons (tC (.int 8)) tNil))) (tCall (sp_take K) [] E0 (tCons (tVar 1) (tCons (tC (.int 2)) tNil)))) (tCons (tC (.bl true)) tNil)))))) (gName 4))
    (tSeq (tAsg (tCall (sp_text K 9) [] E0 (tCons (tVar 4) tNil)) (gName 5))
    (tSeq (tAsg (tCall (sp_show_form K 9) [] E0 (tCons (tVar 4) tNil)) (gName 6))
    (tIfS (tOr (tNot (tB (tCB (rIsi K) (tCons (tVar 6) (tCons (tC (.ty "str")) tNil))))) (tOr (tTest (tOp (rOr rNe (rOr rNeD (rNeF K))) (tVar 6) (tVar 5))) (tTest (tOp (rOr rNe (rOr rNeD (rNeF K))) (tCall (sp_show_form K 9) [] E0 (tCons (tVar 4) tNil)) (tVar 5))))) (tRet (tC (.bl false))) tNext))))))
    (tRet (tC (.bl true)))))
theorem der_law {P : Program} {w : World} {K : PySem.W.Frag} {mg : Str → Option Value} {base : Heap} {t : Adr} (T : Txt w K mg t) (G_pen : FnOk P w K mg base CX0 1 t.a_pen t.d_pen ["_law_script"] (sp_pen K)) (G_names : FnOk P w K mg base CX0 2 t.a_names t.d_names ["_law_pen_here", "_law_many"] (sp_names K)) (G_form : FnOk P w K mg base CX0 13 t.a_form t.d_form ["_law_pen_here", "_law_names_here", "_law_room", "_law_deep", "_law_free"] (sp_form K 9)) (G_take : FnOk P w K mg base CX0 1 t.a_take t.d_take ["_law_pen_here", "_law_most"] (sp_take K)) (G_text : FnOk P w K mg base CX0 10 t.a_text t.d_text ["_law_form_here"] (sp_text K 9)) (G_show_form : FnOk P w K mg base CX0 20 t.a_show_form t.d_show_form ["form"] (sp_show_form K 9)) {cdv : Value} {A : Around} {outer : List Env} {s : Shared} {H : Hp} {E : XK} (hr : Room 20 (A.deeper (envOfC "law" (defScope top_law) s.heap.objs.size t.a_law cdv))) :
    JSs (cxOf CX0 P w K mg base ["_law_script", "_law_pen_here", "_law_turn", "_law_names_here", "_law_form_here", "_law_due", "_law_found"] "law" (defScope top_law) t.a_law cdv A outer s H E).nox (defBody top_law) (rd_law K t) := by
  unfold rd_law
  refine eSsC ?_ ?_
  · refine eSet (i := 1) ?_ sc_law.nd rfl (Or.inl rfl) rfl (Or.inl rfl)
    exact (eCall G_pen (hr.mono (by omega)) rfl T.m_pen T.F_pen.kp T.b_pen .nil pass0 (eA (eVar 0 rfl (Or.inl rfl) rfl rfl) eNil rfl) rfl rfl rfl)
  · refine eSsC ?_ ?_
    · refine eFor ?_ (eGN (i := 2) sc_law.nd rfl (Or.inl rfl) (Or.inl rfl)) ?_ PassesOwn.never rfl (fun _ => rfl)
      · exact (eR1 rfl T.z_range (eA eInt eNil rfl) rfl)
      · refine eSsC ?_ ?_
        · refine eSet (i := 3) ?_ sc_law.nd rfl (Or.inl rfl) rfl (Or.inl rfl)
          exact (eCall G_names (hr.mono (by omega)) rfl T.m_names T.F_names.kp T.b_names .nil pass0 (eA (eVar 1 rfl (Or.inl rfl) rfl rfl) (eA eInt eNil rfl) rfl) rfl rfl rfl)
        · refine eSsC ?_ ?_
          · refine eSet (i := 4) ?_ sc_law.nd rfl (Or.inl rfl) rfl (Or.inl rfl)
            exact (eCall G_form (hr.mono (by omega)) rfl T.m_form T.F_form.kp T.b_form .nil pass0 (eA (eVar 1 rfl (Or.inl rfl) rfl rfl) (eA (eVar 3 rfl (Or.inl rfl) rfl rfl) (eA (eLst (eA (eIx ix_seq (eLst (eA eInt (eA eInt (eA eInt eNil rfl) rfl) rfl)) (eCall G_take (hr.mono (by omega)) rfl T.m_take T.F_take.kp T.b_take .nil pass0 (eA (eVar 1 rfl (Or.inl rfl) rfl rfl) (eA eInt eNil rfl) rfl) rfl rfl rfl) (fun _ _ => rfl)) eNil rfl)) (eA (eIx ix_seq (eLst (eA eInt (eA eInt eNil rfl) rfl)) (eCall G_take (hr.mono (by omega)) rfl T.m_take T.F_take.kp T.b_take .nil pass0 (eA (eVar 1 rfl (Or.inl rfl) rfl rfl) (eA eInt eNil rfl) rfl) rfl rfl rfl) (fun _ _ => rfl)) (eA eBl eNil rfl) rfl) rfl) rfl) rfl) rfl rfl rfl)
          · refine eSsC ?_ ?_
            · refine eSet (i := 5) ?_ sc_law.nd rfl (Or.inl rfl) rfl (Or.inl rfl)
              exact (eCall G_text (hr.mono (by omega)) rfl T.m_text T.F_text.kp T.b_text .nil pass0 (eA (eVar 4 rfl (Or.inl rfl) rfl rfl) eNil rfl) rfl rfl rfl)
            · refine eSsC ?_ ?_
              · refine eSet (i := 6) ?_ sc_law.nd rfl (Or.inl rfl) rfl (Or.inl rfl)
                exact (eCall G_show_form (hr.mono (by omega)) rfl T.m_show_form T.F_show_form.kp T.b_show_form .nil pass0 (eA (eVar 4 rfl (Or.inl rfl) rfl rfl) eNil rfl) rfl rfl rfl)
              · refine eSs1 ?_
                refine eIfS ?_ ?_ ?_
                · exact (eW (eOrT (eNotT (eVal (eB call_isi rfl T.z_isinstance (by decide +kernel) (eA (eVar 6 rfl (Or.inl rfl) rfl rfl) (eA (eBlt (v := .ty "str") rfl T.z_str (by decide +kernel) rfl (by decide) rfl) eNil rfl) rfl) rfl rfl (by decide) rfl) (fun _ => rfl))) (eOrT (eCmpT (orR op_ne (orR (op_neDn hr.units) (op_neF hr.units))) (eVar 6 rfl (Or.inl rfl) rfl rfl) (eVar 5 rfl (Or.inl rfl) rfl rfl) (nomark _)) (eOrT1 (eCmpT (orR op_ne (orR (op_neDn hr.units) (op_neF hr.units))) (eCall G_show_form (hr.mono (by omega)) rfl T.m_show_form T.F_show_form.kp T.b_show_form .nil pass0 (eA (eVar 4 rfl (Or.inl rfl) rfl rfl) eNil rfl) rfl rfl rfl) (eVar 5 rfl (Or.inl rfl) rfl rfl) (nomark _))))))
                · refine eSs1 ?_
                  exact (eRet eBl)
                · exact eSs0
    · refine eSs1 ?_
      exact (eRet eBl)
theorem txt_mk {w : World} {K : PySem.W.Frag} {h : Heap} {mg : Str → Option Value} (X : K.In h) (G : h.Ns mainGlobals mg)
    {f0 : Addr} {od0 an0 : Option Addr} {sl0 : Array (Option Value)} {oc0 kV0 dc0 pm0 cd0 ct0 : Value}
    (a0 : PySem.W.nsIn K mainGlobals "kind_of" = some (some (.ref f0))) (l0 : K.lookup f0 = some ⟨oc0, od0, .func (PySem.W.fnOf "kind_of" "kind_of" (defArgs top_kind_of) (defBody top_kind_of) (defScope top_kind_of) .none kV0 dc0 pm0 an0 cd0 ct0), sl0⟩) (c0 : PySem.W.codeIn K cd0 "kind_of" = true) (k0 : PySem.W.keepIn K (.ref f0) = true)
    {f1 : Addr} {od1 an1 : Option Addr} {sl1 : Array (Option Value)} {oc1 kV1 dc1 pm1 cd1 ct1 : Value}
    (a1 : PySem.W.nsIn K mainGlobals "show_node" = some (some (.ref f1))) (l1 : K.lookup f1 = some ⟨oc1, od1, .func (PySem.W.fnOf "show_node" "show_node" (defArgs top_show_node) (defBody top_show_node) (defScope top_show_node) .none kV1 dc1 pm1 an1 cd1 ct1), sl1⟩) (c1 : PySem.W.codeIn K cd1 "show_node" = true) (k1 : PySem.W.keepIn K (.ref f1) = true)
    {f2 : Addr} {od2 an2 : Option Addr} {sl2 : Array (Option Value)} {oc2 kV2 dc2 pm2 cd2 ct2 : Value}
    (a2 : PySem.W.nsIn K mainGlobals "length_of" = some (some (.ref f2))) (l2 : K.lookup f2 = some ⟨oc2, od2, .func (PySem.W.fnOf "length_of" "length_of" (defArgs top_length_of) (defBody top_length_of) (defScope top_length_of) .none kV2 dc2 pm2 an2 cd2 ct2), sl2⟩) (c2 : PySem.W.codeIn K cd2 "length_of" = true) (k2 : PySem.W.keepIn K (.ref f2) = true)
    {f3 : Addr} {od3 an3 : Option Addr} {sl3 : Array (Option Value)} {oc3 kV3 dc3 pm3 cd3 ct3 : Value}
    (a3 : PySem.W.nsIn K mainGlobals "straight_parts" = some (some (.ref f3))) (l3 : K.lookup f3 = some ⟨oc3, od3, .func (PySem.W.fnOf "straight_parts" "straight_parts" (defArgs top_straight_parts) (defBody top_straight_parts) (defScope top_straight_parts) .none kV3 dc3 pm3 an3 cd3 ct3), sl3⟩) (c3 : PySem.W.codeIn K cd3 "straight_parts" = true) (k3 : PySem.W.keepIn K (.ref f3) = true)
    {f4 : Addr} {od4 an4 : Option Addr} {sl4 : Array (Option Value)} {oc4 kV4 dc4 pm4 cd4 ct4 : Value}
    (a4 : PySem.W.nsIn K mainGlobals "show_high" = some (some (.ref f4))) (l4 : K.lookup f4 = some ⟨oc4, od4, .func (PySem.W.fnOf "show_high" "show_high" (defArgs top_show_high) (defBody top_show_high) (defScope top_show_high) .none kV4 dc4 pm4 an4 cd4 ct4), sl4⟩) (c4 : PySem.W.codeIn K cd4 "show_high" = true) (k4 : PySem.W.keepIn K (.ref f4) = true)
    {f5 : Addr} {od5 an5 : Option Addr} {sl5 : Array (Option Value)} {oc5 kV5 dc5 pm5 cd5 ct5 : Value}
    (a5 : PySem.W.nsIn K mainGlobals "show_inside" = some (some (.ref f5))) (l5 : K.lookup f5 = some ⟨oc5, od5, .func (PySem.W.fnOf "show_inside" "show_inside" (defArgs top_show_inside) (defBody top_show_inside) (defScope top_show_inside) .none kV5 dc5 pm5 an5 cd5 ct5), sl5⟩) (c5 : PySem.W.codeIn K cd5 "show_inside" = true) (k5 : PySem.W.keepIn K (.ref f5) = true)
    {f6 : Addr} {od6 an6 : Option Addr} {sl6 : Array (Option Value)} {oc6 kV6 dc6 pm6 cd6 ct6 : Value}
    (a6 : PySem.W.nsIn K mainGlobals "show_form" = some (some (.ref f6))) (l6 : K.lookup f6 = some ⟨oc6, od6, .func (PySem.W.fnOf "show_form" "show_form" (defArgs top_show_form) (defBody top_show_form) (defScope top_show_form) .none kV6 dc6 pm6 an6 cd6 ct6), sl6⟩) (c6 : PySem.W.codeIn K cd6 "show_form" = true) (k6 : PySem.W.keepIn K (.ref f6) = true)
    {f7 : Addr} {od7 an7 : Option Addr} {sl7 : Array (Option Value)} {oc7 kV7 dc7 pm7 cd7 ct7 : Value}
    (a7 : PySem.W.nsIn K mainGlobals "_law_pen" = some (some (.ref f7))) (l7 : K.lookup f7 = some ⟨oc7, od7, .func (PySem.W.fnOf "_law_pen" "_law_pen" (defArgs top_pen) (defBody top_pen) (defScope top_pen) .none kV7 dc7 pm7 an7 cd7 ct7), sl7⟩) (c7 : PySem.W.codeIn K cd7 "_law_pen" = true) (k7 : PySem.W.keepIn K (.ref f7) = true)
    {f8 : Addr} {od8 an8 : Option Addr} {sl8 : Array (Option Value)} {oc8 kV8 dc8 pm8 cd8 ct8 : Value}
    (a8 : PySem.W.nsIn K mainGlobals "_law_take" = some (some (.ref f8))) (l8 : K.lookup f8 = some ⟨oc8, od8, .func (PySem.W.fnOf "_law_take" "_law_take" (defArgs top_take) (defBody top_take) (defScope top_take) .none kV8 dc8 pm8 an8 cd8 ct8), sl8⟩) (c8 : PySem.W.codeIn K cd8 "_law_take" = true) (k8 : PySem.W.keepIn K (.ref f8) = true)
    {f9 : Addr} {od9 an9 : Option Addr} {sl9 : Array (Option Value)} {oc9 kV9 dc9 pm9 cd9 ct9 : Value}
    (a9 : PySem.W.nsIn K mainGlobals "_law_names" = some (some (.ref f9))) (l9 : K.lookup f9 = some ⟨oc9, od9, .func (PySem.W.fnOf "_law_names" "_law_names" (defArgs top_names) (defBody top_names) (defScope top_names) .none kV9 dc9 pm9 an9 cd9 ct9), sl9⟩) (c9 : PySem.W.codeIn K cd9 "_law_names" = true) (k9 : PySem.W.keepIn K (.ref f9) = true)
    {f10 : Addr} {od10 an10 : Option Addr} {sl10 : Array (Option Value)} {oc10 kV10 dc10 pm10 cd10 ct10 : Value}
    (a10 : PySem.W.nsIn K mainGlobals "_law_number" = some (some (.ref f10))) (l10 : K.lookup f10 = some ⟨oc10, od10, .func (PySem.W.fnOf "_law_number" "_law_number" (defArgs top_number) (defBody top_number) (defScope top_number) .none kV10 dc10 pm10 an10 cd10 ct10), sl10⟩) (c10 : PySem.W.codeIn K cd10 "_law_number" = true) (k10 : PySem.W.keepIn K (.ref f10) = true)
    {f11 : Addr} {od11 an11 : Option Addr} {sl11 : Array (Option Value)} {oc11 kV11 dc11 pm11 cd11 ct11 : Value}
    (a11 : PySem.W.nsIn K mainGlobals "_law_node" = some (some (.ref f11))) (l11 : K.lookup f11 = some ⟨oc11, od11, .func (PySem.W.fnOf "_law_node" "_law_node" (defArgs top_node) (defBody top_node) (defScope top_node) .none kV11 dc11 pm11 an11 cd11 ct11), sl11⟩) (c11 : PySem.W.codeIn K cd11 "_law_node" = true) (k11 : PySem.W.keepIn K (.ref f11) = true)
    {f12 : Addr} {od12 an12 : Option Addr} {sl12 : Array (Option Value)} {oc12 kV12 dc12 pm12 cd12 ct12 : Value}
    (a12 : PySem.W.nsIn K mainGlobals "_law_tip" = some (some (.ref f12))) (l12 : K.lookup f12 = some ⟨oc12, od12, .func (PySem.W.fnOf "_law_tip" "_law_tip" (defArgs top_tip) (defBody top_tip) (defScope top_tip) .none kV12 dc12 pm12 an12 cd12 ct12), sl12⟩) (c12 : PySem.W.codeIn K cd12 "_law_tip" = true) (k12 : PySem.W.keepIn K (.ref f12) = true)
    {f13 : Addr} {od13 an13 : Option Addr} {sl13 : Array (Option Value)} {oc13 kV13 dc13 pm13 cd13 ct13 : Value}
    (a13 : PySem.W.nsIn K mainGlobals "_law_count" = some (some (.ref f13))) (l13 : K.lookup f13 = some ⟨oc13, od13, .func (PySem.W.fnOf "_law_count" "_law_count" (defArgs top_count) (defBody top_count) (defScope top_count) .none kV13 dc13 pm13 an13 cd13 ct13), sl13⟩) (c13 : PySem.W.codeIn K cd13 "_law_count" = true) (k13 : PySem.W.keepIn K (.ref f13) = true)
    {f14 : Addr} {od14 an14 : Option Addr} {sl14 : Array (Option Value)} {oc14 kV14 dc14 pm14 cd14 ct14 : Value}
    (a14 : PySem.W.nsIn K mainGlobals "_law_form" = some (some (.ref f14))) (l14 : K.lookup f14 = some ⟨oc14, od14, .func (PySem.W.fnOf "_law_form" "_law_form" (defArgs top_form) (defBody top_form) (defScope top_form) .none kV14 dc14 pm14 an14 cd14 ct14), sl14⟩) (c14 : PySem.W.codeIn K cd14 "_law_form" = true) (k14 : PySem.W.keepIn K (.ref f14) = true)
    {f15 : Addr} {od15 an15 : Option Addr} {sl15 : Array (Option Value)} {oc15 kV15 dc15 pm15 cd15 ct15 : Value}
    (a15 : PySem.W.nsIn K mainGlobals "_law_inner" = some (some (.ref f15))) (l15 : K.lookup f15 = some ⟨oc15, od15, .func (PySem.W.fnOf "_law_inner" "_law_inner" (defArgs top_inner) (defBody top_inner) (defScope top_inner) .none kV15 dc15 pm15 an15 cd15 ct15), sl15⟩) (c15 : PySem.W.codeIn K cd15 "_law_inner" = true) (k15 : PySem.W.keepIn K (.ref f15) = true)
    {f16 : Addr} {od16 an16 : Option Addr} {sl16 : Array (Option Value)} {oc16 kV16 dc16 pm16 cd16 ct16 : Value}
    (a16 : PySem.W.nsIn K mainGlobals "_law_node_text" = some (some (.ref f16))) (l16 : K.lookup f16 = some ⟨oc16, od16, .func (PySem.W.fnOf "_law_node_text" "_law_node_text" (defArgs top_node_text) (defBody top_node_text) (defScope top_node_text) .none kV16 dc16 pm16 an16 cd16 ct16), sl16⟩) (c16 : PySem.W.codeIn K cd16 "_law_node_text" = true) (k16 : PySem.W.keepIn K (.ref f16) = true)
    {f17 : Addr} {od17 an17 : Option Addr} {sl17 : Array (Option Value)} {oc17 kV17 dc17 pm17 cd17 ct17 : Value}
    (a17 : PySem.W.nsIn K mainGlobals "_law_text" = some (some (.ref f17))) (l17 : K.lookup f17 = some ⟨oc17, od17, .func (PySem.W.fnOf "_law_text" "_law_text" (defArgs top_text) (defBody top_text) (defScope top_text) .none kV17 dc17 pm17 an17 cd17 ct17), sl17⟩) (c17 : PySem.W.codeIn K cd17 "_law_text" = true) (k17 : PySem.W.keepIn K (.ref f17) = true)
    {f18 : Addr} {od18 an18 : Option Addr} {sl18 : Array (Option Value)} {oc18 kV18 dc18 pm18 cd18 ct18 : Value}
    (a18 : PySem.W.nsIn K mainGlobals "law" = some (some (.ref f18))) (l18 : K.lookup f18 = some ⟨oc18, od18, .func (PySem.W.fnOf "law" "law" (defArgs top_law) (defBody top_law) (defScope top_law) .none kV18 dc18 pm18 an18 cd18 ct18), sl18⟩) (c18 : PySem.W.codeIn K cd18 "law" = true) (k18 : PySem.W.keepIn K (.ref f18) = true)
    (z_abs : PySem.W.nsIn K mainGlobals "abs" = some none)
    (z_int : PySem.W.nsIn K mainGlobals "int" = some none)
    (z_isinstance : PySem.W.nsIn K mainGlobals "isinstance" = some none)
    (z_len : PySem.W.nsIn K mainGlobals "len" = some none)
    (z_list : PySem.W.nsIn K mainGlobals "list" = some none)
    (z_min : PySem.W.nsIn K mainGlobals "min" = some none)
    (z_range : PySem.W.nsIn K mainGlobals "range" = some none)
    (z_sorted : PySem.W.nsIn K mainGlobals "sorted" = some none)
    (z_str : PySem.W.nsIn K mainGlobals "str" = some none)
    (z_tuple : PySem.W.nsIn K mainGlobals "tuple" = some none)
    {ca_LENGTHS : Addr} (g_LENGTHS : PySem.W.nsIn K mainGlobals "LENGTHS" = some (some (.ref ca_LENGTHS)))
    {es_LENGTHS : Array DictEntry} {dn_LENGTHS : Nat} {dt_LENGTHS_0 : Tok} {dt_LENGTHS_1 : Tok} {dt_LENGTHS_2 : Tok} {dt_LENGTHS_3 : Tok} {dt_LENGTHS_4 : Tok} {dt_LENGTHS_5 : Tok} {dt_LENGTHS_6 : Tok} {dt_LENGTHS_7 : Tok} {dt_LENGTHS_8 : Tok} {dt_LENGTHS_9 : Tok} {dt_LENGTHS_10 : Tok} {dt_LENGTHS_11 : Tok} {dt_LENGTHS_12 : Tok} {dt_LENGTHS_13 : Tok} {dt_LENGTHS_14 : Tok} {dt_LENGTHS_15 : Tok} (d_LENGTHS : K.lookup ca_LENGTHS = some ⟨.type "dict", none, .dict es_LENGTHS dn_LENGTHS, #[]⟩) (q_LENGTHS : PySem.W.KeysLit w.params es_LENGTHS.toList) (y_LENGTHS : (ca_LENGTHS == sysModules) = false) (v_LENGTHS_0 : PySem.W.nsIn K ca_LENGTHS "any" = some (some (Value.int 1 dt_LENGTHS_0))) (v_LENGTHS_1 : PySem.W.nsIn K ca_LENGTHS "thing" = some (some (Value.int 1 dt_LENGTHS_1))) (v_LENGTHS_2 : PySem.W.nsIn K ca_LENGTHS "number" = some (some (Value.int 1 dt_LENGTHS_2))) (v_LENGTHS_3 : PySem.W.nsIn K ca_LENGTHS "said" = some (some (Value.int 1 dt_LENGTHS_3))) (v_LENGTHS_4 : PySem.W.nsIn K ca_LENGTHS "from" = some (some (Value.int 2 dt_LENGTHS_4))) (v_LENGTHS_5 : PySem.W.nsIn K ca_LENGTHS "upto" = some (some (Value.int 2 dt_LENGTHS_5))) (v_LENGTHS_6 : PySem.W.nsIn K ca_LENGTHS "is" = some (some (Value.int 2 dt_LENGTHS_6))) (v_LENGTHS_7 : PySem.W.nsIn K ca_LENGTHS "keeps" = some (some (Value.int 2 dt_LENGTHS_7))) (v_LENGTHS_8 : PySem.W.nsIn K ca_LENGTHS "not" = some (some (Value.int 2 dt_LENGTHS_8))) (v_LENGTHS_9 : PySem.W.nsIn K ca_LENGTHS "all" = some (some (Value.int 2 dt_LENGTHS_9))) (v_LENGTHS_10 : PySem.W.nsIn K ca_LENGTHS "some" = some (some (Value.int 2 dt_LENGTHS_10))) (v_LENGTHS_11 : PySem.W.nsIn K ca_LENGTHS "one" = some (some (Value.int 2 dt_LENGTHS_11))) (v_LENGTHS_12 : PySem.W.nsIn K ca_LENGTHS "none" = some (some (Value.int 2 dt_LENGTHS_12))) (v_LENGTHS_13 : PySem.W.nsIn K ca_LENGTHS "many" = some (some (Value.int 5 dt_LENGTHS_13))) (v_LENGTHS_14 : PySem.W.nsIn K ca_LENGTHS "each" = some (some (Value.int 5 dt_LENGTHS_14))) (v_LENGTHS_15 : PySem.W.nsIn K ca_LENGTHS "closed" = some (some (Value.int 2 dt_LENGTHS_15)))
    {ca_LISTS : Addr} (g_LISTS : PySem.W.nsIn K mainGlobals "LISTS" = some (some (.ref ca_LISTS)))
    {od_LISTS : Option Addr} {sl_LISTS : Array (Option Value)} {nn_LISTS : Nat} {tt_LISTS_0 : Tok} {tt_LISTS_1 : Tok} {tt_LISTS_2 : Tok} {tt_LISTS_3 : Tok} (s_LISTS : K.lookup ca_LISTS = some ⟨.type "tuple", od_LISTS, .seq #[.str "all" tt_LISTS_0, .str "some" tt_LISTS_1, .str "one" tt_LISTS_2, .str "none" tt_LISTS_3] nn_LISTS, sl_LISTS⟩)
    {ca_WALKS : Addr} (g_WALKS : PySem.W.nsIn K mainGlobals "WALKS" = some (some (.ref ca_WALKS)))
    {od_WALKS : Option Addr} {sl_WALKS : Array (Option Value)} {nn_WALKS : Nat} {tt_WALKS_0 : Tok} {tt_WALKS_1 : Tok} (s_WALKS : K.lookup ca_WALKS = some ⟨.type "tuple", od_WALKS, .seq #[.str "many" tt_WALKS_0, .str "each" tt_WALKS_1] nn_WALKS, sl_WALKS⟩)
    : ∃ t : Adr, (∀ (s : Shared) (u : Value), BindsTo s t.d_law ⟨[u], []⟩ [("_law_script", u)]) ∧ Txt w K mg t := by
  refine ⟨⟨f0, PySem.W.fnOf "kind_of" "kind_of" (defArgs top_kind_of) (defBody top_kind_of) (defScope top_kind_of) .none kV0 dc0 pm0 an0 cd0 ct0, f1, PySem.W.fnOf "show_node" "show_node" (defArgs top_show_node) (defBody top_show_node) (defScope top_show_node) .none kV1 dc1 pm1 an1 cd1 ct1, f2, PySem.W.fnOf "length_of" "length_of" (defArgs top_length_of) (defBody top_length_of) (defScope top_length_of) .none kV2 dc2 pm2 an2 cd2 ct2, f3, PySem.W.fnOf "straight_parts" "straight_parts" (defArgs top_straight_parts) (defBody top_straight_parts) (defScope top_straight_parts) .none kV3 dc3 pm3 an3 cd3 ct3, f4, PySem.W.fnOf "show_high" "show_high" (defArgs top_show_high) (defBody top_show_high) (defScope top_show_high) .none kV4 dc4 pm4 an4 cd4 ct4, f5, PySem.W.fnOf "show_inside" "show_inside" (defArgs top_show_inside) (defBody top_show_inside) (defScope top_show_inside) .none kV5 dc5 pm5 an5 cd5 ct5, f6, PySem.W.fnOf "show_form" "show_form" (defArgs top_show_form) (defBody top_show_form) (defScope top_show_form) .none kV6 dc6 pm6 an6 cd6 ct6, f7, PySem.W.fnOf "_law_pen" "_law_pen" (defArgs top_pen) (defBody top_pen) (defScope top_pen) .none kV7 dc7 pm7 an7 cd7 ct7, f8, PySem.W.fnOf "_law_take" "_law_take" (defArgs top_take) (defBody top_take) (defScope top_take) .none kV8 dc8 pm8 an8 cd8 ct8, f9, PySem.W.fnOf "_law_names" "_law_names" (defArgs top_names) (defBody top_names) (defScope top_names) .none kV9 dc9 pm9 an9 cd9 ct9, f10, PySem.W.fnOf "_law_number" "_law_number" (defArgs top_number) (defBody top_number) (defScope top_number) .none kV10 dc10 pm10 an10 cd10 ct10, f11, PySem.W.fnOf "_law_node" "_law_node" (defArgs top_node) (defBody top_node) (defScope top_node) .none kV11 dc11 pm11 an11 cd11 ct11, f12, PySem.W.fnOf "_law_tip" "_law_tip" (defArgs top_tip) (defBody top_tip) (defScope top_tip) .none kV12 dc12 pm12 an12 cd12 ct12, f13, PySem.W.fnOf "_law_count" "_law_count" (defArgs top_count) (defBody top_count) (defScope top_count) .none kV13 dc13 pm13 an13 cd13 ct13, f14, PySem.W.fnOf "_law_form" "_law_form" (defArgs top_form) (defBody top_form) (defScope top_form) .none kV14 dc14 pm14 an14 cd14 ct14, f15, PySem.W.fnOf "_law_inner" "_law_inner" (defArgs top_inner) (defBody top_inner) (defScope top_inner) .none kV15 dc15 pm15 an15 cd15 ct15, f16, PySem.W.fnOf "_law_node_text" "_law_node_text" (defArgs top_node_text) (defBody top_node_text) (defScope top_node_text) .none kV16 dc16 pm16 an16 cd16 ct16, f17, PySem.W.fnOf "_law_text" "_law_text" (defArgs top_text) (defBody top_text) (defScope top_text) .none kV17 dc17 pm17 an17 cd17 ct17, f18, PySem.W.fnOf "law" "law" (defArgs top_law) (defBody top_law) (defScope top_law) .none kV18 dc18 pm18 an18 cd18 ct18, ca_LENGTHS, ca_LISTS, ca_WALKS⟩, fun s u => .of_eq rfl, ?_⟩
  exact ⟨fun_mk (st := top_kind_of) l0 c0 k0,
    (fun_mk (st := top_kind_of) l0 c0 k0).binds (ps := ["node"]) fun _ _ _ _ _ _ us hl => match us, hl with | [_], _ => rfl,
    PySem.W.mg_of X G a0,
    fun_mk (st := top_show_node) l1 c1 k1,
    (fun_mk (st := top_show_node) l1 c1 k1).binds (ps := ["node"]) fun _ _ _ _ _ _ us hl => match us, hl with | [_], _ => rfl,
    PySem.W.mg_of X G a1,
    fun_mk (st := top_length_of) l2 c2 k2,
    (fun_mk (st := top_length_of) l2 c2 k2).binds (ps := ["word"]) fun _ _ _ _ _ _ us hl => match us, hl with | [_], _ => rfl,
    PySem.W.mg_of X G a2,
    fun_mk (st := top_straight_parts) l3 c3 k3,
    (fun_mk (st := top_straight_parts) l3 c3 k3).binds (ps := ["form"]) fun _ _ _ _ _ _ us hl => match us, hl with | [_], _ => rfl,
    PySem.W.mg_of X G a3,
    fun_mk (st := top_show_high) l4 c4 k4,
    (fun_mk (st := top_show_high) l4 c4 k4).binds (ps := ["high"]) fun _ _ _ _ _ _ us hl => match us, hl with | [_], _ => rfl,
    PySem.W.mg_of X G a4,
    fun_mk (st := top_show_inside) l5 c5 k5,
    (fun_mk (st := top_show_inside) l5 c5 k5).binds (ps := ["form"]) fun _ _ _ _ _ _ us hl => match us, hl with | [_], _ => rfl,
    PySem.W.mg_of X G a5,
    fun_mk (st := top_show_form) l6 c6 k6,
    (fun_mk (st := top_show_form) l6 c6 k6).binds (ps := ["form"]) fun _ _ _ _ _ _ us hl => match us, hl with | [_], _ => rfl,
    PySem.W.mg_of X G a6,
    fun_mk (st := top_pen) l7 c7 k7,
    (fun_mk (st := top_pen) l7 c7 k7).binds (ps := ["_law_script"]) fun _ _ _ _ _ _ us hl => match us, hl with | [_], _ => rfl,
    PySem.W.mg_of X G a7,
    fun_mk (st := top_take) l8 c8 k8,
    (fun_mk (st := top_take) l8 c8 k8).binds (ps := ["_law_pen_here", "_law_most"]) fun _ _ _ _ _ _ us hl => match us, hl with | [_, _], _ => rfl,
    PySem.W.mg_of X G a8,
    fun_mk (st := top_names) l9 c9 k9,
    (fun_mk (st := top_names) l9 c9 k9).binds (ps := ["_law_pen_here", "_law_many"]) fun _ _ _ _ _ _ us hl => match us, hl with | [_, _], _ => rfl,
    PySem.W.mg_of X G a9,
    fun_mk (st := top_number) l10 c10 k10,
    (fun_mk (st := top_number) l10 c10 k10).binds (ps := ["_law_pen_here"]) fun _ _ _ _ _ _ us hl => match us, hl with | [_], _ => rfl,
    PySem.W.mg_of X G a10,
    fun_mk (st := top_node) l11 c11 k11,
    (fun_mk (st := top_node) l11 c11 k11).binds (ps := ["_law_pen_here", "_law_things"]) fun _ _ _ _ _ _ us hl => match us, hl with | [_, _], _ => rfl,
    PySem.W.mg_of X G a11,
    fun_mk (st := top_tip) l12 c12 k12,
    (fun_mk (st := top_tip) l12 c12 k12).binds (ps := ["_law_pen_here", "_law_names_here", "_law_free"]) fun _ _ _ _ _ _ us hl => match us, hl with | [_, _, _], _ => rfl,
    PySem.W.mg_of X G a12,
    fun_mk (st := top_count) l13 c13 k13,
    (fun_mk (st := top_count) l13 c13 k13).binds (ps := ["_law_pen_here", "_law_names_here"]) fun _ _ _ _ _ _ us hl => match us, hl with | [_, _], _ => rfl,
    PySem.W.mg_of X G a13,
    fun_mk (st := top_form) l14 c14 k14,
    (fun_mk (st := top_form) l14 c14 k14).binds (ps := ["_law_pen_here", "_law_names_here", "_law_room", "_law_deep", "_law_free"]) fun _ _ _ _ _ _ us hl => match us, hl with | [_, _, _, _, _], _ => rfl,
    PySem.W.mg_of X G a14,
    fun_mk (st := top_inner) l15 c15 k15,
    (fun_mk (st := top_inner) l15 c15 k15).binds (ps := ["_law_form_here"]) fun _ _ _ _ _ _ us hl => match us, hl with | [_], _ => rfl,
    PySem.W.mg_of X G a15,
    fun_mk (st := top_node_text) l16 c16 k16,
    (fun_mk (st := top_node_text) l16 c16 k16).binds (ps := ["_law_node_here"]) fun _ _ _ _ _ _ us hl => match us, hl with | [_], _ => rfl,
    PySem.W.mg_of X G a16,
    fun_mk (st := top_text) l17 c17 k17,
    (fun_mk (st := top_text) l17 c17 k17).binds (ps := ["_law_form_here"]) fun _ _ _ _ _ _ us hl => match us, hl with | [_], _ => rfl,
    PySem.W.mg_of X G a17,
    fun_mk (st := top_law) l18 c18 k18,
    (fun_mk (st := top_law) l18 c18 k18).binds (ps := ["_law_script"]) fun _ _ _ _ _ _ us hl => match us, hl with | [_], _ => rfl,
    PySem.W.mg_of X G a18,
    PySem.W.mg_none_of X G z_abs,
    PySem.W.mg_none_of X G z_int,
    PySem.W.mg_none_of X G z_isinstance,
    PySem.W.mg_none_of X G z_len,
    PySem.W.mg_none_of X G z_list,
    PySem.W.mg_none_of X G z_min,
    PySem.W.mg_none_of X G z_range,
    PySem.W.mg_none_of X G z_sorted,
    PySem.W.mg_none_of X G z_str,
    PySem.W.mg_none_of X G z_tuple,
    PySem.W.mg_of X G g_LENGTHS,
    ⟨_, _, d_LENGTHS, q_LENGTHS, y_LENGTHS, kd_of (l := [("any", .int 1), ("thing", .int 1), ("number", .int 1), ("said", .int 1), ("from", .int 2), ("upto", .int 2), ("is", .int 2), ("keeps", .int 2), ("not", .int 2), ("all", .int 2), ("some", .int 2), ("one", .int 2), ("none", .int 2), ("many", .int 5), ("each", .int 5), ("closed", .int 2)]) (fun p hp => by simp only [List.mem_cons, List.mem_nil_iff, or_false] at hp; rcases hp with rfl | rfl | rfl | rfl | rfl | rfl | rfl | rfl | rfl | rfl | rfl | rfl | rfl | rfl | rfl | rfl <;> exact ⟨_, PySem.W.find_K d_LENGTHS (by assumption), _, rfl⟩)⟩,
    PySem.W.mg_of X G g_LISTS,
    fun H => Or.inr ⟨_, _, _, s_LISTS, rfl, rfl, (by show 4 ≤ sizeLine; decide), (.cons ⟨_, rfl⟩ (.cons ⟨_, rfl⟩ (.cons ⟨_, rfl⟩ (.cons ⟨_, rfl⟩ .nil))))⟩,
    PySem.W.mg_of X G g_WALKS,
    fun H => Or.inr ⟨_, _, _, s_WALKS, rfl, rfl, (by show 2 ≤ sizeLine; decide), (.cons ⟨_, rfl⟩ (.cons ⟨_, rfl⟩ .nil))⟩⟩
local macro_rules | `(tactic| walk_at "s") => `(tactic| first
  | with_reducible refine i_seq ?_ | with_reducible refine i_asg ?_ | with_reducible refine i_gname ?_ | with_reducible refine i_ret ?_ | with_reducible refine i_drop ?_ | with_reducible refine i_ifS ?_ | with_reducible refine i_C ?_
  | ((with_reducible refine i_var (v := ?v9) ?e9 ?_); (case e9 => exact rfl)) | with_reducible refine i_op ?_ | with_reducible refine i_un ?_ | with_reducible refine i_test ?_ | with_reducible refine i_B ?_ | with_reducible refine i_and ?_ | with_reducible refine i_or ?_ | with_reducible refine i_not ?_
  | with_reducible refine i_andV ?_ | with_reducible refine i_orV ?_ | with_reducible refine i_notV ?_ | with_reducible refine i_tif ?_ | with_reducible refine i_chain ?_ | with_reducible refine i_nil ?_ | with_reducible refine i_cons ?_ | with_reducible refine i_call ?_ | with_reducible refine i_CB ?_
  | with_reducible refine i_kget ?_ | with_reducible refine i_fv ?_ | with_reducible refine i_fc ?_ | with_reducible refine i_din ?_ | with_reducible refine i_dnotin ?_ | with_reducible refine i_dnewK ?_ | with_reducible refine i_sub ?_ | with_reducible refine i_gcons ?_ | with_reducible refine i_gnil ?_ | with_reducible refine i_bm ?_ | with_reducible refine i_bm0 ?_ | with_reducible refine i_tru ?_ | with_reducible refine i_for ?_ | with_reducible refine i_rng1 ?_ | with_reducible refine i_iList ?_ | with_reducible refine i_iTup ?_ | with_reducible refine i_sl3 ?_ | with_reducible refine i_ifNo ?_ | with_reducible refine i_tup ?_ | with_reducible refine i_lst ?_ | with_reducible refine i_sl ?_ | with_reducible refine i_noPart ?_ | with_reducible refine i_part ?_ | with_reducible refine i_iStr ?_ | with_reducible refine i_yes ?_ | with_reducible refine i_next ?_ | with_reducible refine i_dget ?_ | with_reducible refine i_dput ?_
  | with_reducible refine o_I0 ?_ | with_reducible refine o_leS ?_ | with_reducible refine o_notInS ?_ | with_reducible refine o_abs ?_ | with_reducible refine o_intB ?_ | with_reducible refine o_neg ?_
  | ((with_reducible refine o_eq ?e9 ?_); (case e9 => exact rfl)) | ((with_reducible refine o_ne ?e9 ?_); (case e9 => exact rfl)) | ((with_reducible refine o_L ?_); walk_at "s") | ((with_reducible refine o_R ?_); walk_at "s")
  | ((with_reducible refine o_I ?c9 ?_); (case c9 => first | exact Or.inl ⟨by decide, by decide⟩ | exact Or.inr ⟨by decide, by decide⟩ | exact (show (0 : Int) < _ by decide) | exact ⟨by decide, by decide, by decide⟩ | exact ⟨by decide, by decide⟩ | assumption))
  | with_reducible refine iteT ?_ | with_reducible refine iteF ?_
  | ((with_reducible refine iteTr ?e9 ?_); (case e9 => exact rfl)) | ((with_reducible refine iteFr ?e9 ?_); (case e9 => exact rfl))
  | ((with_reducible refine ⟨_, rfl, ?_⟩)))
local macro_rules | `(tactic| walk_at "ss") => `(tactic| repeat walk_at "s")
theorem i_seqG {t u : TS} {D : Ends} {σ : L2.St} {H : Hp} (h : ∀ N : L2.St → Hp → Prop, N = u D → t { D with nx := N } σ H) : tSeq t u D σ H := h _ rfl
/-! ### the pen -/
theorem logOk {m : Int} (h0 : 0 < m) (h : m < 2 ^ 200) : m.natAbs.log2 < 9000 := by
  have hz : m.natAbs ≠ 0 := by omega
  have : m.natAbs < 2 ^ 200 := by omega
  exact Nat.lt_of_lt_of_le ((Nat.log2_lt hz).mpr this) (by decide)
theorem modC (x y : Int) : CMul (x % 2147483647) y := by
  have h1 := Int.emod_nonneg x (by decide : (2147483647 : Int) ≠ 0)
  have h2 := Int.emod_lt_of_pos x (by decide : (0 : Int) < 2147483647)
  exact .inl ⟨by omega, by omega⟩
theorem seq_pen {K : PySem.W.Frag} {H : Hp} {p sc : Addr} {k l : V} {ns : List Int} {o : HO} (e : H p = some (.lst [.ref sc, k, l])) (h : SqL K H sc (ns.map V.int)) : SqL K (upd H p o) sc (ns.map V.int) := by
  rcases h with (h | ⟨u, h⟩) | h
  · have n1 : sc ≠ p := fun z => by
      rw [z, e] at h
      injection h with h
      injection h with h
      cases ns with
      | nil => cases h
      | cons n r => injection h with h _; cases h
    exact .inl (.inl (by rw [upd_ne n1]; exact h))
  · have n1 : sc ≠ p := fun z => by rw [z, e] at h; cases h
    exact .inl (.inr ⟨u, by rw [upd_ne n1]; exact h⟩)
  · exact .inr h
section
variable {P : Program} {w : World} {K : PySem.W.Frag} {mg : Str → Option Value} {base : Heap} {t : Adr}
theorem ok_pen (T : Txt w K mg t) : FnOk P w K mg base CX0 1 t.a_pen t.d_pen ["_law_script"] (sp_pen K) := by
  refine T.F_pen.okJ sc_pen (fun vs H Q E h => ?_) (fun cdv A outer s H vs Q E hr h => ⟨_, der_pen T hr, ?_⟩)
  · obtain ⟨a, ns, rfl, _⟩ := h
    rfl
  obtain ⟨a, ns, rfl, hS, q⟩ := h
  unfold rd_pen
  walk_at "ss"
  refine ⟨(by show 3 ≤ sizeLine; decide), fun p hp => ?_⟩
  exact q p _ ⟨ns, 0, 0, upd_same, (Same.new _ hp).seq hS, by decide, by decide, by decide⟩
theorem ok_take (T : Txt w K mg t) : FnOk P w K mg base CX0 1 t.a_take t.d_take ["_law_pen_here", "_law_most"] (sp_take K) := by
  refine T.F_take.okJ sc_take (fun vs H Q E h => ?_) (fun cdv A outer s H vs Q E hr h => ⟨_, der_take T hr, ?_⟩)
  · obtain ⟨p, sc, m, B, rfl, _⟩ := h
    rfl
  obtain ⟨p, sc, m, B, rfl, ⟨ns, k, l, hp, hS, hk, hkB, hl⟩, hB, hm0, hm, q⟩ := h
  have fin : ∀ (H1 : Hp) (k1 l1 : Int) (r : Int), 0 ≤ k1 → k1 ≤ B + 1 → 0 ≤ l1 → 0 ≤ r → r < m → Keep p H H1 → H1 p = some (.lst [.ref sc, .int k1, .int l1]) → SqL K H1 sc (ns.map V.int) → Q (.int r) H1 :=
    fun H1 k1 l1 r h1 h1' h2 h3 h4 h5 h6 h7 => q r H1 h3 h4 ⟨h5, ns, k1, l1, h6, h7, h1, h1', h2⟩
  have hml : 0 < m ∧ m.natAbs.log2 < 9000 := ⟨hm0, logOk hm0 hm⟩
  have hkk : CMul (7919 * k) k := .inr ⟨by omega, by omega⟩
  unfold rd_take
  walk_at "ss"
  refine o_ixL (SqL.of hp) (v := .int l) (atI_nat (j := 2) rfl) ?_
  walk_at "ss"
  refine ite3 (fun e0 => ?_) (fun e0 => ?_)
  · walk_at "ss"
    refine o_ixL (SqL.of hp) (v := .int l) (atI_nat (j := 2) rfl) ?_
    walk_at "ss"
    refine o_ixL (SqL.of hp) (v := .int l) (atI_nat (j := 2) rfl) ?_
    walk_at "ss"
    refine ⟨p, _, _, 2, rfl, rfl, hp, rfl, ?_⟩
    walk_at "ss"
    exact fin _ k (l / m) (l % m) hk (by omega) (Int.ediv_nonneg hl (Int.le_of_lt hm0)) (Int.emod_nonneg _ (by omega)) (Int.emod_lt_of_pos _ hm0) (Keep.put _) upd_same (seq_pen hp hS)
  · walk_at "ss"
    refine o_ixL (SqL.of hp) (v := .int k) (atI_nat (j := 1) rfl) ?_
    walk_at "ss"
    refine ⟨p, _, _, 1, rfl, rfl, hp, rfl, ?_⟩
    have hp1 : upd H p (.lst [.ref sc, .int (k + 1), .int l]) p = some (.lst [.ref sc, .int (k + 1), .int l]) := upd_same
    have hS1 := seq_pen (o := .lst [.ref sc, .int (k + 1), .int l]) hp hS
    have K1 : Keep p H (upd H p (.lst [.ref sc, .int (k + 1), .int l])) := Keep.put _
    have hlen : (ns.map V.int).length = ns.length := List.length_map _
    iterate 4 walk_at "s"
    with_reducible refine i_seqG fun N eN => ?_
    have rest : ∀ c : Int, N [some (.ref p), some (.int m), none, some (.int k), some (.int c), none] (upd H p (.lst [.ref sc, .int (k + 1), .int l])) := by
      intro c
      rw [eN]
      have k2 : 0 ≤ (if c < 0 then -c else c) := by split <;> omega
      have put : Q (.int ((if c < 0 then -c else c) % m)) (upd (upd H p (.lst [.ref sc, .int (k + 1), .int l])) p (.lst [.ref sc, .int (k + 1), .int ((if c < 0 then -c else c) / m)])) :=
        fin _ (k + 1) ((if c < 0 then -c else c) / m) ((if c < 0 then -c else c) % m) (by omega) (by omega) (Int.ediv_nonneg k2 (Int.le_of_lt hm0)) (Int.emod_nonneg _ (by omega)) (Int.emod_lt_of_pos _ hm0) ((Keep.put _).trans (Keep.put _)) upd_same (seq_pen hp1 hS1)
      have no : ∀ r : Int, 0 ≤ r → r < m → Q (.int r) (upd H p (.lst [.ref sc, .int (k + 1), .int l])) := fun r r0 r1 => fin _ (k + 1) l r (by omega) (by omega) hl r0 r1 (Keep.put _) hp1 hS1
      walk_at "ss"
      refine o_ixL (SqL.of hp1) (v := .ref sc) (atI_nat (j := 0) rfl) ?_
      walk_at "ss"
      refine o_lenL hS1 ?_
      walk_at "ss"
      refine ite3 (fun e1 => ?_) (fun e1 => ?_)
      · walk_at "ss"
        refine ite3 (fun e2 => ?_) (fun e2 => ?_)
        · walk_at "ss"
          refine ⟨p, _, _, 2, rfl, rfl, hp1, rfl, ?_⟩
          walk_at "ss"
          exact put
        · walk_at "ss"
          refine o_L (o_I (modC _ _) ?_)
          walk_at "ss"
          exact no _ (Int.emod_nonneg _ (by omega)) (Int.emod_lt_of_pos _ hm0)
      · walk_at "ss"
        refine o_L (o_I (modC _ _) ?_)
        walk_at "ss"
        exact no _ (Int.emod_nonneg _ (by omega)) (Int.emod_lt_of_pos _ hm0)
    walk_at "ss"
    refine o_ixL (SqL.of hp1) (v := .ref sc) (atI_nat (j := 0) rfl) ?_
    walk_at "ss"
    refine o_lenL hS1 ?_
    walk_at "ss"
    refine ite3 (fun e1 => ?_) (fun e1 => ?_)
    · have hn : 0 < ((ns.map V.int).length : Int) := of_decide_eq_true e1
      have hj0 := Int.emod_nonneg k (by omega : ((ns.map V.int).length : Int) ≠ 0)
      have hj1 := Int.emod_lt_of_pos k hn
      have hj2 : (k % ((ns.map V.int).length : Int)).toNat < ns.length := by omega
      have ej : k % ((ns.map V.int).length : Int) = (((k % ((ns.map V.int).length : Int)).toNat : Nat) : Int) := by omega
      have hat : atI (ns.map V.int) (k % ((ns.map V.int).length : Int)) = some (.int ns[(k % ((ns.map V.int).length : Int)).toNat]) := by
        have := atI_nat (xs := ns.map V.int) (j := (k % ((ns.map V.int).length : Int)).toNat) (v := .int ns[(k % ((ns.map V.int).length : Int)).toNat]) (by rw [List.getElem?_map, List.getElem?_eq_getElem hj2]; rfl)
        rw [← ej] at this
        exact this
      generalize ns[(k % ((ns.map V.int).length : Int)).toNat] = c at hat
      walk_at "ss"
      refine o_ixL (SqL.of hp1) (v := .ref sc) (atI_nat (j := 0) rfl) ?_
      walk_at "ss"
      refine o_ixL (SqL.of hp1) (v := .ref sc) (atI_nat (j := 0) rfl) ?_
      walk_at "ss"
      refine o_lenL hS1 ?_
      walk_at "ss"
      refine o_ixL hS1 hat ?_
      walk_at "ss"
      exact rest c
    · walk_at "ss"
      exact rest 0
end
theorem Pen.mono {K : PySem.W.Frag} {H : Hp} {p sc : Addr} {B C : Int} (h : Pen K H p sc B) (l : B ≤ C) : Pen K H p sc C := by
  obtain ⟨ns, k, l', hp, hS, hk, hkB, hl⟩ := h
  exact ⟨ns, k, l', hp, hS, hk, by omega, hl⟩
theorem Pen.same {K : PySem.W.Frag} {H H' : Hp} {p sc : Addr} {B : Int} (h : Pen K H p sc B) (s : Same H H') : Pen K H' p sc B := by
  obtain ⟨ns, k, l, hp, hS, hk, hkB, hl⟩ := h
  exact ⟨ns, k, l, s _ _ hp, s.seq hS, hk, hkB, hl⟩
theorem Pen.new {K : PySem.W.Frag} {H : Hp} {p sc a : Addr} {B : Int} {o : HO} (h : Pen K H p sc B) (n : H a = none) : Pen K (upd H a o) p sc B := h.same (Same.new o n)
theorem Pen.ne {K : PySem.W.Frag} {H : Hp} {p sc a : Addr} {B : Int} (h : Pen K H p sc B) (n : H a = none) : a ≠ p := by
  obtain ⟨ns, k, l, hp, _⟩ := h
  intro e
  rw [e, hp] at n
  cases n
theorem Pen.room {K : PySem.W.Frag} {H : Hp} {p sc ra : Addr} {B : Int} {o : HO} (h : Pen K H p sc B) (n : ra ≠ p) (s : ra ≠ sc ∨ ∃ ns : List Int, ∀ H, SqL K H sc (ns.map V.int)) : Pen K (upd H ra o) p sc B := by
  obtain ⟨ns, k, l, hp, hS, hk, hkB, hl⟩ := h
  rcases s with s | ⟨ns', hs⟩
  · refine ⟨ns, k, l, by rw [upd_ne (Ne.symm n)]; exact hp, ?_, hk, hkB, hl⟩
    rcases hS with (h | ⟨u, h⟩) | h
    · exact .inl (.inl (by rw [upd_ne (Ne.symm s)]; exact h))
    · exact .inl (.inr ⟨u, by rw [upd_ne (Ne.symm s)]; exact h⟩)
    · exact .inr h
  · exact ⟨ns', k, l, by rw [upd_ne (Ne.symm n)]; exact hp, hs _, hk, hkB, hl⟩
theorem Pen.apart {K : PySem.W.Frag} {H : Hp} {p sc ra : Addr} {B : Int} (h : Pen K H p sc B) (n : H ra = none) : ra ≠ sc ∨ ∃ ns : List Int, ∀ H, SqL K H sc (ns.map V.int) := by
  obtain ⟨ns, k, l, hp, hS, hk, hkB, hl⟩ := h
  rcases hS with (h | ⟨u, h⟩) | h
  · exact .inl (Ne.symm (ne_of_none h n))
  · exact .inl (Ne.symm (ne_of_none h n))
  · exact .inr ⟨ns, fun _ => .inr h⟩
theorem Txts.keep {p a : Addr} {H H' : Hp} {xs : List Str} (h : Txts p H a xs) (k : Keep p H H') : Txts p H' a xs := ⟨h.1, k _ _ h.1 h.2⟩
theorem Drawn.trans {K : PySem.W.Frag} {p sc : Addr} {H H1 H2 : Hp} {B C : Int} (a : Drawn K p sc B H H1) (b : Drawn K p sc C H1 H2) : Drawn K p sc C H H2 := ⟨a.1.trans b.1, b.2⟩
theorem Drawn.mono {K : PySem.W.Frag} {p sc : Addr} {H H1 : Hp} {B C : Int} (a : Drawn K p sc B H H1) (l : B ≤ C) : Drawn K p sc C H H1 := ⟨a.1, a.2.mono l⟩
theorem Drawn.refl {K : PySem.W.Frag} {H : Hp} {p sc : Addr} {B : Int} (h : Pen K H p sc B) : Drawn K p sc B H H := ⟨Keep.refl _ _, h⟩
theorem Drawn.new {K : PySem.W.Frag} {p sc a : Addr} {H H1 : Hp} {B : Int} {o : HO} (h : Drawn K p sc B H H1) (n : H1 a = none) : Drawn K p sc B H (upd H1 a o) := ⟨h.1.trans (Keep.new _ n), h.2.new n⟩
theorem Drawn.same {K : PySem.W.Frag} {H H1 H' : Hp} {p sc : Addr} {B : Int} (h : Drawn K p sc B H H1) (n : Same H1 H') : Drawn K p sc B H H' := ⟨h.1.trans n.keep, h.2.same n⟩
/-- a list that came since is changed -/
theorem Drawn.app {K : PySem.W.Frag} {H H' : Hp} {p sc la : Addr} {B C : Int} {o : HO} (h0 : Pen K H p sc C) (d : Drawn K p sc B H H') (hn : H la = none) : Drawn K p sc B H (upd H' la o) :=
  ⟨fun b u n q => by rw [upd_ne (ne_of_none q hn)]; exact d.1 b u n q, d.2.room (h0.ne hn) (h0.apart hn)⟩
theorem fresh_of {K : PySem.W.Frag} {p sc a : Addr} {B : Int} {H H' : Hp} (D : Drawn K p sc B H H') (h : H' a = none) : H a = none := by
  cases hh : H a with
  | none => rfl
  | some o =>
    by_cases z : a = p
    · exact absurd z (D.2.ne h)
    · have := D.1 a o z hh
      rw [h] at this; cases this
/-! ### texts' lengths -/
theorem app_cps (x y : Str) : (x ++ y).cps.toList = x.cps.toList ++ y.cps.toList := by
  show (x.append y).cps.toList = _
  unfold Str.append
  simp
theorem app_len (x y : Str) : (x ++ y).length = x.length + y.length := by
  have := congrArg List.length (app_cps x y)
  rw [List.length_append] at this
  simpa [Str.length] using this
theorem str_ext {x y : Str} (h : x.cps.toList = y.cps.toList) : x = y := by
  obtain ⟨a⟩ := x
  obtain ⟨b⟩ := y
  have : a = b := by simpa using congrArg List.toArray h
  rw [this]
theorem empty_app (x : Str) : Str.empty ++ x = x := by
  apply str_ext
  rw [app_cps]
  rfl
theorem iT_len {i : Int} {k : Nat} (hk : 0 < k) (h : i.natAbs < 10 ^ k) : (iT i).length ≤ k + 1 := by
  unfold iT
  rw [PySem.ofString_length]
  exact int_text_length_le10 hk h
theorem iT_len60 {i : Int} (h : i.natAbs < 10 ^ 60) : (iT i).length ≤ 61 := iT_len (by decide) h
theorem iT_len2 {i : Int} (h0 : 0 ≤ i) (h : i ≤ 60) : (iT i).length ≤ 3 := iT_len (k := 2) (by decide) (by omega)
theorem iT_log {i : Int} (h : i.natAbs < 10 ^ 60) : i.natAbs.log2 < 1920 := by
  by_cases e : i.natAbs = 0
  · rw [e]; decide
  · exact Nat.lt_of_lt_of_le ((Nat.log2_lt e).mpr (Nat.lt_trans h (by decide : (10 : Nat) ^ 60 < 2 ^ 200))) (by decide)
theorem foldl_len (g : Array Nat) : ∀ (ps : List Str) (acc : Array Nat), (ps.foldl (fun acc p => acc ++ g ++ p.cps) acc).size = acc.size + (ps.map fun p => p.length).sum + ps.length * g.size
  | [], acc => by simp
  | p :: ps, acc => by
    rw [List.foldl_cons, foldl_len g ps]
    simp only [List.map_cons, List.sum_cons, List.length_cons, Array.size_append, Nat.succ_mul]
    show acc.size + g.size + p.cps.size + _ + _ = acc.size + (p.cps.size + _) + _
    omega
theorem join_len (z : Str) (ss : List Str) : (Txt.join z ss).length ≤ (ss.map (·.length)).sum + ss.length * z.length := by
  cases ss with
  | nil =>
    have : (Txt.join z []).length = 0 := rfl
    rw [this]
    exact Nat.zero_le _
  | cons x r =>
    show ((r.foldl (fun acc p => acc ++ z.cps ++ p.cps) x.cps)).size ≤ _
    rw [foldl_len]
    simp only [List.map_cons, List.sum_cons, List.length_cons, Nat.succ_mul]
    show x.cps.size + _ + r.length * z.cps.size ≤ x.cps.size + _ + (r.length * z.cps.size + z.cps.size)
    omega
theorem hiT_len {o : Option Int} (h : ∀ x, o = some x → 0 ≤ x ∧ x ≤ 60) : (hiT o).length ≤ 3 := by
  cases o with
  | none => decide
  | some i => exact iT_len2 (h i rfl).1 (h i rfl).2
theorem node_len {H : Hp} {v : V} {T : Str} (h : NodeV H v T) : T.length ≤ 61 := by
  rcases h with ⟨x, _, h, rfl⟩ | ⟨i, _, h, rfl⟩ | ⟨a, x, _, _, h, rfl⟩
  · unfold Sh at h; omega
  · exact iT_len60 h
  · rw [app_len]
    have : ("'" : Str).length = 1 := by decide
    unfold Sh at h
    omega
theorem sumF {P : V → Str → Nat → Prop} (hP : ∀ u S j, P u S j → S.length ≤ 200 * j) : ∀ {us : List V} {Ss : List Str} {k : Nat}, AllF P us Ss k → (Ss.map (·.length)).sum ≤ 200 * k ∧ Ss.length = us.length
  | [], [], k, h => by
    have : k = 0 := h
    subst this
    exact ⟨Nat.le_refl _, rfl⟩
  | u :: us, S :: Ss, k, h => by
    obtain ⟨j, m, h1, h2, e⟩ := h
    obtain ⟨i1, i2⟩ := sumF hP h2
    have := hP u S j h1
    simp only [List.map_cons, List.sum_cons, List.length_cons]
    omega
  | [], _ :: _, _, h => False.elim h
  | _ :: _, [], _, h => False.elim h
theorem sum_sh : ∀ {l : List Str}, (∀ x ∈ l, Sh x) → (l.map (·.length)).sum ≤ 9 * l.length
  | [], _ => Nat.le_refl _
  | x :: l, h => by
    have i := sum_sh (l := l) fun y hy => h y (List.mem_cons_of_mem _ hy)
    have := h x List.mem_cons_self
    unfold Sh at this
    simp only [List.map_cons, List.sum_cons, List.length_cons]
    omega
theorem sep_len : (", " : Str).length = 2 := by decide
theorem w_len {w : Str} (h : w ∈ W0 ∨ w ∈ W1 ∨ w ∈ WL ∨ w ∈ WW ∨ w = "closed" ∨ w = "not") : w.length ≤ 6 := by
  unfold W0 W1 WL WW at h
  simp only [List.mem_cons, List.mem_nil_iff, or_false] at h
  rcases h with (rfl | rfl | rfl | rfl) | (rfl | rfl) | (rfl | rfl | rfl | rfl) | (rfl | rfl) | rfl | rfl <;> decide
/-- what stands in the brackets: its length -/
theorem ins_len {P : V → Str → Nat → Prop} {H : Hp} {v : V} {w J : Str} {k : Nat} (hP : ∀ u S j, P u S j → S.length ≤ 200 * j) (h : Ins P H v w J k) : J.length + 100 ≤ 200 * k ∧ w.length ≤ 6 := by
  rcases h with ⟨rfl, rfl, a, b, l, _, _, _, hs, hl, rfl⟩ | ⟨rfl, a, u, S, j, _, _, hp, rfl, rfl⟩ | ⟨hw, a, b, us, Ss, j, _, _, _, hp, hu, rfl, rfl⟩ | ⟨hw, a, lo, hi, st, u, S, j, _, _, l0, l1, hh, hst, hp, rfl, rfl⟩
  · have h1 := join_len ", " l
    have h2 := sum_sh hs
    rw [sep_len] at h1
    exact ⟨by omega, by decide⟩
  · have h1 := join_len ", " [S]
    have h2 := hP u S j hp
    rw [sep_len] at h1
    simp only [List.map_cons, List.map_nil, List.sum_cons, List.sum_nil, List.length_cons, List.length_nil] at h1
    exact ⟨by omega, by decide⟩
  · have h1 := join_len ", " Ss
    obtain ⟨h2, h3⟩ := sumF hP hp
    rw [sep_len] at h1
    exact ⟨by omega, w_len (.inr (.inr (.inl hw)))⟩
  · have h1 := join_len ", " [iT lo, hiT hi, st, S]
    have h2 := hP u S j hp
    have h3 := iT_len2 l0 l1
    have h4 := hiT_len hh
    rw [sep_len] at h1
    simp only [List.map_cons, List.map_nil, List.sum_cons, List.sum_nil, List.length_cons, List.length_nil] at h1
    exact ⟨by omega, w_len (.inr (.inr (.inr (.inl hw))))⟩
theorem tip_len {H : Hp} {v : V} {T : Str} {k : Nat} (h : Tip H v T k) : T.length ≤ 200 * k := by
  obtain ⟨rfl, h⟩ := h
  have b1 : (" " : Str).length = 1 := by decide
  rcases h with ⟨a, w, _, _, hw, rfl⟩ | ⟨a, w, i, _, _, hw, hi, rfl⟩ | ⟨a, u, S, _, _, hn, rfl⟩ | ⟨a, x, _, _, hx, rfl⟩
  · have := w_len (.inl hw)
    omega
  · have h1 := w_len (.inr (.inl hw))
    have h2 := iT_len60 hi
    rw [app_len, app_len]
    omega
  · have h1 := node_len hn
    have h2 : ("is" : Str).length = 2 := by decide
    rw [app_len, app_len]
    omega
  · have h2 : ("keeps" : Str).length = 5 := by decide
    unfold Sh at hx
    rw [app_len, app_len]
    omega
theorem fv_len {H : Hp} : ∀ (n : Nat) (v : V) (T : Str) (k : Nat), Fv n H v T k → T.length ≤ 200 * k
  | 0, _, _, _, h => False.elim h
  | n + 1, v, T, k, h => by
    rcases h with h | ⟨w, J, h, rfl⟩
    · exact tip_len h
    · obtain ⟨h1, h2⟩ := ins_len (fv_len n) h
      have e1 : ("(" : Str).length = 1 := by decide
      have e2 : (")" : Str).length = 1 := by decide
      rw [app_len, app_len, app_len]
      omega
/-! ### what is kept -/
theorem Same.tk {H H' : Hp} (s : Same H H') : TK H H' := fun b xs h => s _ _ h
theorem Keep.tk {p : Addr} {H H' : Hp} {xs : List V} (k : Keep p H H') (hp : H p = some (.lst xs)) : TK H H' := fun b ys h => k _ _ (fun z => by rw [z, hp] at h; cases h) h
theorem NodeV.keep {H H' : Hp} {v : V} {T : Str} (k : TK H H') (h : NodeV H v T) : NodeV H' v T := by
  rcases h with h | h | ⟨a, x, e, q, r⟩
  · exact .inl h
  · exact .inr (.inl h)
  · exact .inr (.inr ⟨a, x, e, k _ _ q, r⟩)
theorem Tip.keep {H H' : Hp} {v : V} {T : Str} {n : Nat} (k : TK H H') (h : Tip H v T n) : Tip H' v T n := by
  refine ⟨h.1, ?_⟩
  rcases h.2 with ⟨a, w, e, q, r⟩ | ⟨a, w, i, e, q, r⟩ | ⟨a, u, S, e, q, hn, r⟩ | ⟨a, x, e, q, r⟩
  · exact .inl ⟨a, w, e, k _ _ q, r⟩
  · exact .inr (.inl ⟨a, w, i, e, k _ _ q, r⟩)
  · exact .inr (.inr (.inl ⟨a, u, S, e, k _ _ q, hn.keep k, r⟩))
  · exact .inr (.inr (.inr ⟨a, x, e, k _ _ q, r⟩))
theorem AllF.imp {P P' : V → Str → Nat → Prop} (hP : ∀ u S j, P u S j → P' u S j) : ∀ {us : List V} {Ss : List Str} {k : Nat}, AllF P us Ss k → AllF P' us Ss k
  | [], [], _, h => h
  | u :: us, S :: Ss, k, h => by
    obtain ⟨j, m, h1, h2, e⟩ := h
    exact ⟨j, m, hP _ _ _ h1, AllF.imp hP h2, e⟩
  | [], _ :: _, _, h => False.elim h
  | _ :: _, [], _, h => False.elim h
theorem Ins.keep {P P' : V → Str → Nat → Prop} {H H' : Hp} {v : V} {w J : Str} {n : Nat} (k : TK H H') (hP : ∀ u S j, P u S j → P' u S j) (h : Ins P H v w J n) : Ins P' H' v w J n := by
  rcases h with ⟨e1, e2, a, b, l, e, q1, q2, r⟩ | ⟨e1, a, u, S, j, e, q, hp, r⟩ | ⟨hw, a, b, us, Ss, j, e, q1, q2, hp, r⟩ | ⟨hw, a, lo, hi, st, u, S, j, e, q, l0, l1, hh, hst, hp, r⟩
  · exact .inl ⟨e1, e2, a, b, l, e, k _ _ q1, k _ _ q2, r⟩
  · exact .inr (.inl ⟨e1, a, u, S, j, e, k _ _ q, hP _ _ _ hp, r⟩)
  · exact .inr (.inr (.inl ⟨hw, a, b, us, Ss, j, e, k _ _ q1, k _ _ q2, hp.imp hP, r⟩))
  · exact .inr (.inr (.inr ⟨hw, a, lo, hi, st, u, S, j, e, k _ _ q, l0, l1, hh, hst, hP _ _ _ hp, r⟩))
theorem Fv.keep {H H' : Hp} (k : TK H H') : ∀ (n : Nat) (v : V) (T : Str) (m : Nat), Fv n H v T m → Fv n H' v T m
  | 0, _, _, _, h => False.elim h
  | n + 1, v, T, m, h => by
    rcases h with h | ⟨w, J, h, e⟩
    · exact .inl (h.keep k)
    · exact .inr ⟨w, J, h.keep k (Fv.keep k n), e⟩
theorem strEq (a b : Str) : decide (V.str a = V.str b) = decide (a = b) := by
  apply decide_eq_decide.mpr
  constructor
  · intro h; injection h
  · intro h; rw [h]
theorem inStr (x : Str) (l : List Str) : inV (.str x) (l.map V.str) = decide (x ∈ l) := by
  unfold inV
  rw [Bool.eq_iff_iff, List.any_eq_true, decide_eq_true_eq]
  constructor
  · rintro ⟨y, hy, e⟩
    obtain ⟨z, hz, rfl⟩ := List.mem_map.mp hy
    have : z = x := by simpa [eqV] using e
    rw [← this]; exact hz
  · intro h
    exact ⟨.str x, List.mem_map.mpr ⟨x, h, rfl⟩, by simp [eqV]⟩
theorem flatStrs (l : List Str) : (l.map V.str).all flatV = true := by
  rw [List.all_eq_true]
  intro y hy
  obtain ⟨z, hz, rfl⟩ := List.mem_map.mp hy
  rfl
theorem o_in {K : PySem.W.Frag} {H : Hp} {Q : VK} {x : Str} {p : Addr} {l : List Str} {r : R2} (h : SqL K H p (l.map V.str) ∨ SqT K H p (l.map V.str)) (q : Q (.bl (decide (x ∈ l))) H) : rOr r (rIn K false) (.str x) (.ref p) H Q :=
  o_R ⟨p, _, rfl, h, rfl, flatStrs l, by rw [inStr]; exact q⟩
section
variable {P : Program} {w : World} {K : PySem.W.Frag} {mg : Str → Option Value} {base : Heap} {t : Adr}
theorem node_dn {H : Hp} {v : V} {T : Str} (h : NodeV H v T) : ∃ p d, Dn p H d v ∧ isS d = (match v with | .str _ => true | _ => false) ∧ isT d = (match v with | .ref _ => true | _ => false) := by
  rcases h with ⟨x, rfl, _⟩ | ⟨i, rfl, _⟩ | ⟨a, x, rfl, q, _⟩
  · exact ⟨0, .str x, rfl, rfl, rfl⟩
  · exact ⟨0, .int i, rfl, rfl, rfl⟩
  · exact ⟨a + 1, .tuple [.str x], ⟨a, _, rfl, Nat.ne_of_lt (Nat.lt_succ_self a), q, _, _, rfl, rfl, rfl⟩, rfl, rfl⟩
theorem ok_kind_of (T : Txt w K mg t) : FnOk P w K mg base CX0 1 t.a_kind_of t.d_kind_of ["node"] (sp_kind_of K) := by
  refine T.F_kind_of.okJ sc_kind_of (fun vs H Q E h => ?_) (fun cdv A outer s H vs Q E hr h => ⟨_, der_kind_of T hr, ?_⟩)
  · obtain ⟨v, T', rfl, _⟩ := h
    rfl
  obtain ⟨v, T', rfl, hn, q⟩ := h
  obtain ⟨p, d, hd, e1, e2⟩ := node_dn hn
  unfold rd_kind_of
  walk_at "ss"
  refine isi_S hd ⟨_, rfl, ?_⟩
  rw [e1]
  rcases hn with ⟨x, rfl, _⟩ | ⟨i, rfl, _⟩ | ⟨a, x, rfl, _⟩
  · refine iteTr rfl ?_
    walk_at "ss"
    exact q
  · refine iteFr rfl ?_
    walk_at "ss"
    refine isi_T hd ⟨_, rfl, ?_⟩
    rw [e2]
    refine iteFr rfl ?_
    walk_at "ss"
    exact q
  · refine iteFr rfl ?_
    walk_at "ss"
    refine isi_T hd ⟨_, rfl, ?_⟩
    rw [e2]
    refine iteTr rfl ?_
    walk_at "ss"
    exact q
theorem ok_show_node (T : Txt w K mg t) (G : FnOk P w K mg base CX0 1 t.a_kind_of t.d_kind_of ["node"] (sp_kind_of K)) : FnOk P w K mg base CX0 2 t.a_show_node t.d_show_node ["node"] (sp_show_node K) := by
  refine T.F_show_node.okJ sc_show_node (fun vs H Q E h => ?_) (fun cdv A outer s H vs Q E hr h => ⟨_, der_show_node T G hr, ?_⟩)
  · obtain ⟨v, T', rfl, _⟩ := h
    rfl
  obtain ⟨v, T', rfl, hn, q⟩ := h
  unfold rd_show_node
  walk_at "ss"
  refine ⟨v, T', rfl, hn, ?_⟩
  have f1 : decide (V.str (Str.ofString "thing") = V.str (Str.ofString "number")) = false := by decide +kernel
  have f2 : decide (V.str (Str.ofString "thing") = V.str (Str.ofString "said")) = false := by decide +kernel
  have f3 : decide (V.str (Str.ofString "said") = V.str (Str.ofString "number")) = false := by decide +kernel
  have f4 : decide (V.str (Str.ofString "said") = V.str (Str.ofString "said")) = true := by decide +kernel
  have f5 : decide (V.str (Str.ofString "number") = V.str (Str.ofString "number")) = true := by decide +kernel
  walk_at "ss"
  rcases hn with ⟨x, rfl, _, rfl⟩ | ⟨i, rfl, hi, rfl⟩ | ⟨a, x, rfl, hA, hx, rfl⟩
  · refine iteFr f1 ?_
    walk_at "ss"
    exact q
  · refine iteTr f5 ?_
    walk_at "ss"
    exact .inl ⟨i, rfl, iT_log hi, q⟩
  · refine iteFr f3 ?_
    walk_at "ss"
    refine o_ixT (SqT.of hA) (v := .str x) (atI_nat (j := 0) rfl) ?_
    unfold Sh at hx
    refine o_R (o_L (o_addS (Nat.le_trans (by have : ("'" : Str).length = 1 := by decide
                                              omega : ("'" : Str).length + x.length ≤ 100) (by decide)) ?_))
    exact q
theorem ok_node_text (T : Txt w K mg t) : FnOk P w K mg base CX0 1 t.a_node_text t.d_node_text ["_law_node_here"] (sp_node_text K) := by
  refine T.F_node_text.okJ sc_node_text (fun vs H Q E h => ?_) (fun cdv A outer s H vs Q E hr h => ⟨_, der_node_text T hr, ?_⟩)
  · obtain ⟨v, T', rfl, _⟩ := h
    rfl
  obtain ⟨v, T', rfl, hn, q⟩ := h
  obtain ⟨p, d, hd, e1, e2⟩ := node_dn hn
  unfold rd_node_text
  walk_at "ss"
  refine isi_T hd ⟨_, rfl, ?_⟩
  rw [e2]
  rcases hn with ⟨x, rfl, _, rfl⟩ | ⟨i, rfl, hi, rfl⟩ | ⟨a, x, rfl, hA, hx, rfl⟩
  · refine iteFr rfl ?_
    walk_at "ss"
    exact .inr (.inr ⟨_, rfl, q⟩)
  · refine iteFr rfl ?_
    walk_at "ss"
    exact .inl ⟨i, rfl, iT_log hi, q⟩
  · refine iteTr rfl ?_
    walk_at "ss"
    refine o_ixT (SqT.of hA) (v := .str x) (atI_nat (j := 0) rfl) ?_
    unfold Sh at hx
    refine o_R (o_L (o_addS (Nat.le_trans (by have : ("'" : Str).length = 1 := by decide
                                              omega : ("'" : Str).length + x.length ≤ 100) (by decide)) ?_))
    exact q
theorem ok_show_high (T : Txt w K mg t) : FnOk P w K mg base CX0 1 t.a_show_high t.d_show_high ["high"] (sp_show_high K) := by
  refine T.F_show_high.okJ sc_show_high (fun vs H Q E h => ?_) (fun cdv A outer s H vs Q E hr h => ⟨_, der_show_high T hr, ?_⟩)
  · obtain ⟨hi, rfl, _⟩ := h
    rfl
  obtain ⟨hi, rfl, hh, q⟩ := h
  unfold rd_show_high
  walk_at "ss"
  cases hi with
  | none =>
    refine ⟨rfl, _, rfl, iteTr (by simp [hiV]) ?_⟩
    walk_at "ss"
    exact q
  | some i =>
    refine ⟨rfl, _, rfl, iteFr (by simp [hiV]) ?_⟩
    walk_at "ss"
    have := hh i rfl
    exact .inl ⟨i, rfl, iT_log (by omega), q⟩
theorem ok_length_of (T : Txt w K mg t) : FnOk P w K mg base CX0 1 t.a_length_of t.d_length_of ["word"] (sp_length_of K) := by
  refine T.F_length_of.okJ sc_length_of (fun vs H Q E h => ?_) (fun cdv A outer s H vs Q E hr h => ⟨_, der_length_of T hr, ?_⟩)
  · obtain ⟨v, i, rfl, _⟩ := h
    rfl
  obtain ⟨v, i, rfl, hf, q⟩ := h
  unfold rd_length_of
  walk_at "ss"
  exact ⟨v, .int i, rfl, hf, q⟩
theorem wl_not {w : Str} (h : w ∈ WL) : w ≠ "not" ∧ w ∉ WW ∧ w ≠ "closed" := by
  unfold WL at h
  simp only [List.mem_cons, List.mem_nil_iff, or_false] at h
  rcases h with rfl | rfl | rfl | rfl <;> exact ⟨by decide +kernel, by decide +kernel, by decide +kernel⟩
theorem ww_not {w : Str} (h : w ∈ WW) : w ≠ "not" ∧ w ∉ WL ∧ w ≠ "closed" := by
  unfold WW at h
  simp only [List.mem_cons, List.mem_nil_iff, or_false] at h
  rcases h with rfl | rfl <;> exact ⟨by decide +kernel, by decide +kernel, by decide +kernel⟩
theorem ok_straight_parts (T : Txt w K mg t) : FnOk P w K mg base CX0 1 t.a_straight_parts t.d_straight_parts ["form"] (sp_straight_parts K) := by
  refine T.F_straight_parts.okJ sc_straight_parts (fun vs H Q E h => ?_) (fun cdv A outer s H vs Q E hr h => ⟨_, der_straight_parts T hr, ?_⟩)
  · obtain ⟨v, us, rfl, _⟩ := h
    rfl
  obtain ⟨v, us, rfl, hp, q⟩ := h
  unfold rd_straight_parts
  walk_at "ss"
  rcases hp with ⟨a, u, rfl, hA, rfl⟩ | ⟨a, b, w', rfl, hA, hw, hB⟩ | ⟨a, w', x, y, z, u, rfl, hA, hw, rfl⟩
  · refine o_ixT (SqT.of hA) (v := .str "not") (atI_nat (j := 0) rfl) ?_
    walk_at "ss"
    refine o_ixT (SqT.of hA) (v := u) (atI_nat (j := 1) rfl) ?_
    walk_at "ss"
    refine ⟨(by show 1 ≤ sizeLine; decide), fun c hc => ?_⟩
    exact q c _ (Same.new _ hc) upd_same
  · have hn := wl_not hw
    refine o_ixT (SqT.of hA) (v := .str w') (atI_nat (j := 0) rfl) ?_
    walk_at "ss"
    refine iteFr (by rw [strEq]; exact decide_eq_false hn.1) ?_
    walk_at "ss"
    refine o_in (l := WL) (.inr (T.s_LISTS H)) ⟨_, rfl, ?_⟩
    refine iteTr (decide_eq_true hw) ?_
    walk_at "ss"
    refine o_ixT (SqT.of hA) (v := .ref b) (atI_nat (j := 1) rfl) ?_
    exact q b H (Same.refl H) hB
  · have hn := ww_not hw
    refine o_ixT (SqT.of hA) (v := .str w') (atI_nat (j := 0) rfl) ?_
    walk_at "ss"
    refine iteFr (by rw [strEq]; exact decide_eq_false hn.1) ?_
    walk_at "ss"
    refine o_in (l := WL) (.inr (T.s_LISTS H)) ⟨_, rfl, ?_⟩
    refine iteFr (decide_eq_false hn.2.1) ?_
    walk_at "ss"
    refine o_in (l := WW) (.inr (T.s_WALKS H)) ⟨_, rfl, ?_⟩
    refine iteTr (decide_eq_true hw) ?_
    walk_at "ss"
    refine o_ixT (SqT.of hA) (v := u) (atI_nat (j := 4) rfl) ?_
    walk_at "ss"
    refine ⟨(by show 1 ≤ sizeLine; decide), fun c hc => ?_⟩
    exact q c _ (Same.new _ hc) upd_same
theorem ok_inner (T : Txt w K mg t) : FnOk P w K mg base CX0 1 t.a_inner t.d_inner ["_law_form_here"] (sp_inner K) := by
  refine T.F_inner.okJ sc_inner (fun vs H Q E h => ?_) (fun cdv A outer s H vs Q E hr h => ⟨_, der_inner T hr, ?_⟩)
  · obtain ⟨v, us, rfl, _⟩ := h
    rfl
  obtain ⟨v, us, rfl, hp, q⟩ := h
  unfold rd_inner
  walk_at "ss"
  rcases hp with (⟨a, u, rfl, hA, rfl⟩ | ⟨a, b, w', rfl, hA, hw, hB⟩ | ⟨a, w', x, y, z, u, rfl, hA, hw, rfl⟩) | ⟨a, u, rfl, hA, rfl⟩
  · refine o_ixT (SqT.of hA) (v := .str "not") (atI_nat (j := 0) rfl) ?_
    walk_at "ss"
    refine o_ixT (SqT.of hA) (v := u) (atI_nat (j := 1) rfl) ?_
    walk_at "ss"
    refine ⟨(by show 1 ≤ sizeLine; decide), fun c hc => ?_⟩
    exact q c _ (Same.new _ hc) upd_same
  · have hn := wl_not hw
    refine o_ixT (SqT.of hA) (v := .str w') (atI_nat (j := 0) rfl) ?_
    walk_at "ss"
    refine iteFr (by rw [strEq]; exact decide_eq_false hn.1) ?_
    walk_at "ss"
    refine o_ixT (SqT.of hA) (v := .str w') (atI_nat (j := 0) rfl) ?_
    walk_at "ss"
    refine ⟨(by show 2 ≤ sizeLine; decide), fun c hc => ?_⟩
    have s1 := Same.new (.tup [.str "many", .str "each"]) hc
    refine o_in (l := WW) (.inr (SqT.of upd_same)) ⟨_, rfl, ?_⟩
    refine iteFr (decide_eq_false hn.2.1) ?_
    walk_at "ss"
    refine o_ixT (SqT.of (s1 _ _ hA)) (v := .str w') (atI_nat (j := 0) rfl) ?_
    walk_at "ss"
    refine ⟨(by show 4 ≤ sizeLine; decide), fun d hd => ?_⟩
    have s2 := Same.new (.tup [.str "all", .str "some", .str "one", .str "none"]) hd
    refine o_in (l := WL) (.inr (SqT.of upd_same)) ⟨_, rfl, ?_⟩
    refine iteTr (decide_eq_true hw) ?_
    walk_at "ss"
    refine o_ixT (SqT.of (s2 _ _ (s1 _ _ hA))) (v := .ref b) (atI_nat (j := 1) rfl) ?_
    walk_at "ss"
    refine ⟨b, us, rfl, .inr (SqT.of (s2 _ _ (s1 _ _ hB))), fun e he => ?_⟩
    exact q e _ ((s1.trans s2).trans (Same.new _ he)) upd_same
  · have hn := ww_not hw
    refine o_ixT (SqT.of hA) (v := .str w') (atI_nat (j := 0) rfl) ?_
    walk_at "ss"
    refine iteFr (by rw [strEq]; exact decide_eq_false hn.1) ?_
    walk_at "ss"
    refine o_ixT (SqT.of hA) (v := .str w') (atI_nat (j := 0) rfl) ?_
    walk_at "ss"
    refine ⟨(by show 2 ≤ sizeLine; decide), fun c hc => ?_⟩
    have s1 := Same.new (.tup [.str "many", .str "each"]) hc
    refine o_in (l := WW) (.inr (SqT.of upd_same)) ⟨_, rfl, ?_⟩
    refine iteTr (decide_eq_true hw) ?_
    walk_at "ss"
    refine o_ixT (SqT.of (s1 _ _ hA)) (v := u) (atI_nat (j := 4) rfl) ?_
    walk_at "ss"
    refine ⟨(by show 1 ≤ sizeLine; decide), fun e he => ?_⟩
    exact q e _ (s1.trans (Same.new _ he)) upd_same
  · refine o_ixT (SqT.of hA) (v := .str "closed") (atI_nat (j := 0) rfl) ?_
    walk_at "ss"
    refine o_ixT (SqT.of hA) (v := .str "closed") (atI_nat (j := 0) rfl) ?_
    walk_at "ss"
    refine ⟨(by show 2 ≤ sizeLine; decide), fun c hc => ?_⟩
    have s1 := Same.new (.tup [.str "many", .str "each"]) hc
    refine o_in (l := WW) (.inr (SqT.of upd_same)) ⟨_, rfl, ?_⟩
    refine iteFr (by decide +kernel) ?_
    walk_at "ss"
    refine o_ixT (SqT.of (s1 _ _ hA)) (v := .str "closed") (atI_nat (j := 0) rfl) ?_
    walk_at "ss"
    refine ⟨(by show 4 ≤ sizeLine; decide), fun d hd => ?_⟩
    have s2 := Same.new (.tup [.str "all", .str "some", .str "one", .str "none"]) hd
    refine o_in (l := WL) (.inr (SqT.of upd_same)) ⟨_, rfl, ?_⟩
    refine iteFr (by decide +kernel) ?_
    walk_at "ss"
    refine ⟨(by show 0 ≤ sizeLine; decide), fun e he => ?_⟩
    exact q e _ ((s1.trans s2).trans (Same.new _ he)) upd_same
end
theorem FnOk.no {P : Program} {w : World} {K : PySem.W.Frag} {mg : Str → Option Value} {base : Heap} {k : Nat} {f : Addr} {fd : FuncData} {ps : List Str} {sp : Sp} {x qual : Str} {st : Stmt} {N : List Str} (F : Fun K x qual st f fd) (S : FnScope N ps (defScope st)) (h : ∀ vs H Q E, ¬ sp vs H Q E) : FnOk P w K mg base CX0 (k + 1) f fd ps sp :=
  F.okJ S (fun vs H Q E z => (h vs H Q E z).elim) (fun cdv A outer s H vs Q E hr z => (h vs H Q E z).elim)
/-- a walk over the parts: each is shown -/
theorem len_at {w : Str} : (w ∈ W0 → f_LENGTHS w = some (.int 1)) ∧ (w ∈ W1 → f_LENGTHS w = some (.int 2)) ∧ (w ∈ WL → f_LENGTHS w = some (.int 2)) ∧ (w ∈ WW → f_LENGTHS w = some (.int 5)) := by
  refine ⟨fun h => ?_, fun h => ?_, fun h => ?_, fun h => ?_⟩
  · unfold W0 at h
    simp only [List.mem_cons, List.mem_nil_iff, or_false] at h
    rcases h with rfl | rfl | rfl | rfl <;> decide +kernel
  · unfold W1 at h
    simp only [List.mem_cons, List.mem_nil_iff, or_false] at h
    rcases h with rfl | rfl <;> decide +kernel
  · unfold WL at h
    simp only [List.mem_cons, List.mem_nil_iff, or_false] at h
    rcases h with rfl | rfl | rfl | rfl <;> decide +kernel
  · unfold WW at h
    simp only [List.mem_cons, List.mem_nil_iff, or_false] at h
    rcases h with rfl | rfl <;> decide +kernel
theorem allF_at {P : V → Str → Nat → Prop} : ∀ {us : List V} {Ss : List Str} {k i : Nat} {x : V}, AllF P us Ss k → us[i]? = some x → ∃ S j, Ss[i]? = some S ∧ P x S j ∧ j ≤ k
  | [], [], _, i, x, _, h => by simp at h
  | u :: us, S :: Ss, k, 0, x, h, e => by
    obtain ⟨j, m, h1, h2, rfl⟩ := h
    have e : u = x := by simpa using e
    subst e
    exact ⟨S, j, rfl, h1, by omega⟩
  | u :: us, S :: Ss, k, i + 1, x, h, e => by
    obtain ⟨j, m, h1, h2, rfl⟩ := h
    obtain ⟨S', j', e1, e2, e3⟩ := allF_at (i := i) h2 (by simpa using e)
    exact ⟨S', j', by simpa using e1, e2, by omega⟩
  | [], _ :: _, _, _, _, h, _ => False.elim h
  | _ :: _, [], _, _, _, h, _ => False.elim h
theorem sum_le {n : Nat} {H : Hp} {us : List V} {Ss : List Str} {k : Nat} (h : AllF (Fv n H) us Ss k) : (Ss.map (·.length)).sum ≤ 200 * k ∧ Ss.length = us.length := sumF (fv_len n) h
theorem big : (16000 : Nat) ≤ sizeLine := by decide
section
variable {P : Program} {w : World} {K : PySem.W.Frag} {mg : Str → Option Value} {base : Heap} {t : Adr}
theorem ins_parts {n : Nat} {H : Hp} {v : V} {w' J : Str} {k : Nat} (h : Ins (Fv n H) H v w' J k) (hc : w' ≠ "closed") : ∃ us Ss j, Parts H v us ∧ AllF (Fv n H) us Ss j ∧ us.length ≤ 6 ∧ j ≤ k ∧ ((w' ∉ WW ∧ J = Txt.join ", " Ss) ∨ ∃ a, ∃ lo : Int, ∃ hi : Option Int, ∃ st u, w' ∈ WW ∧ v = .ref a ∧ H a = some (.tup [.str w', .int lo, hiV hi, .str st, u]) ∧ 0 ≤ lo ∧ lo ≤ 60 ∧ (∀ h, hi = some h → 0 ≤ h ∧ h ≤ 60) ∧ st.length ≤ 10 ∧ J = Txt.join ", " ([iT lo, hiT hi, st] ++ Ss)) := by
  rcases h with ⟨e1, e2, _⟩ | ⟨e1, a, u, S, j, e, q, hp, rfl, rfl⟩ | ⟨hw, a, b, us, Ss, j, e, q1, q2, hp, hl, rfl, rfl⟩ | ⟨hw, a, lo, hi, st, u, S, j, e, q, l0, l1, hh, hst, hp, rfl, rfl⟩
  · exact absurd e1 hc
  · refine ⟨[u], [S], j, .inl ⟨a, u, e, q, rfl⟩, ⟨j, 0, hp, rfl, rfl⟩, by show 1 ≤ 6; decide, by omega, .inl ⟨?_, rfl⟩⟩
    rw [e1]
    decide +kernel
  · exact ⟨us, Ss, j, .inr (.inl ⟨a, b, w', e, q1, hw, q2⟩), hp, hl, by omega, .inl ⟨(wl_not hw).2.1, rfl⟩⟩
  · exact ⟨[u], [S], j, .inr (.inr ⟨a, w', _, _, _, u, e, q, hw, rfl⟩), ⟨j, 0, hp, rfl, rfl⟩, by show 1 ≤ 6; decide, by omega, .inr ⟨a, lo, hi, st, u, hw, e, q, l0, l1, hh, hst, rfl⟩⟩
theorem ins_head {n : Nat} {H : Hp} {v : V} {w' J : Str} {k : Nat} (h : Ins (Fv n H) H v w' J k) : ∃ a xs, v = .ref a ∧ H a = some (.tup (.str w' :: xs)) := by
  rcases h with ⟨e1, e2, a, b, l, e, q, _⟩ | ⟨e1, a, u, S, j, e, q, _⟩ | ⟨hw, a, b, us, Ss, j, e, q, _⟩ | ⟨hw, a, lo, hi, st, u, S, j, e, q, _⟩
  · rw [e1]; exact ⟨a, _, e, q⟩
  · rw [e1]; exact ⟨a, _, e, q⟩
  · exact ⟨a, _, e, q⟩
  · exact ⟨a, _, e, q⟩
theorem ok_show_inside (T : Txt w K mg t) (n : Nat) (G1 : FnOk P w K mg base CX0 1 t.a_show_high t.d_show_high ["high"] (sp_show_high K)) (G2 : FnOk P w K mg base CX0 (2 + 2 * n) t.a_show_form t.d_show_form ["form"] (sp_show_form K n)) (G3 : FnOk P w K mg base CX0 1 t.a_straight_parts t.d_straight_parts ["form"] (sp_straight_parts K)) :
    FnOk P w K mg base CX0 (2 + 2 * n + 1) t.a_show_inside t.d_show_inside ["form"] (sp_show_inside K n) := by
  refine T.F_show_inside.okJ sc_show_inside (fun vs H Q E h => ?_) (fun cdv A outer s H vs Q E hr h => ⟨_, der_show_inside T (by assumption) (by assumption) (by assumption) hr, ?_⟩)
  · obtain ⟨v, w', J, k, rfl, _⟩ := h
    rfl
  obtain ⟨v, w', J, k, rfl, hi, hk, q⟩ := h
  obtain ⟨a0, xs0, rfl, hA0⟩ := ins_head hi
  unfold rd_show_inside
  walk_at "ss"
  refine o_ixT (SqT.of hA0) (v := .str w') (atI_nat (j := 0) rfl) ?_
  walk_at "ss"
  rw [strEq]
  by_cases hc : w' = "closed"
  · refine iteTr (decide_eq_true hc) ?_
    rcases hi with ⟨e1, e2, a, b, l, e, q1, q2, hs, hl, rfl⟩ | ⟨e1, _⟩ | ⟨hw, _⟩ | ⟨hw, _⟩
    · have ea : a0 = a := by injection e
      subst ea
      walk_at "ss"
      refine ⟨rfl, ?_⟩
      walk_at "ss"
      refine o_ixT (SqT.of q1) (v := .ref b) (atI_nat (j := 1) rfl) ?_
      walk_at "ss"
      have h2 := sum_sh hs
      refine ⟨", ", b, l, rfl, rfl, .inr (SqT.of q2), by rw [sep_len]; omega, ?_⟩
      exact q H (Same.refl H)
    · rw [e1] at hc; exact absurd hc (by decide +kernel)
    · exact absurd hc (wl_not hw).2.2
    · exact absurd hc (ww_not hw).2.2
  · refine iteFr (decide_eq_false hc) ?_
    obtain ⟨us, Ss, j, hp, hall, hul, hjk, hJc⟩ := ins_parts hi hc
    obtain ⟨hsum, hsl⟩ := sum_le hall
    walk_at "s"
    with_reducible refine i_seqG fun N eN => ?_
    have rest : ∀ (la : Addr) (as : List Str) (H1 : Hp), Same H H1 → H1 la = some (.lst (as.map V.str)) → as.length ≤ 3 → (as.map (·.length)).sum ≤ 16 → J = Txt.join ", " (as ++ Ss) → N [some (.ref a0), some (.ref la)] H1 := by
      intro la as H1 s1 hla hal has hJ'
      rw [eN]
      have hp1 : Parts H1 (.ref a0) us := by
        rcases hp with ⟨a, u, e, q1, r⟩ | ⟨a, b, w'', e, q1, hw, q2⟩ | ⟨a, w'', x, y, z, u, e, q1, r⟩
        · exact .inl ⟨a, u, e, s1 _ _ q1, r⟩
        · exact .inr (.inl ⟨a, b, w'', e, s1 _ _ q1, hw, s1 _ _ q2⟩)
        · exact .inr (.inr ⟨a, w'', x, y, z, u, e, s1 _ _ q1, r⟩)
      walk_at "ss"
      refine ⟨rfl, ?_⟩
      walk_at "ss"
      refine i_compGT ?_
      walk_at "ss"
      refine ⟨.ref a0, us, rfl, hp1, fun b H2 s2 hb => ?_⟩
      refine CompU.of (xs := us) (fun i acc H' => Same H2 H' ∧ acc = (Ss.map V.str).take i) (SqT.of hb) (Nat.le_trans hul (by decide)) ⟨Same.refl _, by simp⟩ ?_ ?_ ?_
      · rintro i acc H' hi' ⟨s3, rfl⟩
        exact ⟨SqT.of (s3 _ _ hb), by rw [List.length_take]; exact Nat.min_le_left _ _⟩
      · rintro i x acc H' C hx ⟨s3, rfl⟩ hC
        obtain ⟨S, j', hS, hF, hj'⟩ := allF_at hall hx
        walk_at "ss"
        refine ⟨x, S, j', rfl, Fv.keep (Same.tk ((s1.trans s2).trans s3)) n x S j' hF, by omega, fun H4 s4 => ?_⟩
        refine hC _ _ ⟨s3.trans s4, ?_⟩
        rw [List.take_add_one, List.getElem?_map, hS]
        rfl
      · rintro acc H3 ⟨s3, rfl⟩ lb hlb
        have e : us.length = (Ss.map V.str).length := by rw [List.length_map, hsl]
        rw [e, List.take_length]
        have s23 := s2.trans s3
        refine o_R (o_R (o_L (o_cat (Same.new _ hlb _ _ (s23 _ _ hla)) upd_same (by rw [List.length_map, List.length_map]; exact Nat.le_trans (by omega : _ ≤ 100) (by decide)) fun lc hlc => ?_)))
        walk_at "ss"
        refine ⟨", ", lc, as ++ Ss, rfl, rfl, .inl (SqL.of (by rw [upd_same, List.map_append])), ?_, ?_⟩
        · rw [List.map_append, List.sum_append, List.length_append, sep_len]
          omega
        · rw [← hJ']
          exact q _ (((s1.trans s23).trans (Same.new _ hlb)).trans (Same.new _ hlc))
    walk_at "ss"
    refine o_ixT (SqT.of hA0) (v := .str w') (atI_nat (j := 0) rfl) ?_
    walk_at "ss"
    refine o_in (l := WW) (.inr (T.s_WALKS H)) ⟨_, rfl, ?_⟩
    rcases hJc with ⟨hw, hJ'⟩ | ⟨a, lo, hi', st, u, hw, e, hA, l0, l1, hh, hst, hJ'⟩
    · refine iteFr (decide_eq_false hw) ?_
      walk_at "ss"
      refine ⟨(by show 0 ≤ sizeLine; decide), fun la hla => ?_⟩
      walk_at "ss"
      exact rest la [] _ (Same.new _ hla) upd_same (by decide) (by decide) hJ'
    · refine iteTr (decide_eq_true hw) ?_
      have ea : a0 = a := by injection e
      subst ea
      walk_at "ss"
      refine o_ixT (SqT.of hA) (v := .int lo) (atI_nat (j := 1) rfl) ?_
      walk_at "ss"
      refine .inl ⟨lo, rfl, iT_log (by omega), ?_⟩
      walk_at "ss"
      refine o_ixT (SqT.of hA) (v := hiV hi') (atI_nat (j := 2) rfl) ?_
      walk_at "ss"
      refine ⟨hi', rfl, hh, ?_⟩
      walk_at "ss"
      refine o_ixT (SqT.of hA) (v := .str st) (atI_nat (j := 3) rfl) ?_
      walk_at "ss"
      refine ⟨(by show 3 ≤ sizeLine; decide), fun la hla => ?_⟩
      walk_at "ss"
      refine rest la [iT lo, hiT hi', st] _ (Same.new _ hla) upd_same (by show 3 ≤ 3; decide) ?_ hJ'
      have b1 := iT_len2 l0 l1
      have b2 := hiT_len hh
      simp only [List.map_cons, List.map_nil, List.sum_cons, List.sum_nil]
      omega
theorem ins_word {n : Nat} {H : Hp} {v : V} {w' J : Str} {k : Nat} (h : Ins (Fv n H) H v w' J k) : (∃ m : Int, f_LENGTHS w' = some (.int m) ∧ decide (V.int m = V.int 1) = false) ∧ w' ≠ "keeps" ∧ w' ∉ (["from", "upto", "is"] : List Str) ∧ w' ≠ "is" ∧ w' ∉ (["from", "upto", "keeps"] : List Str) ∧ w' ∉ W0 := by
  have hw : w' = "closed" ∨ w' = "not" ∨ w' ∈ WL ∨ w' ∈ WW := by
    rcases h with ⟨e, _⟩ | ⟨e, _⟩ | ⟨e, _⟩ | ⟨e, _⟩
    · exact .inl e
    · exact .inr (.inl e)
    · exact .inr (.inr (.inl e))
    · exact .inr (.inr (.inr e))
  unfold WL WW at hw
  simp only [List.mem_cons, List.mem_nil_iff, or_false] at hw
  rcases hw with rfl | rfl | (rfl | rfl | rfl | rfl) | (rfl | rfl)
  all_goals first
    | exact ⟨⟨2, by decide +kernel, by decide⟩, by decide +kernel, by decide +kernel, by decide +kernel, by decide +kernel, by decide +kernel⟩
    | exact ⟨⟨5, by decide +kernel, by decide⟩, by decide +kernel, by decide +kernel, by decide +kernel, by decide +kernel, by decide +kernel⟩
theorem sp1 : (" " : Str).length = 1 := by decide
theorem br1 : ("(" : Str).length = 1 := by decide
theorem br2 : (")" : Str).length = 1 := by decide
theorem ok_show_form_succ (T : Txt w K mg t) (n : Nat) (G1 : FnOk P w K mg base CX0 1 t.a_length_of t.d_length_of ["word"] (sp_length_of K)) (G2 : FnOk P w K mg base CX0 2 t.a_show_node t.d_show_node ["node"] (sp_show_node K)) (G3 : FnOk P w K mg base CX0 (3 + 2 * n) t.a_show_inside t.d_show_inside ["form"] (sp_show_inside K n)) :
    FnOk P w K mg base CX0 (3 + 2 * n + 1) t.a_show_form t.d_show_form ["form"] (sp_show_form K (n + 1)) := by
  refine T.F_show_form.okJ sc_show_form (fun vs H Q E h => ?_) (fun cdv A outer s H vs Q E hr h => ⟨_, der_show_form T (by assumption) (by assumption) (by assumption) hr, ?_⟩)
  · obtain ⟨v, T', k, rfl, _⟩ := h
    rfl
  obtain ⟨v, T', k, rfl, hF, hk, q⟩ := h
  unfold rd_show_form
  rcases hF with ⟨hk1, tip⟩ | ⟨w', J, hi, rfl⟩
  · rcases tip with ⟨a, w', rfl, hA, hw, rfl⟩ | ⟨a, w', i, rfl, hA, hw, hin, rfl⟩ | ⟨a, u, S, rfl, hA, hn, rfl⟩ | ⟨a, x, rfl, hA, hx, rfl⟩
    · walk_at "ss"
      refine o_ixT (SqT.of hA) (v := .str T') (atI_nat (j := 0) rfl) ?_
      walk_at "ss"
      refine ⟨T', 1, rfl, len_at.1 hw, ?_⟩
      walk_at "ss"
      exact q H (Same.refl H)
    · have hw6 := w_len (.inr (.inl hw))
      have b2 := iT_len60 hin
      walk_at "ss"
      refine o_ixT (SqT.of hA) (v := .str w') (atI_nat (j := 0) rfl) ?_
      walk_at "ss"
      refine ⟨w', 2, rfl, len_at.2.1 hw, ?_⟩
      walk_at "ss"
      have hnk : decide (V.str w' = V.str "keeps") = false := by
        unfold W1 at hw
        simp only [List.mem_cons, List.mem_nil_iff, or_false] at hw
        rcases hw with rfl | rfl <;> decide +kernel
      have hin3 : decide (w' ∈ (["from", "upto", "is"] : List Str)) = true := by
        unfold W1 at hw
        simp only [List.mem_cons, List.mem_nil_iff, or_false] at hw
        rcases hw with rfl | rfl <;> decide +kernel
      refine iteFr hnk ?_
      walk_at "ss"
      refine ⟨(by show 3 ≤ sizeLine; decide), fun c hc => ?_⟩
      have s1 := Same.new (.tup [.str "from", .str "upto", .str "is"]) hc
      refine o_in (l := ["from", "upto", "is"]) (.inr (SqT.of upd_same)) ⟨_, rfl, ?_⟩
      refine iteTr hin3 ?_
      walk_at "ss"
      refine o_R (o_L (o_addS (by rw [sp1]; exact Nat.le_trans (by omega : _ ≤ 16000) big) ?_))
      walk_at "ss"
      refine o_ixT (SqT.of (s1 _ _ hA)) (v := .int i) (atI_nat (j := 1) rfl) ?_
      walk_at "ss"
      refine ⟨.int i, iT i, rfl, .inr (.inl ⟨i, rfl, hin, rfl⟩), ?_⟩
      refine o_R (o_L (o_addS (by rw [app_len, sp1]; exact Nat.le_trans (by omega : _ ≤ 16000) big) ?_))
      exact q _ s1
    · have b2 := node_len hn
      have is2 : ("is" : Str).length = 2 := by decide
      walk_at "ss"
      refine o_ixT (SqT.of hA) (v := .str "is") (atI_nat (j := 0) rfl) ?_
      walk_at "ss"
      refine ⟨"is", 2, rfl, by decide +kernel, ?_⟩
      walk_at "ss"
      refine ⟨(by show 3 ≤ sizeLine; decide), fun c hc => ?_⟩
      have s1 := Same.new (.tup [.str "from", .str "upto", .str "is"]) hc
      refine o_in (l := ["from", "upto", "is"]) (.inr (SqT.of upd_same)) ⟨_, rfl, ?_⟩
      refine iteTr (by decide +kernel) ?_
      walk_at "ss"
      refine o_R (o_L (o_addS (by rw [sp1, is2]; exact Nat.le_trans (by omega : _ ≤ 16000) big) ?_))
      walk_at "ss"
      refine o_ixT (SqT.of (s1 _ _ hA)) (v := u) (atI_nat (j := 1) rfl) ?_
      walk_at "ss"
      refine ⟨u, S, rfl, hn.keep (Same.tk s1), ?_⟩
      refine o_R (o_L (o_addS (by rw [app_len, sp1, is2]; exact Nat.le_trans (by omega : _ ≤ 16000) big) ?_))
      exact q _ s1
    · have k5 : ("keeps" : Str).length = 5 := by decide
      unfold Sh at hx
      walk_at "ss"
      refine o_ixT (SqT.of hA) (v := .str "keeps") (atI_nat (j := 0) rfl) ?_
      walk_at "ss"
      refine ⟨"keeps", 2, rfl, by decide +kernel, ?_⟩
      walk_at "ss"
      refine o_R (o_L (o_addS (by rw [sp1, k5]; exact Nat.le_trans (by omega : _ ≤ 16000) big) ?_))
      walk_at "ss"
      refine o_ixT (SqT.of hA) (v := .str x) (atI_nat (j := 1) rfl) ?_
      refine o_R (o_L (o_addS (by rw [app_len, sp1, k5]; exact Nat.le_trans (by omega : _ ≤ 16000) big) ?_))
      exact q _ (Same.refl H)
  · obtain ⟨⟨m, hm, hm1⟩, hk0, hk1, _⟩ := ins_word hi
    obtain ⟨hJl, hwl⟩ := ins_len (fv_len n) hi
    obtain ⟨a0, xs0, rfl, hA0⟩ := ins_head hi
    walk_at "ss"
    refine o_ixT (SqT.of hA0) (v := .str w') (atI_nat (j := 0) rfl) ?_
    walk_at "ss"
    refine ⟨w', m, rfl, hm, ?_⟩
    walk_at "ss"
    refine iteFr hm1 ?_
    walk_at "ss"
    refine iteFr (by rw [strEq]; exact decide_eq_false hk0) ?_
    walk_at "ss"
    refine ⟨(by show 3 ≤ sizeLine; decide), fun c hc => ?_⟩
    have s1 := Same.new (.tup [.str "from", .str "upto", .str "is"]) hc
    refine o_in (l := ["from", "upto", "is"]) (.inr (SqT.of upd_same)) ⟨_, rfl, ?_⟩
    refine iteFr (decide_eq_false hk1) ?_
    walk_at "ss"
    refine ⟨.ref a0, w', J, k, rfl, hi.keep (Same.tk s1) (Fv.keep (Same.tk s1) n), hk, fun H2 s2 => ?_⟩
    walk_at "ss"
    refine ⟨Nat.le_trans (by omega : w'.length ≤ 16000) big, ?_⟩
    walk_at "ss"
    rw [empty_app]
    refine ⟨Nat.le_trans (by omega : w'.length ≤ 16000) big, ?_⟩
    walk_at "ss"
    refine ⟨by rw [app_len, br1]; exact Nat.le_trans (by omega : _ ≤ 16000) big, ?_⟩
    walk_at "ss"
    refine ⟨Nat.le_trans (by omega : J.length ≤ 16000) big, ?_⟩
    walk_at "ss"
    refine ⟨by rw [app_len, app_len, br1]; exact Nat.le_trans (by omega : _ ≤ 16000) big, ?_⟩
    walk_at "ss"
    refine ⟨by rw [app_len, app_len, app_len, br1, br2]; exact Nat.le_trans (by omega : _ ≤ 16000) big, ?_⟩
    refine i_f0 (by rw [app_len, app_len, app_len, br1, br2]; exact Nat.le_trans (by omega : _ ≤ 16000) big) ?_
    exact q _ (s1.trans s2)
theorem ok_show_form (T : Txt w K mg t) (G1 : FnOk P w K mg base CX0 1 t.a_length_of t.d_length_of ["word"] (sp_length_of K)) (G2 : FnOk P w K mg base CX0 2 t.a_show_node t.d_show_node ["node"] (sp_show_node K)) (G3 : FnOk P w K mg base CX0 1 t.a_show_high t.d_show_high ["high"] (sp_show_high K)) (G4 : FnOk P w K mg base CX0 1 t.a_straight_parts t.d_straight_parts ["form"] (sp_straight_parts K)) :
    ∀ n, FnOk P w K mg base CX0 (2 + 2 * n) t.a_show_form t.d_show_form ["form"] (sp_show_form K n)
  | 0 => FnOk.no (k := 1) T.F_show_form sc_show_form fun vs H Q E h => by
    obtain ⟨v, T', k, _, hF, _⟩ := h
    exact hF
  | n + 1 => by
    have ih := ok_show_form T G1 G2 G3 G4 n
    have hin := ok_show_inside T n G3 ih G4
    have e1 : 2 + 2 * n + 1 = 3 + 2 * n := by omega
    rw [e1] at hin
    have e2 : 2 + 2 * (n + 1) = 3 + 2 * n + 1 := by omega
    rw [e2]
    exact ok_show_form_succ T n G1 G2 hin
end
/-! ### the law's own text -/
theorem is_sp : (Str.ofString "is ") = ("is" : Str) ++ (" " : Str) := by decide +kernel
section
variable {P : Program} {w : World} {K : PySem.W.Frag} {mg : Str → Option Value} {base : Heap} {t : Adr}
theorem ok_text_succ (T : Txt w K mg t) (n : Nat) (G1 : FnOk P w K mg base CX0 1 t.a_node_text t.d_node_text ["_law_node_here"] (sp_node_text K)) (G2 : FnOk P w K mg base CX0 1 t.a_inner t.d_inner ["_law_form_here"] (sp_inner K)) (G3 : FnOk P w K mg base CX0 (1 + n) t.a_text t.d_text ["_law_form_here"] (sp_text K n)) :
    FnOk P w K mg base CX0 (1 + n + 1) t.a_text t.d_text ["_law_form_here"] (sp_text K (n + 1)) := by
  refine T.F_text.okJ sc_text (fun vs H Q E h => ?_) (fun cdv A outer s H vs Q E hr h => ⟨_, der_text T (by assumption) (by assumption) (by assumption) hr, ?_⟩)
  · obtain ⟨v, T', k, rfl, _⟩ := h
    rfl
  obtain ⟨v, T', k, rfl, hF, hk, q⟩ := h
  unfold rd_text
  rcases hF with ⟨hk1, tip⟩ | ⟨w', J, hi, rfl⟩
  · rcases tip with ⟨a, w', rfl, hA, hw, rfl⟩ | ⟨a, w', i, rfl, hA, hw, hin, rfl⟩ | ⟨a, u, S, rfl, hA, hn, rfl⟩ | ⟨a, x, rfl, hA, hx, rfl⟩
    · have h1 : decide (V.str T' = V.str "is") = false ∧ decide (T' ∈ (["from", "upto", "keeps"] : List Str)) = false ∧ decide (T' ∈ (["any", "thing", "number", "said"] : List Str)) = true := by
        unfold W0 at hw
        simp only [List.mem_cons, List.mem_nil_iff, or_false] at hw
        rcases hw with rfl | rfl | rfl | rfl <;> exact ⟨by decide +kernel, by decide +kernel, by decide +kernel⟩
      walk_at "ss"
      refine o_ixT (SqT.of hA) (v := .str T') (atI_nat (j := 0) rfl) ?_
      walk_at "ss"
      refine iteFr h1.1 ?_
      walk_at "ss"
      refine ⟨(by show 3 ≤ sizeLine; decide), fun c hc => ?_⟩
      have s1 := Same.new (.tup [.str "from", .str "upto", .str "keeps"]) hc
      refine o_in (l := ["from", "upto", "keeps"]) (.inr (SqT.of upd_same)) ⟨_, rfl, ?_⟩
      refine iteFr h1.2.1 ?_
      walk_at "ss"
      refine ⟨(by show 4 ≤ sizeLine; decide), fun d hd => ?_⟩
      have s2 := Same.new (.tup [.str "any", .str "thing", .str "number", .str "said"]) hd
      refine o_in (l := ["any", "thing", "number", "said"]) (.inr (SqT.of upd_same)) ⟨_, rfl, ?_⟩
      refine iteTr h1.2.2 ?_
      walk_at "ss"
      exact q _ (s1.trans s2)
    · have hw6 := w_len (.inr (.inl hw))
      have b2 := iT_len60 hin
      have h1 : decide (V.str w' = V.str "is") = false ∧ decide (w' ∈ (["from", "upto", "keeps"] : List Str)) = true := by
        unfold W1 at hw
        simp only [List.mem_cons, List.mem_nil_iff, or_false] at hw
        rcases hw with rfl | rfl <;> exact ⟨by decide +kernel, by decide +kernel⟩
      walk_at "ss"
      refine o_ixT (SqT.of hA) (v := .str w') (atI_nat (j := 0) rfl) ?_
      walk_at "ss"
      refine iteFr h1.1 ?_
      walk_at "ss"
      refine ⟨(by show 3 ≤ sizeLine; decide), fun c hc => ?_⟩
      have s1 := Same.new (.tup [.str "from", .str "upto", .str "keeps"]) hc
      refine o_in (l := ["from", "upto", "keeps"]) (.inr (SqT.of upd_same)) ⟨_, rfl, ?_⟩
      refine iteTr h1.2 ?_
      walk_at "ss"
      refine o_R (o_L (o_addS (by rw [sp1]; exact Nat.le_trans (by omega : _ ≤ 16000) big) ?_))
      walk_at "ss"
      refine o_ixT (SqT.of (s1 _ _ hA)) (v := .int i) (atI_nat (j := 1) rfl) ?_
      walk_at "ss"
      refine .inl ⟨i, rfl, iT_log hin, ?_⟩
      refine o_R (o_L (o_addS (by rw [app_len, sp1]; exact Nat.le_trans (show w'.length + 1 + (iT i).length ≤ 16000 by omega) big) ?_))
      exact q _ s1
    · have b2 := node_len hn
      have is2 : ("is " : Str).length = 3 := by decide
      walk_at "ss"
      refine o_ixT (SqT.of hA) (v := .str "is") (atI_nat (j := 0) rfl) ?_
      walk_at "ss"
      refine o_ixT (SqT.of hA) (v := u) (atI_nat (j := 1) rfl) ?_
      walk_at "ss"
      refine ⟨u, S, rfl, hn, ?_⟩
      refine o_R (o_L (o_addS (by rw [is2]; exact Nat.le_trans (by omega : _ ≤ 16000) big) ?_))
      rw [is_sp]
      exact q _ (Same.refl H)
    · have k5 : ("keeps" : Str).length = 5 := by decide
      unfold Sh at hx
      walk_at "ss"
      refine o_ixT (SqT.of hA) (v := .str "keeps") (atI_nat (j := 0) rfl) ?_
      walk_at "ss"
      refine ⟨(by show 3 ≤ sizeLine; decide), fun c hc => ?_⟩
      have s1 := Same.new (.tup [.str "from", .str "upto", .str "keeps"]) hc
      refine o_in (l := ["from", "upto", "keeps"]) (.inr (SqT.of upd_same)) ⟨_, rfl, ?_⟩
      refine iteTr (by decide +kernel) ?_
      walk_at "ss"
      refine o_R (o_L (o_addS (by rw [sp1, k5]; exact Nat.le_trans (by omega : _ ≤ 16000) big) ?_))
      walk_at "ss"
      refine o_ixT (SqT.of (s1 _ _ hA)) (v := .str x) (atI_nat (j := 1) rfl) ?_
      walk_at "ss"
      refine .inr (.inr ⟨x, rfl, ?_⟩)
      refine o_R (o_L (o_addS (by rw [app_len, sp1, k5]; exact Nat.le_trans (by omega : _ ≤ 16000) big) ?_))
      exact q _ s1
  · obtain ⟨_, _, _, hi1, hi2, hi3⟩ := ins_word hi
    obtain ⟨hJl, hwl⟩ := ins_len (fv_len n) hi
    obtain ⟨a0, xs0, rfl, hA0⟩ := ins_head hi
    walk_at "ss"
    refine o_ixT (SqT.of hA0) (v := .str w') (atI_nat (j := 0) rfl) ?_
    walk_at "ss"
    refine iteFr (by rw [strEq]; exact decide_eq_false hi1) ?_
    walk_at "ss"
    refine ⟨(by show 3 ≤ sizeLine; decide), fun c hc => ?_⟩
    have s1 := Same.new (.tup [.str "from", .str "upto", .str "keeps"]) hc
    refine o_in (l := ["from", "upto", "keeps"]) (.inr (SqT.of upd_same)) ⟨_, rfl, ?_⟩
    refine iteFr (decide_eq_false hi2) ?_
    walk_at "ss"
    refine ⟨(by show 4 ≤ sizeLine; decide), fun d hd => ?_⟩
    have s2 := s1.trans (Same.new (.tup [.str "any", .str "thing", .str "number", .str "said"]) hd)
    refine o_in (l := ["any", "thing", "number", "said"]) (.inr (SqT.of upd_same)) ⟨_, rfl, ?_⟩
    refine iteFr (decide_eq_false hi3) ?_
    have hin := hi.keep (Same.tk s2) (Fv.keep (Same.tk s2) n)
    have hAn := s2 _ _ hA0
    generalize upd (upd H c (.tup [.str "from", .str "upto", .str "keeps"])) d (.tup [.str "any", .str "thing", .str "number", .str "said"]) = H1 at s2 hin hAn ⊢
    clear hi s1
    -- the last row, once the texts are there
    have last : ∀ (la : Addr) (as : List Str) (H3 : Hp), Same H H3 → H3 la = some (.lst (as.map V.str)) → (as.map (·.length)).sum + 2 * as.length ≤ 16000 → J = Txt.join ", " as →
        (tRet (tOp (rOr (rI0 fun i j => .int (i + j)) (rOr rAddS (rOr rCat (rCatT K)))) (tOp (rOr (rI0 fun i j => .int (i + j)) (rOr rAddS (rOr rCat (rCatT K)))) (tOp (rOr (rI0 fun i j => .int (i + j)) (rOr rAddS (rOr rCat (rCatT K)))) (tVar 1) (tC (.str "("))) (tBM K "str" (rJoin2 K) (tC (.str ", ")) (tCons (tVar 2) tNil))) (tC (.str ")")))) { nx := fun _ H' => Q .non H', rt := Q } [some (.ref a0), some (.str w'), some (.ref la)] H3 := by
      intro la as H3 s3 hla hsz hJ'
      walk_at "ss"
      refine o_R (o_L (o_addS (by rw [br1]; exact Nat.le_trans (by omega : _ ≤ 16000) big) ?_))
      walk_at "ss"
      refine ⟨rfl, ?_⟩
      walk_at "ss"
      refine ⟨", ", la, as, rfl, rfl, .inl (SqL.of hla), by rw [sep_len]; omega, ?_⟩
      rw [← hJ']
      refine o_R (o_L (o_addS (by rw [app_len, br1]; exact Nat.le_trans (by omega : _ ≤ 16000) big) ?_))
      walk_at "ss"
      refine o_R (o_L (o_addS (by rw [app_len, app_len, br1, br2]; exact Nat.le_trans (by omega : _ ≤ 16000) big) ?_))
      exact q _ s3
    by_cases hc' : w' = "closed"
    · rcases hin with ⟨e1, e2, a, b, l, e, q1, q2, hs, hl, rfl⟩ | ⟨e1, _⟩ | ⟨hw, _⟩ | ⟨hw, _⟩
      · have ea : a0 = a := by injection e
        subst ea
        have h2 := sum_sh hs
        walk_at "ss"
        refine i_compG ?_
        walk_at "ss"
        refine ⟨.ref a0, [], rfl, .inr ⟨a0, .ref b, rfl, q1, rfl⟩, fun li H2 s3 hli => ?_⟩
        refine CompL.of (xs := []) (fun i acc H' => Same H2 H' ∧ acc = []) (SqL.of hli) (by show 0 ≤ sizeLine; decide) ⟨Same.refl _, rfl⟩ ?_ ?_ ?_
        · rintro i acc H' hi' ⟨s4, rfl⟩
          exact ⟨SqL.of (s4 _ _ hli), Nat.zero_le _⟩
        · rintro i x acc H' C hx _ _
          simp at hx
        · rintro acc H3 ⟨s4, rfl⟩ lb hlb
          have s5 := (s3.trans s4).trans (Same.new (.lst []) hlb)
          walk_at "ss"
          refine iteTr (by rw [strEq]; exact decide_eq_true hc') ?_
          walk_at "ss"
          refine o_ixT (SqT.of (s5 _ _ q1)) (v := .ref b) (atI_nat (j := 1) rfl) ?_
          walk_at "ss"
          refine ⟨b, _, rfl, .inr (SqT.of (s5 _ _ q2)), fun lc hlc => ?_⟩
          walk_at "ss"
          refine ⟨(by show 2 ≤ sizeLine; decide), fun e he => ?_⟩
          refine o_in (l := WW) (.inr (SqT.of upd_same)) ⟨_, rfl, ?_⟩
          refine iteFr (by rw [hc']; decide +kernel) ?_
          walk_at "s"
          exact last lc l _ (((s2.trans s5).trans (Same.new _ hlc)).trans (Same.new _ he)) (Same.new _ he _ _ upd_same) (by omega) rfl
      · rw [e1] at hc'; exact absurd hc' (by decide +kernel)
      · exact absurd hc' (wl_not hw).2.2
      · exact absurd hc' (ww_not hw).2.2
    · obtain ⟨us, Ss, j, hp, hall, hul, hjk, hJc⟩ := ins_parts hin hc'
      obtain ⟨hsum, hsl⟩ := sum_le hall
      walk_at "ss"
      refine i_compG ?_
      walk_at "ss"
      refine ⟨.ref a0, us, rfl, .inl hp, fun li H2 s3 hli => ?_⟩
      refine CompL.of (xs := us) (fun i acc H' => Same H2 H' ∧ acc = (Ss.map V.str).take i) (SqL.of hli) (Nat.le_trans hul (by decide)) ⟨Same.refl _, by simp⟩ ?_ ?_ ?_
      · rintro i acc H' hi' ⟨s4, rfl⟩
        exact ⟨SqL.of (s4 _ _ hli), by rw [List.length_take]; exact Nat.min_le_left _ _⟩
      · rintro i x acc H' C hx ⟨s4, rfl⟩ hC
        obtain ⟨S, j', hS, hF, hj'⟩ := allF_at hall hx
        walk_at "ss"
        refine ⟨x, S, j', rfl, Fv.keep (Same.tk (s3.trans s4)) n x S j' hF, by omega, fun H4 s5 => ?_⟩
        refine hC _ _ ⟨s4.trans s5, ?_⟩
        rw [List.take_add_one, List.getElem?_map, hS]
        rfl
      · rintro acc H3 ⟨s4, rfl⟩ lb hlb
        have e : us.length = (Ss.map V.str).length := by rw [List.length_map, hsl]
        rw [e, List.take_length]
        have s5 := (s3.trans s4).trans (Same.new (.lst (Ss.map V.str)) hlb)
        have hlb5 : upd H3 lb (.lst (Ss.map V.str)) lb = some (.lst (Ss.map V.str)) := upd_same
        generalize upd H3 lb (.lst (Ss.map V.str)) = H5 at s5 hlb5 ⊢
        walk_at "ss"
        refine iteFr (by rw [strEq]; exact decide_eq_false hc') ?_
        walk_at "ss"
        refine ⟨(by show 2 ≤ sizeLine; decide), fun e he => ?_⟩
        refine o_in (l := WW) (.inr (SqT.of upd_same)) ⟨_, rfl, ?_⟩
        have s6 := s5.trans (Same.new (.tup [.str "many", .str "each"]) he)
        have hlb6 := Same.new (.tup [.str "many", .str "each"]) he _ _ hlb5
        generalize upd H5 e (.tup [.str "many", .str "each"]) = H6 at s6 hlb6 ⊢
        rcases hJc with ⟨hw, hJ'⟩ | ⟨a, lo, hi', st, u, hw, ev, hA, l0, l1, hh, hst, hJ'⟩
        · refine iteFr (decide_eq_false hw) ?_
          walk_at "s"
          exact last lb Ss _ (s2.trans s6) hlb6 (by omega) hJ'
        · have ea : a0 = a := by injection ev
          subst ea
          have hA6 := s6 _ _ hA
          have b1 := iT_len2 l0 l1
          have b3 := hiT_len hh
          refine iteTr (decide_eq_true hw) ?_
          walk_at "ss"
          refine o_ixT (SqT.of hA6) (v := .int lo) (atI_nat (j := 1) rfl) ?_
          walk_at "ss"
          refine .inl ⟨lo, rfl, iT_log (by omega), ?_⟩
          walk_at "ss"
          refine o_ixT (SqT.of hA6) (v := hiV hi') (atI_nat (j := 2) rfl) ?_
          walk_at "ss"
          have third : ∀ (H7 : Hp), Same H6 H7 →
              (tCons (tOp (rIx K) (tVar 0) (tC (.int 3))) tNil) [some (.ref a0), some (.str w'), some (.ref lb)] H7 fun xs H8 => H8 = H7 ∧ xs = [.str st] := fun H7 s7 => by
            walk_at "ss"
            refine o_ixT (SqT.of (s7 _ _ hA6)) (v := .str st) (atI_nat (j := 3) rfl) ?_
            walk_at "ss"
            exact ⟨rfl, rfl⟩
          have fin : ∀ (H7 : Hp), Same H6 H7 → ∀ m, H7 m = none → ∀ c2, (upd H7 m (.lst [.str (iT lo), .str (hiT hi'), .str st])) c2 = none →
              (tRet (tOp (rOr (rI0 fun i j => .int (i + j)) (rOr rAddS (rOr rCat (rCatT K)))) (tOp (rOr (rI0 fun i j => .int (i + j)) (rOr rAddS (rOr rCat (rCatT K)))) (tOp (rOr (rI0 fun i j => .int (i + j)) (rOr rAddS (rOr rCat (rCatT K)))) (tVar 1) (tC (.str "("))) (tBM K "str" (rJoin2 K) (tC (.str ", ")) (tCons (tVar 2) tNil))) (tC (.str ")")))) { nx := fun _ H' => Q .non H', rt := Q } [some (.ref a0), some (.str w'), some (.ref c2)] (upd (upd H7 m (.lst [.str (iT lo), .str (hiT hi'), .str st])) c2 (.lst ([.str (iT lo), .str (hiT hi'), .str st] ++ Ss.map V.str))) := fun H7 s7 m hm c2 hc2 => by
            refine last c2 ([iT lo, hiT hi', st] ++ Ss) _ ((((s2.trans s6).trans s7).trans (Same.new _ hm)).trans (Same.new _ hc2)) (by rw [upd_same, List.map_append]; rfl) ?_ hJ'
            rw [List.map_append, List.sum_append, List.length_append]
            simp only [List.map_cons, List.map_nil, List.sum_cons, List.sum_nil, List.length_cons, List.length_nil]
            omega
          cases hi' with
          | none =>
            refine .inr (.inl ⟨rfl, ?_⟩)
            walk_at "ss"
            refine ⟨(by show 2 ≤ sizeLine; decide), fun c2 hc2 => ?_⟩
            have s7 := Same.new (.lst [.str "*", .str "None"]) hc2
            walk_at "ss"
            refine o_ixT (SqT.of (s7 _ _ hA6)) (v := .non) (atI_nat (j := 2) rfl) ?_
            walk_at "ss"
            refine ⟨rfl, ?_⟩
            refine .inr ⟨_, rfl, ?_⟩
            refine o_ixL (SqL.of upd_same) (v := .str "*") (atI_nat (j := 0) rfl) ?_
            walk_at "ss"
            refine o_ixT (SqT.of (s7 _ _ hA6)) (v := .str st) (atI_nat (j := 3) rfl) ?_
            walk_at "ss"
            refine ⟨(by show 3 ≤ sizeLine; decide), fun m hm => ?_⟩
            walk_at "ss"
            refine o_R (o_R (o_L (o_cat upd_same (Same.new _ hm _ _ (s7 _ _ hlb6)) (by rw [List.length_map]; exact Nat.le_trans (show 3 + Ss.length ≤ 16000 by omega) big) fun c3 hc3 => ?_)))
            exact fin _ s7 m hm c3 hc3
          | some h =>
            have hb := hh h rfl
            refine .inl ⟨h, rfl, iT_log (by omega), ?_⟩
            walk_at "ss"
            refine ⟨(by show 2 ≤ sizeLine; decide), fun c2 hc2 => ?_⟩
            have s7 := Same.new (.lst [.str "*", .str (iT h)]) hc2
            walk_at "ss"
            refine o_ixT (SqT.of (s7 _ _ hA6)) (v := .int h) (atI_nat (j := 2) rfl) ?_
            walk_at "ss"
            refine ⟨rfl, ?_⟩
            refine .inr ⟨_, rfl, ?_⟩
            refine o_ixL (SqL.of upd_same) (v := .str (iT h)) (atI_nat (j := 1) rfl) ?_
            walk_at "ss"
            refine o_ixT (SqT.of (s7 _ _ hA6)) (v := .str st) (atI_nat (j := 3) rfl) ?_
            walk_at "ss"
            refine ⟨(by show 3 ≤ sizeLine; decide), fun m hm => ?_⟩
            walk_at "ss"
            refine o_R (o_R (o_L (o_cat upd_same (Same.new _ hm _ _ (s7 _ _ hlb6)) (by rw [List.length_map]; exact Nat.le_trans (show 3 + Ss.length ≤ 16000 by omega) big) fun c3 hc3 => ?_)))
            exact fin _ s7 m hm c3 hc3
theorem ok_text (T : Txt w K mg t) (G1 : FnOk P w K mg base CX0 1 t.a_node_text t.d_node_text ["_law_node_here"] (sp_node_text K)) (G2 : FnOk P w K mg base CX0 1 t.a_inner t.d_inner ["_law_form_here"] (sp_inner K)) :
    ∀ n, FnOk P w K mg base CX0 (1 + n) t.a_text t.d_text ["_law_form_here"] (sp_text K n)
  | 0 => FnOk.no (k := 0) T.F_text sc_text fun vs H Q E h => by
    obtain ⟨v, T', k, _, hF, _⟩ := h
    exact hF
  | n + 1 => ok_text_succ T n G1 G2 (ok_text T G1 G2 n)
end
/-! ### names, numbers, nodes -/
theorem cut_le (x : Str) (lo hi : Option Int) : (cutS x lo hi).length ≤ HT.sIx x.length x.length hi - HT.sIx x.length 0 lo := by
  show ((((x.cps.toList.drop (HT.sIx x.length 0 lo)).take (HT.sIx x.length x.length hi - HT.sIx x.length 0 lo)).toArray).size) ≤ _
  rw [List.size_toArray, List.length_take]
  exact Nat.min_le_left _ _
theorem cut_head_le {x : Str} {k : Int} (h0 : 0 ≤ k) : ((cutS x none (some k)).length : Int) ≤ k := by
  have := cut_le x none (some k)
  simp only [HT.sIx] at this
  split at this <;> omega
theorem cut_mid_le {x : Str} {i k : Int} (h0 : 0 ≤ i) (h1 : i ≤ k) : ((cutS x (some i) (some k)).length : Int) ≤ k - i := by
  have := cut_le x (some i) (some k)
  simp only [HT.sIx] at this
  split at this <;> split at this <;> omega
theorem atS {z : Str} {r : Int} (h0 : 0 ≤ r) (h1 : r < z.length) : ∃ c, atI z.cps.toList r = some c := by
  have ez : z.cps.toList.length = z.length := by simp [Str.length]
  have hj : r.toNat < z.cps.toList.length := by omega
  have ej : r = ((r.toNat : Nat) : Int) := by omega
  refine ⟨z.cps.toList[r.toNat], ?_⟩
  have := atI_nat (xs := z.cps.toList) (j := r.toNat) (v := z.cps.toList[r.toNat]) (List.getElem?_eq_getElem hj)
  rw [← ej] at this
  exact this
theorem atV {xs : List V} {r : Int} (h0 : 0 ≤ r) (h1 : r < xs.length) : ∃ v, v ∈ xs ∧ atI xs r = some v := by
  have hj : r.toNat < xs.length := by omega
  have ej : r = ((r.toNat : Nat) : Int) := by omega
  refine ⟨xs[r.toNat], List.getElem_mem hj, ?_⟩
  have := atI_nat (xs := xs) (j := r.toNat) (v := xs[r.toNat]) (List.getElem?_eq_getElem hj)
  rw [← ej] at this
  exact this
theorem e26 : ((Str.ofString "abcdefghijklmnopqrstuvwxyz").length : Int) = 26 := by decide +kernel
theorem ones_sum : ∀ {cs : List Str}, (∀ c ∈ cs, c.length = 1) → (cs.map (·.length)).sum = cs.length
  | [], _ => rfl
  | c :: cs, h => by
    have i := ones_sum (cs := cs) fun y hy => h y (List.mem_cons_of_mem _ hy)
    have := h c List.mem_cons_self
    simp only [List.map_cons, List.sum_cons, List.length_cons]
    omega
def WordV (v : V) : Prop := ∃ z : Str, v = .str z ∧ z.length ≤ 6
section
variable {P : Program} {w : World} {K : PySem.W.Frag} {mg : Str → Option Value} {base : Heap} {t : Adr}
theorem ok_names (T : Txt w K mg t) (G : FnOk P w K mg base CX0 1 t.a_take t.d_take ["_law_pen_here", "_law_most"] (sp_take K)) : FnOk P w K mg base CX0 2 t.a_names t.d_names ["_law_pen_here", "_law_many"] (sp_names K) := by
  refine T.F_names.okJ sc_names (fun vs H Q E h => ?_) (fun cdv A outer s H vs Q E hr h => ⟨_, der_names T G hr, ?_⟩)
  · obtain ⟨p, sc, m, B, rfl, _⟩ := h
    rfl
  obtain ⟨p, sc, m, B, rfl, hp, hB, hm0, hm, q⟩ := h
  have hB : B < 2 ^ 60 - 1000 := by omega
  unfold rd_names
  walk_at "ss"
  refine ⟨rfl, ?_⟩
  walk_at "ss"
  refine c_rngI 8 (fun i acc H' => ∃ cs : List Str, acc = cs.map V.str ∧ cs.length = i ∧ (∀ c ∈ cs, c.length = 1) ∧ Drawn K p sc (B + i) H H') (by decide) (fun R h => ?_) ⟨[], rfl, rfl, fun c hc => (by cases hc), (Drawn.refl hp).mono (by omega)⟩ ?_ ?_ ?_
  · walk_at "ss"
    exact h
  · rintro i acc H' hi ⟨cs, rfl, hl, _⟩
    rw [List.length_map, hl]
    exact Nat.le_refl _
  · rintro i acc H' C hi ⟨cs, rfl, hl, h1, D⟩ hC
    walk_at "ss"
    refine ⟨p, sc, 26, B + i, rfl, D.2, by omega, by decide, by decide, fun r1 H1 b0 b1 d1 => ?_⟩
    obtain ⟨c, ec⟩ := atS (z := "abcdefghijklmnopqrstuvwxyz") b0 (by rw [e26]; exact b1)
    refine o_ixS (by decide +kernel) ec ?_
    refine hC _ _ ⟨cs ++ [⟨#[c]⟩], by rw [List.map_append]; rfl, by rw [List.length_append, hl]; rfl, fun y hy => ?_, (D.trans d1).mono (by omega)⟩
    rcases List.mem_append.mp hy with hy | hy
    · exact h1 y hy
    · have e : y = ⟨#[c]⟩ := by simpa using hy
      rw [e]; rfl
  · rintro acc H1 ⟨cs, rfl, hl, h1, D⟩ lb hlb
    have D1 := (D.new (o := .lst (cs.map V.str)) hlb).mono (C := B + 8) (by omega)
    have hlb1 : upd H1 lb (.lst (cs.map V.str)) lb = some (.lst (cs.map V.str)) := upd_same
    generalize upd H1 lb (.lst (cs.map V.str)) = H2 at D1 hlb1 ⊢
    have hsum := ones_sum h1
    have e0 : ("" : Str).length = 0 := by decide
    walk_at "ss"
    refine ⟨"", lb, cs, rfl, rfl, .inl (SqL.of hlb1), by rw [e0]; omega, ?_⟩
    have hbl : (Txt.join "" cs).length ≤ 8 := by
      have := join_len "" cs
      rw [e0] at this
      omega
    generalize Txt.join "" cs = bs at hbl ⊢
    have hbs : bs.length ≤ sizeLine := Nat.le_trans hbl (by decide)
    walk_at "ss"
    refine ⟨(by show 8 ≤ sizeLine; decide), fun wa hwa => ?_⟩
    have hwp := D1.2.ne hwa
    have D2 := D1.new (o := .lst [.str "any", .str "all", .str "keeps", .str "is", .str "many", .str "each", .str "not", .str "closed"]) hwa
    have hw2 : upd H2 wa (.lst [.str "any", .str "all", .str "keeps", .str "is", .str "many", .str "each", .str "not", .str "closed"]) wa = some (.lst [.str "any", .str "all", .str "keeps", .str "is", .str "many", .str "each", .str "not", .str "closed"]) := upd_same
    generalize upd H2 wa (.lst [.str "any", .str "all", .str "keeps", .str "is", .str "many", .str "each", .str "not", .str "closed"]) = H3 at D2 hw2 ⊢
    walk_at "ss"
    refine ⟨p, sc, 4, B + 8, rfl, D2.2, by omega, by decide, by decide, fun way H4 c0 c1 d4 => ?_⟩
    have D4 := D2.trans d4
    walk_at "ss"
    refine ⟨p, sc, 8, B + 8 + 1, rfl, D4.2, by omega, by decide, by decide, fun r5 H5 f0 f1 d5 => ?_⟩
    have D5 := D4.trans d5
    walk_at "ss"
    refine ⟨p, sc, _, B + 8 + 1 + 1, rfl, D5.2, by omega, by omega, by omega, fun at' H6 g0 g1 d6 => ?_⟩
    have D6 := D5.trans d6
    walk_at "ss"
    refine ⟨p, sc, 26, B + 8 + 1 + 1 + 1, rfl, D6.2, by omega, by decide, by decide, fun turn H7 k0 k1 d7 => ?_⟩
    have D7 := (D6.trans d7).mono (C := B + 20) (by omega)
    have hw7 := d7.1 _ _ hwp (d6.1 _ _ hwp (d5.1 _ _ hwp (d4.1 _ _ hwp hw2)))
    walk_at "ss"
    refine ⟨(by show 0 ≤ sizeLine; decide), fun fa hfa => ?_⟩
    have hfn := fresh_of D7 hfa
    have hfp := D7.2.ne hfa
    have nwf : wa ≠ fa := ne_of_none hw7 hfa
    walk_at "ss"
    refine ⟨by omega, by omega, ?_⟩
    refine for_range (fun i σ H' => ∃ (xs : List Str) (v10 v11 : Option V), σ = [some (.ref p), some (.int m), some (.str "abcdefghijklmnopqrstuvwxyz"), some (.str bs), some (.ref wa), some (.int way), some (.int (1 + r5)), some (.int at'), some (.int turn), some (.ref fa), v10, v11] ∧ xs.length = i ∧ (∀ x ∈ xs, Sh x) ∧ H' fa = some (.lst (xs.map V.str)) ∧ H' wa = some (.lst [.str "any", .str "all", .str "keeps", .str "is", .str "many", .str "each", .str "not", .str "closed"]) ∧ Drawn K p sc (B + 20) H H')
      ⟨[], _, _, rfl, rfl, fun x hx => (by cases hx), upd_same, Same.new _ hfa _ _ hw7, D7.new hfa⟩ ?_ ?_
    · rintro i σ H8 hi ⟨xs, v10, v11, rfl, hxl, hxs, hf8, hw8, D8⟩
      have hi8 : i < 8 := by omega
      have put : ∀ y : Str, Sh y → ∀ v10 v11, ∃ (xs' : List Str) (w10 w11 : Option V), [some (V.ref p), some (.int m), some (.str "abcdefghijklmnopqrstuvwxyz"), some (.str bs), some (.ref wa), some (.int way), some (.int (1 + r5)), some (.int at'), some (.int turn), some (.ref fa), v10, v11] = [some (V.ref p), some (.int m), some (.str "abcdefghijklmnopqrstuvwxyz"), some (.str bs), some (.ref wa), some (.int way), some (.int (1 + r5)), some (.int at'), some (.int turn), some (.ref fa), w10, w11] ∧ xs'.length = i + 1 ∧ (∀ x ∈ xs', Sh x) ∧ (upd H8 fa (.lst (xs.map V.str ++ [.str y]))) fa = some (.lst (xs'.map V.str)) ∧ (upd H8 fa (.lst (xs.map V.str ++ [.str y]))) wa = some (.lst [.str "any", .str "all", .str "keeps", .str "is", .str "many", .str "each", .str "not", .str "closed"]) ∧ Drawn K p sc (B + 20) H (upd H8 fa (.lst (xs.map V.str ++ [.str y]))) := fun y hy v10 v11 => by
        refine ⟨xs ++ [y], v10, v11, rfl, by rw [List.length_append, hxl]; rfl, fun x hx => ?_, by rw [upd_same, List.map_append]; rfl, by rw [upd_ne nwf]; exact hw8, Drawn.app hp D8 hfn⟩
        rcases List.mem_append.mp hx with hx | hx
        · exact hxs x hx
        · have e : x = y := by simpa using hx
          rw [e]; exact hy
      have hlt : (xs.map V.str).length < sizeLine := by rw [List.length_map, hxl]; exact Nat.lt_of_lt_of_le hi8 (by decide)
      have hq0 := Int.emod_nonneg (turn + 5 * (0 + (i : Int))) (by decide : (26 : Int) ≠ 0)
      have hq1 := Int.emod_lt_of_pos (turn + 5 * (0 + (i : Int))) (by decide : (0 : Int) < 26)
      walk_at "ss"
      obtain ⟨c, ec⟩ := atS (z := "abcdefghijklmnopqrstuvwxyz") hq0 (by rw [e26]; exact hq1)
      refine o_ixS (by decide +kernel) ec ?_
      have l1 : (⟨#[c]⟩ : Str).length = 1 := rfl
      walk_at "ss"
      have w8 : ∀ r : Int, 0 ≤ r → r < 8 → ∃ z : Str, atI [V.str "any", .str "all", .str "keeps", .str "is", .str "many", .str "each", .str "not", .str "closed"] r = some (.str z) ∧ z.length ≤ 6 := fun r h0 h1 => by
        obtain ⟨v, mv, ev⟩ := atV (xs := [V.str "any", .str "all", .str "keeps", .str "is", .str "many", .str "each", .str "not", .str "closed"]) h0 h1
        simp only [List.mem_cons, List.mem_nil_iff, or_false] at mv
        rcases mv with rfl | rfl | rfl | rfl | rfl | rfl | rfl | rfl <;> exact ⟨_, ev, by decide⟩
      refine ite3 (fun e0 => ?_) (fun e0 => ?_)
      · -- way 0
        walk_at "ss"
        refine ite3 (fun e1 => ?_) (fun e1 => ?_)
        · walk_at "ss"
          refine ⟨.inl ⟨rfl, _, SqL.of hf8⟩, ?_⟩
          walk_at "ss"
          refine o_slS hbs ?_
          walk_at "ss"
          refine ⟨fa, _, _, rfl, rfl, hf8, hlt, ?_⟩
          walk_at "ss"
          refine put _ ?_ _ _
          have := cutS_length bs none (some ((turn + 3 * (0 + (i : Int))) % 8 + 1))
          unfold Sh
          omega
        · have := of_decide_eq_false e1
          omega
      · walk_at "ss"
        refine ite3 (fun e1 => ?_) (fun e1 => ?_)
        · walk_at "ss"
          refine ite3 (fun e2 => ?_) (fun e2 => ?_)
          · walk_at "ss"
            refine ⟨.inl ⟨rfl, _, SqL.of hf8⟩, ?_⟩
            walk_at "ss"
            obtain ⟨z, ez, hz⟩ := w8 ((turn + (0 + (i : Int))) % 8) (Int.emod_nonneg _ (by decide)) (Int.emod_lt_of_pos _ (by decide))
            refine o_ixL (SqL.of hw8) ez ?_
            walk_at "ss"
            refine ⟨fa, _, _, rfl, rfl, hf8, hlt, ?_⟩
            walk_at "ss"
            exact put z (by unfold Sh; omega) _ _
          · have := of_decide_eq_false e2
            omega
        · walk_at "ss"
          refine ite3 (fun e2 => ?_) (fun e2 => ?_)
          · walk_at "ss"
            refine ⟨.inl ⟨rfl, _, SqL.of hf8⟩, ?_⟩
            walk_at "ss"
            obtain ⟨z, ez, hz⟩ := w8 ((0 + (i : Int)) % 8) (Int.emod_nonneg _ (by decide)) (Int.emod_lt_of_pos _ (by decide))
            refine o_ixL (SqL.of hw8) ez ?_
            walk_at "ss"
            refine o_R (o_L (o_addS (by rw [l1]; exact Nat.le_trans (by omega : _ ≤ 16000) big) ?_))
            walk_at "ss"
            refine ⟨fa, _, _, rfl, rfl, hf8, hlt, ?_⟩
            walk_at "ss"
            exact put _ (by unfold Sh; rw [app_len, l1]; omega) _ _
          · walk_at "ss"
            refine ⟨.inl ⟨rfl, _, SqL.of hf8⟩, ?_⟩
            walk_at "ss"
            refine o_slS hbs ?_
            have c1 := cut_head_le (x := bs) g0
            have c2 := cut_mid_le (x := bs) (i := at' + 1) (k := 1 + r5) (by omega) (by omega)
            walk_at "ss"
            refine o_R (o_L (o_addS (by rw [l1]; exact Nat.le_trans (by omega : _ ≤ 16000) big) ?_))
            walk_at "ss"
            refine o_slS hbs ?_
            refine o_R (o_L (o_addS (by rw [app_len, l1]; exact Nat.le_trans (by omega : _ ≤ 16000) big) ?_))
            walk_at "ss"
            refine ⟨fa, _, _, rfl, rfl, hf8, hlt, ?_⟩
            walk_at "ss"
            exact put _ (by unfold Sh; rw [app_len, app_len, l1]; omega) _ _
    · rintro σ H8 ⟨xs, v10, v11, rfl, hxl, hxs, hf8, hw8, D8⟩
      walk_at "ss"
      exact q fa xs H8 (by omega) hxs ⟨hfp, hf8⟩ (D8.mono (by omega))
end
/-! ### numbers, nodes, tips, counts -/
theorem p9 : (10 : Int) ^ ((9 : Int).toNat) = 1000000000 := by decide
theorem p12 : (10 : Int) ^ ((12 : Int).toNat) = 1000000000000 := by decide
theorem p30 : (10 : Int) ^ ((30 : Int).toNat) = 1000000000000000000000000000000 := by decide
theorem q60 : (10 : Nat) ^ 60 = 1000000000000000000000000000000000000000000000000000000000000 := by decide
section
variable {P : Program} {w : World} {K : PySem.W.Frag} {mg : Str → Option Value} {base : Heap} {t : Adr}
theorem ok_number (T : Txt w K mg t) (G : FnOk P w K mg base CX0 1 t.a_take t.d_take ["_law_pen_here", "_law_most"] (sp_take K)) : FnOk P w K mg base CX0 2 t.a_number t.d_number ["_law_pen_here"] (sp_number K) := by
  refine T.F_number.okJ sc_number (fun vs H Q E h => ?_) (fun cdv A outer s H vs Q E hr h => ⟨_, der_number T G hr, ?_⟩)
  · obtain ⟨p, sc, B, rfl, _⟩ := h
    rfl
  obtain ⟨p, sc, B, rfl, hp, hB, q⟩ := h
  have hB : B < 2 ^ 60 - 1000 := by omega
  rw [q60] at q
  unfold rd_number
  walk_at "ss"
  refine ⟨p, sc, 4, B, rfl, hp, by omega, by decide, by decide, fun way H1 a0 a1 d1 => ?_⟩
  walk_at "ss"
  refine ⟨p, sc, 21, _, rfl, d1.2, by omega, by decide, by decide, fun n2 H2 b0 b1 d2 => ?_⟩
  have D2 := (d1.trans d2).mono (C := B + 2) (by omega)
  walk_at "s"
  with_reducible refine i_seqG fun N1 eN1 => ?_
  have last : ∀ (i : Int) H3, i.natAbs < 1000000000000000000000000000000000000 → Drawn K p sc (B + 3) H H3 → N1 [some (.ref p), some (.int way), some (.int i)] H3 := by
    intro i H3 hi D3
    rw [eN1]
    with_reducible refine i_seqG fun N2 eN2 => ?_
    have last2 : ∀ (i : Int) H3, i.natAbs < 1000000000000000000000000000000000000 → Drawn K p sc (B + 6) H H3 → N2 [some (.ref p), some (.int way), some (.int i)] H3 := by
      intro i H3 hi D3
      rw [eN2]
      walk_at "ss"
      refine ⟨p, sc, 3, B + 6, rfl, D3.2, by omega, by decide, by decide, fun z H4 c0 c1 d4 => ?_⟩
      have D4 := (D3.trans d4).mono (C := B + 10) (by omega)
      walk_at "ss"
      refine ite3 (fun e1 => ?_) (fun e1 => ?_)
      · walk_at "ss"
        exact q _ _ (by omega) D4
      · walk_at "ss"
        exact q _ _ (by omega) D4
    walk_at "ss"
    refine ite3 (fun e1 => ?_) (fun e1 => ?_)
    · walk_at "ss"
      refine ⟨p, sc, _, B + 3, rfl, D3.2, by omega, by decide, by decide, fun x1 H4 c0 c1 d4 => ?_⟩
      rw [p9] at c1
      walk_at "ss"
      refine ⟨p, sc, _, B + 3 + 1, rfl, d4.2, by omega, by decide, by decide, fun x2 H5 f0 f1 d5 => ?_⟩
      rw [p9] at f1
      walk_at "ss"
      refine ⟨p, sc, _, B + 3 + 1 + 1, rfl, d5.2, by omega, by decide, by decide, fun x3 H6 g0 g1 d6 => ?_⟩
      rw [p12] at g1
      walk_at "ss"
      refine last2 _ _ ?_ (((D3.trans d4).trans d5).trans d6 |>.mono (by omega))
      rw [p9, p12]
      omega
    · walk_at "ss"
      exact last2 _ _ hi (D3.mono (by omega))
  walk_at "ss"
  refine ite3 (fun e1 => ?_) (fun e1 => ?_)
  · walk_at "ss"
    refine ⟨p, sc, 3, B + 2, rfl, D2.2, by omega, by decide, by decide, fun z H4 c0 c1 d4 => ?_⟩
    walk_at "ss"
    refine last _ _ ?_ ((D2.trans d4).mono (by omega))
    rw [p30]
    omega
  · walk_at "ss"
    exact last _ _ (by omega) (D2.mono (by omega))
theorem ok_node (T : Txt w K mg t) (G : FnOk P w K mg base CX0 1 t.a_take t.d_take ["_law_pen_here", "_law_most"] (sp_take K)) (G2 : FnOk P w K mg base CX0 2 t.a_number t.d_number ["_law_pen_here"] (sp_number K)) : FnOk P w K mg base CX0 3 t.a_node t.d_node ["_law_pen_here", "_law_things"] (sp_node K) := by
  refine T.F_node.okJ sc_node (fun vs H Q E h => ?_) (fun cdv A outer s H vs Q E hr h => ⟨_, der_node T G G2 hr, ?_⟩)
  · obtain ⟨p, sc, na, ns, B, rfl, _⟩ := h
    rfl
  obtain ⟨p, sc, na, ns, B, rfl, hp, hB, hn, hne, hsh, hnl, q⟩ := h
  have hB : B < 2 ^ 59 - 1000 := by omega
  have hnl0 : 0 < ns.length := List.length_pos_iff.mpr hne
  have hml : (ns.map V.str).length = ns.length := List.length_map _
  unfold rd_node
  walk_at "ss"
  refine ⟨p, sc, 3, B, rfl, hp, by omega, by decide, by decide, fun way H1 a0 a1 d1 => ?_⟩
  have hn1 := hn.keep d1.1
  walk_at "ss"
  refine ite3 (fun e1 => ?_) (fun e1 => ?_)
  · walk_at "ss"
    refine o_lenL (SqL.of hn1.2) ?_
    walk_at "ss"
    refine ⟨p, sc, _, B + 1, rfl, d1.2, by omega, by omega, by omega, fun r2 H2 b0 b1 d2 => ?_⟩
    have hn2 := hn1.keep d2.1
    obtain ⟨v, mv, ev⟩ := atV (xs := ns.map V.str) b0 b1
    obtain ⟨x, hx, rfl⟩ := List.mem_map.mp mv
    refine o_ixL (SqL.of hn2.2) ev ?_
    walk_at "ss"
    exact q _ x _ (.inl ⟨x, rfl, hsh x hx, rfl⟩) ((d1.trans d2).mono (by omega))
  · walk_at "ss"
    refine ite3 (fun e2 => ?_) (fun e2 => ?_)
    · walk_at "ss"
      refine ⟨p, sc, B + 1, rfl, d1.2, by omega, fun i H2 hi d2 => ?_⟩
      walk_at "ss"
      exact q _ (iT i) _ (.inr (.inl ⟨i, rfl, hi, rfl⟩)) ((d1.trans d2).mono (by omega))
    · walk_at "ss"
      refine ⟨p, sc, 8, B + 1, rfl, d1.2, by omega, by decide, by decide, fun r2 H2 b0 b1 d2 => ?_⟩
      walk_at "ss"
      refine ⟨(by show 4 ≤ sizeLine; decide), fun la hla => ?_⟩
      have hlp := d2.2.ne hla
      have d3 := (d1.trans d2).new (o := .lst [.int 0, .int 8, .int (1 + r2), .int 3]) hla
      have hl3 : upd H2 la (.lst [.int 0, .int 8, .int (1 + r2), .int 3]) la = some (.lst [.int 0, .int 8, .int (1 + r2), .int 3]) := upd_same
      generalize upd H2 la (.lst [.int 0, .int 8, .int (1 + r2), .int 3]) = H3 at d3 hl3 ⊢
      walk_at "ss"
      refine ⟨p, sc, 4, B + 1 + 1, rfl, d3.2, by omega, by decide, by decide, fun r4 H4 c0 c1 d4 => ?_⟩
      have hl4 := d4.1 _ _ hlp hl3
      have D4 := (d3.trans d4).mono (C := B + 3) (by omega)
      obtain ⟨v, mv, ev⟩ := atV (xs := [V.int 0, .int 8, .int (1 + r2), .int 3]) c0 c1
      refine o_ixL (SqL.of hl4) ev ?_
      have hv : ∃ m : Int, v = .int m ∧ 0 ≤ m ∧ m ≤ 8 := by
        simp only [List.mem_cons, List.mem_nil_iff, or_false] at mv
        rcases mv with rfl | rfl | rfl | rfl <;> exact ⟨_, rfl, by omega, by omega⟩
      obtain ⟨m, rfl, hm0, hm⟩ := hv
      walk_at "ss"
      refine ⟨by omega, by omega, ?_⟩
      refine for_range (fun i σ H' => ∃ (x : Str) (v4 : Option V), σ = [some (.ref p), some (.ref na), some (.int way), some (.str x), v4] ∧ x.length = i ∧ Drawn K p sc (B + 3 + i) H H')
        ⟨"", _, rfl, rfl, D4.mono (by omega)⟩ ?_ ?_
      · rintro i σ H5 hi ⟨x, v4, rfl, hx, D5⟩
        have hi8 : i < 8 := by omega
        walk_at "ss"
        refine ⟨p, sc, 26, _, rfl, D5.2, by omega, by decide, by decide, fun r6 H6 f0 f1 d6 => ?_⟩
        obtain ⟨c, ec⟩ := atS (z := "abcdefghijklmnopqrstuvwxyz") f0 (by rw [e26]; exact f1)
        refine o_ixS (by decide +kernel) ec ?_
        have l1 : (⟨#[c]⟩ : Str).length = 1 := rfl
        refine o_R (o_L (o_addS (by rw [l1]; exact Nat.le_trans (by omega : _ ≤ 16000) big) ?_))
        walk_at "ss"
        exact ⟨x ++ ⟨#[c]⟩, _, rfl, by rw [app_len, hx, l1], (D5.trans d6).mono (by omega)⟩
      · rintro σ H5 ⟨x, v4, rfl, hx, D5⟩
        walk_at "ss"
        refine ⟨(by show 1 ≤ sizeLine; decide), fun ta hta => ?_⟩
        exact q _ (("'" : Str) ++ x) _ (.inr (.inr ⟨ta, x, rfl, upd_same, by unfold Sh; omega, rfl⟩)) ((D5.new hta).mono (by omega))
theorem eqStr {x y : Str} {b : Bool} (e : decide (V.str x = V.str y) = b) : decide (x = y) = b := by rw [strEq] at e; exact e
theorem ok_tip (T : Txt w K mg t) (G : FnOk P w K mg base CX0 1 t.a_take t.d_take ["_law_pen_here", "_law_most"] (sp_take K)) (G2 : FnOk P w K mg base CX0 2 t.a_number t.d_number ["_law_pen_here"] (sp_number K)) (G3 : FnOk P w K mg base CX0 3 t.a_node t.d_node ["_law_pen_here", "_law_things"] (sp_node K)) : FnOk P w K mg base CX0 4 t.a_tip t.d_tip ["_law_pen_here", "_law_names_here", "_law_free"] (sp_tip K) := by
  refine T.F_tip.okJ sc_tip (fun vs H Q E h => ?_) (fun cdv A outer s H vs Q E hr h => ⟨_, der_tip T G G2 G3 hr, ?_⟩)
  · obtain ⟨p, sc, na, ns, B, fr, rfl, _⟩ := h
    rfl
  obtain ⟨p, sc, na, ns, B, fr, rfl, hp, hB, hn, hne, hsh, hnl, q⟩ := h
  have hB : B < 2 ^ 58 - 1000 := by omega
  have hnl0 : 0 < ns.length := List.length_pos_iff.mpr hne
  have hml : (ns.map V.str).length = ns.length := List.length_map _
  unfold rd_tip
  walk_at "ss"
  refine ⟨(by show 10 ≤ sizeLine; decide), fun la hla => ?_⟩
  have hlp := hp.ne hla
  have D1 := (Drawn.refl hp).new (o := .lst [.str "any", .str "thing", .str "number", .str "said", .str "from", .str "upto", .str "is", .str "keeps", .str "keeps", .str "closed"]) hla
  have hl1 : upd H la (.lst [.str "any", .str "thing", .str "number", .str "said", .str "from", .str "upto", .str "is", .str "keeps", .str "keeps", .str "closed"]) la = some (.lst [.str "any", .str "thing", .str "number", .str "said", .str "from", .str "upto", .str "is", .str "keeps", .str "keeps", .str "closed"]) := upd_same
  generalize upd H la (.lst [.str "any", .str "thing", .str "number", .str "said", .str "from", .str "upto", .str "is", .str "keeps", .str "keeps", .str "closed"]) = H1 at D1 hl1 ⊢
  walk_at "ss"
  refine ⟨p, sc, 10, B, rfl, D1.2, by omega, by decide, by decide, fun r2 H2 b0 b1 d2 => ?_⟩
  have hl2 := d2.1 _ _ hlp hl1
  have D2 := D1.trans d2
  obtain ⟨v, mv, ev⟩ := atV (xs := [V.str "any", .str "thing", .str "number", .str "said", .str "from", .str "upto", .str "is", .str "keeps", .str "keeps", .str "closed"]) b0 b1
  refine o_ixL (SqL.of hl2) ev ?_
  have hv : ∃ x : Str, v = .str x ∧ (x ∈ W0 ∨ x ∈ W1 ∨ x = "is" ∨ x = "keeps" ∨ x = "closed") := by
    simp only [List.mem_cons, List.mem_nil_iff, or_false] at mv
    rcases mv with rfl | rfl | rfl | rfl | rfl | rfl | rfl | rfl | rfl | rfl <;> exact ⟨_, rfl, by decide +kernel⟩
  obtain ⟨x, rfl, hx⟩ := hv
  clear ev mv hl1 hl2
  walk_at "ss"
  refine ⟨(by show 2 ≤ sizeLine; decide), fun c hc => ?_⟩
  have D3 := D2.new (o := .tup [.str "from", .str "upto"]) hc
  refine o_in (l := ["from", "upto"]) (.inr (SqT.of upd_same)) ⟨_, rfl, ?_⟩
  generalize upd H2 c (.tup [.str "from", .str "upto"]) = H3 at D3 ⊢
  have hn3 := hn.keep D3.1
  refine ite3 (fun e1 => ?_) (fun e1 => ?_)
  · walk_at "ss"
    refine ⟨p, sc, B + 1, rfl, D3.2, by omega, fun i H4 hi d4 => ?_⟩
    walk_at "ss"
    refine ⟨(by show 2 ≤ sizeLine; decide), fun ta hta => ?_⟩
    exact q _ _ _ (fun n => .inl ⟨rfl, .inr (.inl ⟨ta, x, i, rfl, upd_same, of_decide_eq_true e1, hi, rfl⟩)⟩) (((D3.trans d4).new hta).mono (by omega))
  · walk_at "ss"
    refine ite3 (fun e2 => ?_) (fun e2 => ?_)
    · have ex := of_decide_eq_true (eqStr e2)
      subst ex
      walk_at "ss"
      refine ⟨p, sc, na, ns, B + 1, rfl, D3.2, by omega, hn3, hne, hsh, hnl, fun v4 T4 H4 hv d4 => ?_⟩
      walk_at "ss"
      refine ⟨(by show 2 ≤ sizeLine; decide), fun ta hta => ?_⟩
      exact q _ _ _ (fun n => .inl ⟨rfl, .inr (.inr (.inl ⟨ta, v4, T4, rfl, upd_same, hv.keep (Same.tk (Same.new _ hta)), rfl⟩))⟩) (((D3.trans d4).new hta).mono (by omega))
    · walk_at "ss"
      refine ite3 (fun e3 => ?_) (fun e3 => ?_)
      · walk_at "ss"
        refine o_lenL (SqL.of hn3.2) ?_
        walk_at "ss"
        refine ⟨p, sc, _, B + 1, rfl, D3.2, by omega, by omega, by omega, fun r4 H4 c0 c1 d4 => ?_⟩
        have hn4 := hn3.keep d4.1
        obtain ⟨v, mv, ev⟩ := atV (xs := ns.map V.str) c0 c1
        obtain ⟨y, hy, rfl⟩ := List.mem_map.mp mv
        refine o_ixL (SqL.of hn4.2) ev ?_
        walk_at "ss"
        refine ⟨(by show 2 ≤ sizeLine; decide), fun ta hta => ?_⟩
        exact q _ _ _ (fun n => .inl ⟨rfl, .inr (.inr (.inr ⟨ta, y, rfl, upd_same, hsh y hy, rfl⟩))⟩) (((D3.trans d4).new hta).mono (by omega))
      · walk_at "ss"
        refine ite3 (fun e4 => ?_) (fun e4 => ?_)
        · have ex := of_decide_eq_true (eqStr e4)
          subst ex
          cases fr with
          | false =>
            walk_at "ss"
            refine o_lenL (SqL.of hn3.2) ?_
            walk_at "ss"
            refine ⟨p, sc, _, B + 1, rfl, D3.2, by omega, by omega, by omega, fun r4 H4 c0 c1 d4 => ?_⟩
            have hn4 := hn3.keep d4.1
            obtain ⟨v, mv, ev⟩ := atV (xs := ns.map V.str) c0 c1
            obtain ⟨y, hy, rfl⟩ := List.mem_map.mp mv
            refine o_ixL (SqL.of hn4.2) ev ?_
            walk_at "ss"
            refine ⟨(by show 2 ≤ sizeLine; decide), fun ta hta => ?_⟩
            exact q _ _ _ (fun n => .inl ⟨rfl, .inr (.inr (.inr ⟨ta, y, rfl, upd_same, hsh y hy, rfl⟩))⟩) (((D3.trans d4).new hta).mono (by omega))
          | true =>
            walk_at "ss"
            refine o_lenL (SqL.of hn3.2) ?_
            walk_at "ss"
            refine ⟨p, sc, _, B + 1, rfl, D3.2, by omega, by omega, by omega, fun r4 H4 c0 c1 d4 => ?_⟩
            have hn4 := hn3.keep d4.1
            walk_at "ss"
            refine .inr (.inl ⟨na, _, rfl, SqL.of hn4.2, fun s1 hs1 => ?_⟩)
            have ecut : cutV (ns.map V.str) none (some r4) = ((ns.drop (HT.sIx (ns.map V.str).length 0 none)).take (HT.sIx (ns.map V.str).length (ns.map V.str).length (some r4) - HT.sIx (ns.map V.str).length 0 none)).map V.str := by
              unfold cutV
              rw [List.map_take, List.map_drop]
            rw [ecut]
            have hcs : ∀ y ∈ (ns.drop (HT.sIx (ns.map V.str).length 0 none)).take (HT.sIx (ns.map V.str).length (ns.map V.str).length (some r4) - HT.sIx (ns.map V.str).length 0 none), y ∈ ns := fun y hy => List.mem_of_mem_drop (List.mem_of_mem_take hy)
            have hcl : ((ns.drop (HT.sIx (ns.map V.str).length 0 none)).take (HT.sIx (ns.map V.str).length (ns.map V.str).length (some r4) - HT.sIx (ns.map V.str).length 0 none)).length ≤ ns.length := by
              rw [List.length_take, List.length_drop]
              omega
            generalize (ns.drop (HT.sIx (ns.map V.str).length 0 none)).take (HT.sIx (ns.map V.str).length (ns.map V.str).length (some r4) - HT.sIx (ns.map V.str).length 0 none) = cs at hcs hcl ⊢
            have D5 := (D3.trans d4).new (o := .lst (cs.map V.str)) hs1
            have h5 : upd H4 s1 (.lst (cs.map V.str)) s1 = some (.lst (cs.map V.str)) := upd_same
            generalize upd H4 s1 (.lst (cs.map V.str)) = H5 at D5 h5 ⊢
            walk_at "ss"
            refine ⟨s1, cs, rfl, SqL.of h5, by omega, fun s2 cs' hs2 hperm _ => ?_⟩
            have D6 := D5.new (o := .lst (cs'.map V.str)) hs2
            have h6 : upd H5 s2 (.lst (cs'.map V.str)) s2 = some (.lst (cs'.map V.str)) := upd_same
            generalize upd H5 s2 (.lst (cs'.map V.str)) = H6 at D6 h6 ⊢
            walk_at "ss"
            refine ⟨s2, _, rfl, .inl ⟨SqL.of h6, fun tb htb => ?_⟩⟩
            have D7 := D6.new (o := .tup (cs'.map V.str)) htb
            have h7 : upd H6 tb (.tup (cs'.map V.str)) tb = some (.tup (cs'.map V.str)) := upd_same
            generalize upd H6 tb (.tup (cs'.map V.str)) = H7 at D7 h7 ⊢
            walk_at "ss"
            refine ⟨(by show 2 ≤ sizeLine; decide), fun ta hta => ?_⟩
            have hpl := hperm.length_eq
            exact q _ _ _ (fun n => .inr ⟨"closed", _, .inl ⟨rfl, rfl, ta, tb, cs', rfl, upd_same, Same.new _ hta _ _ h7, fun y hy => hsh y (hcs y (hperm.mem_iff.mp hy)), by omega, rfl⟩, rfl⟩) ((D7.new hta).mono (by omega))
        · walk_at "ss"
          refine iteFr e4 ?_
          walk_at "ss"
          refine ⟨(by show 1 ≤ sizeLine; decide), fun ta hta => ?_⟩
          have hx0 : x ∈ W0 := by
            rcases hx with h | h | h | h | h
            · exact h
            · exact absurd h (of_decide_eq_false e1)
            · exact absurd h (of_decide_eq_false (eqStr e2))
            · exact absurd h (of_decide_eq_false (eqStr e3))
            · exact absurd h (of_decide_eq_false (eqStr e4))
          exact q _ _ _ (fun n => .inl ⟨rfl, .inl ⟨ta, x, rfl, upd_same, hx0, rfl⟩⟩) ((D3.new hta).mono (by omega))
theorem ok_count (T : Txt w K mg t) (G : FnOk P w K mg base CX0 1 t.a_take t.d_take ["_law_pen_here", "_law_most"] (sp_take K)) : FnOk P w K mg base CX0 2 t.a_count t.d_count ["_law_pen_here", "_law_names_here"] (sp_count K) := by
  refine T.F_count.okJ sc_count (fun vs H Q E h => ?_) (fun cdv A outer s H vs Q E hr h => ⟨_, der_count T G hr, ?_⟩)
  · obtain ⟨p, sc, na, ns, B, rfl, _⟩ := h
    rfl
  obtain ⟨p, sc, na, ns, B, rfl, hp, hB, hn, hne, hsh, hnl, q⟩ := h
  have hB : B < 2 ^ 58 - 1000 := by omega
  have hnl0 : 0 < ns.length := List.length_pos_iff.mpr hne
  have hml : (ns.map V.str).length = ns.length := List.length_map _
  unfold rd_count
  walk_at "ss"
  refine ⟨p, sc, 61, B, rfl, hp, by omega, by decide, by decide, fun r1 H1 a0 a1 d1 => ?_⟩
  walk_at "ss"
  refine ⟨(by show 6 ≤ sizeLine; decide), fun la hla => ?_⟩
  have hlp := d1.2.ne hla
  have D1 := d1.new (o := .lst [.int 0, .int 0, .int 1, .int 2, .int 60, .int r1]) hla
  have hl1 : upd H1 la (.lst [.int 0, .int 0, .int 1, .int 2, .int 60, .int r1]) la = some (.lst [.int 0, .int 0, .int 1, .int 2, .int 60, .int r1]) := upd_same
  generalize upd H1 la (.lst [.int 0, .int 0, .int 1, .int 2, .int 60, .int r1]) = H2 at D1 hl1 ⊢
  walk_at "ss"
  refine ⟨p, sc, 6, B + 1, rfl, D1.2, by omega, by decide, by decide, fun r2 H3 b0 b1 d3 => ?_⟩
  have hl3 := d3.1 _ _ hlp hl1
  have D3 := D1.trans d3
  obtain ⟨v, mv, ev⟩ := atV (xs := [V.int 0, .int 0, .int 1, .int 2, .int 60, .int r1]) b0 b1
  refine o_ixL (SqL.of hl3) ev ?_
  have hv : ∃ lo : Int, v = .int lo ∧ 0 ≤ lo ∧ lo ≤ 60 := by
    simp only [List.mem_cons, List.mem_nil_iff, or_false] at mv
    rcases mv with rfl | rfl | rfl | rfl | rfl | rfl <;> exact ⟨_, rfl, by omega, by omega⟩
  obtain ⟨lo, rfl, hlo0, hlo⟩ := hv
  clear ev mv hl1 hl3
  walk_at "ss"
  refine ⟨p, sc, _, B + 1 + 1, rfl, D3.2, by omega, by omega, by omega, fun r4 H4 c0 c1 d4 => ?_⟩
  have D4 := D3.trans d4
  walk_at "ss"
  refine ⟨(by show 3 ≤ sizeLine; decide), fun lb hlb => ?_⟩
  have hlp := D4.2.ne hlb
  have D5 := D4.new (o := .lst [.non, .int lo, .int (lo + r4)]) hlb
  have hl5 : upd H4 lb (.lst [.non, .int lo, .int (lo + r4)]) lb = some (.lst [.non, .int lo, .int (lo + r4)]) := upd_same
  generalize upd H4 lb (.lst [.non, .int lo, .int (lo + r4)]) = H5 at D5 hl5 ⊢
  walk_at "ss"
  refine ⟨p, sc, 3, B + 1 + 1 + 1, rfl, D5.2, by omega, by decide, by decide, fun r6 H6 f0 f1 d6 => ?_⟩
  have hl6 := d6.1 _ _ hlp hl5
  have D6 := D5.trans d6
  obtain ⟨v, mv, ev⟩ := atV (xs := [V.non, .int lo, .int (lo + r4)]) f0 f1
  refine o_ixL (SqL.of hl6) ev ?_
  have hv : ∃ hi : Option Int, v = hiV hi ∧ ∀ h, hi = some h → 0 ≤ h ∧ h ≤ 60 := by
    simp only [List.mem_cons, List.mem_nil_iff, or_false] at mv
    rcases mv with rfl | rfl | rfl
    · exact ⟨none, rfl, fun h e => by cases e⟩
    · exact ⟨some lo, rfl, fun h e => by injection e with e; omega⟩
    · exact ⟨some (lo + r4), rfl, fun h e => by injection e with e; omega⟩
  obtain ⟨hi, rfl, hhi⟩ := hv
  clear ev mv hl5 hl6
  walk_at "ss"
  refine ⟨(by show 3 ≤ sizeLine; decide), fun lc hlc => ?_⟩
  have hlp := D6.2.ne hlc
  have D7 := D6.new (o := .lst [.str "", .str "", .str "^"]) hlc
  have hl7 : upd H6 lc (.lst [.str "", .str "", .str "^"]) lc = some (.lst [.str "", .str "", .str "^"]) := upd_same
  generalize upd H6 lc (.lst [.str "", .str "", .str "^"]) = H7 at D7 hl7 ⊢
  walk_at "ss"
  refine ⟨p, sc, 3, B + 1 + 1 + 1 + 1, rfl, D7.2, by omega, by decide, by decide, fun r8 H8 g0 g1 d8 => ?_⟩
  have hl8 := d8.1 _ _ hlp hl7
  have D8 := D7.trans d8
  obtain ⟨v, mv, ev⟩ := atV (xs := [V.str "", .str "", .str "^"]) g0 g1
  refine o_ixL (SqL.of hl8) ev ?_
  have hv : ∃ z : Str, v = .str z ∧ z.length ≤ 1 := by
    simp only [List.mem_cons, List.mem_nil_iff, or_false] at mv
    rcases mv with rfl | rfl | rfl <;> exact ⟨_, rfl, by decide⟩
  obtain ⟨z, rfl, hz⟩ := hv
  clear ev mv hl7 hl8
  have hn8 := hn.keep D8.1
  walk_at "ss"
  refine o_lenL (SqL.of hn8.2) ?_
  walk_at "ss"
  refine ⟨p, sc, _, B + 1 + 1 + 1 + 1 + 1, rfl, D8.2, by omega, by omega, by omega, fun r9 H9 k0 k1 d9 => ?_⟩
  have hn9 := hn8.keep d9.1
  have D9 := D8.trans d9
  obtain ⟨v, mv, ev⟩ := atV (xs := ns.map V.str) k0 k1
  obtain ⟨y, hy, rfl⟩ := List.mem_map.mp mv
  refine o_ixL (SqL.of hn9.2) ev ?_
  have hyl : y.length ≤ 9 := hsh y hy
  refine o_R (o_L (o_addS (Nat.le_trans (by omega : _ ≤ 16000) big) ?_))
  walk_at "ss"
  refine ⟨(by show 2 ≤ sizeLine; decide), fun ld hld => ?_⟩
  have hlp := D9.2.ne hld
  have D10 := D9.new (o := .lst [.str "many", .str "each"]) hld
  have hl10 : upd H9 ld (.lst [.str "many", .str "each"]) ld = some (.lst [.str "many", .str "each"]) := upd_same
  generalize upd H9 ld (.lst [.str "many", .str "each"]) = H10 at D10 hl10 ⊢
  walk_at "ss"
  refine ⟨p, sc, 2, B + 1 + 1 + 1 + 1 + 1 + 1, rfl, D10.2, by omega, by decide, by decide, fun r11 H11 m0 m1 d11 => ?_⟩
  have hl11 := d11.1 _ _ hlp hl10
  have D11 := D10.trans d11
  obtain ⟨v, mv, ev⟩ := atV (xs := [V.str "many", .str "each"]) m0 m1
  refine o_ixL (SqL.of hl11) ev ?_
  have hv : ∃ u : Str, v = .str u ∧ u ∈ WW := by
    simp only [List.mem_cons, List.mem_nil_iff, or_false] at mv
    rcases mv with rfl | rfl <;> exact ⟨_, rfl, by decide +kernel⟩
  obtain ⟨u, rfl, hu⟩ := hv
  walk_at "ss"
  refine ⟨(by show 4 ≤ sizeLine; decide), fun ta hta => ?_⟩
  exact q ta u lo hi _ _ hu hlo0 hlo hhi (by rw [app_len]; omega) upd_same ((D11.new hta).mono (by omega))
end
/-! ### forms drawn -/
theorem AllF.snoc {P : V → Str → Nat → Prop} {v : V} {S : Str} {j : Nat} (h : P v S j) : ∀ {us : List V} {Ss : List Str} {k : Nat}, AllF P us Ss k → AllF P (us ++ [v]) (Ss ++ [S]) (k + j)
  | [], [], k, e => by
    have e : k = 0 := e
    exact ⟨j, 0, h, rfl, by omega⟩
  | u :: us, T :: Ss, k, ⟨i, m, h1, h2, e⟩ => ⟨i, m + j, h1, AllF.snoc h h2, by omega⟩
  | [], T :: Ss, k, e => e.elim
  | u :: us, [], k, e => e.elim
theorem Keep2.of {p r : Addr} {H H' : Hp} (k : Keep p H H') : Keep2 p r H H' := fun b o n _ h => k b o n h
theorem Keep2.trans {p r : Addr} {H H1 H2 : Hp} (a : Keep2 p r H H1) (b : Keep2 p r H1 H2) : Keep2 p r H H2 := fun c o n m h => b c o n m (a c o n m h)
theorem Keep2.put {p r : Addr} {H : Hp} (o : HO) : Keep2 p r H (upd H r o) := fun b o n m h => by rw [upd_ne m]; exact h
theorem Keep2.tk {p r : Addr} {H H' : Hp} {xs ys : List V} (k : Keep2 p r H H') (hp : H p = some (.lst xs)) (hr : H r = some (.lst ys)) : TK H H' := fun b zs h => k _ _ (fun z => by rw [z, hp] at h; cases h) (fun z => by rw [z, hr] at h; cases h) h
theorem Pen.at {K : PySem.W.Frag} {H : Hp} {p sc : Addr} {B : Int} (h : Pen K H p sc B) : ∃ xs, H p = some (.lst xs) := by
  obtain ⟨ns, k, l, hp, _⟩ := h
  exact ⟨_, hp⟩
section
variable {P : Program} {w : World} {K : PySem.W.Frag} {mg : Str → Option Value} {base : Heap} {t : Adr}
theorem step_form (T : Txt w K mg t) {n : Nat} (G : FnOk P w K mg base CX0 1 t.a_take t.d_take ["_law_pen_here", "_law_most"] (sp_take K)) (G2 : FnOk P w K mg base CX0 4 t.a_tip t.d_tip ["_law_pen_here", "_law_names_here", "_law_free"] (sp_tip K)) (G3 : FnOk P w K mg base CX0 (4 + n) t.a_form t.d_form ["_law_pen_here", "_law_names_here", "_law_room", "_law_deep", "_law_free"] (sp_form K n)) (G4 : FnOk P w K mg base CX0 2 t.a_count t.d_count ["_law_pen_here", "_law_names_here"] (sp_count K)) :
    FnOk P w K mg base CX0 (4 + (n + 1)) t.a_form t.d_form ["_law_pen_here", "_law_names_here", "_law_room", "_law_deep", "_law_free"] (sp_form K (n + 1)) := by
  refine T.F_form.okJ (k := 4 + n) sc_form (fun vs H Q E h => ?_) (fun cdv A outer s H vs Q E hr h => ⟨_, der_form T G G2 G3 G4 hr, ?_⟩)
  · obtain ⟨p, sc, na, ra, ns, B, R, d, fr, rfl, _⟩ := h
    rfl
  obtain ⟨p, sc, na, ra, ns, B, R, d, fr, rfl, hn1, hdn, hp, hR0, hR, hB, hn, hne, hsh, hnl, hrp, hrn, hrs, hra, q⟩ := h
  have hB' : B < 2 ^ 57 - 10000 := by omega
  unfold rd_form
  walk_at "ss"
  refine ⟨p, sc, 10, B, rfl, hp, by omega, by decide, by decide, fun way H1 a0 a1 d1 => ?_⟩
  have hn1' := hn.keep d1.1
  have hr1 := d1.1 _ _ hrp hra
  have tc : ∀ v T' H2, (∀ n, Fv (n + 1) H2 v T' 1) → Drawn K p sc (B + 1 + 40) H1 H2 → Q v H2 := fun v T' H2 hF d2 =>
    q v T' 1 R H2 (hF n) hR0 (by omega) (d2.1 _ _ hrp hr1) (Keep2.of (d1.1.trans d2.1)) (d2.2.mono (by omega))
  walk_at "ss"
  refine ite3 (fun e1 => ?_) (fun e1 => ?_)
  · walk_at "ss"
    exact ⟨p, sc, na, ns, B + 1, fr, rfl, d1.2, by omega, hn1', hne, hsh, hnl, tc⟩
  walk_at "ss"
  refine ite3 (fun e2 => ?_) (fun e2 => ?_)
  · walk_at "ss"
    exact ⟨p, sc, na, ns, B + 1, fr, rfl, d1.2, by omega, hn1', hne, hsh, hnl, tc⟩
  walk_at "ss"
  refine o_ixL (SqL.of hr1) (v := .int R) (atI_nat (j := 0) rfl) ?_
  walk_at "ss"
  refine ite3 (fun e3 => ?_) (fun e3 => ?_)
  · walk_at "ss"
    exact ⟨p, sc, na, ns, B + 1, fr, rfl, d1.2, by omega, hn1', hne, hsh, hnl, tc⟩
  have hd2 := of_decide_eq_false e2
  have hR1 := of_decide_eq_false e3
  clear tc
  walk_at "ss"
  refine ite3 (fun e4 => ?_) (fun e4 => ?_)
  · -- not
    walk_at "ss"
    refine o_ixL (SqL.of hr1) (v := .int R) (atI_nat (j := 0) rfl) ?_
    walk_at "ss"
    refine ⟨ra, _, _, 0, rfl, rfl, hr1, rfl, ?_⟩
    walk_at "ss"
    refine ⟨p, sc, na, ra, ns, B + 1, R - 1, d - 1, fr, rfl, by omega, by omega, d1.2.room hrp hrs, by omega, by omega, by omega, ⟨hn1'.1, by rw [upd_ne (Ne.symm hrn)]; exact hn1'.2⟩, hne, hsh, hnl, hrp, hrn, hrs, upd_same, fun v T' k R' H3 hF hR0' hk hr3 k3 p3 => ?_⟩
    walk_at "ss"
    refine ⟨(by show 2 ≤ sizeLine; decide), fun ta hta => ?_⟩
    have s4 := Same.new (.tup [.str "not", v]) hta
    exact q _ _ (k + 1) R' _ (.inr ⟨"not", _, .inr (.inl ⟨rfl, ta, v, T', k, rfl, upd_same, Fv.keep (Same.tk s4) _ _ _ _ hF, rfl, rfl⟩), rfl⟩) hR0' (by omega) (s4 _ _ hr3) ((((Keep2.of d1.1).trans (Keep2.put _)).trans k3).trans (Keep2.of s4.keep)) ((p3.same s4).mono (by omega))
  walk_at "s"
  with_reducible refine i_seqG fun N eN => ?_
  have rest : N [some (.ref p), some (.ref na), some (.ref ra), some (.int d), some (.bl fr), some (.int way), none, none] H1 := by
    rw [eN]
    walk_at "ss"
    refine ⟨p, sc, 7, B + 1, rfl, d1.2, by omega, by decide, by decide, fun r2 H2 b0 b1 d2 => ?_⟩
    have hn2 := hn1'.keep d2.1
    have hr2 := d2.1 _ _ hrp hr1
    have D2 := (d1.trans d2).mono (C := B + 2) (by omega)
    walk_at "ss"
    refine o_ixL (SqL.of hr2) (v := .int R) (atI_nat (j := 0) rfl) ?_
    walk_at "ss"
    refine ⟨r2, R, rfl, ?_⟩
    have hm : ∃ m : Nat, (if R < r2 then R else r2) = (m : Int) ∧ m ≤ 6 ∧ (m : Int) ≤ R := by
      refine ⟨(if R < r2 then R else r2).toNat, ?_, ?_, ?_⟩ <;> split <;> omega
    obtain ⟨m, em, hm6, hmR⟩ := hm
    rw [em]
    walk_at "ss"
    refine o_ixL (SqL.of hr2) (v := .int R) (atI_nat (j := 0) rfl) ?_
    walk_at "ss"
    refine ⟨ra, _, _, 0, rfl, rfl, hr2, rfl, ?_⟩
    have hr3 : upd H2 ra (.lst [.int (R - m)]) ra = some (.lst [.int (R - m)]) := upd_same
    have k3 : Keep2 p ra H (upd H2 ra (.lst [.int (R - m)])) := (Keep2.of D2.1).trans (Keep2.put _)
    have p3 : Pen K (upd H2 ra (.lst [.int (R - m)])) p sc (B + 2) := D2.2.room hrp hrs
    have hn3 : Txts p (upd H2 ra (.lst [.int (R - m)])) na ns := ⟨hn2.1, by rw [upd_ne (Ne.symm hrn)]; exact hn2.2⟩
    walk_at "ss"
    change tComp _ _ _ _ _ (upd H2 ra (.lst [.int (R - m)])) _
    generalize upd H2 ra (.lst [.int (R - m)]) = H3 at hr3 k3 p3 hn3 ⊢
    refine c_rngI m (fun i acc H' => ∃ (Ss : List Str) (k : Nat) (Ri : Int), acc.length = i ∧ AllF (Fv n H') acc Ss k ∧ 0 ≤ Ri ∧ (k : Int) + Ri ≤ i + (R - m) ∧ H' ra = some (.lst [.int Ri]) ∧ Keep2 p ra H H' ∧ Txts p H' na ns ∧ Pen K H' p sc (B + 2 + 60 * k)) (by omega) (fun Rr h => ?_) ⟨[], 0, R - m, rfl, rfl, by omega, by omega, hr3, k3, hn3, p3.mono (by omega)⟩ ?_ ?_ ?_
    · walk_at "ss"
      exact h
    · rintro i acc H' hi ⟨Ss, k, Ri, hl, _⟩
      omega
    · rintro i acc H' C hi ⟨Ss, k, Ri, hl, hA, hRi, hk, hr', k', hn', p'⟩ hC
      walk_at "ss"
      refine ⟨p, sc, na, ra, ns, B + 2 + 60 * k, Ri, d - 1, fr, rfl, by omega, by omega, p', by omega, by omega, by omega, hn', hne, hsh, hnl, hrp, hrn, hrs, hr', fun v T' k2 R2 H4 hF hR2 hk2 hr4 k4 p4 => ?_⟩
      obtain ⟨xs, hpx⟩ := p'.at
      refine hC _ _ ⟨Ss ++ [T'], k + k2, R2, by rw [List.length_append, hl]; rfl, AllF.snoc hF (hA.imp fun u S j => Fv.keep (k4.tk hpx hr') n u S j), hR2, by omega, hr4, k'.trans k4, ⟨hn'.1, k4 _ _ hn'.1 (Ne.symm hrn) hn'.2⟩, p4.mono (by omega)⟩
    · rintro us H4 ⟨Ss, k, R', hl, hA, hR', hk, hr4, k4, hn4, p4⟩ lb hlb
      have s5 := Same.new (.lst us) hlb
      have hb5 : upd H4 lb (.lst us) lb = some (.lst us) := upd_same
      generalize upd H4 lb (.lst us) = H5 at s5 hb5 ⊢
      walk_at "ss"
      refine ⟨(by show 4 ≤ sizeLine; decide), fun la hla => ?_⟩
      have s6 := s5.trans (Same.new (.lst [.str "all", .str "some", .str "one", .str "none"]) hla)
      have ha6 : upd H5 la (.lst [.str "all", .str "some", .str "one", .str "none"]) la = some (.lst [.str "all", .str "some", .str "one", .str "none"]) := upd_same
      have hb6 := Same.new (.lst [.str "all", .str "some", .str "one", .str "none"]) hla _ _ hb5
      have p6 := p4.same s6
      have hlap := (p4.same s5).ne hla
      have hlbp := p4.ne hlb
      generalize upd H5 la (.lst [.str "all", .str "some", .str "one", .str "none"]) = H6 at s6 ha6 hb6 p6 ⊢
      walk_at "ss"
      refine ⟨p, sc, 4, B + 2 + 60 * k, rfl, p6, by omega, by decide, by decide, fun r7 H7 c0 c1 d7 => ?_⟩
      have ha7 := d7.1 _ _ hlap ha6
      have hb7 := d7.1 _ _ hlbp hb6
      obtain ⟨v, mv, ev⟩ := atV (xs := [V.str "all", .str "some", .str "one", .str "none"]) c0 c1
      refine o_ixL (SqL.of ha7) ev ?_
      have hv : ∃ x : Str, v = .str x ∧ x ∈ WL := by
        simp only [List.mem_cons, List.mem_nil_iff, or_false] at mv
        rcases mv with rfl | rfl | rfl | rfl <;> exact ⟨_, rfl, by decide +kernel⟩
      obtain ⟨x, rfl, hx⟩ := hv
      walk_at "ss"
      refine ⟨lb, _, rfl, .inl ⟨SqL.of hb7, fun tb htb => ?_⟩⟩
      walk_at "ss"
      refine ⟨(by show 2 ≤ sizeLine; decide), fun ta hta => ?_⟩
      have s8 := (Same.new (.tup us) htb).trans (Same.new (.tup [.str x, .ref tb]) hta)
      obtain ⟨xs, hpx⟩ := p6.at
      have tk : TK H4 (upd (upd H7 tb (.tup us)) ta (.tup [.str x, .ref tb])) := fun b zs h => s8 _ _ (Keep.tk d7.1 hpx b zs (s6 _ _ h))
      refine q _ _ (k + 1) R' _ (.inr ⟨x, _, .inr (.inr (.inl ⟨hx, ta, tb, us, Ss, k, rfl, upd_same, Same.new _ hta _ _ upd_same, hA.imp fun u S j => Fv.keep tk n u S j, by omega, rfl, rfl⟩)), rfl⟩) hR' (by omega) (s8 _ _ (d7.1 _ _ hrp (s6 _ _ hr4))) (((k4.trans (Keep2.of s6.keep)).trans (Keep2.of d7.1)).trans (Keep2.of s8.keep)) ((d7.2.same s8).mono (by omega))
  walk_at "ss"
  refine ite3 (fun e5 => ?_) (fun e5 => ?_)
  · cases fr with
    | false =>
      walk_at "ss"
      exact rest
    | true =>
      clear rest eN
      walk_at "ss"
      refine o_ixL (SqL.of hr1) (v := .int R) (atI_nat (j := 0) rfl) ?_
      walk_at "ss"
      refine ⟨ra, _, _, 0, rfl, rfl, hr1, rfl, ?_⟩
      have hr2 : upd H1 ra (.lst [.int (R - 1)]) ra = some (.lst [.int (R - 1)]) := upd_same
      have k2 : Keep2 p ra H (upd H1 ra (.lst [.int (R - 1)])) := (Keep2.of d1.1).trans (Keep2.put _)
      have p2 : Pen K (upd H1 ra (.lst [.int (R - 1)])) p sc (B + 1) := d1.2.room hrp hrs
      have hn2 : Txts p (upd H1 ra (.lst [.int (R - 1)])) na ns := ⟨hn1'.1, by rw [upd_ne (Ne.symm hrn)]; exact hn1'.2⟩
      walk_at "ss"
      refine ⟨p, sc, na, ns, B + 1, rfl, p2, by omega, hn2, hne, hsh, hnl, fun ca cw lo hi st H3 hcw hlo0 hlo hhi hst hca d3 => ?_⟩
      have hr3 := d3.1 _ _ hrp hr2
      walk_at "ss"
      refine ⟨p, sc, na, ra, ns, B + 1 + 10, R - 1, d - 1, false, rfl, by omega, by omega, d3.2, by omega, by omega, by omega, hn2.keep d3.1, hne, hsh, hnl, hrp, hrn, hrs, hr3, fun v T' k R' H4 hF hR' hk hr4 k4 p4 => ?_⟩
      obtain ⟨xs, hpx⟩ := d3.2.at
      have hca4 := k4.tk hpx hr3 _ _ hca
      walk_at "ss"
      refine ⟨(by show 1 ≤ sizeLine; decide), fun tb htb => ?_⟩
      have s5 := Same.new (.tup [v]) htb
      refine o_R (o_R (o_R ⟨ca, tb, _, _, rfl, rfl, SqT.of (s5 _ _ hca4), SqT.of upd_same, by simp, (by show 5 ≤ sizeLine; decide), fun z => (by simp at z), fun _ ta hta => ?_⟩))
      have s6 := s5.trans (Same.new (.tup [.str cw, .int lo, hiV hi, .str st, v]) hta)
      exact q _ _ (k + 1) R' _ (.inr ⟨cw, _, .inr (.inr (.inr ⟨hcw, ta, lo, hi, st, v, T', k, rfl, upd_same, hlo0, hlo, hhi, hst, Fv.keep (Same.tk s6) _ _ _ _ hF, rfl, rfl⟩)), rfl⟩) hR' (by omega) (s6 _ _ hr4) (((k2.trans (Keep2.of d3.1)).trans k4).trans (Keep2.of s6.keep)) ((p4.same s6).mono (by omega))
  · walk_at "ss"
    exact rest
theorem ok_form (T : Txt w K mg t) (G : FnOk P w K mg base CX0 1 t.a_take t.d_take ["_law_pen_here", "_law_most"] (sp_take K)) (G2 : FnOk P w K mg base CX0 4 t.a_tip t.d_tip ["_law_pen_here", "_law_names_here", "_law_free"] (sp_tip K)) (G4 : FnOk P w K mg base CX0 2 t.a_count t.d_count ["_law_pen_here", "_law_names_here"] (sp_count K)) :
    ∀ n, FnOk P w K mg base CX0 (4 + n) t.a_form t.d_form ["_law_pen_here", "_law_names_here", "_law_room", "_law_deep", "_law_free"] (sp_form K n)
  | 0 => FnOk.no (k := 3) T.F_form sc_form fun vs H Q E h => by
    obtain ⟨p, sc, na, ra, ns, B, R, d, fr, _, h1, _⟩ := h
    exact absurd h1 (by decide)
  | n + 1 => step_form T G G2 (ok_form T G G2 G4 n) G4
end
/-! ### the law -/
section
variable {P : Program} {w : World} {K : PySem.W.Frag} {mg : Str → Option Value} {base : Heap} {t : Adr}
theorem ok_law (T : Txt w K mg t) (G1 : FnOk P w K mg base CX0 1 t.a_pen t.d_pen ["_law_script"] (sp_pen K)) (G2 : FnOk P w K mg base CX0 2 t.a_names t.d_names ["_law_pen_here", "_law_many"] (sp_names K)) (G3 : FnOk P w K mg base CX0 13 t.a_form t.d_form ["_law_pen_here", "_law_names_here", "_law_room", "_law_deep", "_law_free"] (sp_form K 9)) (G4 : FnOk P w K mg base CX0 1 t.a_take t.d_take ["_law_pen_here", "_law_most"] (sp_take K)) (G5 : FnOk P w K mg base CX0 10 t.a_text t.d_text ["_law_form_here"] (sp_text K 9)) (G6 : FnOk P w K mg base CX0 20 t.a_show_form t.d_show_form ["form"] (sp_show_form K 9)) :
    FnOk P w K mg base CX0 21 t.a_law t.d_law ["_law_script"] (sp_law K) := by
  refine T.F_law.okJ sc_law (fun vs H Q E h => ?_) (fun cdv A outer s H vs Q E hr h => ⟨_, der_law T G1 G2 G3 G4 G5 G6 hr, ?_⟩)
  · obtain ⟨a, ns, rfl, _⟩ := h
    rfl
  obtain ⟨a, ns, rfl, hS, _, q⟩ := h
  unfold rd_law
  walk_at "ss"
  refine ⟨a, ns, rfl, hS, fun p H1 hp => ?_⟩
  walk_at "ss"
  refine ⟨by decide, by decide, ?_⟩
  refine for_range (fun i σ H' => ∃ (v2 v3 v4 v5 v6 : Option V), σ = [some (.ref a), some (.ref p), v2, v3, v4, v5, v6] ∧ Pen K H' p a (10000 * i))
    ⟨_, _, _, _, _, rfl, hp.mono (by omega)⟩ ?_ ?_
  · rintro i σ H2 hi ⟨v2, v3, v4, v5, v6, rfl, hp2⟩
    have hi4 : (i : Int) < 4 := by omega
    generalize eB : 10000 * (i : Int) = B at hp2
    have hB : B ≤ 30000 := by omega
    walk_at "ss"
    refine ⟨p, a, 6, B, rfl, hp2, by omega, by decide, by decide, fun na xs H3 hxl hsh hT3 d3 => ?_⟩
    have hxne : xs ≠ [] := fun z => by rw [z] at hxl; simp at hxl
    walk_at "ss"
    refine ⟨(by show 3 ≤ sizeLine; decide), fun la hla => ?_⟩
    have hlap := d3.2.ne hla
    have D4 := (Drawn.refl d3.2).new (o := .lst [.int 3, .int 12, .int 39]) hla
    have hl4 : upd H3 la (.lst [.int 3, .int 12, .int 39]) la = some (.lst [.int 3, .int 12, .int 39]) := upd_same
    generalize upd H3 la (.lst [.int 3, .int 12, .int 39]) = H4 at D4 hl4 ⊢
    walk_at "ss"
    refine ⟨p, a, 3, B + 60, rfl, D4.2, by omega, by decide, by decide, fun r5 H5 c0 c1 d5 => ?_⟩
    have hl5 := d5.1 _ _ hlap hl4
    obtain ⟨v, mv, ev⟩ := atV (xs := [V.int 3, .int 12, .int 39]) c0 c1
    refine o_ixL (SqL.of hl5) ev ?_
    have hv : ∃ R : Int, v = .int R ∧ 0 ≤ R ∧ R ≤ 39 := by
      simp only [List.mem_cons, List.mem_nil_iff, or_false] at mv
      rcases mv with rfl | rfl | rfl <;> exact ⟨_, rfl, by omega, by omega⟩
    obtain ⟨R, rfl, hR0, hR⟩ := hv
    clear mv ev
    have hT5 := (hT3.keep D4.1).keep d5.1
    walk_at "ss"
    refine ⟨(by show 1 ≤ sizeLine; decide), fun ra hra => ?_⟩
    have hrp := d5.2.ne hra
    have hrs := d5.2.apart hra
    have hrn : ra ≠ na := Ne.symm (ne_of_none hT5.2 hra)
    have D6 := (Drawn.refl d5.2).new (o := .lst [.int R]) hra
    have hr6 : upd H5 ra (.lst [.int R]) ra = some (.lst [.int R]) := upd_same
    generalize upd H5 ra (.lst [.int R]) = H6 at D6 hr6 ⊢
    walk_at "ss"
    refine ⟨(by show 2 ≤ sizeLine; decide), fun lb hlb => ?_⟩
    have hlbp := D6.2.ne hlb
    have D7 := D6.new (o := .lst [.int 3, .int 8]) hlb
    have hl7 : upd H6 lb (.lst [.int 3, .int 8]) lb = some (.lst [.int 3, .int 8]) := upd_same
    have hr7 := Same.new (.lst [.int 3, .int 8]) hlb _ _ hr6
    generalize upd H6 lb (.lst [.int 3, .int 8]) = H7 at D7 hl7 hr7 ⊢
    walk_at "ss"
    refine ⟨p, a, 2, B + 60 + 1, rfl, D7.2, by omega, by decide, by decide, fun r8 H8 f0 f1 d8 => ?_⟩
    have hl8 := d8.1 _ _ hlbp hl7
    have hr8 := d8.1 _ _ hrp hr7
    obtain ⟨v, mv, ev⟩ := atV (xs := [V.int 3, .int 8]) f0 f1
    refine o_ixL (SqL.of hl8) ev ?_
    have hv : ∃ d : Int, v = .int d ∧ d ≤ 8 := by
      simp only [List.mem_cons, List.mem_nil_iff, or_false] at mv
      rcases mv with rfl | rfl <;> exact ⟨_, rfl, by omega⟩
    obtain ⟨d, rfl, hd⟩ := hv
    clear mv ev
    have hT8 := (hT5.keep D7.1).keep d8.1
    walk_at "ss"
    refine ⟨p, a, na, ra, xs, B + 60 + 1 + 1, R, d, true, rfl, by decide, by omega, d8.2, hR0, hR, by omega, hT8, hxne, hsh, by omega, hrp, hrn, hrs, hr8, fun v T' k R' H9 hF hR' hk _ _ p9 => ?_⟩
    walk_at "ss"
    refine ⟨v, T', k, rfl, hF, by omega, fun H10 s10 => ?_⟩
    walk_at "ss"
    refine ⟨v, T', k, rfl, Fv.keep (Same.tk s10) _ _ _ _ hF, by omega, fun H11 s11 => ?_⟩
    walk_at "ss"
    refine isi_S (p := 0) (d := .str T') rfl ?_
    walk_at "ss"
    refine iteFr (by simp) ?_
    walk_at "ss"
    refine ⟨v, T', k, rfl, Fv.keep (Same.tk (s10.trans s11)) _ _ _ _ hF, by omega, fun H12 s12 => ?_⟩
    walk_at "ss"
    refine iteFr (by simp) ?_
    walk_at "ss"
    exact ⟨_, _, _, _, _, rfl, (p9.same ((s10.trans s11).trans s12)).mono (by omega)⟩
  · rintro σ H2 ⟨v2, v3, v4, v5, v6, rfl, hp2⟩
    walk_at "ss"
    exact q H2
end
theorem all_ok {P : Program} {w : World} {K : PySem.W.Frag} {mg : Str → Option Value} {base : Heap} {t : Adr} (T : Txt w K mg t) : FnOk P w K mg base CX0 21 t.a_law t.d_law ["_law_script"] (sp_law K) := by
  have tk := ok_take (P := P) (w := w) (base := base) T
  have nu := ok_number T tk
  have nd := ok_node T tk nu
  have tp := ok_tip T tk nu nd
  have kd := ok_kind_of (P := P) (w := w) (base := base) T
  exact ok_law T (ok_pen T) (ok_names T tk) (ok_form T tk tp (ok_count T tk) 9) tk (ok_text T (ok_node_text T) (ok_inner T) 9) (ok_show_form T (ok_length_of T) (ok_show_node T kd) (ok_show_high T) (ok_straight_parts T) 9)
end K18
end
open PySem PySem.W PyProof.Rows
set_option maxRecDepth 100000 in
set_option maxHeartbeats 0 in
theorem PySem.Challenge.cw_webshapes_k18_forms_shown_holds : PySem.Challenge.rw_webshapes_k18_forms_shown.Holds := by
  w_on; o_law; k_head; (case hw => w_witness2)
  k_fill
  refine L2.walk_ofK (l := PySem.Challenge.rw_webshapes_k18_forms_shown) (n := 63) (k := 21) (x := "_law_script") (CX := L2.CX0) (sp := K18.sp_law) rfl (by decide) rfl ⟨rfl, by decide, by decide, rfl⟩ (fun w h Y => PySem.W.kIn_of Y) ?F ?S ?C
  case F =>
    intro w mg fa h KX G hmg
    have TT : ∃ t : K18.Adr, (∀ (s : Shared) (u : Value), BindsTo s t.d_law ⟨[u], []⟩ [("_law_script", u)]) ∧ K18.Txt w (L2.KOf KX) mg t := by
      dsimp only [L2.KOf]
      refine' K18.txt_mk KX G ?a0 ?l0 ?c0 ?k0 ?a1 ?l1 ?c1 ?k1 ?a2 ?l2 ?c2 ?k2 ?a3 ?l3 ?c3 ?k3 ?a4 ?l4 ?c4 ?k4 ?a5 ?l5 ?c5 ?k5 ?a6 ?l6 ?c6 ?k6 ?a7 ?l7 ?c7 ?k7 ?a8 ?l8 ?c8 ?k8 ?a9 ?l9 ?c9 ?k9 ?a10 ?l10 ?c10 ?k10 ?a11 ?l11 ?c11 ?k11 ?a12 ?l12 ?c12 ?k12 ?a13 ?l13 ?c13 ?k13 ?a14 ?l14 ?c14 ?k14 ?a15 ?l15 ?c15 ?k15 ?a16 ?l16 ?c16 ?k16 ?a17 ?l17 ?c17 ?k17 ?a18 ?l18 ?c18 ?k18 ?z_abs ?z_int ?z_isinstance ?z_len ?z_list ?z_min ?z_range ?z_sorted ?z_str ?z_tuple ?g_LENGTHS ?d_LENGTHS ?q_LENGTHS ?y_LENGTHS ?v_LENGTHS_0 ?v_LENGTHS_1 ?v_LENGTHS_2 ?v_LENGTHS_3 ?v_LENGTHS_4 ?v_LENGTHS_5 ?v_LENGTHS_6 ?v_LENGTHS_7 ?v_LENGTHS_8 ?v_LENGTHS_9 ?v_LENGTHS_10 ?v_LENGTHS_11 ?v_LENGTHS_12 ?v_LENGTHS_13 ?v_LENGTHS_14 ?v_LENGTHS_15 ?g_LISTS ?s_LISTS ?g_WALKS ?s_WALKS
      (case a0 => k_is)
      (case l0 => k_is)
      (case c0 => k_is)
      (case k0 => k_is)
      (case a1 => k_is)
      (case l1 => k_is)
      (case c1 => k_is)
      (case k1 => k_is)
      (case a2 => k_is)
      (case l2 => k_is)
      (case c2 => k_is)
      (case k2 => k_is)
      (case a3 => k_is)
      (case l3 => k_is)
      (case c3 => k_is)
      (case k3 => k_is)
      (case a4 => k_is)
      (case l4 => k_is)
      (case c4 => k_is)
      (case k4 => k_is)
      (case a5 => k_is)
      (case l5 => k_is)
      (case c5 => k_is)
      (case k5 => k_is)
      (case a6 => k_is)
      (case l6 => k_is)
      (case c6 => k_is)
      (case k6 => k_is)
      (case a7 => k_is)
      (case l7 => k_is)
      (case c7 => k_is)
      (case k7 => k_is)
      (case a8 => k_is)
      (case l8 => k_is)
      (case c8 => k_is)
      (case k8 => k_is)
      (case a9 => k_is)
      (case l9 => k_is)
      (case c9 => k_is)
      (case k9 => k_is)
      (case a10 => k_is)
      (case l10 => k_is)
      (case c10 => k_is)
      (case k10 => k_is)
      (case a11 => k_is)
      (case l11 => k_is)
      (case c11 => k_is)
      (case k11 => k_is)
      (case a12 => k_is)
      (case l12 => k_is)
      (case c12 => k_is)
      (case k12 => k_is)
      (case a13 => k_is)
      (case l13 => k_is)
      (case c13 => k_is)
      (case k13 => k_is)
      (case a14 => k_is)
      (case l14 => k_is)
      (case c14 => k_is)
      (case k14 => k_is)
      (case a15 => k_is)
      (case l15 => k_is)
      (case c15 => k_is)
      (case k15 => k_is)
      (case a16 => k_is)
      (case l16 => k_is)
      (case c16 => k_is)
      (case k16 => k_is)
      (case a17 => k_is)
      (case l17 => k_is)
      (case c17 => k_is)
      (case k17 => k_is)
      (case a18 => k_is)
      (case l18 => k_is)
      (case c18 => k_is)
      (case k18 => k_is)
      (case z_abs => k_is)
      (case z_int => k_is)
      (case z_isinstance => k_is)
      (case z_len => k_is)
      (case z_list => k_is)
      (case z_min => k_is)
      (case z_range => k_is)
      (case z_sorted => k_is)
      (case z_str => k_is)
      (case z_tuple => k_is)
      (case g_LENGTHS => k_is)
      (case d_LENGTHS => k_is)
      (case q_LENGTHS => exact ⟨⟨_, _, rfl, rfl⟩, ⟨⟨_, _, rfl, rfl⟩, ⟨⟨_, _, rfl, rfl⟩, ⟨⟨_, _, rfl, rfl⟩, ⟨⟨_, _, rfl, rfl⟩, ⟨⟨_, _, rfl, rfl⟩, ⟨⟨_, _, rfl, rfl⟩, ⟨⟨_, _, rfl, rfl⟩, ⟨⟨_, _, rfl, rfl⟩, ⟨⟨_, _, rfl, rfl⟩, ⟨⟨_, _, rfl, rfl⟩, ⟨⟨_, _, rfl, rfl⟩, ⟨⟨_, _, rfl, rfl⟩, ⟨⟨_, _, rfl, rfl⟩, ⟨⟨_, _, rfl, rfl⟩, ⟨⟨_, _, rfl, rfl⟩, trivial⟩⟩⟩⟩⟩⟩⟩⟩⟩⟩⟩⟩⟩⟩⟩⟩)
      (case y_LENGTHS => decide)
      (case v_LENGTHS_0 => k_is)
      (case v_LENGTHS_1 => k_is)
      (case v_LENGTHS_2 => k_is)
      (case v_LENGTHS_3 => k_is)
      (case v_LENGTHS_4 => k_is)
      (case v_LENGTHS_5 => k_is)
      (case v_LENGTHS_6 => k_is)
      (case v_LENGTHS_7 => k_is)
      (case v_LENGTHS_8 => k_is)
      (case v_LENGTHS_9 => k_is)
      (case v_LENGTHS_10 => k_is)
      (case v_LENGTHS_11 => k_is)
      (case v_LENGTHS_12 => k_is)
      (case v_LENGTHS_13 => k_is)
      (case v_LENGTHS_14 => k_is)
      (case v_LENGTHS_15 => k_is)
      (case g_LISTS => k_is)
      (case s_LISTS => k_is)
      (case g_WALKS => k_is)
      (case s_WALKS => k_is)
    obtain ⟨t, hb, T⟩ := TT
    have e : some (Value.ref fa) = some (Value.ref t.a_law) := hmg.symm.trans T.m_law
    have e' : fa = t.a_law := by injection e with e; injection e
    subst e'
    exact ⟨t.d_law, hb, fun base _ _ => K18.all_ok T⟩
  case S => exact fun K H a ns hl _ hS => ⟨a, ns, rfl, hS, hl, fun _ => rfl⟩
  case C => exact fun _ _ _ _ z => z
