import PyProof.Rows.All
import Wide.All
import OpenK.AllK
import Wide.FinOn
import PyProof.EqAt
import PyProof.EqKinds
import PyProof.NeKinds
import PyProof.TupleCall
import PyProof.CompFree
import PyProof.CompMap
import PyProof.ReprRoads
import PyProof.CallFns
import PyProof.ReprBulk
import PyProof.CompUse
import KE.KRevSl
import PyProof.Rows.SetFrom
import PyProof.AttrMissSeq
import KE.KDictOf
import PyProof.DictUpdate
import PyProof.ListRange
import PyProof.Rows.SumAny
import PyProof.Rows.SortRev
import PyProof.Rows.CallKwBuiltin
import PyProof.ListMulAny
import PyProof.TupleOps
import PyProof.ZipIter
import PyProof.Draws
import PyProof.TupleIter
import PyProof.EnumMake
import PyProof.DictCompW
import PyProof.DictItems
import PyProof.DictItemsLoops
import PyProof.ExcAttrAll.ValueError
import KE.KTryMore
import KE.KLam
import KE.KTupSum
import KE.KMinKey
import PyProof.FactsAll.tuple_0
import PyProof.FactsAll.tuple_2
import PyProof.FactsAll.tuple_3
import PySem.Challenge.RW_emptierbox_k55_where_the_order_matters
set_option Elab.async false
set_option linter.all false
set_option maxRecDepth 100000
set_option maxHeartbeats 4000000
namespace MA
end MA

set_option Elab.async false
set_option linter.all false
set_option maxRecDepth 100000
set_option maxHeartbeats 4000000
/-! THE HAND LAYER, for ints, bools, texts, own classes, LISTS and tuples (index, slices, in, append, pop ..), calls, loops. Paste it whole ahead of your own text; what your proof does not reach may be deleted. -/
namespace L2
open PySem PySem.Spec PyProof.Rows

/-- a key: an int or a str -/
abbrev Key := Sum Int Str
def keyIs : Key → Value → Bool
  | .inl k, v => Value.isInt k v
  | .inr x, v => Value.isStrOf x v
def keyH (w : World) : Key → Int
  | .inl k => hashInt k
  | .inr x => hashStr w x
theorem keyIs_shape : ∀ {k : Key} {v : Value}, keyIs k v = true → (∃ i t, k = Sum.inl i ∧ v = Value.int i t) ∨ (∃ x t, k = Sum.inr x ∧ v = Value.str x t)
  | .inl i, v, h => by
    obtain ⟨t, e⟩ := Value.isInt_shape (k := i) (v := v) h
    exact .inl ⟨i, t, rfl, e⟩
  | .inr x, v, h => by
    obtain ⟨t, e⟩ := Value.isStrOf_shape (x := x) (v := v) h
    exact .inr ⟨x, t, rfl, e⟩
theorem keyIs_int (i : Int) (t : Tok) : keyIs (.inl i) (.int i t) = true := by simp [keyIs, Value.isInt]
theorem keyIs_str (x : Str) (t : Tok) : keyIs (.inr x) (.str x t) = true := by simp [keyIs, Value.isStrOf]
theorem key_ll (a b : Int) : decide ((Sum.inl a : Key) = Sum.inl b) = (a == b) := by
  by_cases e : a = b
  · subst e; simp
  · have h : ¬ (Sum.inl a : Key) = Sum.inl b := fun q => e (Sum.inl.inj q)
    rw [decide_eq_false h]
    exact (beq_eq_false_iff_ne.mpr e).symm
theorem key_rr (a b : Str) : decide ((Sum.inr a : Key) = Sum.inr b) = decide (a = b) := by
  by_cases e : a = b
  · subst e; simp
  · have h : ¬ (Sum.inr a : Key) = Sum.inr b := fun q => e (Sum.inr.inj q)
    rw [decide_eq_false h, decide_eq_false e]
theorem key_lr (a : Int) (b : Str) : decide ((Sum.inl a : Key) = Sum.inr b) = false := decide_eq_false (fun q => nomatch q)
theorem key_rl (a : Str) (b : Int) : decide ((Sum.inr a : Key) = Sum.inl b) = false := decide_eq_false (fun q => nomatch q)

def mixKind (prog : Program) (w : World) : PySem.KeyKind prog w Key where
  is := keyIs
  hash := keyH w
  inj := fun v a b ha hb => by
    rcases keyIs_shape ha with ⟨i, t, rfl, rfl⟩ | ⟨x, t, rfl, rfl⟩
    · rcases keyIs_shape hb with ⟨j, u, rfl, e⟩ | ⟨y, u, rfl, e⟩
      · injection e with e1 _; rw [e1]
      · exact nomatch e
    · rcases keyIs_shape hb with ⟨j, u, rfl, e⟩ | ⟨y, u, rfl, e⟩
      · exact nomatch e
      · injection e with e1 _; rw [e1]
  byValue := fun k v h => by
    rcases keyIs_shape h with ⟨i, t, rfl, rfl⟩ | ⟨x, t, rfl, rfl⟩ <;> rfl
  pyHash := fun hv h => by
    rcases keyIs_shape hv with ⟨i, t, rfl, rfl⟩ | ⟨x, t, rfl, rfl⟩
    · exact wpAny_pyHash_int h
    · exact wpAny_pyHash_str h
  eqBool := fun hu hv h => by
    rcases keyIs_shape hu with ⟨i, t, rfl, rfl⟩ | ⟨x, t, rfl, rfl⟩
    · rcases keyIs_shape hv with ⟨j, u, rfl, rfl⟩ | ⟨y, u, rfl, rfl⟩
      · rw [key_ll] at h; exact wpAny_eqBool_int h
      · rw [key_lr] at h; exact SeqAt.EqAt.int_str i t y u _ _ _ _ h
    · rcases keyIs_shape hv with ⟨j, u, rfl, rfl⟩ | ⟨y, u, rfl, rfl⟩
      · rw [key_rl] at h; exact SeqAt.EqAt.str_int x t j u _ _ _ _ h
      · rw [key_rr] at h; exact wpAny_eqBool_str h
  «strs» := fun k x t v h => by
    rcases keyIs_shape h with ⟨i, u, rfl, e⟩ | ⟨y, u, rfl, e⟩
    · exact nomatch e
    · injection e with e1 _
      subst e1
      cases v <;> rfl

theorem mixKind_int (prog : Program) (w : World) (i : Int) (t : Tok) : (mixKind prog w).is (.inl i) (.int i t) = true := keyIs_int i t
theorem mixKind_str (prog : Program) (w : World) (x : Str) (t : Tok) : (mixKind prog w).is (.inr x) (.str x t) = true := keyIs_str x t
end L2

namespace L2
open PySem PySem.Spec PyProof.Rows

/-- a value, without the heap -/
inductive V where
  | non | bl (b : Bool) | int (i : Int) | str (x : Str) | byt (b : Array UInt8) | flt (b : UInt64) | ref (a : Addr) | ty (n : String)
  deriving DecidableEq

def RelV : V → Value → Prop
  | .non, u => u = Value.none
  | .bl b, u => u = Value.bool b
  | .int i, u => ∃ t, u = Value.int i t
  | .str x, u => ∃ t, u = Value.str x t
  | .byt b, u => ∃ t, u = Value.bytes b t
  | .flt b, u => ∃ t, u = Value.float b t
  | .ref a, u => u = Value.ref a
  | .ty n, u => u = Value.type n

abbrev Vals : List V → List Value → Prop := Paired RelV
theorem Vals.length {xs : List V} {us : List Value} (r : Vals xs us) : xs.length = us.length := Paired.length r
theorem Vals.get : ∀ {xs : List V} {us : List Value} {i : Nat} {x : V}, Vals xs us → xs[i]? = some x → ∃ u, us[i]? = some u ∧ RelV x u
  | _, _, _, _, .nil, e => by simp at e
  | _, _, 0, _, .cons r _, e => by simp at e; subst e; exact ⟨_, rfl, r⟩
  | _, _, i + 1, x, .cons _ t, e => by
    obtain ⟨u, h1, h2⟩ := Vals.get (i := i) (x := x) t (by simpa using e)
    exact ⟨u, by simpa using h1, h2⟩
theorem Vals.set {x : V} {u : Value} (r : RelV x u) : ∀ {xs : List V} {us : List Value} (i : Nat), Vals xs us → Vals (xs.set i x) (us.set i u)
  | _, _, _, .nil => .nil
  | _, _, 0, .cons _ t => .cons r t
  | _, _, i + 1, .cons q t => .cons q (Vals.set r i t)
theorem Vals.append : ∀ {xs ys : List V} {us ws : List Value}, Vals xs us → Vals ys ws → Vals (xs ++ ys) (us ++ ws)
  | _, _, _, _, .nil, s => s
  | _, _, _, _, .cons r t, s => .cons r (Vals.append t s)
theorem Vals.take : ∀ {xs : List V} {us : List Value} (n : Nat), Vals xs us → Vals (xs.take n) (us.take n)
  | _, _, 0, _ => .nil
  | _, _, _ + 1, .nil => .nil
  | _, _, n + 1, .cons r t => .cons r (Vals.take n t)
theorem Vals.drop : ∀ {xs : List V} {us : List Value} (n : Nat), Vals xs us → Vals (xs.drop n) (us.drop n)
  | _, _, 0, r => r
  | _, _, _ + 1, .nil => .nil
  | _, _, n + 1, .cons _ t => Vals.drop n t
def RelO : Option V → Option Value → Prop
  | some v, some u => RelV v u
  | none, none => True
  | _, _ => False
def KV {κ : Type} : List (κ × V) → List (κ × Value) → Prop := Paired fun (p : κ × V) (q : κ × Value) => p.1 = q.1 ∧ RelV p.2 q.2

/-- a key of a dict (00_mix): an int or a text -/
def kV : Key → V
  | .inl i => .int i
  | .inr x => .str x

/-- what stands at a tracked address -/
inductive HO where
  /-- a list -/
  | lst (xs : List V)
  /-- a tuple (never changes) -/
  | tup (xs : List V)
  /-- a dict whose keys are ints and texts; one whose keys are tuples of ints and texts (the empty one is both) -/
  | dK (kvs : List (Key × V)) | dT (kvs : List (List Key × V))
  /-- a set of ints: its members, its size -/
  | set (S : Int → Bool) (n : Nat)
  /-- an instance of the class at C, its dict at dx, its attributes -/
  | ins (C dx : Addr) (fs : List (Str × V))
  /-- the dict of the instance at x -/
  | own (x : Addr)
  /-- the dict of an exception -/
  | xd (fs : List (Str × V))
  /-- a bound method, f of x -/
  | met (f x : Addr)
  /-- a range object lo, lo + 1, .. below hi -/
  | rng (lo hi : Int)
  /-- a thing that is known to the object (the script; a dict while a loop walks it): read, never written while it is so -/
  | frz (o : Obj) (u : HO)
  /-- a code object's table -/
  | tbl (ps : Array Value)
  /-- the table of the lambdas of a def, whose qualname is q -/
  | tab (q : Str)
  /-- any other thing, by what is true of its one object (a def of one's own: SetO a S n := HO.ext fun h => ..) -/
  | ext (φ : Heap → Prop)

abbrev Hp := Addr → Option HO
def upd (H : Hp) (a : Addr) (o : HO) : Hp := fun b => if b = a then some o else H b
theorem upd_same {H : Hp} {a : Addr} {o : HO} : upd H a o a = some o := by unfold upd; rw [if_pos rfl]
theorem upd_ne {H : Hp} {a b : Addr} {o : HO} (h : b ≠ a) : upd H a o b = H b := by unfold upd; rw [if_neg h]
/-- two objects of different content stand apart -/
theorem ne_of {H : Hp} {a b : Addr} {o u : HO} (h : H a = some o) (h' : H b = some u) (d : o ≠ u) : a ≠ b := by
  intro e; subst e; rw [h] at h'; exact d (Option.some.inj h')
theorem ne_of_none {H : Hp} {a b : Addr} {o : HO} (h : H a = some o) (h' : H b = none) : a ≠ b := by
  intro e; subst e; rw [h] at h'; cases h'

/-- a tuple, with no dict of its own -/
def IsTupN (h : Heap) (a : Addr) (items : Array Value) : Prop := ∃ o, h.get? a = some o ∧ o.cls = .type "tuple" ∧ ∃ n, o.data = .seq items n ∧ o.dict = none
theorem IsTupN.tup {h : Heap} {a : Addr} {items : Array Value} (x : IsTupN h a items) : PyProof.Rows.IsTup h a items := let ⟨o, e, c, n, d, _⟩ := x; ⟨o, e, c, n, d⟩
theorem IsTupN.new (h : Heap) (items : Array Value) : IsTupN (h.push { cls := .type "tuple", data := .seq items }) h.objs.size items := ⟨_, Heap.get?_push_size _ rfl, rfl, _, rfl, rfl⟩
theorem IsTupN.lt {h : Heap} {a : Addr} {items : Array Value} (x : IsTupN h a items) : a < h.objs.size := let ⟨_, e, _⟩ := x; Heap.lt_size e

section
variable (P : Program) (w : World)
def ObjOk (H : Hp) (h : Heap) (a : Addr) : HO → Prop
  | .lst xs => xs.length ≤ sizeLine ∧ ∃ (its : List Value) (n : Nat), Vals xs its ∧ h.get? a = some { cls := .type "list", data := .seq its.toArray n }
  | .tup xs => xs.length ≤ sizeLine ∧ ∃ its : List Value, Vals xs its ∧ IsTupN h a its.toArray
  | .dK kvs => kvs.length ≤ sizeLine ∧ (a == sysModules) = false ∧ ∃ vs, KV kvs vs ∧ h.DictOf (mixKind P w) a vs
  | .dT kvs => kvs.length ≤ sizeLine ∧ (a == sysModules) = false ∧ ∃ xs : List (List Key × Addr × Value),
      Paired (fun (p : List Key × V) (q : List Key × Addr × Value) => p.1 = q.1 ∧ H q.2.1 = some (.tup (p.1.map kV)) ∧ RelV p.2 q.2.2) kvs xs ∧
      ∃ o es ep, h.get? a = some o ∧ o.ExactDict ∧ o.data = .dict es ep ∧ es.toList = xs.map (entryOfKey (tupleKind (mixKind P w))) ∧ (xs.map (·.1)).Nodup
  | .set S n => h.SetOf (intKind P w) a S n
  | .ins C dx fs => H dx = some (.own a) ∧ fs.length ≤ 1000 ∧ dx ≠ a ∧ h.get? a = some (PySem.W.instObj C dx) ∧
      ∃ mA, h.Ns1 dx mA ∧ (∀ f, RelO (fs.lookup f) (mA f)) ∧ PySem.Within mA (fs.map (·.1))
  | .own _ => ∃ o, h.get? a = some o
  | .xd fs => ∃ mA, h.Ns1 a mA ∧ ∀ f, RelO (fs.lookup f) (mA f)
  | .rng lo hi => ∃ t u v, h.get? a = some { cls := .type "range", data := .fields #[.int lo t, .int hi u, .int 1 v] }
  | .frz o u => h.get? a = some o ∧ ObjOk H h a u
  | .tbl ps => h.get? a = some { cls := .none, data := .fields ps }
  | .tab q => ∃ ps : Array Value, h.get? a = some { cls := .none, data := .fields ps } ∧ TriplesOk ps.toList ∧ ∀ pos cv, codeAmong pos ps.toList = some cv →
      ∃ c oc vs t, cv = .ref c ∧ H c = some (.frz oc (.own 0)) ∧ oc.data = .fields vs ∧ vs[1]? = some (.str q t)
  | .met f x => h.get? a = some (PySem.W.methodObj (.ref f) (.ref x))
  | .ext φ => φ h ∧ (∃ o, h.get? a = some o) ∧ ∀ h1 h2 : Heap, φ h1 → (∀ o, h1.get? a = some o → h2.get? a = some o) → φ h2
/-- the abstract heap is held -/
def HOk (H : Hp) (h : Heap) : Prop := ∀ a o, H a = some o → ObjOk P w H h a o
end

section
variable {P : Program} {w : World} {H H' : Hp} {h h' : Heap} {a : Addr} {o : HO}
theorem ObjOk.lt (x : ObjOk P w H h a o) : a < h.objs.size := by
  cases o with
  | lst xs => obtain ⟨_, _, _, _, e⟩ := x; exact Heap.lt_size e
  | tup xs => obtain ⟨_, _, _, p⟩ := x; exact p.lt
  | dK kvs => obtain ⟨_, _, _, _, o, _, _, e, _⟩ := x; exact Heap.lt_size e
  | dT kvs => obtain ⟨_, _, _, _, o, _, _, e, _⟩ := x; exact Heap.lt_size e
  | set S n => obtain ⟨o, _, _, _, e, _⟩ := x; exact Heap.lt_size e
  | ins C dx fs => obtain ⟨_, _, _, e, _⟩ := x; exact Heap.lt_size e
  | own y => obtain ⟨_, e⟩ := x; exact Heap.lt_size e
  | xd fs => obtain ⟨_, ⟨_, _, _, e, _⟩, _⟩ := x; exact Heap.lt_size e
  | rng lo hi => obtain ⟨_, _, _, e⟩ := x; exact Heap.lt_size e
  | frz ob u => obtain ⟨e, _⟩ := x; exact Heap.lt_size e
  | tbl ps => exact Heap.lt_size (show h.get? a = some _ from x)
  | tab q => obtain ⟨_, e, _⟩ := x; exact Heap.lt_size e
  | met f y => exact Heap.lt_size (show h.get? a = some _ from x)
  | ext φ => obtain ⟨_, ⟨_, e⟩, _⟩ := x; exact Heap.lt_size e
theorem Paired.mapP {α β : Type} {F G : α → β → Prop} : ∀ {l₁ : List α} {l₂ : List β}, Paired F l₁ l₂ → (∀ a b, F a b → G a b) → Paired G l₁ l₂
  | _, _, .nil, _ => .nil
  | _, _, .cons r t, f => .cons (f _ _ r) (Paired.mapP t f)
/-- what an object's description leans on: its own object, its own dict, the tuples -/
theorem ObjOk.stay (x : ObjOk P w H h a o) (k : ∀ b u, (b = a ∨ H b = some (.own a)) → h.get? b = some u → h'.get? b = some u)
    (ho : ∀ b, H b = some (.own a) → H' b = some (.own a)) (ht : ∀ b xs, H b = some (.tup xs) → H' b = some (.tup xs)) (hz : ∀ b ob, H b = some (.frz ob (.own 0)) → H' b = some (.frz ob (.own 0)) := by exact fun _ _ q => q) : ObjOk P w H' h' a o := by
  induction o with
  | lst xs => obtain ⟨z, its, n, r, e⟩ := x; exact ⟨z, its, n, r, k _ _ (.inl rfl) e⟩
  | tup xs => obtain ⟨z, its, r, ob, e, c⟩ := x; exact ⟨z, its, r, ob, k _ _ (.inl rfl) e, c⟩
  | dK kvs => obtain ⟨z, y, vs, r, ob, es, ep, e, c⟩ := x; exact ⟨z, y, vs, r, ob, es, ep, k _ _ (.inl rfl) e, c⟩
  | dT kvs =>
    obtain ⟨z, y, xs, r, ob, es, ep, e, c⟩ := x
    exact ⟨z, y, xs, Paired.mapP r fun p q z => ⟨z.1, ht _ _ z.2.1, z.2.2⟩, ob, es, ep, k _ _ (.inl rfl) e, c⟩
  | set S n => obtain ⟨ob, es, ep, t, e, c⟩ := x; exact ⟨ob, es, ep, t, k _ _ (.inl rfl) e, c⟩
  | ins C dx fs =>
    obtain ⟨d, z, ne, e, mA, ⟨od, es, ep, e2, c⟩, r⟩ := x
    exact ⟨ho _ d, z, ne, k _ _ (.inl rfl) e, mA, ⟨od, es, ep, k _ _ (.inr d) e2, c⟩, r⟩
  | own y => obtain ⟨ob, e⟩ := x; exact ⟨ob, k _ _ (.inl rfl) e⟩
  | xd fs => obtain ⟨mA, ⟨od, es, ep, e, c⟩, r⟩ := x; exact ⟨mA, ⟨od, es, ep, k _ _ (.inl rfl) e, c⟩, r⟩
  | rng lo hi => obtain ⟨t, u, v, e⟩ := x; exact ⟨t, u, v, k _ _ (.inl rfl) e⟩
  | frz ob u ih => obtain ⟨e, q⟩ := x; exact ⟨k _ _ (.inl rfl) e, ih q⟩
  | tab q =>
    obtain ⟨ps, e, tr, cs⟩ := x
    refine ⟨ps, k a _ (.inl rfl) e, tr, fun pos cv hc => ?_⟩
    obtain ⟨c, oc, vs, t, h1, h2, h3⟩ := cs pos cv hc
    exact ⟨c, oc, vs, t, h1, hz c oc h2, h3⟩
  | tbl ps =>
    have e : h.get? a = some { cls := .none, data := .fields ps } := x
    show h'.get? a = some { cls := .none, data := .fields ps }
    exact k a _ (.inl rfl) e
  | met f y =>
    have e : h.get? a = some (PySem.W.methodObj (.ref f) (.ref y)) := x
    show h'.get? a = some (PySem.W.methodObj (.ref f) (.ref y))
    exact k a _ (.inl rfl) e
  | ext φ => obtain ⟨p, ⟨o, e⟩, st⟩ := x; exact ⟨st _ _ p fun o q => k _ _ (.inl rfl) q, ⟨o, k _ _ (.inl rfl) e⟩, st⟩
theorem HOk.lt (x : HOk P w H h) (e : H a = some o) : a < h.objs.size := (x a o e).lt
theorem HOk.fresh (x : HOk P w H h) (e : h.objs.size ≤ a) : H a = none := by
  cases q : H a with
  | none => rfl
  | some u => exact absurd (Nat.lt_of_lt_of_le (x.lt q) e) (Nat.lt_irrefl _)
/-- every object of the heap is kept -/
theorem HOk.kept (x : HOk P w H h) (k : ∀ b u, h.get? b = some u → h'.get? b = some u) : HOk P w H h' := fun a o e =>
  (x a o e).stay (fun b u _ q => k b u q) (fun _ q => q) fun _ _ q => q
/-- a new object is laid and tracked -/
theorem HOk.laid (x : HOk P w H h) (k : ∀ b u, h.get? b = some u → h'.get? b = some u) (hp : h.objs.size ≤ a) (new : ObjOk P w (upd H a o) h' a o) : HOk P w (upd H a o) h' := fun b u e => by
  have hn := x.fresh hp
  by_cases hb : b = a
  · subst hb; rw [upd_same] at e; cases e; exact new
  · rw [upd_ne hb] at e
    exact (x b u e).stay (fun c v _ q => k c v q) (fun c q => by rw [upd_ne (ne_of_none q hn)]; exact q) (fun c xs q => by rw [upd_ne (ne_of_none q hn)]; exact q) fun c ob q => by rw [upd_ne (ne_of_none q hn)]; exact q
end

/-- what may be read as u: it is u, or a known u -/
def Rd (H : Hp) (a : Addr) (u : HO) : Prop := H a = some u ∨ ∃ o, H a = some (.frz o u)
theorem Rd.ok {P : Program} {w : World} {H : Hp} {h : Heap} {a : Addr} {u : HO} (r : Rd H a u) (x : HOk P w H h) : ObjOk P w H h a u := by
  rcases r with r | ⟨o, r⟩
  · exact x a u r
  · obtain ⟨_, q⟩ := x a _ r
    exact q
/-- what may be written -/
def Mut : Option HO → Prop
  | some (.lst _) => True
  | some (.dK _) => True
  | some (.dT _) => True
  | some (.set _ _) => True
  | some (.ins _ _ _) => True
  | some (.ext _) => True
  | some (.tab _) => True
  | _ => False
section
variable {P : Program} {w : World} {H : Hp} {h h' : Heap} {x e : Addr} {o' : HO}
/-- the object at e is changed: x itself, or the dict of the instance x -/
theorem HOk.write (ok : HOk P w H h) (mu : Mut (H x)) (he : e = x ∨ H e = some (.own x)) (k : ∀ b u, b ≠ e → h.get? b = some u → h'.get? b = some u) (heo : ∃ u, h'.get? e = some u)
    (new : ObjOk P w (upd H x o') h' x o') : HOk P w (upd H x o') h' := fun b u q => by
  have nown : ∀ c y, H c = some (.own y) → c ≠ x := fun c y r z => by subst z; rw [r] at mu; exact mu
  have ntup : ∀ c xs, H c = some (.tup xs) → c ≠ x := fun c xs r z => by subst z; rw [r] at mu; exact mu
  by_cases hb : b = x
  · subst hb; rw [upd_same] at q; cases q; exact new
  · rw [upd_ne hb] at q
    by_cases hbe : b = e
    · have q' : H b = some (.own x) := by
        rcases he with z | z
        · exact absurd (hbe.trans z) hb
        · rw [hbe]; exact z
      rw [q] at q'; cases q'
      obtain ⟨v, hv⟩ := heo
      exact ⟨v, by rw [hbe]; exact hv⟩
    · refine (ok b u q).stay (fun c v hc r => k c v ?_ r) (fun c r => by rw [upd_ne (nown c b r)]; exact r) (fun c xs r => by rw [upd_ne (ntup c xs r)]; exact r) (fun c ob r => by rw [upd_ne (fun z => by subst z; rw [r] at mu; exact mu)]; exact r)
      rcases hc with rfl | hc
      · exact hbe
      · rintro rfl
        rcases he with z | z
        · exact nown c b hc z
        · rw [hc] at z; cases z; exact hb rfl
end

/-! ### kept unless tracked; of the frames at fs (the callers') the slots may change (an exception that passes writes there); of the records at ex (iterators) nothing is said -/
structure Un (fs ex : List Addr) (H H' : Hp) (h h' : Heap) : Prop where
  keep : ∀ b o, h.get? b = some o → H b = none → b ∉ fs → b ∉ ex → h'.get? b = some o
  slot : ∀ b o, h.get? b = some o → H b = none → b ∈ fs → b ∉ ex → ∃ sl, h'.get? b = some { o with slots := sl }
  free : ∀ b o, h.get? b = some o → H b = none → b ∉ ex → H' b = none
  there : ∀ b o, h.get? b = some o → b ∉ ex → ∃ o', h'.get? b = some o'
  tups : ∀ b xs, H b = some (.tup xs) → H' b = some (.tup xs)
  frzs : ∀ b o u, H b = some (.frz o u) → H' b = some (.frz o u)
  tbls : ∀ b ps, H b = some (.tbl ps) → ∃ more, H' b = some (.tbl (ps ++ more))
section
variable {fs fs' ex ex' : List Addr} {H H1 H2 : Hp} {h h1 h2 h' : Heap} {a x e : Addr} {o : HO}
theorem Un.any (u : Un fs ex H H1 h h1) {b : Addr} {ob : Obj} (q : h.get? b = some ob) (n : H b = none) (hx : b ∉ ex) : ∃ sl, h1.get? b = some { ob with slots := sl } := by
  by_cases hb : b ∈ fs
  · exact u.slot b ob q n hb hx
  · exact ⟨ob.slots, u.keep b ob q n hb hx⟩
theorem Un.kept (k : ∀ b u, h.get? b = some u → h'.get? b = some u) : Un fs ex H H h h' :=
  ⟨fun b ob q _ _ _ => k b ob q, fun b ob q _ _ _ => ⟨ob.slots, k b ob q⟩, fun _ _ _ n _ => n, fun b ob q _ => ⟨ob, k b ob q⟩, fun _ _ q => q, fun _ _ _ q => q, fun _ ps q => ⟨#[], by rw [q]; simp⟩⟩
theorem Un.refl : Un fs ex H H h h := Un.kept fun _ _ q => q
theorem Un.laid (k : ∀ b u, h.get? b = some u → h'.get? b = some u) (hp : h.objs.size ≤ a) (hn : H a = none) : Un fs ex H (upd H a o) h h' where
  keep := fun b u q _ _ _ => k b u q
  slot := fun b u q _ _ _ => ⟨u.slots, k b u q⟩
  free := fun b u q n _ => by rw [upd_ne (Nat.ne_of_lt (Nat.lt_of_lt_of_le (Heap.lt_size q) hp))]; exact n
  there := fun b u q _ => ⟨u, k b u q⟩
  tups := fun b xs q => by rw [upd_ne (ne_of_none q hn)]; exact q
  frzs := fun b u xs q => by rw [upd_ne (ne_of_none q hn)]; exact q
  tbls := fun b ps q => ⟨#[], by rw [upd_ne (ne_of_none q hn), q]; simp⟩
theorem Un.write (mu : Mut (H x)) (he : e = x ∨ H e = some (.own x)) (k : ∀ b u, b ≠ e → h.get? b = some u → h'.get? b = some u) (heo : ∃ u, h'.get? e = some u) : Un fs ex H (upd H x o) h h' := by
  have hx : ∀ b, H b = none → b ≠ x := fun b n z => by subst z; rw [n] at mu; exact mu
  have hb : ∀ b, H b = none → b ≠ e := fun b n z => by
    subst z
    rcases he with r | r
    · exact hx b n r
    · rw [n] at r; cases r
  have hm : ∀ b u, H b = some u → ¬ Mut (some u) → b ≠ x := fun b u q nm z => by subst z; rw [q] at mu; exact nm mu
  refine ⟨fun b u q n _ _ => k b u (hb b n) q, fun b u q n _ _ => ⟨u.slots, k b u (hb b n) q⟩, fun b u q n _ => by rw [upd_ne (hx b n)]; exact n, fun b u q _ => ?_,
    fun b xs q => by rw [upd_ne (hm b _ q fun z => z)]; exact q, fun b u xs q => by rw [upd_ne (hm b _ q fun z => z)]; exact q, fun b ps q => ⟨#[], by rw [upd_ne (hm b _ q fun z => z), q]; simp⟩⟩
  by_cases hbe : b = e
  · subst hbe; exact heo
  · exact ⟨u, k b u hbe q⟩
end

/-! ### the heap without what is tracked -/
def trk (h : Heap) (H : Hp) : List Addr := (List.range h.objs.size).filter fun a => (H a).isSome
def hidT (h : Heap) (H : Hp) : Heap := PySem.W.hideAll h (trk h H)
theorem hidT_size (h : Heap) (H : Hp) : (hidT h H).objs.size = h.objs.size := PySem.W.hideAll_size _ _
theorem hidT_get {h : Heap} {H : Hp} {b : Addr} {o : Obj} (e : h.get? b = some o) (n : H b = none) : (hidT h H).get? b = some o :=
  PySem.W.hideAll_get _ e fun hm => by
    have q : (H b).isSome = true := (List.mem_filter.mp hm).2
    rw [n] at q; simp at q
theorem of_hidT {h : Heap} {H : Hp} {b : Addr} {o : Obj} (e : (hidT h H).get? b = some o) : h.get? b = some o ∧ H b = none := by
  have e' : h.get? b = some o := PySem.W.of_hideAll (trk h H) e
  refine ⟨e', ?_⟩
  cases q : H b with
  | none => rfl
  | some x =>
    have hm : b ∈ trk h H := List.mem_filter.mpr ⟨List.mem_range.mpr (Heap.lt_size e'), by simp [q]⟩
    have z : (hidT h H).get? b = none := PySem.W.hideAll_none (trk h H) hm
    rw [z] at e; cases e

/-! ### OpenK's ledger, filled with every new object but one -/
end L2

namespace L2
open PySem PySem.Spec PyProof.Rows

/-- the module's facts, over the base: the heap at the law's entry without what is tracked there -/
structure Mod (K : PySem.W.Frag) (mg : Str → Option Value) (base : Heap) : Prop where
  kin : K.In base
  glob : base.Ns mainGlobals mg
  blt : ∃ mb, base.Ns builtinsNs mb ∧ ∀ x : Str, x ≠ "__name__" → mb x = bootBuiltins x
  nolimit : base.NoLimit

/-- the context: a def's body (or a comprehension's block) running. base: fixed through the whole law; s₀, H₀: the entry; outer: the frames whose slots others may change (a def's callers); stack: all frames that run;
   ex: iterators that were made ahead of the entry and are walked here (a comprehension's); fn: the names whose cells were made at the entry (a def: all; a comprehension's block: its own); calm: not within an except suite; pn: pins that every state bears; xe: what is wanted of an exception that leaves the code -/
structure Cx where
  prog : Program
  w : World
  K : PySem.W.Frag
  mg : Str → Option Value
  base : Heap
  A : Around
  N : List Str
  s₀ : Shared
  H₀ : Hp
  env : Env
  outer : List Env
  stack : List Env
  ex : List Addr
  fn : Str → Bool
  calm : Bool
  pn : List (Addr × Obj)
  xe : Value → Shared → Prop
/-- the callers' frames -/
def frs (l : List Env) : List Addr := l.filterMap (·.frame)
abbrev Cx.fs (X : Cx) : List Addr := frs X.outer

def Vis (sc : Scope) (x : Str) : Prop := sc.names.lookup x = some .local ∨ sc.names.lookup x = some .cell ∨ sc.names.lookup x = some .free
def Loc (sc : Scope) (x : Str) : Prop := sc.names.lookup x = some .local ∨ sc.names.lookup x = some .cell
def Look (env : Env) (h : Heap) (m : Str → Option Value) (x : Str) (u : Value) : Prop :=
  (env.kindOf x = some .local ∧ m x = some u) ∨ ((env.kindOf x = some .cell ∨ env.kindOf x = some .free) ∧ ∃ c, env.cells.lookup x = some c ∧ h.IsCell c (some u))

structure Cx.Ok (X : Cx) : Prop where
  mod : Mod X.K X.mg X.base
  kind : X.env.scope.kind = .function
  glob : X.env.globals = mainGlobals
  blt : X.env.builtins = builtinsNs
  above : X.s₀.heap.objs.size ≤ X.env.locals
  inj : ∀ x y c, X.env.cells.lookup x = some c → X.env.cells.lookup y = some c → x = y
  has : ∀ x, (X.env.kindOf x = some .cell ∨ X.env.kindOf x = some .free) → ∃ c, X.env.cells.lookup x = some c
  cab : ∀ x c, X.fn x = true → X.env.cells.lookup x = some c → X.s₀.heap.objs.size ≤ c
  hd : X.calm = true → X.A.handled = none
  frames : X.A.frames = some X.stack
  stk : X.stack = X.outer ∨ (X.stack = X.env :: X.outer ∧ X.env.frame = some X.env.locals)
  exf : ∀ b ∈ X.ex, b ≠ X.env.locals ∧ ∀ x c, X.env.cells.lookup x = some c → c ≠ b
  bs : ∀ b o, X.base.get? b = some o → X.s₀.heap.get? b = some o ∧ X.H₀ b = none
  bsz : X.base.objs.size ≤ X.s₀.heap.objs.size
  noex : ∀ b o, X.base.get? b = some o → b ∉ X.ex
  exfs : ∀ b ∈ X.ex, b ∉ X.fs
  funs : X.s₀.heap.FunFrames X.base X.outer
  frf : ∀ b ∈ X.fs, X.H₀ b = none

structure Inv (X : Cx) (pins : List (Addr × Obj)) (σ : List (Option V)) (H : Hp) (s : Shared) : Prop where
  ok : X.Ok
  os : s.os = X.s₀.os
  bare : AllBare s.gens
  base : Un X.fs X.ex X.H₀ H X.s₀.heap s.heap
  loc : ∃ m, s.heap.Ns X.env.locals m ∧ ∀ (i : Nat) (x : Str) (v : V), X.N[i]? = some x → σ[i]? = some (some v) → Vis X.env.scope x → ∃ u, RelV v u ∧ Look X.env s.heap m x u
  cell : ∀ x c, X.env.cells.lookup x = some c → ∃ v, s.heap.IsCell c v
  free : H X.env.locals = none
  freeC : ∀ x c, X.env.cells.lookup x = some c → H c = none
  pin : ∀ p ∈ X.pn ++ pins, s.heap.get? p.1 = some p.2 ∧ H p.1 = none ∧ p.1 ≠ X.env.locals ∧ p.1 ∉ X.fs ∧ ∀ v, p.2.data ≠ .cell v
  hok : HOk X.prog X.w H s.heap
  len : σ.length = X.N.length

section
variable {X : Cx} {pins : List (Addr × Obj)} {σ : List (Option V)} {H H' : Hp} {s : Shared} {h' : Heap}

theorem Cx.Ok.nofr (ok : X.Ok) {b : Addr} {o : Obj} (e : X.base.get? b = some o) : b ∉ X.fs := fun hb => by
  have := (ok.funs.mem hb).1
  rw [e] at this; cases this
theorem Inv.bs (I : Inv X pins σ H s) : ∀ b o, X.base.get? b = some o → s.heap.get? b = some o ∧ H b = none := fun b o e =>
  ⟨I.base.keep b o (I.ok.bs b o e).1 (I.ok.bs b o e).2 (I.ok.nofr e) (I.ok.noex b o e), I.base.free b o (I.ok.bs b o e).1 (I.ok.bs b o e).2 (I.ok.noex b o e)⟩
theorem Inv.bk (I : Inv X pins σ H s) : ∀ b o, X.base.get? b = some o → s.heap.get? b = some o := fun b o e => (I.bs b o e).1
theorem Inv.mod (I : Inv X pins σ H s) : Mod X.K X.mg X.base := I.ok.mod
theorem Inv.kIn (I : Inv X pins σ H s) : X.K.In s.heap := I.ok.mod.kin.keeps I.bk
theorem Inv.lt (I : Inv X pins σ H s) : X.env.locals < s.heap.objs.size := let ⟨_, hn, _⟩ := I.loc; hn.lt
theorem Inv.sz (I : Inv X pins σ H s) : X.s₀.heap.objs.size ≤ s.heap.objs.size := Nat.le_trans I.ok.above (Nat.le_of_lt I.lt)
theorem Inv.nofs (I : Inv X pins σ H s) {a : Addr} (h : s.heap.objs.size ≤ a) : a ∉ X.fs := fun hb => by
  obtain ⟨_, o, ho, _⟩ := I.ok.funs.mem hb
  exact absurd (Nat.lt_of_lt_of_le (Heap.lt_size ho) (Nat.le_trans I.sz h)) (Nat.lt_irrefl _)
theorem Inv.cne (I : Inv X pins σ H s) : ∀ x c, X.env.cells.lookup x = some c → c ≠ X.env.locals := fun x c e z => by
  obtain ⟨v, o, ho, hd⟩ := I.cell x c e
  obtain ⟨m, ⟨o', es, ep, ho', hd', _⟩, _⟩ := I.loc
  rw [z, ho'] at ho; cases ho; rw [hd'] at hd; cases hd
theorem Inv.funs (I : Inv X pins σ H s) : s.heap.FunFrames X.base X.outer := by
  have all : ∀ (l : List Env), (∀ b ∈ frs l, b ∈ X.fs) → X.s₀.heap.FunFrames X.base l → s.heap.FunFrames X.base l := by
    intro l
    induction l with
    | nil => intro _ _; trivial
    | cons env r ih =>
      intro hs hl
      obtain ⟨hk, ⟨L, o, hf, hn, ho, hd⟩, hr⟩ := hl
      have hL : L ∈ X.fs := hs L (by unfold frs; rw [List.filterMap_cons, hf]; exact List.mem_cons_self)
      obtain ⟨sl, e⟩ := I.base.slot L o ho (I.ok.frf L hL) hL fun z => I.ok.exfs L z hL
      exact ⟨hk, ⟨L, _, hf, hn, e, hd⟩, ih (fun b hb => hs b (by unfold frs; rw [List.filterMap_cons, hf]; exact List.mem_cons_of_mem _ hb)) hr⟩
  exact all X.outer (fun _ hb => hb) I.ok.funs

/-- the frames that run, for a call -/
theorem Inv.stack (I : Inv X pins σ H s) : s.heap.FunFrames X.base X.stack := by
  rcases I.ok.stk with e | ⟨e, hf⟩
  · rw [e]; exact I.funs
  · rw [e]
    obtain ⟨m, hn, _⟩ := I.loc
    refine .cons (by rw [I.ok.kind]; decide) hf hn ?_ I.funs
    exact Heap.get?_none_of_le (Nat.le_trans I.ok.bsz I.ok.above)
theorem Inv.stkSub (I : Inv X pins σ H s) : ∀ b ∈ frs X.stack, b ∈ X.env.locals :: X.fs := fun b hb => by
  rcases I.ok.stk with e | ⟨e, hf⟩
  · rw [e] at hb; exact List.mem_cons_of_mem _ hb
  · rw [e] at hb
    unfold frs at hb
    rw [List.filterMap_cons, hf] at hb
    exact hb
theorem Inv.stkFree (I : Inv X pins σ H s) : ∀ b ∈ frs X.stack, H b = none := fun b hb => by
  rcases List.mem_cons.mp (I.stkSub b hb) with e | hb
  · rw [e]; exact I.free
  · obtain ⟨_, o, ho, _⟩ := I.ok.funs.mem hb
    exact I.base.free b o ho (I.ok.frf b hb) fun z => I.ok.exfs b z hb

/-- THE STEP: the untracked objects but the frame and the records at ch are kept (the callers' frames up to slots), the frame's map is kept, the new abstract heap is held -/
theorem Inv.step {g' : Array GenState} {t' : Nat} {d' : Drawn} {ch : List Addr} (I : Inv X pins σ H s)
    (hch : ∀ b ∈ ch, (b ∈ X.ex ∨ X.s₀.heap.objs.size ≤ b) ∧ b ≠ X.env.locals ∧ (∀ x c, X.env.cells.lookup x = some c → c ≠ b) ∧ ∀ p ∈ X.pn ++ pins, p.1 ≠ b)
    (keep : ∀ b o, b ≠ X.env.locals → b ∉ X.fs → b ∉ ch → s.heap.get? b = some o → H b = none → h'.get? b = some o)
    (slot : ∀ b o, b ≠ X.env.locals → b ∈ X.fs → b ∉ ch → s.heap.get? b = some o → H b = none → ∃ sl, h'.get? b = some { o with slots := sl }) (free : ∀ b o, b ∉ ch → s.heap.get? b = some o → H b = none → H' b = none)
    (there : ∀ b o, b ∉ ch → s.heap.get? b = some o → ∃ o', h'.get? b = some o')
    (tups : ∀ b xs, H b = some (.tup xs) → H' b = some (.tup xs)) (frzs : ∀ b o u, H b = some (.frz o u) → H' b = some (.frz o u)) (tbls : ∀ b ps, H b = some (.tbl ps) → ∃ more, H' b = some (.tbl (ps ++ more)))
    (ns : ∀ m, s.heap.Ns X.env.locals m → h'.Ns X.env.locals m) (hok : HOk X.prog X.w H' h') (hg : AllBare g') :
    Inv X pins σ H' { s with heap := h', gens := g', drawn := d', toks := t' } := by
  have neL : ∀ b o, X.s₀.heap.get? b = some o → b ≠ X.env.locals := fun b o e => Nat.ne_of_lt (Nat.lt_of_lt_of_le (Heap.lt_size e) I.ok.above)
  have neC : ∀ b o, X.s₀.heap.get? b = some o → b ∉ X.ex → b ∉ ch := fun b o e hx hb => by
    rcases (hch b hb).1 with z | z
    · exact hx z
    · exact absurd (Nat.lt_of_lt_of_le (Heap.lt_size e) z) (Nat.lt_irrefl _)
  have cellK : ∀ x c, X.env.cells.lookup x = some c → ∀ v, s.heap.IsCell c v → h'.IsCell c v := fun x c e v ⟨o, ho, hd⟩ => by
    have nch : c ∉ ch := fun z => (hch c z).2.2.1 x c e rfl
    by_cases hc : c ∈ X.fs
    · obtain ⟨sl, q⟩ := slot c o (I.cne x c e) hc nch ho (I.freeC x c e)
      exact ⟨_, q, hd⟩
    · exact ⟨o, keep c o (I.cne x c e) hc nch ho (I.freeC x c e), hd⟩
  refine ⟨I.ok, I.os, hg, ⟨fun b o e n hb hx => ?_, fun b o e n hb hx => ?_, fun b o e n hx => ?_, fun b o e hx => ?_, fun b xs e => tups b xs (I.base.tups b xs e), fun b o xs e => frzs b o xs (I.base.frzs b o xs e), fun b ps e => ?_⟩, ?_, fun x c e => ?_, ?_, fun x c e => ?_, fun p hp => ?_, hok, I.len⟩
  · exact keep b o (neL b o e) hb (neC b o e hx) (I.base.keep b o e n hb hx) (I.base.free b o e n hx)
  · obtain ⟨sl, e1⟩ := I.base.slot b o e n hb hx
    obtain ⟨sl', e2⟩ := slot b _ (neL b o e) hb (neC b o e hx) e1 (I.base.free b o e n hx)
    exact ⟨sl', e2⟩
  · obtain ⟨o', e1⟩ := I.base.there b o e hx
    exact free b o' (neC b o e hx) e1 (I.base.free b o e n hx)
  · obtain ⟨o', e1⟩ := I.base.there b o e hx
    exact there b o' (neC b o e hx) e1
  · obtain ⟨m1, e1⟩ := I.base.tbls b ps e
    obtain ⟨m2, e2⟩ := tbls b _ e1
    exact ⟨m1 ++ m2, by rw [e2, Array.append_assoc]⟩
  · obtain ⟨m, hn, hl⟩ := I.loc
    refine ⟨m, ns m hn, fun i x v e1 e2 e3 => ?_⟩
    obtain ⟨u, r, l⟩ := hl i x v e1 e2 e3
    refine ⟨u, r, ?_⟩
    rcases l with l | ⟨k, c, e, z⟩
    · exact .inl l
    · exact .inr ⟨k, c, e, cellK x c e _ z⟩
  · obtain ⟨v, z⟩ := I.cell x c e
    exact ⟨v, cellK x c e v z⟩
  · obtain ⟨m, ⟨o, _, _, ho, _⟩, _⟩ := I.loc
    exact free _ o (fun z => (hch _ z).2.1 rfl) ho I.free
  · obtain ⟨v, o, ho, hd⟩ := I.cell x c e
    exact free c o (fun z => (hch c z).2.2.1 x c e rfl) ho (I.freeC x c e)
  · obtain ⟨e, n, ne, nf, d⟩ := I.pin p hp
    have nch : p.1 ∉ ch := fun z => (hch p.1 z).2.2.2 p hp rfl
    exact ⟨keep p.1 p.2 ne nf nch e n, free p.1 p.2 nch e n, ne, nf, d⟩
/-- .. where the frame's own object is kept too -/
theorem Inv.un {t' : Nat} (I : Inv X pins σ H s) (u : Un X.fs [] H H' s.heap h') (hok : HOk X.prog X.w H' h') : Inv X pins σ H' { s with heap := h', toks := t' } := by
  obtain ⟨m, ⟨o, es, ep, ho, r⟩, _⟩ := id I.loc
  obtain ⟨sl, hL⟩ := u.any ho I.free (by simp)
  exact I.step (g' := s.gens) (d' := s.drawn) (ch := []) (fun _ z => nomatch z) (fun b o _ hb _ e n => u.keep b o e n hb (by simp)) (fun b o _ hb _ e n => u.slot b o e n hb (by simp)) (fun b o _ e n => u.free b o e n (by simp)) (fun b o _ e => u.there b o e (by simp)) u.tups u.frzs u.tbls (fun m' hm => by
    obtain ⟨o', es', ep', ho', r'⟩ := hm
    rw [ho] at ho'; cases ho'
    exact ⟨_, es', ep', hL, r'⟩) hok I.bare
/-- behind a call (or a comprehension's block): the slots of this frame may have changed too, the records at ch may have turned -/
theorem Inv.call {g' : Array GenState} {t' : Nat} {d' : Drawn} {ch : List Addr} (I : Inv X pins σ H s) (u : Un (frs X.stack) ch H H' s.heap h') (hok : HOk X.prog X.w H' h') (hg : AllBare g')
    (hch : ∀ b ∈ ch, (b ∈ X.ex ∨ X.s₀.heap.objs.size ≤ b) ∧ b ≠ X.env.locals ∧ (∀ x c, X.env.cells.lookup x = some c → c ≠ b) ∧ ∀ p ∈ X.pn ++ pins, p.1 ≠ b) :
    Inv X pins σ H' { s with heap := h', gens := g', drawn := d', toks := t' } := by
  obtain ⟨m, ⟨o, es, ep, ho, r⟩, _⟩ := id I.loc
  obtain ⟨sl, hL⟩ := u.any ho I.free fun z => (hch _ z).2.1 rfl
  exact I.step (ch := ch) hch (fun b o hL hb hc e n => u.keep b o e n (fun z => (List.mem_cons.mp (I.stkSub b z)).elim hL hb) hc) (fun b o _ _ hc e n => u.any e n hc) (fun b o hc e n => u.free b o e n hc) (fun b o hc e => u.there b o e hc) u.tups u.frzs u.tbls (fun m' hm => by
    obtain ⟨o', es', ep', ho', r'⟩ := hm
    rw [ho] at ho'; cases ho'
    exact ⟨_, es', ep', hL, r'⟩) hok hg
/-- an untracked record of ours (an iterator) has turned -/
theorem Inv.turned {t' : Nat} {it : Addr} (I : Inv X pins σ H s) (k : ∀ b o, b ≠ it → s.heap.get? b = some o → h'.get? b = some o) (hn : H it = none) (hL : it ≠ X.env.locals)
    (h1 : it ∈ X.ex ∨ X.s₀.heap.objs.size ≤ it) (h2 : ∀ x c, X.env.cells.lookup x = some c → c ≠ it) (h3 : ∀ p ∈ X.pn ++ pins, p.1 ≠ it) : Inv X pins σ H { s with heap := h', toks := t' } := by
  have nit : ∀ b u, H b = some u → b ≠ it := fun b u e z => by rw [z, hn] at e; cases e
  refine I.step (g' := s.gens) (d' := s.drawn) (ch := [it]) (fun b hb => ?_) (fun b o _ _ hc e _ => k b o (fun z => hc (by simp [z])) e) (fun b o _ _ hc e _ => ⟨o.slots, k b o (fun z => hc (by simp [z])) e⟩) (fun _ _ _ _ n => n)
    (fun b o hc e => ⟨o, k b o (fun z => hc (by simp [z])) e⟩) (fun _ _ e => e) (fun _ _ _ e => e) (fun b ps e => ⟨#[], by rw [e]; simp⟩) (fun m hm => ?_) (fun b u e => ?_) I.bare
  · have e : b = it := by simpa using hb
    subst e
    exact ⟨h1, hL, h2, h3⟩
  · obtain ⟨o, es, ep, ho, r⟩ := hm
    exact ⟨o, es, ep, k _ o (Ne.symm hL) ho, r⟩
  · refine (I.hok b u e).stay (fun c v hc q => k c v ?_ q) (fun _ q => q) fun _ _ q => q
    rcases hc with z | z
    · rw [z]; exact nit b u e
    · exact nit c _ z
theorem Inv.tok (I : Inv X pins σ H s) (t : Nat) : Inv X pins σ H { s with toks := t } := I.un (h' := s.heap) (t' := t) Un.refl I.hok
/-- all objects kept -/
theorem Inv.kept {t' : Nat} (I : Inv X pins σ H s) (k : ∀ b u, s.heap.get? b = some u → h'.get? b = some u) : Inv X pins σ H { s with heap := h', toks := t' } := I.un (Un.kept k) (I.hok.kept k)
/-- a new object laid and tracked -/
theorem Inv.laid {a : Addr} {o : HO} {t' : Nat} (I : Inv X pins σ H s) (k : ∀ b u, s.heap.get? b = some u → h'.get? b = some u) (hp : s.heap.objs.size ≤ a) (new : ObjOk X.prog X.w (upd H a o) h' a o) :
    Inv X pins σ (upd H a o) { s with heap := h', toks := t' } := I.un (Un.laid k hp (I.hok.fresh hp)) (I.hok.laid k hp new)
/-- an object written -/
theorem Inv.write {x e : Addr} {o : HO} {t' : Nat} (I : Inv X pins σ H s) (mu : Mut (H x)) (he : e = x ∨ H e = some (.own x)) (k : ∀ b u, b ≠ e → s.heap.get? b = some u → h'.get? b = some u) (heo : ∃ u, h'.get? e = some u)
    (new : ObjOk X.prog X.w (upd H x o) h' x o) : Inv X pins σ (upd H x o) { s with heap := h', toks := t' } := I.un (Un.write mu he k heo) (I.hok.write mu he k heo new)
theorem Inv.pins_of {pins' : List (Addr × Obj)} (I : Inv X pins σ H s) (h : ∀ p ∈ pins', s.heap.get? p.1 = some p.2 ∧ H p.1 = none ∧ p.1 ≠ X.env.locals ∧ p.1 ∉ X.fs ∧ ∀ v, p.2.data ≠ .cell v) : Inv X pins' σ H s :=
  ⟨I.ok, I.os, I.bare, I.base, I.loc, I.cell, I.free, I.freeC, fun p hp => (List.mem_append.mp hp).elim (fun z => I.pin p (List.mem_append_left _ z)) (h p), I.hok, I.len⟩

theorem nodup_ix {N : List Str} (hN : N.Nodup) {i j : Nat} {x : Str} (a : N[i]? = some x) (b : N[j]? = some x) : i = j := by
  obtain ⟨h1, e1⟩ := List.getElem?_eq_some_iff.mp a
  obtain ⟨h2, e2⟩ := List.getElem?_eq_some_iff.mp b
  exact (List.getElem_inj hN).mp (e1.trans e2.symm)

/-- a name is stored; what changed -/
theorem store_ok2 {M : Model} {A : Around} {E : Value → Shared → Prop} {i : Nat} {x : Str} {v : V} {u : Value} {Q : Unit → Shared → Prop} (I : Inv X pins σ H s) (hN : X.N.Nodup) (hi : X.N[i]? = some x) (hx : Loc X.env.scope x) (r : RelV v u)
    (h : ∀ s', Inv X pins (σ.set i (some v)) H s' → (∃ a, Heap.SameBut a s.heap s'.heap ∧ (a = X.env.locals ∨ X.env.cells.lookup x = some a)) → Q () s') (hf : X.fn x = true ∨ X.env.scope.names.lookup x = some .local := by first | exact .inl rfl | exact .inr rfl | assumption) : wpAny M A (storeName X.env x u) Q E s := by
  obtain ⟨m, hn, hl⟩ := id I.loc
  have hcls : (X.env.scope.kind == .class || (X.env.scope.kind == .module && X.env.locals != X.env.globals)) = false := by rw [I.ok.kind]; rfl
  have hiσ : i < σ.length := by rw [I.len]; exact (List.getElem?_eq_some_iff.mp hi).1
  have cne := I.cne
  have tracked : ∀ {a : Addr} {h' : Heap}, (∃ o, s.heap.get? a = some o ∧ H a = none) → Heap.SameBut a s.heap h' → HOk X.prog X.w H h' := fun {a h'} ha hs b ob e => by
    obtain ⟨_, _, hfree⟩ := ha
    refine (I.hok b ob e).stay (fun c w' hc q => (hs.2 c ?_).trans q) (fun _ q => q) fun _ _ q => q
    rintro rfl
    rcases hc with rfl | hc
    · rw [hfree] at e; cases e
    · rw [hfree] at hc; cases hc
  rcases hx with hk | hk
  · refine wpAny_storeName_local hk hn (fun h' hn' hs => ?_) hcls
    obtain ⟨oL, _, _, hoL, _⟩ := id hn
    refine h _ ⟨I.ok, I.os, I.bare, ⟨fun b o e n hb hx => ?_, fun b o e n hb hx => ?_, I.base.free, fun b o e hx => ?_, I.base.tups, I.base.frzs, I.base.tbls⟩, ⟨_, hn', fun j y v' e1 e2 e3 => ?_⟩, fun y c e => ?_, I.free, I.freeC, fun p hp => ?_, tracked ⟨oL, hoL, I.free⟩ hs, by simpa using I.len⟩ ⟨_, hs, .inl rfl⟩
    · exact (hs.2 b (Nat.ne_of_lt (Nat.lt_of_lt_of_le (Heap.lt_size e) I.ok.above))).trans (I.base.keep b o e n hb hx)
    · obtain ⟨sl, e1⟩ := I.base.slot b o e n hb hx
      exact ⟨sl, (hs.2 b (Nat.ne_of_lt (Nat.lt_of_lt_of_le (Heap.lt_size e) I.ok.above))).trans e1⟩
    · obtain ⟨o', e1⟩ := I.base.there b o e hx
      exact ⟨o', (hs.2 b (Nat.ne_of_lt (Nat.lt_of_lt_of_le (Heap.lt_size e) I.ok.above))).trans e1⟩
    · by_cases hj : j = i
      · subst hj
        rw [hi] at e1; cases e1
        rw [List.getElem?_set_self hiσ] at e2
        cases e2
        exact ⟨u, r, .inl ⟨hk, by simp⟩⟩
      · rw [List.getElem?_set_ne (Ne.symm hj)] at e2
        obtain ⟨u', r', q⟩ := hl j y v' e1 e2 e3
        refine ⟨u', r', ?_⟩
        rcases q with ⟨k, e⟩ | ⟨k, c, e, z⟩
        · refine .inl ⟨k, ?_⟩
          have : y ≠ x := fun e => hj (nodup_ix hN e1 (e ▸ hi))
          simp [this, e]
        · exact .inr ⟨k, c, e, z.sameBut hs (cne y c e)⟩
    · obtain ⟨w', z⟩ := I.cell y c e
      exact ⟨w', z.sameBut hs (cne y c e)⟩
    · obtain ⟨e, n, ne, nf, d⟩ := I.pin p hp
      exact ⟨(hs.2 p.1 ne).trans e, n, ne, nf, d⟩
  · have hfn : X.fn x = true := by
      rcases hf with z | z
      · exact z
      · rw [z] at hk; cases hk
    obtain ⟨c, hc⟩ := I.ok.has x (.inl hk)
    obtain ⟨w', z⟩ := I.cell x c hc
    refine wpAny_storeName_cell I.ok.kind hk hc z (fun h' hc' hs => ?_)
    obtain ⟨oc, hoc, hocd⟩ := id z
    refine h { s with heap := h' } ⟨I.ok, I.os, I.bare, ⟨fun b o e n hb hx => ?_, fun b o e n hb hx => ?_, I.base.free, fun b o e hx => ?_, I.base.tups, I.base.frzs, I.base.tbls⟩, ⟨m, hn.sameBut hs (Ne.symm (cne x c hc)), fun j y v' e1 e2 e3 => ?_⟩, fun y c' e => ?_, I.free, I.freeC, fun p hp => ?_, tracked ⟨oc, hoc, I.freeC x c hc⟩ hs, by simpa using I.len⟩ ⟨c, hs, .inr hc⟩
    · exact (hs.2 b (Nat.ne_of_lt (Nat.lt_of_lt_of_le (Heap.lt_size e) (I.ok.cab x c hfn hc)))).trans (I.base.keep b o e n hb hx)
    · obtain ⟨sl, e1⟩ := I.base.slot b o e n hb hx
      exact ⟨sl, (hs.2 b (Nat.ne_of_lt (Nat.lt_of_lt_of_le (Heap.lt_size e) (I.ok.cab x c hfn hc)))).trans e1⟩
    · obtain ⟨o', e1⟩ := I.base.there b o e hx
      exact ⟨o', (hs.2 b (Nat.ne_of_lt (Nat.lt_of_lt_of_le (Heap.lt_size e) (I.ok.cab x c hfn hc)))).trans e1⟩
    · by_cases hj : j = i
      · subst hj
        rw [hi] at e1; cases e1
        rw [List.getElem?_set_self hiσ] at e2
        cases e2
        exact ⟨u, r, .inr ⟨.inl hk, c, hc, hc'⟩⟩
      · rw [List.getElem?_set_ne (Ne.symm hj)] at e2
        obtain ⟨u', r', q⟩ := hl j y v' e1 e2 e3
        refine ⟨u', r', ?_⟩
        rcases q with q | ⟨k, c', e, z'⟩
        · exact .inl q
        · refine .inr ⟨k, c', e, z'.sameBut hs ?_⟩
          rintro rfl
          exact hj (nodup_ix hN e1 (I.ok.inj _ _ _ e hc ▸ hi))
    · by_cases hcc : c' = c
      · subst hcc; exact ⟨_, hc'⟩
      · obtain ⟨w2, z2⟩ := I.cell y c' e
        exact ⟨w2, z2.sameBut hs hcc⟩
    · obtain ⟨e, n, ne, nf, d⟩ := I.pin p hp
      refine ⟨(hs.2 p.1 ?_).trans e, n, ne, nf, d⟩
      intro q
      rw [q, hoc] at e
      have q' : oc = p.2 := Option.some.inj e
      exact d w' (by rw [← q']; exact hocd)
theorem store_ok {M : Model} {A : Around} {E : Value → Shared → Prop} {i : Nat} {x : Str} {v : V} {u : Value} {Q : Unit → Shared → Prop} (I : Inv X pins σ H s) (hN : X.N.Nodup) (hi : X.N[i]? = some x) (hx : Loc X.env.scope x) (r : RelV v u)
    (h : ∀ s', Inv X pins (σ.set i (some v)) H s' → Q () s') (hf : X.fn x = true ∨ X.env.scope.names.lookup x = some .local := by first | exact .inl rfl | exact .inr rfl | assumption) : wpAny M A (storeName X.env x u) Q E s :=
  store_ok2 I hN hi hx r (fun s' I' _ => h s' I') hf
/-- behind a call or a block, the state as it is -/
theorem Inv.call' {s' : Shared} {ch : List Addr} (I : Inv X pins σ H s) (ho : s'.os = s.os) (u : Un (frs X.stack) ch H H' s.heap s'.heap) (hok : HOk X.prog X.w H' s'.heap) (hg : AllBare s'.gens)
    (hch : ∀ b ∈ ch, (b ∈ X.ex ∨ X.s₀.heap.objs.size ≤ b) ∧ b ≠ X.env.locals ∧ (∀ x c, X.env.cells.lookup x = some c → c ≠ b) ∧ ∀ p ∈ X.pn ++ pins, p.1 ≠ b) : Inv X pins σ H' s' := by
  obtain ⟨h', g', d', t', o'⟩ := s'
  have e : o' = s.os := ho
  subst e
  exact I.call (g' := g') (t' := t') (d' := d') u hok hg hch
end

/-! ### the judgements -/
/-- an exception: its class, its own dict's address (where it has one), the abstract heap behind it -/
abbrev XK := Value → Option Addr → Hp → Prop
abbrev St := List (Option V)
abbrev VK := V → Hp → Prop
/-- an expression's reading; a test's; an argument list's -/
abbrev TE := St → Hp → VK → Prop
abbrev TT := St → Hp → (Bool → Hp → Prop) → Prop
abbrev TA := St → Hp → (List V → Hp → Prop) → Prop
/-- what is wanted behind a statement -/
structure Ends where
  nx : St → Hp → Prop
  rt : VK
  bk : St → Hp → Prop := fun _ _ => False
  ct : St → Hp → Prop := fun _ _ => False
abbrev TS := Ends → St → Hp → Prop

def EP (X : Cx) (pins : List (Addr × Obj)) (σ : St) (Q : VK) (u : Value) (s' : Shared) : Prop := ∃ v H', Inv X pins σ H' s' ∧ RelV v u ∧ Q v H'
def TP (X : Cx) (pins : List (Addr × Obj)) (σ : St) (Q : Bool → Hp → Prop) (b : Bool) (s' : Shared) : Prop := ∃ H', Inv X pins σ H' s' ∧ Q b H'
def AP (X : Cx) (pins : List (Addr × Obj)) (σ : St) (Q : List V → Hp → Prop) (us : List Value) (s' : Shared) : Prop := ∃ vs H', Inv X pins σ H' s' ∧ Vals vs us ∧ Q vs H'
def SP (X : Cx) (pins : List (Addr × Obj)) (D : Ends) (f : Flow) (s' : Shared) : Prop :=
  match f with
  | .next => ∃ σ' H', Inv X pins σ' H' s' ∧ D.nx σ' H'
  | .brk => ∃ σ' H', Inv X pins σ' H' s' ∧ D.bk σ' H'
  | .cont => ∃ σ' H', Inv X pins σ' H' s' ∧ D.ct σ' H'
  | .ret u => ∃ v σ' H', Inv X pins σ' H' s' ∧ RelV v u ∧ D.rt v H'

def PE (X : Cx) (e : Expr) (t : TE) : Prop :=
  ∀ (pins : List (Addr × Obj)) (s : Shared) (σ : St) (H : Hp) (Q : VK), Inv X pins σ H s → t σ H Q → wpAny (model X.prog X.w) X.A (eval e X.env) (EP X pins σ Q) X.xe s
def PT (X : Cx) (e : Expr) (t : TT) : Prop :=
  ∀ (pins : List (Addr × Obj)) (s : Shared) (σ : St) (H : Hp) (Q : Bool → Hp → Prop), Inv X pins σ H s → t σ H Q → wpAny (model X.prog X.w) X.A (isTrue e X.env (eval e X.env)) (TP X pins σ Q) X.xe s
/-- a test whatever its 'whole' is (and, or) -/
def PW (X : Cx) (e : Expr) (t : TT) : Prop :=
  ∀ (whole : Sem Value) (pins : List (Addr × Obj)) (s : Shared) (σ : St) (H : Hp) (Q : Bool → Hp → Prop), Inv X pins σ H s → t σ H Q → wpAny (model X.prog X.w) X.A (isTrue e X.env whole) (TP X pins σ Q) X.xe s
theorem PW.pt {X : Cx} {e : Expr} {t : TT} (h : PW X e t) : PT X e t := h _
/-- an argument list (no star), from the left -/
def PA (X : Cx) (es : List Expr) (t : TA) : Prop :=
  ∀ (pos : Pos) (pins : List (Addr × Obj)) (s : Shared) (σ : St) (H : Hp) (Q : List V → Hp → Prop), Inv X pins σ H s → t σ H Q → wpAny (model X.prog X.w) X.A (spliced (backTo pos (starEach es X.env))) (AP X pins σ Q) X.xe s
def PS (X : Cx) (st : Stmt) (t : TS) : Prop :=
  ∀ (pins : List (Addr × Obj)) (s : Shared) (σ : St) (H : Hp) (D : Ends), Inv X pins σ H s → t D σ H → wpAny (model X.prog X.w) X.A (exec st X.env) (SP X pins D) X.xe s
def PSs (X : Cx) (st : List Stmt) (t : TS) : Prop :=
  ∀ (pins : List (Addr × Obj)) (s : Shared) (σ : St) (H : Hp) (D : Ends), Inv X pins σ H s → t D σ H → wpAny (model X.prog X.w) X.A (execs st X.env) (SP X pins D) X.xe s
/-- weaken the end -/
theorem thn {α : Type} {t : Sem α} {Q Q' : α → Shared → Prop} {M : Model} {A : Around} {E : Value → Shared → Prop} {s : Shared} (h : wpAny M A t Q E s) (hQ : ∀ a s, Q a s → Q' a s) : wpAny M A t Q' E s := wpAny_mono h hQ fun _ _ x => x
end L2

namespace L2
open PySem PySem.Spec PyProof.Rows
section
variable {X : Cx}

/-! ### names and constants -/
def tVar (i : Nat) : TE := fun σ H Q => ∃ v, σ[i]? = some (some v) ∧ Q v H
def tC (v : V) : TE := fun _ H Q => Q v H
theorem pe_var {i : Nat} {x : Str} {pos : Pos} (hN : X.N[i]? = some x) (hv : Vis X.env.scope x) (hd : (x == ("__debug__" : Str)) = false := by decide) (hcd : (x == ("__classdict__" : Str)) = false := by decide) : PE X (.Name x pos) (tVar i) := by
  intro pins s σ H Q I h
  obtain ⟨v, e, h⟩ := h
  obtain ⟨m, hn, hl⟩ := I.loc
  obtain ⟨u, r, l⟩ := hl i x v hN e hv
  have fin : EP X pins σ Q u s := ⟨v, H, I, r, h⟩
  rcases l with ⟨hk, hm⟩ | ⟨hk, c, hc, hcell⟩
  · exact wpAny_Name (wpAny_loadName_local I.ok.kind hk hn hm fin) hd
  · rcases hk with hk | hk
    · exact wpAny_Name (wpAny_loadName_cell I.ok.kind hk hc hcell fin) hd
    · exact wpAny_Name (wpAny_loadName_free I.ok.kind hk hc hcell fin hcd) hd
theorem pe_int {i j pos} : PE X (.Constant (.int i) j pos) (tC (.int i)) := fun _ _ _ H _ I h => wpAny_Constant_int ⟨.int i, H, I.tok _, ⟨_, rfl⟩, h⟩
theorem pe_bl {b j pos} : PE X (.Constant (.bool b) j pos) (tC (.bl b)) := fun _ _ _ H _ I h => Constant_bool ⟨.bl b, H, I, rfl, h⟩
theorem pe_non {j pos} : PE X (.Constant .none j pos) (tC .non) := fun _ _ _ H _ I h => Constant_none ⟨.non, H, I, rfl, h⟩
theorem pe_str {x j pos} : PE X (.Constant (.str x) j pos) (tC (.str x)) := fun _ _ _ H _ I h => Calls.Constant_str ⟨.str x, H, I.tok _, ⟨_, rfl⟩, h⟩

/-- a global name of the def -/
def Gl (X : Cx) (x : Str) : Prop := X.env.kindOf x = some .globalImplicit
theorem ld_glob {E : Value → Shared → Prop} {pins : List (Addr × Obj)} {s : Shared} {σ : St} {H : Hp} {x : Str} {u : Value} {pos : Pos} {Q : Value → Shared → Prop} (I : Inv X pins σ H s) (hg : Gl X x) (hm : X.mg x = some u) (h : Q u s)
    (hd : (x == ("__debug__" : Str)) = false := by decide) : wpAny (model X.prog X.w) X.A (eval (.Name x pos) X.env) Q E s :=
  Calls.Name_function_global I.ok.kind hg (Calls.loadGlobal_global (by rw [I.ok.glob]; exact I.mod.glob.keeps I.bk) hm h) hd
theorem ld_blt {E : Value → Shared → Prop} {pins : List (Addr × Obj)} {s : Shared} {σ : St} {H : Hp} {x : Str} {u : Value} {pos : Pos} {Q : Value → Shared → Prop} (I : Inv X pins σ H s) (hg : Gl X x) (hm : X.mg x = none) (hv : bootBuiltins x = some u) (h : Q u s)
    (hn : x ≠ "__name__" := by decide) (hd : (x == ("__debug__" : Str)) = false := by decide) : wpAny (model X.prog X.w) X.A (eval (.Name x pos) X.env) Q E s := by
  obtain ⟨mb, h1, h2⟩ := I.mod.blt
  exact Calls.Name_function_global I.ok.kind hg (Calls.loadGlobal_builtin (by rw [I.ok.glob]; exact I.mod.glob.keeps I.bk) hm (by rw [I.ok.blt]; exact h1.keeps I.bk) ((h2 x hn).trans hv) h) hd
theorem pe_bltn {x : Str} {v : V} {u : Value} {pos : Pos} (hg : Gl X x) (hm : X.mg x = none) (hv : bootBuiltins x = some u) (r : RelV v u) (hn : x ≠ "__name__" := by decide) (hd : (x == ("__debug__" : Str)) = false := by decide) : PE X (.Name x pos) (tC v) :=
  fun _ _ _ H _ I h => ld_blt I hg hm hv ⟨v, H, I, r, h⟩ hn hd

/-! ### arithmetic -/
variable {a b : Expr} {ta tb : TE} {pos : Pos}
/-! ### comparisons -/
/-- a comparison as a value, as a test -/
def tB (t : TE) : TT := fun σ H Q => t σ H fun x H1 => ∃ c, x = .bl c ∧ Q c H1
/-- an expression whose value is a bool, as a test -/
theorem pt_val {e : Expr} {t : TE} (h : PE X e t) (he : ∀ whole, isTrue e X.env whole = (do let v ← whole; standAt e.pos; holding [v] (truthy v)) := by intro _; rfl) : PT X e (tB t) := by
  intro pins s σ H Q I hw
  refine isTrue_plain (thn (h pins s σ H _ I hw) fun v s1 ⟨x, H1, I1, r1, q1⟩ => ?_) (he _)
  obtain ⟨d, rfl, q⟩ := q1
  cases r1
  exact wpAny_truthy_bool ⟨H1, I1, q⟩

/-! ### and, or, not -/
variable {tA tB' : TT} {rest : List Expr}
def tAnd (t u : TT) : TT := fun σ H Q => t σ H fun c H1 => if c = true then u σ H1 Q else Q false H1
def tOr (t u : TT) : TT := fun σ H Q => t σ H fun c H1 => if c = true then Q true H1 else u σ H1 Q
def tNot (t : TT) : TT := fun σ H Q => t σ H fun c H1 => Q (!c) H1
theorem pw_and1 (ha : PT X a tA) : PW X (.BoolOp .And [a] pos) tA := by
  intro wh pins s σ H Q I h
  refine isTrue_and (thn (ha pins s σ H Q I h) fun c s1 e => ?_)
  cases c with
  | true => exact isTrue_and_nil e
  | false => exact e
theorem pw_or1 (ha : PT X a tA) : PW X (.BoolOp .Or [a] pos) tA := by
  intro wh pins s σ H Q I h
  refine isTrue_or (thn (ha pins s σ H Q I h) fun c s1 e => ?_)
  cases c with
  | false => exact isTrue_or_nil e
  | true => exact e
theorem pw_and (ha : PT X a tA) (hb : PW X (.BoolOp .And (b :: rest) pos) tB') : PW X (.BoolOp .And (a :: b :: rest) pos) (tAnd tA tB') := by
  intro wh pins s σ H Q I h
  refine isTrue_and (thn (ha pins s σ H _ I h) fun c s1 ⟨H1, I1, q1⟩ => ?_)
  cases c with
  | true => exact hb wh pins s1 σ H1 Q I1 q1
  | false => exact ⟨H1, I1, q1⟩
theorem pw_or (ha : PT X a tA) (hb : PW X (.BoolOp .Or (b :: rest) pos) tB') : PW X (.BoolOp .Or (a :: b :: rest) pos) (tOr tA tB') := by
  intro wh pins s σ H Q I h
  refine isTrue_or (thn (ha pins s σ H _ I h) fun c s1 ⟨H1, I1, q1⟩ => ?_)
  cases c with
  | true => exact ⟨H1, I1, q1⟩
  | false => exact hb wh pins s1 σ H1 Q I1 q1
theorem pt_not (ha : PT X a tA) : PT X (.UnaryOp .Not a pos) (tNot tA) := by
  intro pins s σ H Q I h
  exact isTrue_not (ha pins s σ H (fun c H1 => Q (!c) H1) I h)
/-- .. as values (bools) -/
def tAndV (ta tb : TE) : TE := fun σ H Q => ta σ H fun x H1 => ∃ c, x = .bl c ∧ if c = true then tb σ H1 Q else Q (.bl false) H1
def tNotV (ta : TE) : TE := fun σ H Q => ta σ H fun x H1 => ∃ c, x = .bl c ∧ Q (.bl (!c)) H1
theorem pe_one {op} {t : TE} (h : PE X a t) : PE X (.BoolOp op [a] pos) t := fun pins s σ H Q I hw => BoolOp_one (h pins s σ H Q I hw)
theorem pe_and (ha : PE X a ta) (hb : PE X (.BoolOp .And (b :: rest) pos) tb) : PE X (.BoolOp .And (a :: b :: rest) pos) (tAndV ta tb) := by
  intro pins s σ H Q I h
  refine BoolOp_and (thn (ha pins s σ H _ I h) fun v s1 ⟨x, H1, I1, r1, q1⟩ => ?_)
  obtain ⟨c, rfl, q1⟩ := q1
  cases r1
  refine wpAny_truthy_bool ?_
  cases c with
  | true => exact hb pins s1 σ H1 Q I1 q1
  | false => exact ⟨.bl false, H1, I1, rfl, q1⟩
theorem pe_not (ha : PE X a ta) : PE X (.UnaryOp .Not a pos) (tNotV ta) := by
  intro pins s σ H Q I h
  refine UnaryOp_ (thn (ha pins s σ H _ I h) fun v s1 ⟨x, H1, I1, r1, q1⟩ => ?_)
  obtain ⟨c, rfl, q1⟩ := q1
  cases r1
  exact not_of (wpAny_truthy_bool ⟨.bl (!c), H1, I1, rfl, q1⟩)
end
end L2

namespace L2
open PySem PySem.Spec PyProof.Rows

/-! ### a list, a tuple that is read: tracked, frozen, or an object of the module -/
def SqL (K : PySem.W.Frag) (H : Hp) (a : Addr) (xs : List V) : Prop :=
  Rd H a (.lst xs) ∨
    ∃ (o : Obj) (its : Array Value) (n : Nat), K.lookup a = some o ∧ o.cls = .type "list" ∧ o.dict = none ∧ o.data = .seq its n ∧ its.size ≤ sizeLine ∧ Vals xs its.toList
def SqT (K : PySem.W.Frag) (H : Hp) (a : Addr) (xs : List V) : Prop :=
  Rd H a (.tup xs) ∨
    ∃ (o : Obj) (its : Array Value) (n : Nat), K.lookup a = some o ∧ o.cls = .type "tuple" ∧ o.data = .seq its n ∧ its.size ≤ sizeLine ∧ Vals xs its.toList
def absV : Value → Option V
  | .none => some .non
  | .bool b => some (.bl b)
  | .int i _ => some (.int i)
  | .str x _ => some (.str x)
  | .bytes b _ => some (.byt b)
  | .float b _ => some (.flt b)
  | .ref a => some (.ref a)
  | .type n => some (.ty n)
  | _ => none
theorem RelV.abs {x : V} {u : Value} (r : RelV x u) : absV u = some x := by
  cases x with
  | non => cases r; rfl
  | bl _ => cases r; rfl
  | int _ => obtain ⟨t, rfl⟩ := r; rfl
  | str _ => obtain ⟨t, rfl⟩ := r; rfl
  | byt _ => obtain ⟨t, rfl⟩ := r; rfl
  | flt _ => obtain ⟨t, rfl⟩ := r; rfl
  | ref _ => cases r; rfl
  | ty _ => cases r; rfl
theorem RelV.inj {x y : V} {u : Value} (r : RelV x u) (q : RelV y u) : x = y := Option.some.inj (r.abs.symm.trans q.abs)
theorem Vals.inj : ∀ {xs ys : List V} {us : List Value}, Vals xs us → Vals ys us → xs = ys
  | _, _, _, .nil, .nil => rfl
  | _, _, _, .cons r t, .cons r' t' => by rw [r.inj r', Vals.inj t t']
section
variable {X : Cx} {pins : List (Addr × Obj)} {σ : St} {H : Hp} {s : Shared} {a : Addr} {xs ys : List V}
theorem SqL.of {K : PySem.W.Frag} (h : H a = some (.lst xs)) : SqL K H a xs := .inl (.inl h)
theorem SqT.of {K : PySem.W.Frag} (h : H a = some (.tup xs)) : SqT K H a xs := .inl (.inl h)
theorem Inv.list (I : Inv X pins σ H s) (h : SqL X.K H a xs) : ∃ its : List Value, Vals xs its ∧ PlainL s.heap a its.toArray ∧ xs.length ≤ sizeLine := by
  rcases h with h | ⟨o, its, n, hk, hc, hd, hs, hz, r⟩
  · obtain ⟨z, its, n, r, e⟩ := h.ok I.hok
    exact ⟨its, r, ⟨_, n, e, rfl, rfl, rfl⟩, z⟩
  · refine ⟨its.toList, r, ⟨o, n, I.kIn a o hk, hc, hd, by simpa using hs⟩, ?_⟩
    have e := r.length
    simp only [Array.length_toList] at e
    omega
theorem Inv.tuple (I : Inv X pins σ H s) (h : SqT X.K H a xs) : ∃ its : List Value, Vals xs its ∧ IsTup s.heap a its.toArray ∧ xs.length ≤ sizeLine := by
  rcases h with h | ⟨o, its, n, hk, hc, hs, hz, r⟩
  · obtain ⟨z, its, r, p⟩ := h.ok I.hok
    exact ⟨its, r, p.tup, z⟩
  · refine ⟨its.toList, r, ⟨o, I.kIn a o hk, hc, n, by simpa using hs⟩, ?_⟩
    have e := r.length
    simp only [Array.length_toList] at e
    omega
theorem Inv.list_inj (I : Inv X pins σ H s) (h : SqL X.K H a xs) (h' : SqL X.K H a ys) : xs = ys := by
  obtain ⟨its, r, ⟨o, n, e, _, _, d⟩, _⟩ := I.list h
  obtain ⟨its', r', ⟨o', n', e', _, _, d'⟩, _⟩ := I.list h'
  rw [e] at e'; cases e'
  rw [d] at d'
  injection d' with d1 _
  have : its = its' := by simpa using congrArg Array.toList d1
  subst this
  exact r.inj r'
theorem Inv.tuple_inj (I : Inv X pins σ H s) (h : SqT X.K H a xs) (h' : SqT X.K H a ys) : xs = ys := by
  obtain ⟨its, r, ⟨o, e, _, n, d⟩, _⟩ := I.tuple h
  obtain ⟨its', r', ⟨o', e', _, n', d'⟩, _⟩ := I.tuple h'
  rw [e] at e'; cases e'
  rw [d] at d'
  injection d' with d1 _
  have : its = its' := by simpa using congrArg Array.toList d1
  subst this
  exact r.inj r'
end

/-! ### another wish about exceptions -/
abbrev Cx.wish (X : Cx) (E : Value → Shared → Prop) : Cx := { X with xe := E }
/-- no exception leaves -/
abbrev Cx.nox (X : Cx) : Cx := X.wish fun _ _ => False
theorem Cx.Ok.wish {X : Cx} (ok : X.Ok) (E : Value → Shared → Prop) : (X.wish E).Ok :=
  ⟨ok.mod, ok.kind, ok.glob, ok.blt, ok.above, ok.inj, ok.has, ok.cab, ok.hd, ok.frames, ok.stk, ok.exf, ok.bs, ok.bsz, ok.noex, ok.exfs, ok.funs, ok.frf⟩
theorem Cx.Ok.unwish {X : Cx} {E : Value → Shared → Prop} (ok : (X.wish E).Ok) : X.Ok :=
  ⟨ok.mod, ok.kind, ok.glob, ok.blt, ok.above, ok.inj, ok.has, ok.cab, ok.hd, ok.frames, ok.stk, ok.exf, ok.bs, ok.bsz, ok.noex, ok.exfs, ok.funs, ok.frf⟩
section
variable {X : Cx} {pins : List (Addr × Obj)} {σ : St} {H : Hp} {s : Shared} {E : Value → Shared → Prop}
theorem Inv.wish (I : Inv X pins σ H s) (E : Value → Shared → Prop) : Inv (X.wish E) pins σ H s := ⟨I.ok.wish E, I.os, I.bare, I.base, I.loc, I.cell, I.free, I.freeC, I.pin, I.hok, I.len⟩
theorem Inv.unwish (I : Inv (X.wish E) pins σ H s) : Inv X pins σ H s := ⟨I.ok.unwish, I.os, I.bare, I.base, I.loc, I.cell, I.free, I.freeC, I.pin, I.hok, I.len⟩
theorem SP.unwish {D : Ends} {f : Flow} {s' : Shared} (h : SP (X.wish E) pins D f s') : SP X pins D f s' := by
  cases f with
  | next => obtain ⟨σ', H', I, q⟩ := h; exact ⟨σ', H', I.unwish, q⟩
  | brk => obtain ⟨σ', H', I, q⟩ := h; exact ⟨σ', H', I.unwish, q⟩
  | cont => obtain ⟨σ', H', I, q⟩ := h; exact ⟨σ', H', I.unwish, q⟩
  | ret u => obtain ⟨v, σ', H', I, r, q⟩ := h; exact ⟨v, σ', H', I.unwish, r, q⟩
theorem PSs.nox {st : List Stmt} {t : TS} (h : PSs X.nox st t) : PSs X st t := fun pins s σ H D I hw =>
  wpAny_mono (h pins s σ H D (I.wish _) hw) (fun _ _ q => q.unwish) fun _ _ z => False.elim z
end

/-! ### blocks and small statements -/
section
variable {X : Cx} {st : Stmt} {rest : List Stmt} {t u : TS} {e : Expr} {te : TE} {pos : Pos}
def tNext : TS := fun D σ H => D.nx σ H
def tSeq (t u : TS) : TS := fun D σ H => t { D with nx := u D } σ H
theorem pss_nil : PSs X [] tNext := fun _ _ σ H _ I h => wpAny_execs_nil ⟨σ, H, I, h⟩
theorem pss_cons (h1 : PS X st t) (h2 : PSs X rest u) : PSs X (st :: rest) (tSeq t u) := by
  intro pins s σ H D I h
  refine wpAny_execs_cons (thn (h1 pins s σ H { D with nx := u D } I h) fun f s1 q => ?_)
  cases f with
  | next =>
    obtain ⟨σ', H', I', q⟩ := q
    exact h2 pins s1 σ' H' D I' q
  | ret v => exact q
  | brk => exact q
  | cont => exact q
theorem pss_one (h1 : PS X st t) : PSs X [st] t := by
  intro pins s σ H D I h
  refine wpAny_execs_cons (thn (h1 pins s σ H D I h) fun f s1 q => ?_)
  cases f with
  | next => exact wpAny_execs_nil q
  | ret v => exact q
  | brk => exact q
  | cont => exact q
/-- in a def's body nothing is shown -/
theorem Inv.quiet {pins : List (Addr × Obj)} {σ : St} {H : Hp} {s : Shared} (I : Inv X pins σ H s) : interactive X.env = false := by simp [interactive, I.ok.kind]
/-- an expression whose value is dropped -/
def tDrop (te : TE) : TS := fun D σ H => te σ H fun _ H1 => D.nx σ H1
theorem ps_expr (he : PE X e te) (hs : swapsWith e none pos.line X.env = pure false := by rfl) : PS X (.Expr e pos) (tDrop te) := by
  intro pins s σ H D I h
  exact wpAny_Expr_any (thn (he pins s σ H _ I h) fun v s1 ⟨x, H1, I1, r1, q1⟩ => ⟨σ, H1, I1, q1⟩) I.quiet hs
def tRet (te : TE) : TS := fun D σ H => te σ H D.rt
theorem ps_ret (he : PE X e te) : PS X (.Return (some e) pos) (tRet te) := by
  intro pins s σ H D I h
  exact wpAny_Return_some (thn (he pins s σ H _ I h) fun v s1 ⟨x, H1, I1, r1, q1⟩ => ⟨x, σ, H1, I1, r1, q1⟩)
def tIfS (c : TT) (t u : TS) : TS := fun D σ H => c σ H fun b H1 => if b = true then t D σ H1 else u D σ H1
theorem ps_if {c : Expr} {a b : List Stmt} {tc : TT} (hc : PT X c tc) (ha : PSs X a t) (hb : PSs X b u) : PS X (.If c a b pos) (tIfS tc t u) := by
  intro pins s σ H D I h
  refine wpAny_If (thn (hc pins s σ H _ I h) fun d s1 ⟨H1, I1, q1⟩ => ?_)
  cases d with
  | true => exact ha pins s1 σ H1 D I1 q1
  | false => exact hb pins s1 σ H1 D I1 q1
end

/-! ### targets -/
abbrev TG := V → St → Hp → (St → Hp → Prop) → Prop
def PG (X : Cx) (target : Expr) (t : TG) : Prop :=
  ∀ (pins : List (Addr × Obj)) (s : Shared) (σ : St) (H : Hp) (v : V) (u : Value) (Q : St → Hp → Prop), Inv X pins σ H s → RelV v u → t v σ H Q →
    wpAny (model X.prog X.w) X.A (assign target X.env u) (fun _ s' => ∃ σ' H', Inv X pins σ' H' s' ∧ Q σ' H') X.xe s
/-- o[i] = v, by values -/
abbrev TSet := V → V → V → Hp → (Hp → Prop) → Prop
def PSet (X : Cx) (t : TSet) : Prop :=
  ∀ (pins : List (Addr × Obj)) (s : Shared) (σ : St) (H : Hp) (o i v : V) (ov iv u : Value) (Q : Hp → Prop), Inv X pins σ H s → RelV o ov → RelV i iv → RelV v u → t o i v H Q →
    wpAny (model X.prog X.w) X.A (setItem ov iv u) (fun _ s' => ∃ H', Inv X pins σ H' s' ∧ Q H') X.xe s
/-- a op= b, by values -/
abbrev TIp := V → V → Hp → VK → Prop
def PIp (X : Cx) (op : Operator) (t : TIp) : Prop :=
  ∀ (pins : List (Addr × Obj)) (s : Shared) (σ : St) (H : Hp) (x y : V) (v u : Value) (Q : VK), Inv X pins σ H s → RelV x v → RelV y u → t x y H Q →
    wpAny (model X.prog X.w) X.A (inplaceOp op v u) (EP X pins σ Q) X.xe s
section
variable {X : Cx} {pos : Pos}
def gName (i : Nat) : TG := fun v σ H Q => Q (σ.set i (some v)) H
theorem pg_name {i : Nat} {x : Str} (hN : X.N.Nodup) (hi : X.N[i]? = some x) (hx : Loc X.env.scope x) (hf : X.fn x = true ∨ X.env.scope.names.lookup x = some .local := by first | exact .inl rfl | exact .inr rfl | assumption) : PG X (.Name x pos) (gName i) := by
  intro pins s σ H v u Q I r h
  exact wpAny_assign_Name (store_ok I hN hi hx r (fun s' I' => ⟨_, H, I', h⟩) hf)
/-- o[i] = .. -/
def gSub (to ti : TE) (t : TSet) : TG := fun v σ H Q => to σ H fun o H1 => ti σ H1 fun i H2 => t o i v H2 fun H3 => Q σ H3
theorem pg_sub {o i : Expr} {to ti : TE} {t : TSet} (ho : PE X o to) (hi : PE X i ti) (hs : PSet X t)
    (ha : ∀ v, assign (.Subscript o i pos) X.env v = (do
      let ov ← holding [v] (eval o X.env)
      let iv ← holding [v, ov] (eval i X.env)
      standAt pos
      holding [v, ov, iv] (setItem ov iv v)
      release [v, ov, iv] []) := by intro _; rfl) : PG X (.Subscript o i pos) (gSub to ti t) := by
  intro pins s σ H v u Q I r h
  rw [ha]
  refine wpAny_bind (wpAny_holding (thn (ho pins s σ H _ I h) fun ov s1 ⟨x, H1, I1, r1, q1⟩ => ?_))
  refine wpAny_bind (wpAny_holding (thn (hi pins s1 σ H1 _ I1 q1) fun iv s2 ⟨y, H2, I2, r2, q2⟩ => ?_))
  refine wpAny_bind (wpAny_standAt (wpAny_bind (wpAny_holding (thn (hs pins s2 σ H2 x y v ov iv u _ I2 r1 r2 r q2) fun _ s3 ⟨H3, I3, q3⟩ => ?_))))
  exact wpAny_release ⟨σ, H3, I3, q3⟩
/-- target = value -/
def tAsg (te : TE) (g : TG) : TS := fun D σ H => te σ H fun x H1 => g x σ H1 D.nx
theorem ps_asg {tg e : Expr} {te : TE} {g : TG} (he : PE X e te) (hg : PG X tg g) (hs : swapsWithSole [tg] e pos.line X.env = pure false := by rfl) (hw : swappedStores [tg] e X.env = pure none := by rfl)
    (h1 : (assignEach [tg] X.env).map (·.2) = [assign tg X.env] := by rfl) : PS X (.Assign [tg] e pos) (tAsg te g) := by
  intro pins s σ H D I h
  refine wpAny_Assign_stores (thn (he pins s σ H _ I h) fun v s1 ⟨x, H1, I1, r1, q1⟩ => ?_) hs hw
  rw [h1]
  exact thn (hg pins s1 σ H1 x v _ I1 r1 q1) fun _ s2 q => q
/-- name = value -/
theorem ps_set {i : Nat} {x : Str} {e : Expr} {te : TE} {pos' : Pos} (hN : X.N.Nodup) (hi : X.N[i]? = some x) (hx : Loc X.env.scope x) (he : PE X e te) (hs : swapsWith e (some (.Name x pos')) pos.line X.env = pure false := by rfl) (hf : X.fn x = true ∨ X.env.scope.names.lookup x = some .local := by first | exact .inl rfl | exact .inr rfl | assumption) :
    PS X (.Assign [.Name x pos'] e pos) (tAsg te (gName i)) := by
  intro pins s σ H D I h
  refine wpAny_Assign_Name (thn (he pins s σ H _ I h) fun v s1 ⟨y, H1, I1, r1, q1⟩ => ?_) hs
  exact store_ok I1 hN hi hx r1 (fun s2 I2 => ⟨_, H1, I2, q1⟩) hf
/-- a, b = x, y with plain local names: stored from the right; the pair itself is not tracked (the opening rows as in PyProof/Rows/TupAssign.lean:23) -/
def tPar (i j : Nat) (ta : TA) : TS := fun D σ H => ta σ H fun vs H1 => ∃ v w, vs = [v, w] ∧ D.nx ((σ.set i (some v)).set j (some w)) H1
theorem ps_par {i j : Nat} {x y : Str} {a b : Expr} {ta : TA} {px py pt : Pos} {kt k2 pt2} (hc : X.calm = true) (hN : X.N.Nodup) (hi : X.N[i]? = some x) (hj : X.N[j]? = some y) (hij : i ≠ j)
    (hx : X.env.scope.names.lookup x = some .local) (hy : X.env.scope.names.lookup y = some .local) (ha : PA X [a, b] ta)
    (hw : swappedStores [.Tuple [.Name x px, .Name y py] kt pt] (.Tuple [a, b] k2 pt2) X.env = pure (some [x, y]))
    (hs : swapsWithSole [.Tuple [.Name x px, .Name y py] kt pt] (.Tuple [a, b] k2 pt2) pos.line X.env = pure false := by rfl) :
    PS X (.Assign [.Tuple [.Name x px, .Name y py] kt pt] (.Tuple [a, b] k2 pt2) pos) (tPar i j ta) := by
  intro pins s σ H D I h
  rw [exec_Assign_arm]
  refine wpAny_bind (wpAny_standAt ?_)
  rw [hs]
  refine wpAny_bind (wpAny_pure ?_)
  rw [if_neg (by decide)]
  refine wpAny_bind (Tuple_ (thn (ha _ pins s σ H _ I h) fun us s1 ⟨vs, H1, I1, r1, q1⟩ => ?_))
  obtain ⟨v, w, e1, q1⟩ := q1
  subst e1
  obtain ⟨u1, u2, rfl, rv, rw'⟩ : ∃ u1 u2, us = [u1, u2] ∧ RelV v u1 ∧ RelV w u2 := by
    cases r1 with
    | cons p q =>
      cases q with
      | cons p' q' =>
        cases q'
        exact ⟨_, _, rfl, p, p'⟩
  refine wpAny_newObj_type ?_ (by show 2 ≤ sizeLine; decide)
  have I2 : Inv X pins σ H1 { s1 with heap := s1.heap.push { cls := .type "tuple", data := .seq [u1, u2].toArray } } := I1.kept (t' := s1.toks) fun b o e => Heap.get?_push_of_some _ e
  rw [hw]
  refine wpAny_bind (wpAny_pure ?_)
  show wpAny (model X.prog X.w) X.A (do rule "assign.swapped-stores"; let items ← unpackItems (.ref s1.heap.objs.size) 2 none; assignInOrder [fun v => bindName X.env y v, fun v => bindName X.env x v] items.reverse; pure Flow.next) _ _ _
  refine wpAny_bind (wpAny_rule (wpAny_bind (unpackItems_tuple (items := #[u1, u2]) (I.ok.hd hc) (IsTup.new s1.heap _) fun h' hx' => ?_)))
  have I3 := I2.kept (h' := h') (t' := s1.toks) fun b o e => hx' b o (Nat.ne_of_lt (Heap.lt_size e)) e
  show wpAny _ _ (assignInOrder [fun v => bindName X.env y v, fun v => bindName X.env x v] [u2, u1] >>= fun _ => pure Flow.next) _ _ _
  refine wpAny_bind (assignInOrder_cons (wpAny_bindName (store_ok I3 hN hj (.inl hy) rw' (fun s2 I4 => ?_) (.inr hy))))
  refine assignInOrder_cons (wpAny_bindName (store_ok I4 hN hi (.inl hx) rv (fun s3 I5 => assignInOrder_nil (wpAny_pure ?_)) (.inr hx)))
  rw [List.set_comm _ _ (Ne.symm hij)] at I5
  exact ⟨_, H1, I5, q1⟩
/-- o[i] op= e -/
def tAugS (to ti te : TE) (tget : V → V → Hp → VK → Prop) (tip : TIp) (tset : TSet) : TS := fun D σ H => to σ H fun o H1 => ti σ H1 fun i H2 => tget o i H2 fun x H3 => te σ H3 fun y H4 => tip x y H4 fun z H5 => tset o i z H5 fun H6 => D.nx σ H6
/-- o[i], by values -/
def PGet (X : Cx) (t : V → V → Hp → VK → Prop) : Prop :=
  ∀ (pins : List (Addr × Obj)) (s : Shared) (σ : St) (H : Hp) (o i : V) (ov iv : Value) (Q : VK), Inv X pins σ H s → RelV o ov → RelV i iv → t o i H Q →
    wpAny (model X.prog X.w) X.A (getItem ov iv) (EP X pins σ Q) X.xe s
theorem ps_augS {o i e : Expr} {to ti te : TE} {tget : V → V → Hp → VK → Prop} {tip : TIp} {tset : TSet} {op : Operator} {tpos : Pos} (ho : PE X o to) (hi : PE X i ti) (hg : PGet X tget) (he : PE X e te) (hp : PIp X op tip) (hs : PSet X tset)
    (ha : ∀ ov iv new, augStore i ov iv new = (do holding [new, ov, iv] (setItem ov iv new); release [new, ov, iv] []; pure .next) := by intros; rfl) : PS X (.AugAssign (.Subscript o i tpos) op e pos) (tAugS to ti te tget tip tset) := by
  intro pins s σ H D I h
  refine wpAny_AugAssign_SubscriptAny (thn (ho pins s σ H _ I h) fun ov s1 ⟨x1, H1, I1, r1, q1⟩ => ?_) ha
  refine thn (hi pins s1 σ H1 _ I1 q1) fun iv s2 ⟨x2, H2, I2, r2, q2⟩ => ?_
  refine thn (hg pins s2 σ H2 x1 x2 ov iv _ I2 r1 r2 q2) fun old s3 ⟨x3, H3, I3, r3, q3⟩ => ?_
  refine thn (he pins s3 σ H3 _ I3 q3) fun v s4 ⟨x4, H4, I4, r4, q4⟩ => ?_
  refine thn (hp pins s4 σ H4 x3 x4 old v _ I4 r3 r4 q4) fun new s5 ⟨x5, H5, I5, r5, q5⟩ => ?_
  exact thn (hs pins s5 σ H5 x1 x2 x5 ov iv new _ I5 r1 r2 r5 q5) fun _ s6 ⟨H6, I6, q6⟩ => ⟨σ, H6, I6, q6⟩
/-- ints -/
def ipI (f : Int → Int → Int) : TIp := fun x y H Q => ∃ i j, x = .int i ∧ y = .int j ∧ Q (.int (f i j)) H
theorem ip_add : PIp X .Add (ipI fun i j => i + j) := by
  intro pins s σ H x y v u Q I r1 r2 h
  obtain ⟨i, j, e1, e2, q⟩ := h
  subst e1; subst e2
  obtain ⟨t, rfl⟩ := r1
  obtain ⟨t', rfl⟩ := r2
  exact iadd_int ⟨.int _, H, I.tok _, ⟨_, rfl⟩, q⟩
end

/-! ### while -/
section
variable {X : Cx} {pos : Pos}
end

/-! ### what a loop or a comprehension walks -/
/-- at turn i: it yields x (the heap may grow), or it stops -/
structure It where
  go : Nat → Hp → Prop
  yld : Nat → Hp → V → Hp → Prop
  stop : Nat → Hp → Prop
/-- the iterator's own objects may turn: they are not the frame's, not pinned, younger than the entry (or a comprehension's own) -/
def FpOk (X : Cx) (pins : List (Addr × Obj)) (H : Hp) (b : Addr) : Prop :=
  H b = none ∧ b ≠ X.env.locals ∧ b ∉ X.fs ∧ (b ∈ X.ex ∨ X.s₀.heap.objs.size ≤ b) ∧ (∀ x c, X.env.cells.lookup x = some c → c ≠ b) ∧ ∀ p ∈ X.pn ++ pins, p.1 ≠ b
theorem Inv.fpOk {X : Cx} {pins : List (Addr × Obj)} {σ : St} {H H' : Hp} {s : Shared} {b : Addr} (I : Inv X pins σ H s) (hb : s.heap.objs.size ≤ b) (hn : H' b = none) : FpOk X pins H' b := by
  refine ⟨hn, Nat.ne_of_gt (Nat.lt_of_lt_of_le I.lt hb), I.nofs hb, .inr (Nat.le_trans I.sz hb), fun x c e z => ?_, fun p hp z => ?_⟩
  · obtain ⟨v, q⟩ := I.cell x c e
    exact absurd (Nat.lt_of_lt_of_le q.lt (by rw [z]; exact hb)) (Nat.lt_irrefl _)
  · exact absurd (Nat.lt_of_lt_of_le (Heap.lt_size (I.pin p hp).1) (by rw [z]; exact hb)) (Nat.lt_irrefl _)
structure Turn (P : Program) (w : World) (K : PySem.W.Frag) (tg : Expr) (J : It) (fp : List Addr) (it : Addr) (tn : Nat → Heap → Prop) : Prop where
  mem : it ∈ fp
  obj : ∀ i h, tn i h → ∀ b ∈ fp, ∃ o, h.get? b = some o ∧ ∀ v, o.data ≠ .cell v
  keep : ∀ i h h', tn i h → (∀ b ∈ fp, ∀ o, h.get? b = some o → h'.get? b = some o) → tn i h'
  item : ∀ (X : Cx), X.prog = P → X.w = w → X.K = K → X.calm = true → ∀ (i : Nat) (pins : List (Addr × Obj)) (s : Shared) (σ : St) (H : Hp) (E : Value → Shared → Prop), Inv X pins σ H s → (∀ b ∈ fp, FpOk X pins H b) → tn i s.heap → J.go i H →
    wpAny (model P w) X.A (pyNext (.ref it)) (fun r s1 => ∃ u, r = some u ∧
      wpAny (model P w) X.A (letOwnedTupleGo tg (.ref it) u) (fun _ s2 => ∃ x H', Inv X pins σ H' s2 ∧ RelV x u ∧ J.yld i H x H' ∧ tn (i + 1) s2.heap ∧ ∀ b ∈ fp, H' b = none) E s1) E s
  done : ∀ (X : Cx), X.prog = P → X.w = w → X.K = K → X.calm = true → ∀ (i : Nat) (pins : List (Addr × Obj)) (s : Shared) (σ : St) (H : Hp) (E : Value → Shared → Prop), Inv X pins σ H s → (∀ b ∈ fp, FpOk X pins H b) → tn i s.heap → J.stop i H →
    wpAny (model P w) X.A (pyNext (.ref it)) (fun r s1 => r = none ∧ Inv X pins σ H s1) E s
  self : ∀ (A : Around) (i : Nat) (s : Shared) (Q : Value → Shared → Prop) (E : Value → Shared → Prop), tn i s.heap → Q (.ref it) s → wpAny (model P w) A (pyIter (.ref it)) Q E s
abbrev TI := St → Hp → (It → Hp → Prop) → Prop
/-- an iterator has come -/
def PIE (X : Cx) (pins : List (Addr × Obj)) (σ : St) (tg : Expr) (R : It → Hp → Prop) (itv : Value) (s2 : Shared) : Prop :=
  ∃ (it : Addr) (fp : List Addr) (tn : Nat → Heap → Prop) (J : It) (H' : Hp), itv = .ref it ∧ Inv X pins σ H' s2 ∧ Turn X.prog X.w X.K tg J fp it tn ∧ tn 0 s2.heap ∧ (∀ b ∈ fp, FpOk X pins H' b) ∧ R J H'
def PI (X : Cx) (tg iter : Expr) (wi : TI) : Prop :=
  ∀ (pins : List (Addr × Obj)) (s : Shared) (σ : St) (H : Hp) (R : It → Hp → Prop), Inv X pins σ H s → wi σ H R →
    wpAny (model X.prog X.w) X.A (eval iter X.env) (fun v s1 => wpAny (model X.prog X.w) X.A (pyIter v) (PIE X pins σ tg R) X.xe s1) X.xe s

/-- the step ahead of the store is nothing for an iterator that keeps no tuple -/
theorem go_of {M : Model} {A : Around} {E : Value → Shared → Prop} {s : Shared} {tg : Expr} {it : Addr} {u : Value} {o : Obj} {n : String} {vs : Array Value} {Q : Unit → Shared → Prop} (ho : s.heap.get? it = some o) (hc : o.cls = .type n) (hd : o.data = .fields vs)
    (hn : ["enumerate", "zip", "dict_itemiterator", "dict_reverseitemiterator", "odict_iterator", "itertools.zip_longest", "itertools.pairwise"].contains n = false) (hQ : Q () s) : wpAny M A (letOwnedTupleGo tg (.ref it) u) Q E s := by
  unfold letOwnedTupleGo
  cases tg <;> first
    | exact wpAny_pure hQ
    | (cases u <;> first
        | exact wpAny_pure hQ
        | (refine wpAny_bind (wpAny_load ho ?_)
           rw [hc, hd]
           show wpAny M A (if (["enumerate", "zip", "dict_itemiterator", "dict_reverseitemiterator", "odict_iterator", "itertools.zip_longest", "itertools.pairwise"].contains n && vs[0]? == some (rawInt _)) = true then _ else _) Q E s
           rw [if_neg (by intro h; rw [hn, Bool.false_and] at h; cases h)]
           exact wpAny_pure hQ))

/-- the list at a, as it stands at each turn (a loop may append to it) -/
def Itl (K : PySem.W.Frag) (a : Addr) : It :=
  ⟨fun i H => ∃ xs x, SqL K H a xs ∧ xs[i]? = some x, fun i H x H' => H' = H ∧ ∀ xs, SqL K H a xs → xs[i]? = some x, fun i H => ∃ xs, SqL K H a xs ∧ xs.length ≤ i⟩
def Itt (K : PySem.W.Frag) (a : Addr) : It :=
  ⟨fun i H => ∃ xs x, SqT K H a xs ∧ xs[i]? = some x, fun i H x H' => H' = H ∧ ∀ xs, SqT K H a xs → xs[i]? = some x, fun i H => ∃ xs, SqT K H a xs ∧ xs.length ≤ i⟩
/-- lo, lo + 1, .. (n of them) -/
def Itr (lo : Int) (n : Nat) : It := ⟨fun i _ => i < n, fun i H x H' => H' = H ∧ x = .int (lo + i), fun i _ => n ≤ i⟩
theorem turn_list {P : Program} {w : World} {K : PySem.W.Frag} {tg : Expr} (a it : Addr) : Turn P w K tg (Itl K a) [it] it (fun i h => h.IsListIter it a i) where
  mem := by simp
  obj := fun i h st b hb => by
    have e : b = it := by simpa using hb
    subst e
    obtain ⟨o, e, c, d⟩ := st
    exact ⟨o, e, fun v z => by rw [d] at z; cases z⟩
  keep := fun i h h' st k => st.at fun o e => k it (by simp) o e
  item := by
    intro X hP hw hK hc i pins s σ H E I hf st hg
    subst hP hw hK
    obtain ⟨xs, x, hq, hx⟩ := hg
    obtain ⟨its, rv, p, hz⟩ := I.list hq
    obtain ⟨u, hu, ru⟩ := rv.get hx
    obtain ⟨f0, f1, f2, f3, f4, f5⟩ := hf it (by simp)
    refine wpAny_pyNext_list_item st p.isList (x := u) (by simpa using hu) fun h' st' sb => ?_
    have I1 : Inv X pins σ H { s with heap := h' } := I.turned (t' := s.toks) (fun b o hb e => (sb.2 b hb).trans e) f0 f1 f3 f4 f5
    obtain ⟨o, e, c, d⟩ := id st'
    exact ⟨u, rfl, go_of (s := { s with heap := h' }) e c d (by decide) ⟨x, H, I1, ru, ⟨rfl, fun ys hy => by rw [I.list_inj hy hq]; exact hx⟩, st', fun b hb => (hf b hb).1⟩⟩
  done := by
    intro X hP hw hK hc i pins s σ H E I hf st hg
    subst hP hw hK
    obtain ⟨xs, hq, hx⟩ := hg
    obtain ⟨its, rv, p, hz⟩ := I.list hq
    obtain ⟨f0, f1, f2, f3, f4, f5⟩ := hf it (by simp)
    have hl := rv.length
    exact wpAny_pyNext_list_end (I.ok.hd hc) st p.isList (by simp; omega) fun h' eb => ⟨rfl, I.turned (t' := s.toks) (fun b o hb e => eb b o hb e) f0 f1 f3 f4 f5⟩
  self := fun _ _ _ _ _ st h => wpAny_pyIter_listiter st h
theorem turn_tuple {P : Program} {w : World} {K : PySem.W.Frag} {tg : Expr} (a it : Addr) : Turn P w K tg (Itt K a) [it] it (fun i h => h.IsTupleIter it a i) where
  mem := by simp
  obj := fun i h st b hb => by
    have e : b = it := by simpa using hb
    subst e
    obtain ⟨o, e, c, d⟩ := st
    exact ⟨o, e, fun v z => by rw [d] at z; cases z⟩
  keep := fun i h h' st k => st.at fun o e => k it (by simp) o e
  item := by
    intro X hP hw hK hc i pins s σ H E I hf st hg
    subst hP hw hK
    obtain ⟨xs, x, hq, hx⟩ := hg
    obtain ⟨its, rv, p, hz⟩ := I.tuple hq
    obtain ⟨u, hu, ru⟩ := rv.get hx
    obtain ⟨f0, f1, f2, f3, f4, f5⟩ := hf it (by simp)
    refine wpAny_pyNext_tuple_item st (show s.heap.IsTuple a its.toArray from p) (x := u) (by simpa using hu) fun h' st' sb => ?_
    have I1 : Inv X pins σ H { s with heap := h' } := I.turned (t' := s.toks) (fun b o hb e => (sb.2 b hb).trans e) f0 f1 f3 f4 f5
    obtain ⟨o, e, c, d⟩ := id st'
    exact ⟨u, rfl, go_of (s := { s with heap := h' }) e c d (by decide) ⟨x, H, I1, ru, ⟨rfl, fun ys hy => by rw [I.tuple_inj hy hq]; exact hx⟩, st', fun b hb => (hf b hb).1⟩⟩
  done := by
    intro X hP hw hK hc i pins s σ H E I hf st hg
    subst hP hw hK
    obtain ⟨xs, hq, hx⟩ := hg
    obtain ⟨its, rv, p, hz⟩ := I.tuple hq
    obtain ⟨f0, f1, f2, f3, f4, f5⟩ := hf it (by simp)
    have hl := rv.length
    exact wpAny_pyNext_tuple_end (I.ok.hd hc) st (show s.heap.IsTuple a its.toArray from p) (by simp; omega) fun h' eb => ⟨rfl, I.turned (t' := s.toks) (fun b o hb e => eb b o hb e) f0 f1 f3 f4 f5⟩
  self := fun _ _ _ _ _ st h => wpAny_pyIter_tupleiter st h
theorem turn_range {P : Program} {w : World} {K : PySem.W.Frag} {tg : Expr} (it : Addr) (lo : Int) (n : Nat) : Turn P w K tg (Itr lo n) [it] it (fun i h => IsRangeIter h it (lo + (i : Nat) * 1) ((n : Int) - (i : Nat)) 1) where
  mem := by simp
  obj := fun i h st b hb => by
    have e : b = it := by simpa using hb
    subst e
    exact ⟨_, st, fun v z => by
      have z' : Data.fields _ = Data.cell v := z
      cases z'⟩
  keep := fun i h h' st k => k it (by simp) _ st
  item := by
    intro X hP hw hK hc i pins s σ H E I hf st hg
    subst hP hw hK
    obtain ⟨f0, f1, f2, f3, f4, f5⟩ := hf it (by simp)
    have W := Walks.range (prog := X.prog) (w := X.w) (I.ok.hd hc) it lo 1 n
    refine W.item i s _ _ hg st fun v h' tk hv st' kk => ?_
    obtain ⟨t, rfl⟩ := hv
    have I1 : Inv X pins σ H { s with heap := h', toks := tk } := I.turned (fun b o hb e => kk b o (by simpa using hb) e) f0 f1 f3 f4 f5
    refine ⟨_, rfl, go_of (s := { s with heap := h', toks := tk }) (n := "range_iterator") st' rfl rfl (by decide) ⟨.int (lo + i), H, I1, ⟨t, ?_⟩, ⟨rfl, rfl⟩, st', fun b hb => (hf b hb).1⟩⟩
    rw [Int.mul_one]
  done := by
    intro X hP hw hK hc i pins s σ H E I hf st hg
    subst hP hw hK
    obtain ⟨f0, f1, f2, f3, f4, f5⟩ := hf it (by simp)
    exact wpAny_pyNext_range_end (I.ok.hd hc) st (by have : n ≤ i := hg; omega) fun h' eb => ⟨rfl, I.turned (t' := s.toks) (fun b o hb e => eb b o hb e) f0 f1 f3 f4 f5⟩
  self := fun _ _ _ _ _ st h => wpAny_pyIter_rangeiter st h
end L2

namespace L2
open PySem PySem.Spec PyProof.Rows
section
variable {X : Cx} {tg : Expr}
def iList (K : PySem.W.Frag) (tl : TE) : TI := fun σ H R => tl σ H fun x H1 => ∃ a, x = .ref a ∧ (∃ xs, SqL K H1 a xs) ∧ R (Itl K a) H1
def iTup (K : PySem.W.Frag) (tl : TE) : TI := fun σ H R => tl σ H fun x H1 => ∃ a, x = .ref a ∧ (∃ xs, SqT K H1 a xs) ∧ R (Itt K a) H1
theorem pi_list {l : Expr} {tl : TE} (hl : PE X l tl) : PI X tg l (iList X.K tl) := by
  intro pins s σ H R I h
  refine thn (hl pins s σ H _ I h) fun v s1 ⟨x, H1, I1, r1, q1⟩ => ?_
  obtain ⟨a, e, ⟨xs, hq⟩, q⟩ := q1
  subst e
  cases r1
  obtain ⟨its, rv, p, hz⟩ := I1.list hq
  refine wpAny_pyIter_list p.isList ?_
  refine ⟨s1.heap.objs.size, [s1.heap.objs.size], _, _, H1, rfl, I1.kept (t' := s1.toks) fun b o e => Heap.get?_push_of_some _ e, turn_list a _, ⟨_, Heap.get?_push_size _ rfl, rfl, rfl⟩, fun b hb => ?_, q⟩
  have e : b = s1.heap.objs.size := by simpa using hb
  subst e
  exact I1.fpOk (Nat.le_refl _) (I1.hok.fresh (Nat.le_refl _))
theorem pi_tup {l : Expr} {tl : TE} (hl : PE X l tl) : PI X tg l (iTup X.K tl) := by
  intro pins s σ H R I h
  refine thn (hl pins s σ H _ I h) fun v s1 ⟨x, H1, I1, r1, q1⟩ => ?_
  obtain ⟨a, e, ⟨xs, hq⟩, q⟩ := q1
  subst e
  cases r1
  obtain ⟨its, rv, p, hz⟩ := I1.tuple hq
  refine wpAny_pyIter_tuple (show s1.heap.IsTuple a its.toArray from p) ?_
  refine ⟨s1.heap.objs.size, [s1.heap.objs.size], _, _, H1, rfl, I1.kept (t' := s1.toks) fun b o e => Heap.get?_push_of_some _ e, turn_tuple a _, ⟨_, Heap.get?_push_size _ rfl, rfl, rfl⟩, fun b hb => ?_, q⟩
  have e : b = s1.heap.objs.size := by simpa using hb
  subst e
  exact I1.fpOk (Nat.le_refl _) (I1.hok.fresh (Nat.le_refl _))
/-- a range object just made, walked -/
theorem range_it {pins : List (Addr × Obj)} {σ : St} {H : Hp} {s : Shared} {R : It → Hp → Prop} {E : Value → Shared → Prop} {lo hi : Int} {t u v : Tok} {tk : Nat} (I : Inv X pins σ H s) (h1 : -(2 ^ 62) ≤ lo) (h2 : lo < 2 ^ 62) (h3 : -(2 ^ 62) ≤ hi) (h4 : hi < 2 ^ 62)
    (q : R (Itr lo (hi - lo).toNat) H) : wpAny (model X.prog X.w) X.A (pyIter (.ref s.heap.objs.size)) (PIE X pins σ tg R) E { s with heap := s.heap.push { cls := .type "range", data := .fields #[.int lo t, .int hi u, .int 1 v] }, toks := tk } := by
  refine wpAny_pyIter_range (IsRange.new ..) (small_one h1 h2 h3 h4) ?_
  have I1 : Inv X pins σ H { s with heap := s.heap.push { cls := .type "range", data := .fields #[.int lo t, .int hi u, .int 1 v] }, toks := tk } := I.kept fun b o e => Heap.get?_push_of_some _ e
  refine ⟨(s.heap.push { cls := .type "range", data := .fields #[.int lo t, .int hi u, .int 1 v] }).objs.size, [(s.heap.push { cls := .type "range", data := .fields #[.int lo t, .int hi u, .int 1 v] }).objs.size], _, _, H, rfl,
    I1.kept (t' := tk) fun b o e => Heap.get?_push_of_some _ e, turn_range _ lo (hi - lo).toNat, ?_, fun b hb => ?_, q⟩
  · have e1 : lo + ((0 : Nat) : Int) * 1 = lo := by simp
    have e2 : (((hi - lo).toNat : Nat) : Int) - ((0 : Nat) : Int) = Builtin.Range.rangeSize lo hi 1 := by rw [rangeSize_one]; split <;> omega
    show IsRangeIter _ _ (lo + ((0 : Nat) : Int) * 1) ((((hi - lo).toNat : Nat) : Int) - ((0 : Nat) : Int)) 1
    rw [e1, e2]
    exact Heap.get?_push_size _ rfl
  · have e : b = (s.heap.push { cls := .type "range", data := .fields #[.int lo t, .int hi u, .int 1 v] }).objs.size := by simpa using hb
    subst e
    exact I1.fpOk (Nat.le_refl _) (I1.hok.fresh (Nat.le_refl _))
def iRng1 (ta : TA) : TI := fun σ H R => ta σ H fun vs H1 => ∃ j : Int, vs = [.int j] ∧ -(2 ^ 62) ≤ j ∧ j < 2 ^ 62 ∧ R (Itr 0 j.toNat) H1
theorem pi_range1 {a : Expr} {ta : TA} {p pos : Pos} (hg : Gl X "range") (hm : X.mg "range" = none) (ha : PA X [a] ta) (hs : starEach [a] X.env = [(false, eval a X.env)] := by rfl) : PI X tg (.Call (.Name "range" p) [a] [] pos) (iRng1 ta) := by
  intro pins s σ H R I h
  refine Call_ (ld_blt I hg hm boot_range (PyProof.Rows.callWith_type1 (thn (ha pos pins s σ H _ I h) fun us s1 ⟨vs, H1, I1, r1, q1⟩ => ?_) hs rfl))
  obtain ⟨j, e, q1, q2, q⟩ := q1
  subst e
  cases r1 with
  | cons r rr =>
    cases rr
    obtain ⟨t, rfl⟩ := r
    exact call_range_1 (range_it I1 (by omega) (by omega) q1 q2 (by simpa using q))
/-! ### for -/
/-- W: the invariant by the turn and a measure; N: what the body is to reach -/
def tFor (wi : TI) (g : TG) (tb : TS) : TS := fun D σ H => wi σ H fun J H1 => ∃ W : Nat → Nat → St → Hp → Prop, (∃ m, W 0 m σ H1) ∧ ∀ i m σ H, W i m σ H →
  (J.stop i H ∧ D.nx σ H) ∨ (J.go i H ∧ ∃ N : St → Hp → Prop, (∀ σ' H', N σ' H' → ∃ m', m' < m ∧ W (i + 1) m' σ' H') ∧ ∀ x H', J.yld i H x H' → g x σ H' fun σ2 H2 => tb { D with nx := N, ct := N, bk := D.nx } σ2 H2)
/-- the records at fp as they stand -/
def pinsAt (fp : List Addr) (h : Heap) : List (Addr × Obj) := fp.filterMap fun b => (h.get? b).map fun o => (b, o)
theorem mem_pinsAt {fp : List Addr} {h : Heap} {b : Addr} {o : Obj} (hb : b ∈ fp) (e : h.get? b = some o) : (b, o) ∈ pinsAt fp h := List.mem_filterMap.mpr ⟨b, hb, by rw [e]; rfl⟩
theorem of_pinsAt {fp : List Addr} {h : Heap} {p : Addr × Obj} (hp : p ∈ pinsAt fp h) : p.1 ∈ fp ∧ h.get? p.1 = some p.2 := by
  obtain ⟨b, hb, e⟩ := List.mem_filterMap.mp hp
  cases q : h.get? b with
  | none => rw [q] at e; cases e
  | some o =>
    rw [q] at e
    have e' : (b, o) = p := Option.some.inj e
    subst e'
    exact ⟨hb, q⟩
theorem Inv.pinned {pins : List (Addr × Obj)} {σ : St} {H : Hp} {s : Shared} {fp : List Addr} (I : Inv X pins σ H s) (hf : ∀ b ∈ fp, FpOk X pins H b) (ho : ∀ b ∈ fp, ∃ o, s.heap.get? b = some o ∧ ∀ v, o.data ≠ .cell v) : Inv X (pins ++ pinsAt fp s.heap) σ H s :=
  I.pins_of fun p hp => (List.mem_append.mp hp).elim (fun z => I.pin p (List.mem_append_right _ z)) fun z => by
    obtain ⟨hb, e⟩ := of_pinsAt z
    obtain ⟨f0, f1, f2, _⟩ := hf p.1 hb
    obtain ⟨o, e', d⟩ := ho p.1 hb
    rw [e] at e'; cases e'
    exact ⟨e, f0, f1, f2, d⟩
theorem Inv.unpinned {pins pl : List (Addr × Obj)} {σ : St} {H : Hp} {s : Shared} (I : Inv X (pins ++ pl) σ H s) : Inv X pins σ H s := I.pins_of fun p hp => I.pin p (List.mem_append_right _ (List.mem_append_left _ hp))
theorem ps_for {iter : Expr} {body : List Stmt} {wi : TI} {g : TG} {tb : TS} {pos : Pos} (hp : PassesOwn (model X.prog X.w) X.A X.env X.xe) (hc : X.calm = true) (hi : PI X tg iter wi) (hg : PG X tg g) (hb : PSs X body tb)
    (hs : ∀ x, foldedSetIterable iter X.env x = pure x := by intro _; rfl) : PS X (.For tg iter body [] pos) (tFor wi g tb) := by
  intro pins s σ H D I h
  refine wpAny_For (thn (hi pins s σ H _ I h) fun v s1 h1 => thn h1 fun itv s2 h2 => ?_) hs
  obtain ⟨it, fp, tn, J, H2, e, I2, T, st2, f2, W, ⟨m0, w0⟩, turn⟩ := h2
  subst e
  -- what stays true of the iterator's objects through the loop
  have stat : ∀ {H' : Hp}, (∀ b ∈ fp, H' b = none) → ∀ b ∈ fp, FpOk X pins H' b := fun hn b hb => ⟨hn b hb, (f2 b hb).2⟩
  refine codeAny_forLoop_any (fun n s' => ∃ i σ' H', Inv X pins σ' H' s' ∧ tn i s'.heap ∧ (∀ b ∈ fp, H' b = none) ∧ W i n σ' H') ?_ m0 ⟨0, σ, H2, I2, st2, fun b hb => (f2 b hb).1, w0⟩
  rintro n s3 ⟨i, σ3, H3, I3, st3, fr3, w3⟩
  rcases turn i n σ3 H3 w3 with ⟨stop, qn⟩ | ⟨go, N, hN, step⟩
  · refine wpAny_passesOwn hp (thn (T.done X rfl rfl rfl hc i pins s3 σ3 H3 X.xe I3 (stat fr3) st3 stop) fun r s4 ⟨hr, I4⟩ => ?_)
    subst hr
    exact wpAny_execs_nil ⟨σ3, H3, I4, qn⟩
  · refine wpAny_passesOwn hp (thn (T.item X rfl rfl rfl hc i pins s3 σ3 H3 X.xe I3 (stat fr3) st3 go) fun r s4 ⟨u, hr, h4⟩ => ?_)
    subst hr
    refine wpAny_passesOwn hp (thn h4 fun _ s5 ⟨x, H5, I5, r5, y5, st5, fr5⟩ => ?_)
    have I5' := I5.pinned (stat fr5) (T.obj _ _ st5)
    refine wpAny_passesOwn hp (thn (hg _ s5 σ3 H5 x u _ I5' r5 (step x H5 y5)) fun _ s6 ⟨σ6, H6, I6, q6⟩ => ?_)
    refine wpAny_passesOwn hp (thn (hb _ s6 σ6 H6 _ I6 q6) fun f s7 q7 => ?_)
    have again : ∀ {σ7 : St} {H7 : Hp}, Inv X (pins ++ pinsAt fp s5.heap) σ7 H7 s7 → N σ7 H7 → ∃ m, m < n ∧ ∃ i σ' H', Inv X pins σ' H' s7 ∧ tn i s7.heap ∧ (∀ b ∈ fp, H' b = none) ∧ W i m σ' H' := fun {σ7 H7} I7 n7 => by
      obtain ⟨m', hm, w7⟩ := hN σ7 H7 n7
      refine ⟨m', hm, i + 1, σ7, H7, I7.unpinned, T.keep _ _ _ st5 fun b hb o e => (I7.pin (b, o) (List.mem_append_right _ (List.mem_append_right _ (mem_pinsAt hb e)))).1, fun b hb => ?_, w7⟩
      obtain ⟨o, e, d⟩ := T.obj _ _ st5 b hb
      exact (I7.pin (b, o) (List.mem_append_right _ (List.mem_append_right _ (mem_pinsAt hb e)))).2.1
    cases f with
    | next => obtain ⟨σ7, H7, I7, n7⟩ := q7; exact again I7 n7
    | cont => obtain ⟨σ7, H7, I7, n7⟩ := q7; exact again I7 n7
    | brk => obtain ⟨σ7, H7, I7, q7⟩ := q7; exact ⟨σ7, H7, I7.unpinned, q7⟩
    | ret v => obtain ⟨x7, σ7, H7, I7, r7, q7⟩ := q7; exact ⟨x7, σ7, H7, I7.unpinned, r7, q7⟩
end

/-! ### the forms one uses -/
/-- over a list that the body leaves as it is -/
theorem for_list {K : PySem.W.Frag} {a : Addr} {xs : List V} {g : TG} {tb : TS} {D : Ends} {σ : St} {H : Hp} (Pv : Nat → St → Hp → Prop) (h0 : Pv 0 σ H) (hl : ∀ i σ H, i ≤ xs.length → Pv i σ H → SqL K H a xs)
    (hs : ∀ i x σ H, xs[i]? = some x → Pv i σ H → g x σ H fun σ2 H2 => tb { D with nx := Pv (i + 1), ct := Pv (i + 1), bk := D.nx } σ2 H2) (hd : ∀ σ H, Pv xs.length σ H → D.nx σ H) :
    ∃ W : Nat → Nat → St → Hp → Prop, (∃ m, W 0 m σ H) ∧ ∀ i m σ H, W i m σ H →
      ((Itl K a).stop i H ∧ D.nx σ H) ∨ ((Itl K a).go i H ∧ ∃ N : St → Hp → Prop, (∀ σ' H', N σ' H' → ∃ m', m' < m ∧ W (i + 1) m' σ' H') ∧ ∀ x H', (Itl K a).yld i H x H' → g x σ H' fun σ2 H2 => tb { D with nx := N, ct := N, bk := D.nx } σ2 H2) := by
  refine ⟨fun i m σ H => m = xs.length - i ∧ i ≤ xs.length ∧ Pv i σ H, ⟨xs.length, by simp, Nat.zero_le _, h0⟩, ?_⟩
  rintro i m σ H ⟨rfl, hi, p⟩
  have q := hl i σ H hi p
  by_cases hlt : i < xs.length
  · refine .inr ⟨⟨xs, xs[i], q, by simp [hlt]⟩, Pv (i + 1), fun σ' H' p' => ⟨xs.length - (i + 1), by omega, rfl, hlt, p'⟩, fun x H' y => ?_⟩
    obtain ⟨e, y⟩ := y
    subst e
    exact hs i x σ _ (y xs q) p
  · have e : i = xs.length := by omega
    subst e
    exact .inl ⟨⟨xs, q, Nat.le_refl _⟩, hd σ H p⟩
theorem for_range {lo : Int} {n : Nat} {g : TG} {tb : TS} {D : Ends} {σ : St} {H : Hp} (Pv : Nat → St → Hp → Prop) (h0 : Pv 0 σ H)
    (hs : ∀ i σ H, i < n → Pv i σ H → g (.int (lo + i)) σ H fun σ2 H2 => tb { D with nx := Pv (i + 1), ct := Pv (i + 1), bk := D.nx } σ2 H2) (hd : ∀ σ H, Pv n σ H → D.nx σ H) :
    ∃ W : Nat → Nat → St → Hp → Prop, (∃ m, W 0 m σ H) ∧ ∀ i m σ H, W i m σ H →
      ((Itr lo n).stop i H ∧ D.nx σ H) ∨ ((Itr lo n).go i H ∧ ∃ N : St → Hp → Prop, (∀ σ' H', N σ' H' → ∃ m', m' < m ∧ W (i + 1) m' σ' H') ∧ ∀ x H', (Itr lo n).yld i H x H' → g x σ H' fun σ2 H2 => tb { D with nx := N, ct := N, bk := D.nx } σ2 H2) := by
  refine ⟨fun i m σ H => m = n - i ∧ i ≤ n ∧ Pv i σ H, ⟨n, by simp, Nat.zero_le _, h0⟩, ?_⟩
  rintro i m σ H ⟨rfl, hi, p⟩
  by_cases hlt : i < n
  · refine .inr ⟨hlt, Pv (i + 1), fun σ' H' p' => ⟨n - (i + 1), by omega, rfl, hlt, p'⟩, fun x H' y => ?_⟩
    obtain ⟨e, y⟩ := y
    subst e y
    exact hs i σ _ hlt p
  · have e : i = n := by omega
    subst e
    exact .inl ⟨Nat.le_refl _, hd σ H p⟩
end L2

namespace L2
open PySem PySem.Spec PyProof.Rows

abbrev R2 := V → V → Hp → VK → Prop
/-- a two-place operation on values: f is binaryOp op, inplaceOp op or compareOp op -/
def OpR (X : Cx) (f : Value → Value → Sem Value) (r : R2) : Prop :=
  ∀ (pins : List (Addr × Obj)) (s : Shared) (σ : St) (H : Hp) (x y : V) (v u : Value) (Q : VK), Inv X pins σ H s → RelV x v → RelV y u → r x y H Q →
    wpAny (model X.prog X.w) X.A (f v u) (EP X pins σ Q) X.xe s
/-- a call of a value that is known (a builtin, a type) with values -/
def CallR (X : Cx) (f : Value) (r : List V → Hp → VK → Prop) : Prop :=
  ∀ (pins : List (Addr × Obj)) (s : Shared) (σ : St) (H : Hp) (xs : List V) (us : List Value) (Q : VK), Inv X pins σ H s → Vals xs us → r xs H Q →
    wpAny (model X.prog X.w) X.A (call f us) (EP X pins σ Q) X.xe s
def tOp (r : R2) (ta tb : TE) : TE := fun σ H Q => ta σ H fun x H1 => tb σ H1 fun y H2 => r x y H2 Q
/-- ints in, under C, and a value out -/
def rI (C : Int → Int → Prop) (g : Int → Int → V) : R2 := fun x y H Q => ∃ i j, x = .int i ∧ y = .int j ∧ C i j ∧ Q (g i j) H
def rI0 (g : Int → Int → V) : R2 := fun x y H Q => ∃ i j, x = .int i ∧ y = .int j ∧ Q (g i j) H
section
variable {X : Cx} {a b c : Expr} {ta tb tc : TE} {pos : Pos}

theorem binT (ha : PE X a ta) (hb : PE X b tb) {pins : List (Addr × Obj)} {s : Shared} {σ : St} {H : Hp} {R : V → V → Hp → Prop} (I : Inv X pins σ H s)
    (h : ta σ H fun x H1 => tb σ H1 fun y H2 => R x y H2) {Q : Value → Shared → Prop} {f : Value → Value → Sem Value}
    (hf : ∀ v u s2 x y H2, Inv X pins σ H2 s2 → RelV x v → RelV y u → R x y H2 → wpAny (model X.prog X.w) X.A (f v u) Q X.xe s2) :
    wpAny (model X.prog X.w) X.A (eval a X.env) (fun v s₁ => wpAny (model X.prog X.w) X.A (eval b X.env) (fun u s₂ => wpAny (model X.prog X.w) X.A (f v u) Q X.xe s₂) X.xe s₁) X.xe s := by
  refine thn (ha pins s σ H _ I h) fun v s1 ⟨x, H1, I1, r1, q1⟩ => ?_
  refine thn (hb pins s1 σ H1 _ I1 q1) fun u s2 ⟨y, H2, I2, r2, q2⟩ => ?_
  exact hf v u s2 x y H2 I2 r1 r2 q2

theorem pe_op {op : Operator} {r : R2} (ho : OpR X (binaryOp op) r) (ha : PE X a ta) (hb : PE X b tb) : PE X (.BinOp a op b pos) (tOp r ta tb) := by
  intro pins s σ H Q I h
  exact wpAny_BinOp (binT ha hb I h fun v u s2 x y H2 I2 rx ry q => ho pins s2 σ H2 x y v u Q I2 rx ry q)
/-! ### ints -/
theorem opI {f : Value → Value → Sem Value} {C : Int → Int → Prop} {g : Int → Int → Int}
    (rule : ∀ (i j : Int) (t u : Tok) (s : Shared) (Q : Value → Shared → Prop) (E : Value → Shared → Prop), C i j → Q (.int (g i j) s.toks) { s with toks := s.toks + 1 } → wpAny (model X.prog X.w) X.A (f (.int i t) (.int j u)) Q E s) :
    OpR X f (rI C fun i j => .int (g i j)) := by
  intro pins s σ H x y v u Q I rx ry h
  obtain ⟨i, j, rfl, rfl, hc, q⟩ := h
  obtain ⟨t, rfl⟩ := rx
  obtain ⟨t', rfl⟩ := ry
  exact rule i j t t' s _ _ hc ⟨.int (g i j), H, I.tok _, ⟨_, rfl⟩, q⟩
theorem opI0 {f : Value → Value → Sem Value} {g : Int → Int → Int}
    (rule : ∀ (i j : Int) (t u : Tok) (s : Shared) (Q : Value → Shared → Prop) (E : Value → Shared → Prop), Q (.int (g i j) s.toks) { s with toks := s.toks + 1 } → wpAny (model X.prog X.w) X.A (f (.int i t) (.int j u)) Q E s) :
    OpR X f (rI0 fun i j => .int (g i j)) := by
  intro pins s σ H x y v u Q I rx ry h
  obtain ⟨i, j, rfl, rfl, q⟩ := h
  obtain ⟨t, rfl⟩ := rx
  obtain ⟨t', rfl⟩ := ry
  exact rule i j t t' s _ _ ⟨.int (g i j), H, I.tok _, ⟨_, rfl⟩, q⟩
theorem opB0 {f : Value → Value → Sem Value} {g : Int → Int → Bool}
    (rule : ∀ (i j : Int) (t u : Tok) (s : Shared) (Q : Value → Shared → Prop) (E : Value → Shared → Prop), Q (.bool (g i j)) s → wpAny (model X.prog X.w) X.A (f (.int i t) (.int j u)) Q E s) :
    OpR X f (rI0 fun i j => .bl (g i j)) := by
  intro pins s σ H x y v u Q I rx ry h
  obtain ⟨i, j, rfl, rfl, q⟩ := h
  obtain ⟨t, rfl⟩ := rx
  obtain ⟨t', rfl⟩ := ry
  exact rule i j t t' s _ _ ⟨.bl (g i j), H, I, rfl, q⟩

def CDiv (i j : Int) : Prop := 0 < j ∧ j < 1073741824
def CPow (i j : Int) : Prop := 0 ≤ j ∧ j ≤ 1000000 ∧ i.natAbs < 2 ^ 64
def CMul (i j : Int) : Prop := (-(2 ^ 64) < i ∧ i < 2 ^ 64) ∨ (-(2 ^ 64) < j ∧ j < 2 ^ 64)
theorem CMul.ok {i j : Int} (h : CMul i j) : IntMulOk i j := by
  rcases h with ⟨h1, h2⟩ | ⟨h1, h2⟩
  · exact .of_left (intBits_le_64 h1 h2)
  · exact .of_right (intBits_le_64 h1 h2)
theorem op_add : OpR X (binaryOp .Add) (rI0 fun i j => .int (i + j)) := opI0 fun _ _ _ _ _ _ _ q => add_int q
theorem op_sub : OpR X (binaryOp .Sub) (rI0 fun i j => .int (i - j)) := opI0 fun _ _ _ _ _ _ _ q => sub_int q
theorem op_mul : OpR X (binaryOp .Mult) (rI CMul fun i j => .int (i * j)) := opI fun _ _ _ _ _ _ _ hc q => mul_int q hc.ok
/-- // by a positive divisor -/
theorem op_fdiv : OpR X (binaryOp .FloorDiv) (rI CDiv fun i j => .int (i / j)) := opI fun i j _ _ _ _ _ hc q => by
  have h1 : (0 : Int) < j := hc.1
  have h2 : j < 1073741824 := hc.2
  exact floordiv_int (by omega) (by rw [Int.fdiv_eq_ediv_of_nonneg i (by omega)]; exact q) (.inl (PyProof.noPylong_small (by omega)))
/-- % by a positive divisor of any size -/
theorem op_mod : OpR X (binaryOp .Mod) (rI (fun _ j => 0 < j) fun i j => .int (i % j)) := opI fun i j _ _ _ _ _ hc q => by
  have h1 : (0 : Int) < j := hc
  exact mod_int' (by omega) (by rw [Int.fmod_eq_emod_of_nonneg i (by omega)]; exact q)
theorem op_pow : OpR X (binaryOp .Pow) (rI CPow fun i j => .int (i ^ j.toNat)) := opI fun _ _ _ _ _ _ _ hc q => pow_int_small hc.1 hc.2.1 hc.2.2 q
/-! ### bools among ints: n += (a < b) -/
end

/-! ### comparisons -/
/-- the scalars that == tells apart as data does -/
def scal : V → V → Bool
  | .non, .non => true | .non, .int _ => true | .int _, .non => true | .non, .bl _ => true | .bl _, .non => true | .non, .str _ => true | .str _, .non => true
  | .int _, .int _ => true | .bl _, .bl _ => true | .str _, .str _ => true | .byt _, .byt _ => true
  | .int _, .str _ => true | .str _, .int _ => true | .bl _, .str _ => true | .str _, .bl _ => true
  | _, _ => false
def rEq : R2 := fun x y H Q => scal x y = true ∧ Q (.bl (decide (x = y))) H
def rNe : R2 := fun x y H Q => scal x y = true ∧ Q (.bl (!decide (x = y))) H

theorem dec_int {i j : Int} : decide (V.int i = V.int j) = (i == j) := by
  rw [Bool.eq_iff_iff]
  simp
theorem dec_bl {i j : Bool} : decide (V.bl i = V.bl j) = (i == j) := by
  rw [Bool.eq_iff_iff]
  simp
theorem dec_str {i j : Str} : decide (V.str i = V.str j) = (i == j) := by
  rw [Bool.eq_iff_iff]
  simp
theorem dec_byt {i j : Array UInt8} : decide (V.byt i = V.byt j) = (i.toList == j.toList) := by
  rw [Bool.eq_iff_iff]
  cases i
  cases j
  simp

section
variable {X : Cx} {a b c : Expr} {ta tb tc : TE} {pos : Pos}
theorem fin_bl {pins : List (Addr × Obj)} {σ : St} {H : Hp} {s : Shared} {Q : VK} {k k' : Bool} (I : Inv X pins σ H s) (q : Q (.bl k) H) (e : k = k') : EP X pins σ Q (.bool k') s := by
  subst e
  exact ⟨.bl k, H, I, rfl, q⟩
theorem op_eq : OpR X (compareOp .Eq) rEq := by
  intro pins s σ H x y v u Q I rx ry h
  obtain ⟨hs, q⟩ := h
  cases x with
  | non =>
    cases rx
    cases y with
    | non => cases ry; exact PySem.EqNone.eq_none_none (fin_bl I q (by simp))
    | bl j => cases ry; exact PySem.EqNone.eq_none_bool (fin_bl I q (by simp))
    | int j => obtain ⟨t', rfl⟩ := ry; exact PySem.EqNone.eq_none_int (fin_bl I q (by simp))
    | str j => obtain ⟨t', rfl⟩ := ry; exact PySem.EqNone.eq_none_str (fin_bl I q (by simp))
    | _ => exact absurd (show false = true from hs) Bool.false_ne_true
  | bl i =>
    cases rx
    cases y with
    | non => cases ry; exact PySem.EqNone.eq_bool_none (fin_bl I q (by simp))
    | bl j => cases ry; exact eq_bool (fin_bl I q dec_bl)
    | str j => obtain ⟨t', rfl⟩ := ry; exact PySem.EqMixed.eq_bool_str (fin_bl I q (by simp))
    | _ => exact absurd (show false = true from hs) Bool.false_ne_true
  | int i =>
    obtain ⟨t, rfl⟩ := rx
    cases y with
    | non => cases ry; exact PySem.EqNone.eq_int_none (fin_bl I q (by simp))
    | int j => obtain ⟨t', rfl⟩ := ry; exact eq_int (fin_bl I q dec_int)
    | str j => obtain ⟨t', rfl⟩ := ry; exact PySem.EqMixed.eq_int_str (fin_bl I q (by simp))
    | _ => exact absurd (show false = true from hs) Bool.false_ne_true
  | str i =>
    obtain ⟨t, rfl⟩ := rx
    cases y with
    | non => cases ry; exact PySem.EqNone.eq_str_none (fin_bl I q (by simp))
    | bl j => cases ry; exact PySem.EqMixed.eq_str_bool (fin_bl I q (by simp))
    | int j => obtain ⟨t', rfl⟩ := ry; exact PySem.EqMixed.eq_str_int (fin_bl I q (by simp))
    | str j => obtain ⟨t', rfl⟩ := ry; exact eq_str (fin_bl I q dec_str)
    | _ => exact absurd (show false = true from hs) Bool.false_ne_true
  | byt i =>
    obtain ⟨t, rfl⟩ := rx
    cases y with
    | byt j => obtain ⟨t', rfl⟩ := ry; exact PySem.W.eq_bytes (fin_bl I q dec_byt)
    | _ => exact absurd (show false = true from hs) Bool.false_ne_true
  | _ => cases y <;> exact absurd (show false = true from hs) Bool.false_ne_true
theorem op_ne : OpR X (compareOp .NotEq) rNe := by
  intro pins s σ H x y v u Q I rx ry h
  obtain ⟨hs, q⟩ := h
  cases x with
  | non =>
    cases rx
    cases y with
    | non => cases ry; exact PySem.EqNone.ne_none_none (fin_bl I q (by simp))
    | bl j => cases ry; exact PySem.EqNone.ne_none_bool (fin_bl I q (by simp))
    | int j => obtain ⟨t', rfl⟩ := ry; exact PySem.EqNone.ne_none_int (fin_bl I q (by simp))
    | str j => obtain ⟨t', rfl⟩ := ry; exact PySem.EqNone.ne_none_str (fin_bl I q (by simp))
    | _ => exact absurd (show false = true from hs) Bool.false_ne_true
  | bl i =>
    cases rx
    cases y with
    | non => cases ry; exact PySem.EqNone.ne_bool_none (fin_bl I q (by simp))
    | bl j => cases ry; exact ne_bool (fin_bl I q (congrArg not dec_bl))
    | str j => obtain ⟨t', rfl⟩ := ry; exact PySem.EqMixed.ne_bool_str (fin_bl I q (by simp))
    | _ => exact absurd (show false = true from hs) Bool.false_ne_true
  | int i =>
    obtain ⟨t, rfl⟩ := rx
    cases y with
    | non => cases ry; exact PySem.EqNone.ne_int_none (fin_bl I q (by simp))
    | int j => obtain ⟨t', rfl⟩ := ry; exact ne_int (fin_bl I q (congrArg not dec_int))
    | str j => obtain ⟨t', rfl⟩ := ry; exact PySem.EqMixed.ne_int_str (fin_bl I q (by simp))
    | _ => exact absurd (show false = true from hs) Bool.false_ne_true
  | str i =>
    obtain ⟨t, rfl⟩ := rx
    cases y with
    | non => cases ry; exact PySem.EqNone.ne_str_none (fin_bl I q (by simp))
    | bl j => cases ry; exact PySem.EqMixed.ne_str_bool (fin_bl I q (by simp))
    | int j => obtain ⟨t', rfl⟩ := ry; exact PySem.EqMixed.ne_str_int (fin_bl I q (by simp))
    | str j => obtain ⟨t', rfl⟩ := ry; exact ne_str (fin_bl I q (congrArg not dec_str))
    | _ => exact absurd (show false = true from hs) Bool.false_ne_true
  | byt i =>
    obtain ⟨t, rfl⟩ := rx
    cases y with
    | byt j => obtain ⟨t', rfl⟩ := ry; exact PySem.W.ne_bytes (fin_bl I q (congrArg not dec_byt))
    | _ => exact absurd (show false = true from hs) Bool.false_ne_true
  | _ => cases y <;> exact absurd (show false = true from hs) Bool.false_ne_true

theorem op_lt : OpR X (compareOp .Lt) (rI0 fun i j => .bl (decide (i < j))) := opB0 fun _ _ _ _ _ _ _ q => lt_int q
theorem op_gt : OpR X (compareOp .Gt) (rI0 fun i j => .bl (decide (j < i))) := opB0 fun _ _ _ _ _ _ _ q => gt_int q
theorem op_ge : OpR X (compareOp .GtE) (rI0 fun i j => .bl (decide (j ≤ i))) := opB0 fun _ _ _ _ _ _ _ q => ge_int q
/-- is None, is not None: the right side a value none -/
theorem op_isN : OpR X (compareOp .Is) (fun x y H Q => y = .non ∧ Q (.bl (decide (x = .non))) H) := by
  intro pins s σ H x y v u Q I rx ry h
  obtain ⟨rfl, q⟩ := h
  cases ry
  refine is_none_gen (fin_bl I q ?_)
  cases x <;> first
    | (cases rx; rfl)
    | (obtain ⟨t, rfl⟩ := rx; rfl)
theorem op_notN : OpR X (compareOp .IsNot) (fun x y H Q => y = .non ∧ Q (.bl (!decide (x = .non))) H) := by
  intro pins s σ H x y v u Q I rx ry h
  obtain ⟨rfl, q⟩ := h
  cases ry
  refine isnot_none_gen (fin_bl I q ?_)
  cases x <;> first
    | (cases rx; rfl)
    | (obtain ⟨t, rfl⟩ := rx; rfl)

theorem nomark (b : Expr) {op : CmpOp} (h : op ≠ .In := by decide) (h2 : op ≠ .NotIn := by decide) : behindInMarks op b = false := by
  have e1 : (op == CmpOp.In) = false := by cases op <;> first | rfl | exact absurd rfl h
  have e2 : (op == CmpOp.NotIn) = false := by cases op <;> first | rfl | exact absurd rfl h2
  cases b <;> simp [behindInMarks, e1, e2]
/-- a comparison as a value; hm: nomark b, or (for in, not in) by with_unfolding_all rfl -/
theorem pe_cmpR {op : CmpOp} {r : R2} (ho : OpR X (compareOp op) r) (ha : PE X a ta) (hb : PE X b tb) (hm : behindInMarks op b = false) : PE X (.Compare a [op] [b] pos) (tOp r ta tb) := by
  intro pins s σ H Q I h
  exact wpAny_Compare1 (binT ha hb I h fun v u s2 x y H2 I2 rx ry q => ho pins s2 σ H2 x y v u Q I2 rx ry q) hm
/-- a reading of a value as a test -/
def tTest (t : TE) : TT := fun σ H Q => t σ H fun x H' => ∃ k, x = .bl k ∧ Q k H'
theorem pt_cmpR {op : CmpOp} {r : R2} (ho : OpR X (compareOp op) r) (ha : PE X a ta) (hb : PE X b tb) (hm : behindInMarks op b = false) : PT X (.Compare a [op] [b] pos) (tTest (tOp r ta tb)) := by
  intro pins s σ H Q I h
  refine wpAny_isTrue_Compare1 (thn (ha pins s σ H _ I h) fun v s1 ⟨x, H1, I1, r1, q1⟩ => thn (hb pins s1 σ H1 _ I1 q1) fun u s2 ⟨y, H2, I2, r2, q2⟩ =>
    thn (ho pins s2 σ H2 x y v u _ I2 r1 r2 q2) fun c s3 ⟨z, H3, I3, r3, k, e, q3⟩ => ?_) hm
  subst e
  cases r3
  exact wpAny_truthy_bool ⟨H3, I3, q3⟩
/-! ### truth -/
theorem line63 : (sizeLine : Nat) < 2 ^ 63 := by rw [sizeLine_eq]; decide
/-! ### strs and bytes -/
/-! ### scalar builtins, by CallR -/
theorem vals1 {x : V} {us : List Value} (r : Vals [x] us) : ∃ u, us = [u] ∧ RelV x u := by
  cases r with
  | cons r1 r2 => cases r2; exact ⟨_, rfl, r1⟩
theorem vals2 {x y : V} {us : List Value} (r : Vals [x, y] us) : ∃ u w', us = [u, w'] ∧ RelV x u ∧ RelV y w' := by
  cases r with
  | cons r1 r2 =>
    cases r2 with
    | cons r3 r4 => cases r4; exact ⟨_, _, rfl, r1, r3⟩
theorem call_abs : CallR X (.builtin "abs") (fun xs H Q => ∃ i, xs = [.int i] ∧ Q (.int (if i < 0 then -i else i)) H) := by
  intro pins s σ H xs us Q I r h
  obtain ⟨i, rfl, q⟩ := h
  obtain ⟨u, rfl, t, rfl⟩ := vals1 r
  exact call_abs_int fun u tk => ⟨.int (if i < 0 then -i else i), H, I.tok _, ⟨_, rfl⟩, q⟩
end
end L2

namespace L2
open PySem PySem.Spec PyProof.Rows

/-! ### an instance, its attributes a map -/
structure ObjM (h : Heap) (x dx C : Addr) (mA : Str → Option Value) : Prop where
  obj : h.get? x = some (PySem.W.instObj C dx)
  ns : h.Ns1 dx mA
  ne : dx ≠ x

theorem lookIn_ns {h : Heap} {dx : Addr} {mA : Str → Option Value} (n : h.Ns1 dx mA) : ∃ od, h.get? dx = some od ∧ ∀ name, PySem.W.lookIn name od = some (mA name) := by
  obtain ⟨o, es, ep, ho, hd, hk, _, hm⟩ := n
  refine ⟨o, ho, fun name => ?_⟩
  have e := hm name
  unfold nsFind findBy at e
  rw [← Array.find?_toList] at e
  unfold PySem.W.lookIn
  rw [hd]
  dsimp only
  split
  · rename_i y q
    rw [q] at e
    exact congrArg some e
  · rename_i q
    rw [q] at e
    have a : es.toList.any (·.refKey) = false := by
      rw [List.any_eq_false]
      intro y hy
      obtain ⟨z, t, hkey⟩ := hk y (Array.mem_toList_iff.mp hy)
      simp [DictEntry.refKey, hkey]
    have a' : ¬ es.toList.any (·.refKey) = true := by rw [a]; exact Bool.false_ne_true
    rw [if_neg a']
    exact congrArg some e

theorem ObjM.look {h : Heap} {x dx C : Addr} {mA : Str → Option Value} (I : ObjM h x dx C mA) : ∃ od, PySem.W.InstAt h x (PySem.W.instObj C dx) C (some od) ∧ ∀ name, PySem.W.lookIn name od = some (mA name) :=
  let ⟨od, ho, hl⟩ := lookIn_ns I.ns
  ⟨od, ⟨I.obj, rfl, rfl, ho⟩, hl⟩

section
variable {prog : Program} {w : World} {A : Around} {E : Value → Shared → Prop} {s : Shared} {K : PySem.W.Frag} {x dx C f : Addr} {mA : Str → Option Value} {name : Str} {v : Value}

end

/-! ### the attributes as a list of pairs -/
theorem RelO.some_of {v : V} {o : Option Value} (r : RelO (some v) o) : ∃ u, o = some u ∧ RelV v u := by
  cases o with
  | none => exact (show False from r).elim
  | some u => exact ⟨u, rfl, r⟩
section
variable {P : Program} {w : World} {H H' : Hp} {h h' : Heap} {a C dx : Addr} {fs fs' : List (Str × V)}
theorem ins_get (hok : HOk P w H h) (e : H a = some (.ins C dx fs)) : ∃ mA, ObjM h a dx C mA ∧ (∀ f, RelO (fs.lookup f) (mA f)) ∧ PySem.Within mA (fs.map (·.1)) ∧ fs.length ≤ 1000 ∧ H dx = some (.own a) := by
  obtain ⟨d, z, ne, ob, mA, n, r, q⟩ := (show ObjOk P w H h a (.ins C dx fs) from hok a _ e)
  exact ⟨mA, ⟨ob, n, ne⟩, r, q, z, d⟩
end

/-! ### what of the text a class must have -/
structure Cls (K : PySem.W.Frag) (C : Addr) : Prop where
  pg : PySem.W.plainGet K C Str.empty = true
  hd : PySem.W.hasDictIn K C = true
  po : PySem.W.plainOver K C = true
  sa : PySem.W.findIn K (.ref C) "__setattr__" = some (some (.builtin "object.__setattr__"))
theorem Cls.get {K : PySem.W.Frag} {C : Addr} (c : Cls K C) (f : Str) : PySem.W.plainGet K C f = true := c.pg
section
variable {X : Cx} {pins : List (Addr × Obj)} {σ : St} {H : Hp} {s : Shared} {a C dx : Addr} {fs : List (Str × V)} {f : Str} {v : V} {A : Around} {E : Value → Shared → Prop}

end

/-! ### readings and rules -/
section
variable {X : Cx} {o e value : Expr} {f : Str} {pos pos' tpos : Pos} {ta tv : TE}
end

/-! ### isinstance -/
section
variable {X : Cx} {pins : List (Addr × Obj)} {σ : St} {H : Hp} {s : Shared} {A : Around} {E : Value → Shared → Prop} {Q : Value → Shared → Prop} {c : Value} {b : Bool}
/-- the type of a value, as the fragment's deciders take it; for an instance its class -/
inductive TyOf (K : PySem.W.Frag) (H : Hp) : V → Value → Prop where
  | non : TyOf K H .non (.type "NoneType")
  | bl (x : Bool) : TyOf K H (.bl x) (.type "bool")
  | int (i : Int) : TyOf K H (.int i) (.type "int")
  | str (x : Str) : TyOf K H (.str x) (.type "str")
  | flt (x : UInt64) : TyOf K H (.flt x) (.type "float")
  | lst {a : Addr} {xs : List V} (e : H a = some (.lst xs)) : TyOf K H (.ref a) (.type "list")
  | frz {a : Addr} {o : Obj} {xs : List V} (e : H a = some (.frz o (.lst xs))) : TyOf K H (.ref a) (.type "list")
  | tup {a : Addr} {xs : List V} (e : H a = some (.tup xs)) : TyOf K H (.ref a) (.type "tuple")
  | dK {a : Addr} {kvs : List (Key × V)} (e : H a = some (.dK kvs)) : TyOf K H (.ref a) (.type "dict")
  | dT {a : Addr} {kvs : List (List Key × V)} (e : H a = some (.dT kvs)) : TyOf K H (.ref a) (.type "dict")
  | ins {a C dx : Addr} {fs : List (Str × V)} (e : H a = some (.ins C dx fs)) (cl : Cls K C) (ha : PySem.W.findIn K (.ref C) "__class__" = some (some (.builtin "object.__class__")))
      (hn : PySem.W.specialIn K (.builtin "object.__class__") "__get__" = some (some (.builtin "getset_descriptor.__get__"))) (htk : PySem.W.takesIn K (.builtin "object.__class__") = some true)
      (hm : PySem.W.mroIn K C (.type "object") = some true) : TyOf K H (.ref a) (.ref C)
/-- isinstance(x, c) for one class c, a built-in or an own one: kitOne's answer -/
theorem isinst_ok {x : V} {u t : Value} (I : Inv X pins σ H s) (rx : RelV x u) (ty : TyOf X.K H x t) (e : PySem.W.kitOne X.K t c = some b) (h : ∀ tk, Q (.bool b) { s with toks := tk }) :
    wpAny (model X.prog X.w) A (call (.builtin "isinstance") [u, c]) Q E s := by
  cases ty with
  | non => cases (show u = Value.none from rx); exact PySem.W.kia_one PySem.W.kitx_none I.kIn True.intro e (fun z => nomatch z) h
  | bl y => cases (show u = Value.bool y from rx); exact PySem.W.kia_one PySem.W.kitx_bool I.kIn True.intro e (fun z => nomatch z) h
  | int i => obtain ⟨t, q⟩ := (show ∃ t, u = Value.int i t from rx); cases q; exact PySem.W.kia_one PySem.W.kitx_int I.kIn True.intro e (fun z => nomatch z) h
  | str y => obtain ⟨t, q⟩ := (show ∃ t, u = Value.str y t from rx); cases q; exact PySem.W.kia_one PySem.W.kitx_str I.kIn True.intro e (fun z => nomatch z) h
  | flt y => obtain ⟨t, q⟩ := (show ∃ t, u = Value.float y t from rx); cases q; exact PySem.W.kia_one PySem.W.kitx_float I.kIn True.intro e (fun z => nomatch z) h
  | @lst a xs ea =>
    cases (show u = Value.ref a from rx)
    obtain ⟨_, _, n, _, h1⟩ := (show ObjOk X.prog X.w H s.heap a (.lst xs) from I.hok a _ ea)
    exact PySem.W.kia_one PySem.W.kitx_list I.kIn ⟨_, h1, rfl⟩ e (fun z => nomatch z) h
  | @frz a ob xs ea =>
    cases (show u = Value.ref a from rx)
    obtain ⟨_, _, _, n, _, h1⟩ := (show ObjOk X.prog X.w H s.heap a (.frz ob (.lst xs)) from I.hok a _ ea)
    exact PySem.W.kia_one PySem.W.kitx_list I.kIn ⟨_, h1, rfl⟩ e (fun z => nomatch z) h
  | @tup a xs ea =>
    cases (show u = Value.ref a from rx)
    obtain ⟨_, _, _, p⟩ := (show ObjOk X.prog X.w H s.heap a (.tup xs) from I.hok a _ ea)
    obtain ⟨o, h1, h2, _⟩ := p
    exact PySem.W.kia_one PySem.W.kitx_tuple I.kIn ⟨o, h1, h2⟩ e (fun z => nomatch z) h
  | @dK a kvs ea =>
    cases (show u = Value.ref a from rx)
    obtain ⟨_, _, vs, _, p⟩ := (show ObjOk X.prog X.w H s.heap a (.dK kvs) from I.hok a _ ea)
    obtain ⟨o, es, ep, h1, h2, _⟩ := p
    exact PySem.W.kia_one PySem.W.kitx_dict I.kIn ⟨o, h1, h2.1⟩ e (fun z => nomatch z) h
  | @dT a kvs ea =>
    cases (show u = Value.ref a from rx)
    obtain ⟨_, _, xs, _, o, es, ep, h1, h2, _⟩ := (show ObjOk X.prog X.w H s.heap a (.dT kvs) from I.hok a _ ea)
    exact PySem.W.kia_one PySem.W.kitx_dict I.kIn ⟨o, h1, h2.1⟩ e (fun z => nomatch z) h
  | @ins a C dx fs ea cl ha hn htk hm =>
    cases (show u = Value.ref a from rx)
    obtain ⟨mA, O, _⟩ := ins_get I.hok ea
    obtain ⟨od, J, _⟩ := O.look
    exact PySem.W.kia_one (PySem.W.kitx_own (cl.get _) cl.hd ha hn htk hm) I.kIn J e (fun z => nomatch z) h
end
end L2

namespace L2
open PySem PySem.Spec PyProof.Rows

/-! ### room -/
structure Room (k : Nat) (A : Around) : Prop where
  hd : A.handled = none
  dp : A.depth + 3 * k + 5 < recursionLimit
  un : A.units + 16 * k + 200 < cLine
  gd : A.guards = some []
theorem Room.mono {j k : Nat} {A : Around} (r : Room k A) (h : j ≤ k) : Room j A := ⟨r.hd, by have := r.dp; omega, by have := r.un; omega, r.gd⟩
theorem Room.deeper {k : Nat} {A : Around} (r : Room (k + 1) A) (env : Env) : Room k (A.deeper env) :=
  ⟨r.hd, by have := r.dp; show A.depth + 1 + 3 * k + 5 < _; omega, by have := r.un; show A.units + 3 + 16 * k + 200 < _; omega, r.gd⟩
theorem Room.in1 {k : Nat} {A : Around} (r : Room (k + 1) A) : Room k A.in1 :=
  ⟨r.hd, by have := r.dp; show A.depth + 3 * k + 5 < _; omega, by have := r.un; show A.units + 1 + 16 * k + 200 < _; omega, r.gd⟩
theorem Room.depth {k : Nat} {A : Around} (r : Room k A) : A.depth < recursionLimit := by have := r.dp; omega
theorem Room.units {k : Nat} {A : Around} (r : Room k A) : A.units + 64 < cLine := by have := r.un; omega
theorem Room.units0 {k : Nat} {A : Around} (r : Room k A) : A.units < cLine := by have := r.un; omega

/-! ### argument lists and displays -/
def tNil : TA := fun _ H Q => Q [] H
def tCons (ta : TE) (tr : TA) : TA := fun σ H Q => ta σ H fun x H1 => tr σ H1 fun xs H2 => Q (x :: xs) H2
section
variable {X : Cx} {e : Expr} {es : List Expr} {te : TE} {t : TA} {pos : Pos}
theorem pa_nil : PA X [] tNil := fun _ _ _ _ H Q I h => Calls.spliced_nil ⟨[], H, I, .nil, h⟩
theorem pa_cons (ha : PE X e te) (hr : PA X es t) (hs : starEach (e :: es) X.env = (false, eval e X.env) :: starEach es X.env := by rfl) : PA X (e :: es) (tCons te t) := by
  intro pos pins s σ H Q I h
  rw [hs]
  show wpAny _ _ (spliced ((false, eval e X.env) :: backTo pos (starEach es X.env))) _ _ s
  refine Calls.spliced_cons (thn (ha pins s σ H _ I h) fun u s1 ⟨x, H1, I1, r1, q1⟩ => ?_)
  exact thn (hr pos pins s1 σ H1 _ I1 q1) fun us s2 ⟨xs, H2, I2, r2, q2⟩ => ⟨x :: xs, H2, I2, .cons r1 r2, q2⟩

/-- a tuple, a list of written items -/
def tTup (t : TA) : TE := fun σ H Q => t σ H fun xs H1 => xs.length ≤ sizeLine ∧ ∀ p, H1 p = none → Q (.ref p) (upd H1 p (.tup xs))
def tLst (t : TA) : TE := fun σ H Q => t σ H fun xs H1 => xs.length ≤ sizeLine ∧ ∀ p, H1 p = none → Q (.ref p) (upd H1 p (.lst xs))
theorem pe_tup {x1} (h : PA X es t) : PE X (.Tuple es x1 pos) (tTup t) := by
  intro pins s σ H Q I hq
  refine wpAny_Tuple_spliced (thn (h pos pins s σ H _ I hq) fun us s1 ⟨xs, H1, I1, r, z, q⟩ => ⟨by rw [← r.length]; exact z, ?_⟩)
  have hf : H1 s1.heap.objs.size = none := I1.hok.fresh (Nat.le_refl _)
  refine ⟨.ref s1.heap.objs.size, upd H1 s1.heap.objs.size (.tup xs), I1.laid (t' := s1.toks) (fun b u e => Heap.get?_push_of_some _ e) (Nat.le_refl _) ?_, rfl, q _ hf⟩
  exact ⟨z, us, r, ⟨_, Heap.get?_push_size _ rfl, rfl, _, rfl, rfl⟩⟩
theorem pe_lst (h : PA X es t) : PE X (.List es pos) (tLst t) := by
  intro pins s σ H Q I hq
  refine wpAny_List_spliced (thn (h pos pins s σ H _ I hq) fun us s1 ⟨xs, H1, I1, r, z, q⟩ => ⟨by rw [← r.length]; exact z, ?_⟩)
  have hf : H1 s1.heap.objs.size = none := I1.hok.fresh (Nat.le_refl _)
  refine ⟨.ref s1.heap.objs.size, upd H1 s1.heap.objs.size (.lst xs), I1.laid (t' := s1.toks) (fun b u e => Heap.get?_push_of_some _ e) (Nat.le_refl _) ?_, rfl, q _ hf⟩
  exact ⟨z, us, 0, r, Heap.get?_push_size _ rfl⟩
end

/-! ### what a def promises -/
/-- a def's promise: the bound arguments in the parameters' order, the heap, the wanted end, the wanted exception -/
abbrev Sp := List V → Hp → VK → XK → Prop
/-- how an exception lies behind a call (file 08 gives it): the callers' frames, abstract heap and state ahead of the call, the wish, the exception, the state -/
abbrev CXT := List Env → Hp → Shared → XK → Value → Shared → Prop

/-- the state at a call -/
structure Env0 (P : Program) (w : World) (K : PySem.W.Frag) (mg : Str → Option Value) (base : Heap) (A : Around) (outer : List Env) (s : Shared) (H : Hp) : Prop where
  frames : A.frames = some outer
  mod : Mod K mg base
  bs : ∀ b o, base.get? b = some o → s.heap.get? b = some o ∧ H b = none
  bsz : base.objs.size ≤ s.heap.objs.size
  funs : s.heap.FunFrames base outer
  frf : ∀ b ∈ frs outer, H b = none
  hok : HOk P w H s.heap
  bare : AllBare s.gens
/-- a call's end -/
def CE (outer : List Env) (P : Program) (w : World) (H : Hp) (s : Shared) (Q : VK) (u : Value) (s' : Shared) : Prop :=
  ∃ v H', s'.os = s.os ∧ AllBare s'.gens ∧ Un (frs outer) [] H H' s.heap s'.heap ∧ HOk P w H' s'.heap ∧ RelV v u ∧ Q v H'
def CR (CX : CXT) (outer : List Env) (P : Program) (w : World) (H : Hp) (s : Shared) (Q : VK) (E : XK) (r : Result) (s' : Shared) : Prop :=
  match r with
  | .ok (.ret u) => CE outer P w H s Q u s'
  | .ok _ => False
  | .error e => CX outer H s E e s'
structure FnOk (P : Program) (w : World) (K : PySem.W.Frag) (mg : Str → Option Value) (base : Heap) (CX : CXT) (k : Nat) (f : Addr) (fd : FuncData) (ps : List Str) (sp : Sp) : Prop where
  len : ∀ vs H Q E, sp vs H Q E → vs.length = ps.length
  run : ∀ (A : Around) (outer : List Env) (s : Shared) (H : Hp) (args : Args) (us : List Value) (vs : List V) (Q : VK) (E : XK), Room k A → Env0 P w K mg base A outer s H → BindsTo s fd args (ps.zip us) → Vals vs us → sp vs H Q E →
    codeAny (model P w) A (.call (.ref f) args) (CR CX outer P w H s Q E) s
theorem Env0.in1 {P : Program} {w : World} {K : PySem.W.Frag} {mg : Str → Option Value} {base : Heap} {A : Around} {outer : List Env} {s : Shared} {H : Hp} (e : Env0 P w K mg base A outer s H) :
    Env0 P w K mg base A.in1 outer s H := ⟨e.frames, e.mod, e.bs, e.bsz, e.funs, e.frf, e.hok, e.bare⟩

section
variable {X : Cx} {pins : List (Addr × Obj)} {σ : St} {H : Hp} {s s' : Shared}
/-- from a body: what a callee wants -/
theorem Inv.env0 (I : Inv X pins σ H s) : Env0 X.prog X.w X.K X.mg X.base X.A X.stack s H :=
  ⟨I.ok.frames, I.ok.mod, I.bs, Nat.le_trans I.ok.bsz I.sz, I.stack, I.stkFree, I.hok, I.bare⟩
/-- behind a call -/
theorem Inv.after {Q : VK} {u : Value} (I : Inv X pins σ H s) (h : CE X.stack X.prog X.w H s Q u s') : EP X pins σ Q u s' := by
  obtain ⟨v, H', os, bare, un, hok, r, q⟩ := h
  obtain ⟨hh, g, d, t, os'⟩ := s'
  obtain rfl : os' = s.os := os
  exact ⟨v, H', I.call (h' := hh) (g' := g) (d' := d) (t' := t) (ch := []) un hok bare (fun b z => absurd z (by simp)), r, q⟩
end

/-! ### calls -/
/-- f(..): the written arguments, then the defaults dvs; E: what is wanted of an exception -/
def tCall (sp : Sp) (dvs : List V) (E : XK) (t : TA) : TE := fun σ H Q => t σ H fun vs H1 => sp (vs ++ dvs) H1 Q E
/-- how the parameters are bound: us the positional arguments, kw the keywords' values by name, ds the defaults that fill up -/
def Binds (K : PySem.W.Frag) (fd : FuncData) (ps : List Str) (ds : List Value) : Prop :=
  ∀ (s : Shared) (us : List Value), K.In s.heap → (us ++ ds).length = ps.length → BindsTo s fd ⟨us, []⟩ (ps.zip (us ++ ds))
/-- every parameter is given -/
theorem Binds.all {K : PySem.W.Frag} {fd : FuncData} {ps : List Str} (h : ∀ us : List Value, us.length = ps.length → bindArgs fd ⟨us, []⟩ = pure (ps.zip us)) : Binds K fd ps [] := fun s us _ hl => by
  rw [List.append_nil] at hl ⊢
  exact .of_eq (h us hl)

/-- an exception of a callee reaches what this body wants of exceptions -/
def Passes (CX : CXT) (X : Cx) (E : XK) : Prop := ∀ (pins : List (Addr × Obj)) (σ : St) (H : Hp) (s : Shared) (e : Value) (s' : Shared), Inv X pins σ H s → CX X.stack H s E e s' → X.xe e s'

section
variable {X : Cx} {CX : CXT} {k : Nat} {f C : Addr} {fd : FuncData} {ps : List Str} {sp : Sp} {dvs : List V} {ds : List Value} {E : XK} {x m : Str} {p pos apos : Pos} {e o : Expr} {es : List Expr} {ta : TE} {t : TA}

/-- the callee runs -/
theorem run_fn {pins : List (Addr × Obj)} {σ : St} {H : Hp} {s : Shared} {Q : VK} {us : List Value} {vs : List V} (F : FnOk X.prog X.w X.K X.mg X.base CX k f fd ps sp) (hr : Room k X.A) (hb : Binds X.K fd ps ds) (hd : Vals dvs ds) (hx : Passes CX X E)
    (I : Inv X pins σ H s) (r : Vals vs us) (h : sp (vs ++ dvs) H Q E) : wpAny (model X.prog X.w) X.A (call (.ref f) us) (EP X pins σ Q) X.xe s := by
  have r2 : Vals (vs ++ dvs) (us ++ ds) := r.append hd
  have hl : (us ++ ds).length = ps.length := by rw [← r2.length]; exact F.len _ _ _ _ h
  refine wpAny_call (codeAny_mono (F.run X.A X.stack s H ⟨us, []⟩ (us ++ ds) (vs ++ dvs) Q E hr I.env0 (hb s us I.kIn hl) r2 h) fun r s' hq => ?_)
  cases r with
  | error e => exact hx pins σ H s e s' I hq
  | ok fl =>
    cases fl with
    | ret u => exact I.after hq
    | next => exact False.elim hq
    | brk => exact False.elim hq
    | cont => exact False.elim hq

theorem pe_call (F : FnOk X.prog X.w X.K X.mg X.base CX k f fd ps sp) (hr : Room k X.A) (hg : Gl X x) (hm : X.mg x = some (.ref f)) (hk : PySem.W.keepIn X.K (.ref f) = true) (hb : Binds X.K fd ps ds) (hd : Vals dvs ds) (hx : Passes CX X E)
    (ha : PA X (e :: es) t) (hdb : (x == ("__debug__" : Str)) = false := by decide) (he : starEach (e :: es) X.env = (false, eval e X.env) :: starEach es X.env := by rfl) (hpl : (backTo pos (starEach es X.env)).any (·.1) = false := by rfl) :
    PE X (.Call (.Name x p) (e :: es) [] pos) (tCall sp dvs E t) := by
  intro pins s σ H Q I h
  refine wpAny_Call_Name_kw (ld_glob I hg hm ?_ hdb)
  refine PySem.W.callWith_K (h₀ := X.base) I.ok.mod.kin hk (thn (ha pos pins s σ H _ I h) fun us s1 ⟨vs, H1, I1, r, q⟩ => ⟨I1.kIn, ?_⟩) he hpl
  exact run_fn F hr hb hd hx I1 r q
end

/-! ### keywords -/
section
variable {X : Cx} {CX : CXT} {k : Nat} {f C : Addr} {fd : FuncData} {ps ks : List Str} {sp : Sp} {E : XK} {x m : Str} {p pos apos kpos : Pos} {e o : Expr} {es : List Expr} {kws : List Keyword} {te ta : TE} {t tk : TA} {nm : Option Str}
variable {g : List Value → List Value → List Value} {gV : List V → List V → List V}
end

/-! ### a def's body keeps its promise -/
/-- names: the parameters first -/
structure FnScope (N P : List Str) (sc : Scope) : Prop where
  kind : sc.kind = .function
  co : sc.isCoroutine = false
  gen : sc.isGenerator = false
  nd : N.Nodup
  pre : N.take P.length = P
  par : ∀ x ∈ P, sc.names.lookup x = some .local ∨ sc.names.lookup x = some .cell
  nofree : ∀ y ∈ sc.names, y.2 ≠ .free

theorem bindL_out {kindOf : Str → Option NameKind} {x : Str} : ∀ {binds : List (Str × Value)} {m : Str → Option Value}, (∀ v, (x, v) ∉ binds) → bindL kindOf binds m x = m x
  | [], _, _ => rfl
  | (n, v) :: r, m, h => by
    unfold bindL
    rw [bindL_out fun w hw => h w (List.mem_cons_of_mem _ hw)]
    split
    · have : x ≠ n := by rintro rfl; exact h v List.mem_cons_self
      simp [this]
    · rfl
theorem bindC_out {kindOf : Str → Option NameKind} {x : Str} : ∀ {binds : List (Str × Value)} {m : Str → Option Value}, (∀ v, (x, v) ∉ binds) → bindC kindOf binds m x = m x
  | [], _, _ => rfl
  | (n, v) :: r, m, h => by
    unfold bindC
    rw [bindC_out fun w hw => h w (List.mem_cons_of_mem _ hw)]
    split
    · rfl
    · have : x ≠ n := by rintro rfl; exact h v List.mem_cons_self
      simp [this]
theorem bindL_get {kindOf : Str → Option NameKind} {x : Str} {v : Value} : ∀ {P : List Str} {vs : List Value} {i : Nat} {m : Str → Option Value}, P.Nodup → P[i]? = some x → vs[i]? = some v → kindOf x = some .local →
    bindL kindOf (P.zip vs) m x = some v
  | [], _, _, _, _, h, _, _ => by simp at h
  | _ :: _, [], _, _, _, _, h, _ => by simp at h
  | p :: P, w :: vs, 0, m, nd, h1, h2, hk => by
    simp at h1 h2; subst h1; subst h2
    show bindL kindOf ((p, w) :: P.zip vs) m p = _
    unfold bindL
    rw [bindL_out fun v hv => (List.nodup_cons.mp nd).1 (List.of_mem_zip hv).1, if_pos hk]
    simp
  | p :: P, w :: vs, i + 1, m, nd, h1, h2, hk => by
    show bindL kindOf ((p, w) :: P.zip vs) m x = _
    unfold bindL
    exact bindL_get (i := i) (List.nodup_cons.mp nd).2 (by simpa using h1) (by simpa using h2) hk
theorem bindC_get {kindOf : Str → Option NameKind} {x : Str} {v : Value} : ∀ {P : List Str} {vs : List Value} {i : Nat} {m : Str → Option Value}, P.Nodup → P[i]? = some x → vs[i]? = some v → kindOf x ≠ some .local →
    bindC kindOf (P.zip vs) m x = some v
  | [], _, _, _, _, h, _, _ => by simp at h
  | _ :: _, [], _, _, _, _, h, _ => by simp at h
  | p :: P, w :: vs, 0, m, nd, h1, h2, hk => by
    simp at h1 h2; subst h1; subst h2
    show bindC kindOf ((p, w) :: P.zip vs) m p = _
    unfold bindC
    rw [bindC_out fun v hv => (List.nodup_cons.mp nd).1 (List.of_mem_zip hv).1, if_neg hk]
    simp
  | p :: P, w :: vs, i + 1, m, nd, h1, h2, hk => by
    show bindC kindOf ((p, w) :: P.zip vs) m x = _
    unfold bindC
    exact bindC_get (i := i) (List.nodup_cons.mp nd).2 (by simpa using h1) (by simpa using h2) hk

/-- the names' values at the entry -/
def start (N : List Str) (vs : List V) : St := vs.map some ++ List.replicate (N.length - vs.length) none

/-- the context of a def's body, at its entry; an exception leaves the frame, then lies as CX says -/
def cxOf (CX : CXT) (P : Program) (w : World) (K : PySem.W.Frag) (mg : Str → Option Value) (base : Heap) (N : List Str) (qual : Str) (scope : Scope) (f : Addr) (cd : Value) (A : Around) (outer : List Env) (s : Shared) (H : Hp) (E : XK) : Cx where
  prog := P
  w := w
  K := K
  mg := mg
  base := base
  A := A.deeper (envOfC qual scope s.heap.objs.size f cd)
  N := N
  s₀ := s
  H₀ := H
  env := envOfC qual scope s.heap.objs.size f cd
  outer := outer
  stack := envOfC qual scope s.heap.objs.size f cd :: outer
  ex := []
  calm := true
  fn := fun _ => true
  pn := []
  xe := fun e s' => wpAny (model P w) (A.deeper (envOfC qual scope s.heap.objs.size f cd)) (leaving (envOfC qual scope s.heap.objs.size f cd) e) (fun _ s'' => CX outer H s E e s'') (fun e' s'' => CX outer H s E e' s'') s'

theorem cell_has {sc : Scope} {n : Nat} {x : Str} (h : sc.names.lookup x = some .cell) : ∃ c, (cellsFrom n sc.names []).lookup x = some c := by
  have q := PySem.W.cellsFrom_some sc.names n [] (.inl h)
  exact Option.isSome_iff_exists.mp q

theorem inv_start {CX : CXT} {P : Program} {w : World} {K : PySem.W.Frag} {mg : Str → Option Value} {base : Heap} {N ps : List Str} {qual : Str} {scope : Scope} {f : Addr} {cd : Value} {A : Around} {outer : List Env} {s s1 : Shared} {H : Hp} {E : XK} {us : List Value} {vs : List V}
    (S : FnScope N ps scope) (hd : A.handled = none) (e0 : Env0 P w K mg base A outer s H) (hl : vs.length = ps.length) (r : Vals vs us)
    (x : InCallC s s.heap.objs.size (bindL (envOfC qual scope s.heap.objs.size f cd).kindOf (ps.zip us) fun _ => none) (cellsFrom (s.heap.objs.size + 1) scope.names []) (bindC (envOfC qual scope s.heap.objs.size f cd).kindOf (ps.zip us) fun _ => none) s1) :
    Inv (cxOf CX P w K mg base N qual scope f cd A outer s H E) [] (start N vs) H s1 := by
  have hpl : ps.length ≤ N.length := by have := congrArg List.length S.pre; rw [List.length_take] at this; omega
  obtain ⟨h1, tk, rfl, hk⟩ := x.done
  have noA : ∀ b : Addr, b ∉ (cxOf CX P w K mg base N qual scope f cd A outer s H E).ex := fun b z => absurd (show b ∈ ([] : List Addr) from z) (by simp)
  refine ⟨⟨e0.mod, S.kind, rfl, rfl, Nat.le_refl _, fun y z c h1 h2 => ?_, fun y hy => ?_, fun y c _ h => ?_, fun _ => hd, Around.frames_deeper e0.frames, .inr ⟨rfl, rfl⟩, fun b z => absurd z (noA b), e0.bs, e0.bsz, fun b _ _ => noA b, fun b z => absurd z (noA b), e0.funs, e0.frf⟩,
    rfl, e0.bare, Un.kept hk, ⟨_, x.toInCall.ns, fun i y v h1 h2 h3 => ?_⟩, fun y c h => ⟨_, x.cell y c h⟩, e0.hok.fresh (Nat.le_refl _), fun y c h => ?_, fun p hp => absurd (show p ∈ ([] : List (Addr × Obj)) from hp) (by simp), e0.hok.kept hk, ?_⟩
  · exact name_of_addr x.apart (PySem.mem_of_lookup h1) (PySem.mem_of_lookup h2)
  · have hy : scope.names.lookup y = some .cell ∨ scope.names.lookup y = some .free := hy
    rcases hy with hy | hy
    · exact cell_has hy
    · exact absurd rfl (S.nofree _ (PySem.mem_of_lookup hy))
  · exact Nat.le_of_lt (x.above y c (PySem.mem_of_lookup h))
  · have hi : i < vs.length := by
      unfold start at h2
      by_cases hi : i < vs.length
      · exact hi
      · rw [List.getElem?_append_right (by simpa using hi)] at h2
        rw [List.getElem?_replicate] at h2
        split at h2 <;> cases h2
    have ha : vs[i]? = some v := by
      unfold start at h2
      rw [List.getElem?_append_left (by simpa using hi), List.getElem?_map] at h2
      cases e : vs[i]? with
      | none => rw [e] at h2; cases h2
      | some a => rw [e] at h2; cases h2; rfl
    obtain ⟨u, hu, rv⟩ := r.get ha
    have hp : ps[i]? = some y := by
      rw [← S.pre, List.getElem?_take_of_lt (by omega)]; exact h1
    have ndP : ps.Nodup := by rw [← S.pre]; exact S.nd.sublist (List.take_sublist _ _)
    refine ⟨u, rv, ?_⟩
    rcases S.par y (List.mem_of_getElem? hp) with k | k
    · exact .inl ⟨k, bindL_get ndP hp hu k⟩
    · obtain ⟨c, e⟩ := cell_has (n := s.heap.objs.size + 1) k
      refine .inr ⟨.inl k, c, e, ?_⟩
      have q := x.cell y c e
      rw [bindC_get ndP hp hu (by show scope.names.lookup y ≠ _; rw [k]; decide)] at q
      exact q
  · exact e0.hok.fresh (Nat.le_of_lt (x.above y c (PySem.mem_of_lookup h)))
  · unfold start
    show _ = N.length
    rw [List.length_append, List.length_map, List.length_replicate]
    omega

/-- THE RULE: a def (or a method) of the text, by its body. The body's reading t is chosen for each entry; it is run at the parameters' values -/
theorem fn_of {CX : CXT} {P : Program} {w : World} {K : PySem.W.Frag} {mg : Str → Option Value} {base : Heap} {k : Nat} {f : Addr} {name qual : Str} {params : Arguments} {body : List Stmt} {scope : Scope} {dV kV doc pm cdv ct oc : Value} {an od : Option Addr}
    {osl : Array (Option Value)} {N ps : List Str} {sp : Sp} (lk : K.lookup f = some ⟨oc, od, .func (PySem.W.fnOf name qual params body scope dV kV doc pm an cdv ct), osl⟩) (hcd : PySem.W.codeIn K cdv qual = true) (S : FnScope N ps scope)
    (len : ∀ vs H Q E, sp vs H Q E → vs.length = ps.length)
    (hbody : ∀ (A : Around) (outer : List Env) (s : Shared) (H : Hp) (vs : List V) (Q : VK) (E : XK), Room k (A.deeper (envOfC qual scope s.heap.objs.size f cdv)) → sp vs H Q E →
      ∃ t, PSs (cxOf CX P w K mg base N qual scope f cdv A outer s H E) body t ∧ t { nx := fun _ H' => Q .non H', rt := Q } (start N vs) H) :
    FnOk P w K mg base CX (k + 1) f (PySem.W.fnOf name qual params body scope dV kV doc pm an cdv ct) ps sp := by
  refine ⟨len, fun A outer s H args us vs Q E hr e0 hb r hsp => ?_⟩
  have hl := len _ _ _ _ hsp
  have KX : K.In s.heap := e0.mod.kin.keeps fun b o e => (e0.bs b o e).1
  have lim : s.heap.NoLimit := e0.mod.nolimit.keeps fun b o e => (e0.bs b o e).1
  have hkind : ∀ y ∈ ps.zip us, scope.names.lookup y.1 = some .local ∨ (scope.names.lookup y.1 = some .cell ∧ ((cellsFrom (s.heap.objs.size + 1) scope.names []).lookup y.1).isSome = true) := fun ⟨n, v⟩ hy => by
    rcases S.par n (List.of_mem_zip hy).1 with q | q
    · exact .inl q
    · exact .inr ⟨q, PySem.W.cellsFrom_some _ _ _ (.inl q)⟩
  refine codeAny_call_function hr.depth (KX _ _ lk) rfl S.co S.gen rfl (PySem.W.codeRec_of KX hcd) (hb _ _ _ _ ?_)
  refine wpAny_newFunctionEnv_cells S.kind hkind fun env he s1 x => ?_
  subst he
  refine ⟨lim.keeps x.toInCall.keep, codeAny_func ?_⟩
  obtain ⟨t, ht, hq⟩ := hbody A outer s H vs Q E (hr.deeper _) hsp
  have I : Inv (cxOf CX P w K mg base N qual scope f cdv A outer s H E) [] (start N vs) H s1 := inv_start S hr.hd e0 hl r x
  refine wpAny_mono (ht [] s1 (start N vs) H _ I hq) (fun fl s' hs => ?_) fun e s' hs => hs
  have fin : ∀ {σ' : St} {H' : Hp} {v : V} {u : Value}, Inv (cxOf CX P w K mg base N qual scope f cdv A outer s H E) [] σ' H' s' → RelV v u → Q v H' → CE outer P w H s Q u s' :=
    fun {σ' H' v u} J rv q => ⟨v, H', J.os, J.bare, J.base, J.hok, rv, q⟩
  cases fl with
  | ret u =>
    obtain ⟨v, σ', H', J, rv, q⟩ := hs
    exact fin J rv q
  | next =>
    obtain ⟨σ', H', J, q⟩ := hs
    exact fin (v := V.non) (u := Value.none) J rfl q
  | brk =>
    obtain ⟨_, _, _, q⟩ := hs
    exact False.elim q
  | cont =>
    obtain ⟨_, _, _, q⟩ := hs
    exact False.elim q
end L2

namespace L2
open PySem PySem.Spec PyProof.Rows
section
variable {X : Cx} {x : Str} {p pos : Pos} {e : Expr} {es : List Expr} {t : TA} {id T : String} {r : List V → Hp → VK → Prop}

def tCB (r : List V → Hp → VK → Prop) (t : TA) : TE := fun σ H Q => t σ H fun vs H1 => r vs H1 Q
/-- f(e, ..), f a built-in function -/
theorem pe_callB (hc : CallR X (.builtin id) r) (hg : Gl X x) (hm : X.mg x = none) (hv : bootBuiltins x = some (.builtin id)) (ha : PA X (e :: es) t) (hn : x ≠ "__name__" := by decide) (hdb : (x == ("__debug__" : Str)) = false := by decide)
    (he : starEach (e :: es) X.env = (false, eval e X.env) :: starEach es X.env := by rfl) (hpl : (backTo pos (starEach es X.env)).any (·.1) = false := by rfl) : PE X (.Call (.Name x p) (e :: es) [] pos) (tCB r t) := by
  intro pins s σ H Q I h
  refine wpAny_Call_Name_kw (ld_blt I hg hm hv ?_ hn hdb)
  exact PyProof.Rows.callWith_builtin1 (thn (ha pos pins s σ H _ I h) fun us s1 ⟨vs, H1, I1, r1, q1⟩ => hc pins s1 σ H1 vs us Q I1 r1 q1) he hpl
/-- T(e, ..), T a built-in type -/
theorem pe_callTy (hc : CallR X (.type T) r) (hg : Gl X x) (hm : X.mg x = none) (hv : bootBuiltins x = some (.type T)) (ha : PA X (e :: es) t) (hn : x ≠ "__name__" := by decide) (hdb : (x == ("__debug__" : Str)) = false := by decide)
    (he : starEach (e :: es) X.env = (false, eval e X.env) :: starEach es X.env := by rfl) (hpl : (backTo pos (starEach es X.env)).any (·.1) = false := by rfl) : PE X (.Call (.Name x p) (e :: es) [] pos) (tCB r t) := by
  intro pins s σ H Q I h
  refine wpAny_Call_Name_kw (ld_blt I hg hm hv ?_ hn hdb)
  exact PyProof.Rows.callWith_type1 (thn (ha pos pins s σ H _ I h) fun us s1 ⟨vs, H1, I1, r1, q1⟩ => hc pins s1 σ H1 vs us Q I1 r1 q1) he hpl
end
end L2

namespace HT
open PySem PyProof.Rows

section
open PySem.SeqAt
open PySem.AutoSeq1 (wpAny_loadPart')
open PySem.MeetsSeq PySem.MeetsSeq2 PySem.MeetsSeq3

end

section
variable {prog : Program} {w : World} {A : Around} {E : Value → Shared → Prop} {s : Shared}

/-! ### t[a:b], not the whole -/
/-- a slice's bound as a place among n (d where it is left out) -/
def sIx (n d : Nat) : Option Int → Nat
  | none => d
  | some v => if v < 0 then (v + (n : Int)).toNat else min v.toNat n
theorem sIx_none (n d : Nat) : sIx n d none = d := rfl
theorem sIx_nat (n d k : Nat) : sIx n d (some (k : Int)) = min k n := by
  show (if (k : Int) < 0 then ((k : Int) + (n : Int)).toNat else min (k : Int).toNat n) = min k n
  rw [if_neg (by omega), Int.toNat_natCast]
end
end HT

namespace L2
open PySem PySem.Spec PyProof.Rows

/-! ### the parts of a slice -/
abbrev TO := St → Hp → (Option Int → Hp → Prop) → Prop
/-- a slice's part (left out, or an int) -/
def PO (X : Cx) (e : Option Expr) (t : TO) : Prop :=
  ∀ (pins : List (Addr × Obj)) (s : Shared) (σ : St) (H : Hp) (Q : Option Int → Hp → Prop), Inv X pins σ H s → t σ H Q →
    wpAny (model X.prog X.w) X.A (evalPart e X.env) (fun u s' => ∃ o H', Inv X pins σ H' s' ∧ IsPart u o ∧ Q o H') X.xe s
def tNoPart : TO := fun _ H Q => Q none H
def tPart (t : TE) : TO := fun σ H Q => t σ H fun x H1 => ∃ i, x = .int i ∧ Q (some i) H1

theorem intsAre_of {ns : List Int} : ∀ {us : List Value}, Vals (ns.map V.int) us → IntsAre us ns := by
  induction ns with
  | nil => intro us r; rw [List.map_nil] at r; cases r; exact .nil
  | cons n ns ih =>
    intro us r
    rw [List.map_cons] at r
    cases r with
    | cons r1 r2 =>
      obtain ⟨t, e⟩ := r1
      subst e
      exact .cons n t (ih r2)

section
variable {X : Cx} {e : Expr} {te : TE} {lo hi : Option Expr} {tl th : TO} {pos p2 : Pos}

theorem po_none : PO X none tNoPart := by
  intro pins s σ H Q I h
  rw [evalPart_none]
  exact wpAny_pure ⟨none, H, I, .none, h⟩
theorem po_some (h : PE X e te) : PO X (some e) (tPart te) := by
  intro pins s σ H Q I hw
  rw [evalPart_some]
  refine thn (h pins s σ H _ I hw) fun u s1 ⟨x, H1, I1, r1, q1⟩ => ?_
  obtain ⟨i, rfl, q⟩ := q1
  obtain ⟨t, rfl⟩ := r1
  exact ⟨some i, H1, I1, .int i t, q⟩

/-- what a slice of a value is, by values: the slice object stands at sl -/
def SlR (X : Cx) (r : V → Option Int → Option Int → Hp → VK → Prop) : Prop :=
  ∀ (pins : List (Addr × Obj)) (s : Shared) (σ : St) (H : Hp) (x : V) (v vl vu : Value) (lo hi : Option Int) (sl : Addr) (Q : VK), Inv X pins σ H s → RelV x v → s.heap.IsSliceOf sl vl vu .none → IsPart vl lo → IsPart vu hi → r x lo hi H Q →
    ∃ T id, typeLookup (.type T) "__getitem__" = pure (some (.builtin id)) ∧ s.TypeIs v T ∧ wpAny (model X.prog X.w) X.A (getItem v (.ref sl)) (EP X pins σ Q) X.xe s
def tSl (r : V → Option Int → Option Int → Hp → VK → Prop) (te : TE) (tl th : TO) : TE := fun σ H Q => te σ H fun x H1 => tl σ H1 fun l H2 => th σ H2 fun u H3 => r x l u H3 Q
/-- a[lo:hi], any a -/
theorem pe_slice {r : V → Option Int → Option Int → Hp → VK → Prop} (hr : SlR X r) (he : PE X e te) (hl : PO X lo tl) (hu : PO X hi th) : PE X (.Subscript e (.Slice lo hi none p2) pos) (tSl r te tl th) := by
  intro pins s σ H Q I h
  refine Subscript_ (thn (he pins s σ H _ I h) fun v s1 ⟨x, H1, I1, r1, q1⟩ => ?_)
  refine wpAny_Slice (thn (hl pins s1 σ H1 _ I1 q1) fun vl s2 ⟨l, H2, I2, pl, q2⟩ => thn (hu pins s2 σ H2 _ I2 q2) fun vu s3 ⟨u, H3, I3, pu, q3⟩ => ?_)
  rw [evalPart_none]
  refine wpAny_pure ?_
  have I4 : Inv X pins σ H3 { s3 with heap := s3.heap.push { cls := .type "slice", data := .fields #[vl, vu, .none] } } := I3.kept (t' := s3.toks) fun b ob q => Heap.get?_push_of_some _ q
  obtain ⟨T, id, hT, ht, hg⟩ := hr pins { s3 with heap := s3.heap.push { cls := .type "slice", data := .fields #[vl, vu, .none] } } σ H3 x v vl vu l u s3.heap.objs.size Q I4 r1 (Heap.IsSliceOf.new ..) pl pu q3
  show wpAny (model X.prog X.w) X.A (subscriptTail e (.Slice lo hi none p2) v (.ref s3.heap.objs.size)) (EP X pins σ Q) X.xe { s3 with heap := s3.heap.push { cls := .type "slice", data := .fields #[vl, vu, .none] } }
  exact tail_any (ops := [.ref s3.heap.objs.size, v]) ht hT hg (by with_unfolding_all rfl)

/-- the items of xs[lo:hi] -/
def cutV (xs : List V) (lo hi : Option Int) : List V := (xs.drop (HT.sIx xs.length 0 lo)).take (HT.sIx xs.length xs.length hi - HT.sIx xs.length 0 lo)
theorem cutV_length (xs : List V) (lo hi : Option Int) : (cutV xs lo hi).length ≤ xs.length := by
  unfold cutV
  rw [List.length_take, List.length_drop]
  omega
/-! ### t < u, t + u -/
theorem Vals.nil_iff {xs : List V} {us : List Value} (r : Vals xs us) : us = [] ↔ xs = [] := by
  cases r with
  | nil => simp
  | cons _ _ => simp
end
end L2

namespace L2
open PySem PySem.Spec PyProof.Rows

/-! ### places -/
/-- the place that an index of any sign means -/
def ixN (n : Nat) (i : Int) : Option Nat := if 0 ≤ i then (if i < n then some i.toNat else none) else if -(n : Int) ≤ i then some (i + n).toNat else none
def atI {α : Type} (xs : List α) (i : Int) : Option α := (ixN xs.length i).bind fun j => xs[j]?
theorem ixN_seq {n : Nat} {i : Int} {j : Nat} (h : ixN n i = some j) : seqIndex? i n = some j ∧ j < n ∧ -(n : Int) ≤ i ∧ i < n := by
  unfold ixN at h
  by_cases h0 : 0 ≤ i
  · rw [if_pos h0] at h
    by_cases h1 : i < n
    · rw [if_pos h1] at h
      have e : i.toNat = j := Option.some.inj h
      exact ⟨by rw [seqIndex_of h0 h1, e], by omega, by omega, h1⟩
    · rw [if_neg h1] at h; cases h
  · rw [if_neg h0] at h
    by_cases h1 : -(n : Int) ≤ i
    · rw [if_pos h1] at h
      have e : (i + n).toNat = j := Option.some.inj h
      exact ⟨by rw [seqIndex_neg (by omega) h1, e], by omega, h1, by omega⟩
    · rw [if_neg h1] at h; cases h
theorem atI_get {α : Type} {xs : List α} {i : Int} {v : α} (h : atI xs i = some v) : ∃ j, seqIndex? i xs.length = some j ∧ xs[j]? = some v ∧ j < xs.length ∧ -(xs.length : Int) ≤ i ∧ i < xs.length := by
  unfold atI at h
  cases e : ixN xs.length i with
  | none => rw [e] at h; cases h
  | some j =>
    rw [e] at h
    obtain ⟨h1, h2, h3, h4⟩ := ixN_seq e
    exact ⟨j, h1, h, h2, h3, h4⟩
theorem atI_nat {α : Type} {xs : List α} {j : Nat} {v : α} (h : xs[j]? = some v) : atI xs (j : Int) = some v := by
  have hj : j < xs.length := (List.getElem?_eq_some_iff.mp h).1
  have e : ixN xs.length (j : Int) = some j := by
    unfold ixN
    rw [if_pos (by omega), if_pos (by omega)]; simp
  unfold atI; rw [e]; exact h
/-! ### what may be subscripted -/
/-- what stands as an index of a plain subscript -/
def PlainIx (b : Expr) : Prop := ∀ o i, subscripted b false o i = operate [o, i] (getItem o i)
/-- a subscript by values -/
def IxR (X : Cx) (r : R2) : Prop :=
  ∀ (value slice : Expr) (pins : List (Addr × Obj)) (s : Shared) (σ : St) (H : Hp) (x y : V) (v u : Value) (Q : VK), Inv X pins σ H s → RelV x v → RelV y u → r x y H Q →
    subscripted slice false v u = operate [v, u] (getItem v u) → wpAny (model X.prog X.w) X.A (subscriptTail value slice v u) (EP X pins σ Q) X.xe s
/-- a call of a builtin's method by values: the receiver, the arguments -/
def MtR (X : Cx) (id : String) (r : V → List V → Hp → VK → Prop) : Prop :=
  ∀ (pins : List (Addr × Obj)) (s : Shared) (σ : St) (H : Hp) (x : V) (xs : List V) (v : Value) (us : List Value) (Q : VK), Inv X pins σ H s → RelV x v → Vals xs us → r x xs H Q →
    wpAny (model X.prog X.w) X.A (call (.builtin id) (v :: us)) (EP X pins σ Q) X.xe s
section
variable {X : Cx} {a b : Expr} {ta tb : TE} {pos : Pos}
/-- a[b] -/
theorem pe_ix {r : R2} (hr : IxR X r) (ha : PE X a ta) (hb : PE X b tb) (hs : PlainIx b) : PE X (.Subscript a b pos) (tOp r ta tb) := by
  intro pins s σ H Q I h
  exact Subscript_ (binT ha hb I h fun v u s2 x y H2 I2 rx ry q => hr a b pins s2 σ H2 x y v u Q I2 rx ry q (hs _ _))

def rIxL (K : PySem.W.Frag) : R2 := fun x y H Q => ∃ p xs i v, x = .ref p ∧ y = .int i ∧ SqL K H p xs ∧ atI xs i = some v ∧ Q v H
def rIxT (K : PySem.W.Frag) : R2 := fun x y H Q => ∃ p xs i v, x = .ref p ∧ y = .int i ∧ SqT K H p xs ∧ atI xs i = some v ∧ Q v H
theorem ix_list : IxR X (rIxL X.K) := by
  intro value slice pins s σ H x y v u Q I rx ry h hs
  obtain ⟨p, xs, i, z, rfl, rfl, hq, he, q⟩ := h
  cases rx
  obtain ⟨t, rfl⟩ := ry
  obtain ⟨its, r, pl, hz⟩ := I.list hq
  obtain ⟨j, h1, h2, h3, h4, h5⟩ := atI_get he
  obtain ⟨w, ew, rw'⟩ := r.get h2
  have hl := r.length
  have hn := line63
  have fin : EP X pins σ Q w s := ⟨z, H, I, rw', q⟩
  by_cases h0 : 0 ≤ i
  · have hj : i.toNat = j := by
      rw [seqIndex_of h0 h5] at h1
      exact Option.some.inj h1
    exact item_listR pl.isList h0 (by omega) (by rw [hj]; simpa using ew) fin hs
  · have hj : (i + (its.toArray.size : Int)).toNat = j := by
      rw [seqIndex_neg (by omega) h4] at h1
      rw [List.size_toArray, ← hl]
      exact Option.some.inj h1
    exact subscriptTail_builtinR (x := w) pl.isList.typeIs slot_list_getitem.lookup
      (wpAny_getItem_list_neg (Q := fun r s' => r = w ∧ EP X pins σ Q r s') pl.isList (by omega) (by rw [List.size_toArray] <;> omega) (by omega) (by rw [hj]; simpa using ew) ⟨rfl, fin⟩) hs
theorem ix_tup : IxR X (rIxT X.K) := by
  intro value slice pins s σ H x y v u Q I rx ry h hs
  obtain ⟨p, xs, i, z, rfl, rfl, hq, he, q⟩ := h
  cases rx
  obtain ⟨t, rfl⟩ := ry
  obtain ⟨its, r, pl, hz⟩ := I.tuple hq
  obtain ⟨j, h1, h2, h3, h4, h5⟩ := atI_get he
  obtain ⟨w, ew, rw'⟩ := r.get h2
  have hl := r.length
  have hn := line63
  have fin : EP X pins σ Q w s := ⟨z, H, I, rw', q⟩
  exact subscriptTail_builtinR (x := w) pl.typeIs slot_tuple_getitem.lookup
    (getItem_tuple (j := j) (Q := fun r s' => r = w ∧ EP X pins σ Q r s') pl (by omega) (by omega) (by rw [List.size_toArray, ← hl]; exact h1) (by simpa using ew) ⟨rfl, fin⟩) hs
/-! ### xs[i] = v, any sign -/
/-- the list's object behind a store -/
theorem mapSeq_set (its : List Value) (n j : Nat) (u : Value) : Obj.mapSeq (·.setIfInBounds j u) { cls := .type "list", data := .seq its.toArray n } = { cls := .type "list", data := .seq (its.set j u).toArray n } := by
  simp [Obj.mapSeq]
theorem Inv.lst {pins : List (Addr × Obj)} {σ : St} {H : Hp} {s : Shared} {p : Addr} {xs : List V} (I : Inv X pins σ H s) (h : H p = some (.lst xs)) :
    ∃ (its : List Value) (n : Nat), Vals xs its ∧ s.heap.get? p = some { cls := .type "list", data := .seq its.toArray n } ∧ xs.length ≤ sizeLine := by
  obtain ⟨z, its, n, r, e⟩ := I.hok p _ h
  exact ⟨its, n, r, e, z⟩
/-- the list at p is written by an update of its object -/
theorem Inv.lstUpd {pins : List (Addr × Obj)} {σ : St} {H : Hp} {s : Shared} {p : Addr} {xs ys : List V} {its its' : List Value} {n n' : Nat} {f : Obj → Obj} (I : Inv X pins σ H s) (h : H p = some (.lst xs))
    (ho : s.heap.get? p = some { cls := .type "list", data := .seq its.toArray n }) (hf : f { cls := .type "list", data := .seq its.toArray n } = { cls := .type "list", data := .seq its'.toArray n' }) (r : Vals ys its') (hz : ys.length ≤ sizeLine) (t : Nat) :
    Inv X pins σ (upd H p (.lst ys)) { s with heap := s.heap.update p f, toks := t } := by
  have e : (s.heap.update p f).get? p = some { cls := .type "list", data := .seq its'.toArray n' } := by
    rw [Heap.get?_update_self f ho (by rw [hf] <;> rfl), hf]
  refine I.write (x := p) (e := p) (by rw [h]; trivial) (.inl rfl) (fun b u hb q => (Heap.get?_update_other _ _ (Ne.symm hb)).trans q) ⟨_, e⟩ ?_
  exact ⟨hz, its', n', r, e⟩
def rSetL : V → V → V → Hp → (Hp → Prop) → Prop := fun o i v H Q => ∃ p xs k j, o = .ref p ∧ i = .int k ∧ H p = some (.lst xs) ∧ ixN xs.length k = some j ∧ Q (upd H p (.lst (xs.set j v)))
theorem set_list : PSet X rSetL := by
  intro pins s σ H o i v ov iv u Q I ro ri rv h
  obtain ⟨p, xs, k, j, rfl, rfl, hp, hj, q⟩ := h
  cases ro
  obtain ⟨t, rfl⟩ := ri
  obtain ⟨its, n, r, ho, hz⟩ := I.lst hp
  obtain ⟨h1, h2, h3, h4⟩ := ixN_seq hj
  have hl := r.length
  have hn := line63
  have I' : Inv X pins σ (upd H p (.lst (xs.set j v))) { s with heap := s.heap.update p (Obj.mapSeq (·.setIfInBounds j u)) } :=
    I.lstUpd hp ho (mapSeq_set its n j u) (r.set rv j) (by rw [List.length_set]; exact hz) s.toks
  by_cases h0 : 0 ≤ k
  · have hk : k.toNat = j := by
      rw [seqIndex_of h0 h4] at h1
      exact Option.some.inj h1
    exact PySem.W.ki_setAt ho h0 (by omega) (by rw [List.size_toArray, ← hl]; exact h4) (by rw [hk]; exact ⟨_, I', q⟩)
  · have hk : (k + (its.toArray.size : Int)).toNat = j := by
      rw [seqIndex_neg (by omega) h3] at h1
      rw [List.size_toArray, ← hl]
      exact Option.some.inj h1
    exact PySem.W.ki_setBack ho (by omega) (by rw [List.size_toArray, ← hl]; exact h3) (by omega) (by rw [hk]; exact ⟨_, I', q⟩)

/-! ### slices -/
theorem slice_bounds (lo hi : Option Int) (n : Nat) : (sliceBounds lo hi none n).1 = ((HT.sIx n 0 lo : Nat) : Int) ∧ (sliceBounds lo hi none n).2.1 = ((HT.sIx n n hi : Nat) : Int) ∧ (sliceBounds lo hi none n).2.2 = 1 := by
  refine ⟨?_, ?_, rfl⟩
  · cases lo with
    | none => simp [sliceBounds, HT.sIx]
    | some i =>
      simp only [sliceBounds, HT.sIx, Option.getD_none, show (1 : Int) > 0 by decide, if_true]
      by_cases h : i < 0
      · simp only [h, if_true] <;> omega
      · simp only [h, if_false] <;> omega
  · cases hi with
    | none => simp [sliceBounds, HT.sIx]
    | some i =>
      simp only [sliceBounds, HT.sIx, Option.getD_none, show (1 : Int) > 0 by decide, if_true]
      by_cases h : i < 0
      · simp only [h, if_true] <;> omega
      · simp only [h, if_false] <;> omega
theorem slicePick_cut (its : List Value) (lo hi : Option Int) : slicePick its.toArray lo hi none = ((its.drop (HT.sIx its.length 0 lo)).take (HT.sIx its.length its.length hi - HT.sIx its.length 0 lo)).toArray := by
  obtain ⟨h1, h2, h3⟩ := slice_bounds lo hi its.toArray.size
  unfold slicePick
  rw [h1, h2, h3]
  simp only [sliceRange_one, pick_run, List.size_toArray] <;> rfl
/-- xs[lo:hi] of a list: a new list -/
def rSlL (K : PySem.W.Frag) : V → Option Int → Option Int → Hp → VK → Prop := fun x lo hi H Q => ∃ a xs, x = .ref a ∧ SqL K H a xs ∧ ∀ p, H p = none → Q (.ref p) (upd H p (.lst (cutV xs lo hi)))
theorem sl_list : SlR X (rSlL X.K) := by
  intro pins s σ H x v vl vu lo hi sl Q I rx hs pl pu h
  obtain ⟨a, xs, rfl, hx, q⟩ := h
  cases rx
  obtain ⟨its, r, ht, hz⟩ := I.list hx
  have hlen := r.length
  refine ⟨"list", _, slot_list_getitem.lookup, ht.isList.typeIs, ?_⟩
  refine wpAny_getItem_list_slice ht.isList hs pl pu .none (by simp) ?_ (by rw [List.size_toArray] <;> omega)
  rw [slicePick_cut, ← hlen]
  refine ⟨.ref s.heap.objs.size, _, I.laid (t' := s.toks) (o := .lst (cutV xs lo hi)) (fun b ob q => Heap.get?_push_of_some _ q) (Nat.le_refl _) ?_, rfl, q _ (I.hok.fresh (Nat.le_refl _))⟩
  exact ⟨Nat.le_trans (cutV_length xs lo hi) hz, _, 0, (r.drop (HT.sIx xs.length 0 lo)).take (HT.sIx xs.length xs.length hi - HT.sIx xs.length 0 lo), Heap.get?_push_size _ rfl⟩

/-! ### in, not in: flat items -/
def flatV : V → Bool
  | .non => true
  | .bl _ => true
  | .int _ => true
  | .str _ => true
  | _ => false
/-- == of flat values -/
def eqV : V → V → Bool
  | .non, .non => true
  | .bl a, .bl b => a == b
  | .bl a, .int b => (if a then 1 else 0) == b
  | .int a, .bl b => a == (if b then 1 else 0)
  | .int a, .int b => a == b
  | .str a, .str b => a == b
  | _, _ => false
theorem eqAt_V {A : Around} {s : Shared} {y x : V} {u v : Value} (ry : RelV y u) (rx : RelV x v) (fy : flatV y = true) (fx : flatV x = true) : SeqAt.EqAt A s u v (eqV y x) := by
  cases y with
  | non =>
    cases ry
    cases x with
    | non => cases rx; exact SeqAt.EqAt.same _
    | bl b => cases rx; exact SeqAt.EqAt.none_bool b
    | int b => obtain ⟨t, rfl⟩ := rx; exact SeqAt.EqAt.none_int b t
    | str b => obtain ⟨t, rfl⟩ := rx; exact SeqAt.EqAt.none_str b t
    | _ => exact absurd (show false = true from fx) Bool.false_ne_true
  | bl a =>
    cases ry
    cases x with
    | non => cases rx; exact SeqAt.EqAt.bool_none a
    | bl b => cases rx; exact SeqAt.EqAt.bool_bool a b
    | int b => obtain ⟨t, rfl⟩ := rx; exact SeqAt.EqAt.bool_int a b t
    | str b => obtain ⟨t, rfl⟩ := rx; exact SeqAt.EqAt.bool_str a b t
    | _ => exact absurd (show false = true from fx) Bool.false_ne_true
  | int a =>
    obtain ⟨t', rfl⟩ := ry
    cases x with
    | non => cases rx; exact SeqAt.EqAt.int_none a t'
    | bl b => cases rx; exact SeqAt.EqAt.int_bool a t' b
    | int b => obtain ⟨t, rfl⟩ := rx; exact SeqAt.EqAt.int_int a t' b t
    | str b => obtain ⟨t, rfl⟩ := rx; exact SeqAt.EqAt.int_str a t' b t
    | _ => exact absurd (show false = true from fx) Bool.false_ne_true
  | str a =>
    obtain ⟨t', rfl⟩ := ry
    cases x with
    | non => cases rx; exact SeqAt.EqAt.str_none a t'
    | bl b => cases rx; exact SeqAt.EqAt.str_bool a t' b
    | int b => obtain ⟨t, rfl⟩ := rx; exact SeqAt.EqAt.str_int a t' b t
    | str b => obtain ⟨t, rfl⟩ := rx; exact SeqAt.EqAt.str_str a t' b t
    | _ => exact absurd (show false = true from fx) Bool.false_ne_true
  | _ => exact absurd (show false = true from fy) Bool.false_ne_true
/-! ### len, list(x), tuple(x) of any list or tuple that is read -/
theorem call_len_seq : CallR X (.builtin "len") (fun xs H Q => ∃ p ys, xs = [.ref p] ∧ (SqL X.K H p ys ∨ SqT X.K H p ys) ∧ Q (.int ys.length) H) := by
  intro pins s σ H xs us Q I r h
  obtain ⟨p, ys, rfl, hq, q⟩ := h
  obtain ⟨u, rfl, rx⟩ := vals1 r
  cases rx
  have hn := line63
  rcases hq with hq | hq
  · obtain ⟨its, r', pl, hz⟩ := I.list hq
    have hlen := r'.length
    exact Calls.call_len_list pl.isList (by simp only [List.size_toArray] <;> omega) ⟨.int ys.length, H, I.tok _, ⟨s.toks + 1, by rw [List.size_toArray, hlen]⟩, q⟩
  · obtain ⟨its, r', pl, hz⟩ := I.tuple hq
    have hlen := r'.length
    exact len_tuple pl (by simp only [List.size_toArray] <;> omega) ⟨.int ys.length, H, I.tok _, ⟨s.toks + 1, by rw [List.size_toArray, hlen]⟩, q⟩
theorem call_list_of : CallR X (.type "list") (fun xs H Q => ∃ p ys, xs = [.ref p] ∧ (SqL X.K H p ys ∨ SqT X.K H p ys) ∧ ∀ l, H l = none → Q (.ref l) (upd H l (.lst ys))) := by
  intro pins s σ H xs us Q I r h
  obtain ⟨p, ys, rfl, hq, q⟩ := h
  obtain ⟨u, rfl, rx⟩ := vals1 r
  cases rx
  have fin : ∀ (its : List Value), Vals ys its → ys.length ≤ sizeLine → ∀ (h' : Heap) (c' : Nat), (∀ b o', s.heap.get? b = some o' → h'.get? b = some o') →
      h'.get? s.heap.objs.size = some { cls := .type "list", dict := none, data := .seq its.toArray c', slots := #[] } → EP X pins σ Q (.ref s.heap.objs.size) { s with heap := h' } := fun its r' hz h' c' kp e =>
    ⟨.ref s.heap.objs.size, _, I.laid (t' := s.toks) kp (Nat.le_refl _) (show ObjOk X.prog X.w _ h' _ (.lst ys) from ⟨hz, its, c', r', e⟩), rfl, q _ (I.hok.fresh (Nat.le_refl _))⟩
  rcases hq with hq | hq
  · obtain ⟨its, r', pl, hz⟩ := I.list hq
    have hlen := r'.length
    obtain ⟨o, ho, hc, n, hd⟩ := pl.isList
    exact call_list_seq p (.inl rfl) ho hc hd (fun h' c' kp e => fin its r' hz h' c' kp e) (by simp only [List.size_toArray] <;> omega)
  · obtain ⟨its, r', pl, hz⟩ := I.tuple hq
    have hlen := r'.length
    obtain ⟨o, ho, hc, n, hd⟩ := pl
    exact call_list_seq p (.inr rfl) ho hc hd (fun h' c' kp e => fin its r' hz h' c' kp e) (by simp only [List.size_toArray] <;> omega)
theorem call_tuple_of : CallR X (.type "tuple") (fun xs H Q => ∃ p ys, xs = [.ref p] ∧ ((SqL X.K H p ys ∧ ∀ l, H l = none → Q (.ref l) (upd H l (.tup ys))) ∨ (SqT X.K H p ys ∧ Q (.ref p) H))) := by
  intro pins s σ H xs us Q I r h
  obtain ⟨p, ys, rfl, h⟩ := h
  obtain ⟨u, rfl, rx⟩ := vals1 r
  cases rx
  rcases h with ⟨hq, q⟩ | ⟨hq, q⟩
  · obtain ⟨its, r', pl, hz⟩ := I.list hq
    have hlen := r'.length
    refine call_tuple_list pl.isList (fun h' kp => ?_) (by simp only [List.size_toArray] <;> omega)
    have I1 : Inv X pins σ H { s with heap := h' } := I.kept (t' := s.toks) kp
    have I2 : Inv X pins σ (upd H h'.objs.size (.tup ys)) { s with heap := h'.push { cls := .type "tuple", data := .seq its.toArray } } :=
      I1.laid (t' := s.toks) (fun b o e => Heap.get?_push_of_some _ e) (Nat.le_refl _) (show ObjOk X.prog X.w _ _ _ (.tup ys) from ⟨hz, its, r', IsTupN.new _ _⟩)
    exact ⟨.ref h'.objs.size, _, I2, rfl, q _ (I1.hok.fresh (Nat.le_refl _))⟩
  · obtain ⟨its, r', pl, hz⟩ := I.tuple hq
    exact call_tuple_same pl ⟨.ref p, H, I, rfl, q⟩

/-! ### the call of a builtin's method: o.m(..) -/
/-- the value is of that builtin type -/
def tyV (K : PySem.W.Frag) (T : String) (x : V) (H : Hp) : Prop := match x with
  | .str _ => T = "str"
  | .int _ => T = "int"
  | .ref p => (T = "list" ∧ ∃ xs, SqL K H p xs) ∨ (T = "tuple" ∧ ∃ o, K.lookup p = some o ∧ o.cls = .type "tuple" ∧ o.dict = none) ∨
      (T = "dict" ∧ ((∃ kvs, H p = some (.dK kvs)) ∨ ∃ kvs, H p = some (.dT kvs))) ∨ (T = "set" ∧ ∃ S n, H p = some (.set S n))
  | _ => False
theorem tyV_is {pins : List (Addr × Obj)} {σ : St} {H : Hp} {s : Shared} {T : String} {x : V} {v : Value} (I : Inv X pins σ H s) (r : RelV x v) (ty : tyV X.K T x H) :
    s.TypeIs v T ∧ ∀ a, v = .ref a → ∃ ob, s.heap.get? a = some ob ∧ ob.dict = none := by
  cases x with
  | str z =>
    obtain ⟨t, rfl⟩ := r
    cases (show T = "str" from ty)
    exact ⟨typeIs_str s z t, fun _ e => nomatch e⟩
  | int i =>
    obtain ⟨t, rfl⟩ := r
    cases (show T = "int" from ty)
    exact ⟨typeIs_int s i t, fun _ e => nomatch e⟩
  | ref p =>
    cases r
    rcases ty with ⟨rfl, xs, hq⟩ | ⟨rfl, o, hk, hc, hd⟩ | ⟨rfl, hk⟩ | ⟨rfl, S, n, hk⟩
    · obtain ⟨its, _, pl, _⟩ := I.list hq
      refine ⟨pl.isList.typeIs, fun a e => ?_⟩
      cases e
      obtain ⟨o, n, e, c, hd, _⟩ := pl
      exact ⟨o, e, hd⟩
    · refine ⟨⟨o, I.kIn p o hk, hc⟩, fun a e => ?_⟩
      cases e
      exact ⟨o, I.kIn _ o hk, hd⟩
    · have z : ∃ o, s.heap.get? p = some o ∧ o.ExactDict := by
        rcases hk with ⟨kvs, hk⟩ | ⟨kvs, hk⟩
        · obtain ⟨_, _, _, _, o, _, _, e, ex, _⟩ := I.hok p _ hk
          exact ⟨o, e, ex⟩
        · obtain ⟨_, _, _, _, o, _, _, e, ex, _⟩ := I.hok p _ hk
          exact ⟨o, e, ex⟩
      obtain ⟨o, e, ex⟩ := z
      refine ⟨⟨o, e, ex.1⟩, fun a e2 => ?_⟩
      cases e2
      exact ⟨o, e, ex.2.1⟩
    · obtain ⟨o, _, _, _, e, ex, _⟩ := I.hok p _ hk
      refine ⟨⟨o, e, ex.1⟩, fun a e2 => ?_⟩
      cases e2
      exact ⟨o, e, ex.2.1⟩
  | _ => exact False.elim ty
def tBM (K : PySem.W.Frag) (T : String) (r : V → List V → Hp → VK → Prop) (to : TE) (t : TA) : TE := fun σ H Q => to σ H fun x H1 => tyV K T x H1 ∧ t σ H1 fun xs H2 => r x xs H2 Q
variable {o e : Expr} {es : List Expr} {to : TE} {t : TA} {name : Str} {apos cpos : Pos} {T id : String} {r : V → List V → Hp → VK → Prop}
theorem pe_bm (pa : PlainAttrs T) (slot : Slot T name id) (hty : typeOf (.builtin id) = pure (.type "method_descriptor")) (hm : MtR X id r) (ho : PE X o to) (ha : PA X (e :: es) t)
    (hbase : attributeBase o name X.env (eval o X.env) = eval o X.env := by rfl)
    (hfew : ((backTo cpos (starEach (e :: es) X.env)).all (fun x => !x.1) && (backToKw cpos (keywordEach [] X.env)).all (fun x => x.1.isSome)
      && decide ((e :: es).length + ([] : List Keyword).length + (if ([] : List Keyword).isEmpty then 0 else 1) < 30)) = true := by rfl)
    (hline : (apos.endLine == cpos.line) = true := by rfl) (hs : starEach (e :: es) X.env = (false, eval e X.env) :: starEach es X.env := by rfl) (hplain : (backTo cpos (starEach es X.env)).any (·.1) = false := by rfl) :
    PE X (.Call (.Attribute o name apos) (e :: es) [] cpos) (tBM X.K T r to t) := by
  intro pins s σ H Q I h
  refine wpAny_Call_method_late hbase hfew hline rfl (thn (ho pins s σ H _ I h) fun v s1 ⟨x, H1, I1, r1, ty, q1⟩ => ?_)
  obtain ⟨h1, h2⟩ := tyV_is I1 r1 ty
  refine ⟨T, id, pa, slot, hty, h1, h2, ?_⟩
  have hA := ha cpos pins s1 σ H1 _ I1 q1
  rw [hs] at hA ⊢
  refine Calls.callWith_builtin (by show (false || (backTo cpos (starEach es X.env)).any (·.1)) = false; rw [hplain] <;> rfl) (Calls.evalArgs_plain ?_)
  exact thn hA fun us s2 ⟨vs, H2, I2, r2, q2⟩ => hm pins s2 σ H2 x vs v us Q I2 r1 r2 q2
/- xs.append(e), list.index on a module's tuple .. are MtR facts of 06m -/
end
end L2

namespace L2
open PySem PySem.Spec PyProof.Rows

def MtM (X : Cx) (id : String) (r : V → List V → Hp → VK → Prop) : Prop :=
  ∀ (pins : List (Addr × Obj)) (s : Shared) (σ : St) (H : Hp) (x : V) (xs : List V) (v : Value) (us : List Value) (Q : VK), Inv X pins σ H s → RelV x v → Vals xs us → r x xs H Q →
    wpAny (model X.prog X.w) X.A (call (.builtin id) (v :: us)) (EP X pins σ Q) X.xe s

/-! ### lists of values -/
theorem Vals.one : ∀ {x : V} {us : List Value}, Vals [x] us → ∃ u, us = [u] ∧ RelV x u
  | _, _, .cons r .nil => ⟨_, rfl, r⟩
theorem Vals.rep {xs : List V} {us : List Value} (h : Vals xs us) : ∀ k : Nat, Vals (List.replicate k xs).flatten (List.replicate k us).flatten
  | 0 => .nil
  | k + 1 => by
    rw [List.replicate_succ, List.replicate_succ, List.flatten_cons, List.flatten_cons]
    exact Vals.append h (Vals.rep h k)
theorem foldl_rep (its : List Value) : ∀ (k : Nat) (acc : List Value),
    List.foldl (fun x1 x2 => x1 ++ x2) acc.toArray (List.replicate k its.toArray) = (acc ++ (List.replicate k its).flatten).toArray
  | 0, acc => by simp
  | k + 1, acc => by
    have e : acc.toArray ++ its.toArray = (acc ++ its).toArray := by simp
    have e2 : (acc ++ its) ++ (List.replicate k its).flatten = acc ++ (List.replicate (k + 1) its).flatten := by
      rw [List.replicate_succ, List.flatten_cons, List.append_assoc]
    rw [← e2, ← foldl_rep its k (acc ++ its), ← e, List.replicate_succ, List.foldl_cons]

section
variable {X : Cx} {pins : List (Addr × Obj)} {σ : St} {H : Hp} {s : Shared} {l b : Addr} {xs ys zs : List V}

/-! ### the two steps: a tracked list is rewritten, a new list is laid -/
theorem Inv.lset {its its' : List Value} {n : Nat} {f : Array Value → Array Value} {t' : Nat} (I : Inv X pins σ H s) (hH : H l = some (.lst xs))
    (e : s.heap.get? l = some { cls := .type "list", data := .seq its.toArray n }) (hf : f its.toArray = its'.toArray) (hv : Vals ys its') (hz : ys.length ≤ sizeLine) :
    Inv X pins σ (upd H l (.lst ys)) { s with heap := s.heap.update l (Obj.mapSeq f), toks := t' } := by
  have q := PySem.IsL.update e f
  rw [hf] at q
  refine I.write (x := l) (e := l) (by rw [hH]; exact trivial) (.inl rfl) (fun b' u hb hu => (Heap.get?_update_other s.heap (Obj.mapSeq f) (Ne.symm hb)).trans hu) ⟨_, q⟩ ?_
  exact ⟨hz, its', _, hv, q⟩
theorem Inv.lnew {its : List Value} {t' : Nat} (I : Inv X pins σ H s) (hv : Vals ys its) (hz : ys.length ≤ sizeLine) :
    Inv X pins σ (upd H s.heap.objs.size (.lst ys)) { s with heap := s.heap.push { cls := .type "list", data := .seq its.toArray }, toks := t' } :=
  I.laid (fun _ _ q => Heap.get?_push_of_some _ q) (Nat.le_refl _) ⟨hz, its, 0, hv, Heap.get?_push_size _ rfl⟩
theorem Inv.fresh (I : Inv X pins σ H s) : H s.heap.objs.size = none := I.hok.fresh (Nat.le_refl _)
theorem Inv.lstM (I : Inv X pins σ H s) (hH : H l = some (.lst xs)) : xs.length ≤ sizeLine ∧ ∃ (its : List Value) (n : Nat), Vals xs its ∧ xs.length = its.length ∧ s.heap.get? l = some { cls := .type "list", data := .seq its.toArray n } := by
  obtain ⟨z, its, n, r, e⟩ := I.hok l _ hH
  exact ⟨z, its, n, r, r.length, e⟩

theorem notLongL {n : Nat} (h : n ≤ sizeLine) : Builtin.List.listTooLong n = false := by
  unfold Builtin.List.listTooLong
  exact decide_eq_false (by omega)
end

section
variable {X : Cx}

/-! ### methods -/
def rAppend : V → List V → Hp → VK → Prop := fun x vs H Q => ∃ l xs y, x = .ref l ∧ vs = [y] ∧ H l = some (.lst xs) ∧ xs.length < sizeLine ∧ Q .non (upd H l (.lst (xs ++ [y])))
theorem mt_append : MtM X "list.append" rAppend := by
  intro pins s σ H x vs v us Q I rx rv h
  obtain ⟨l, xs, y, rfl, rfl, hH, hz, q⟩ := h
  cases rx
  obtain ⟨u, rfl, ru⟩ := rv.one
  obtain ⟨z, its, n, r, hl, e⟩ := I.lstM hH
  refine call_meets F.slot_list_append ⟨_, e, rfl⟩ F.entry_list_append (F.args_list_append_2 _ _) (PySem.list_append l its.toArray n u (by rw [List.size_toArray]; omega)) ⟨e, ?_⟩
  refine ⟨.non, _, I.lset (its' := its ++ [u]) hH e (by simp) (r.append (.cons ru .nil)) ?_, rfl, q⟩
  rw [List.length_append, List.length_singleton]
  omega

/-! ### list + list, list += list, list * int -/
def rCat : R2 := fun x y H Q => ∃ l b xs zs, x = .ref l ∧ y = .ref b ∧ H l = some (.lst xs) ∧ H b = some (.lst zs) ∧ xs.length + zs.length ≤ sizeLine ∧ ∀ p, H p = none → Q (.ref p) (upd H p (.lst (xs ++ zs)))
theorem op_cat : OpR X (binaryOp .Add) rCat := by
  intro pins s σ H x y v u Q I rx ry h
  obtain ⟨l, b, xs, zs, rfl, rfl, hH, hB, hz, q⟩ := h
  cases rx
  cases ry
  obtain ⟨z, its, n, r, hl, e⟩ := I.lstM hH
  obtain ⟨z2, its2, n2, r2, hl2, e2⟩ := I.lstM hB
  refine PySem.P.add_list e e2 ?_ (by rw [List.size_toArray, List.size_toArray]; omega)
  have ea : its.toArray ++ its2.toArray = (its ++ its2).toArray := by simp
  rw [ea]
  exact ⟨.ref _, _, I.lnew (t' := s.toks) (r.append r2) (by rw [List.length_append]; omega), rfl, q _ I.fresh⟩
/-- a list times an int (a negative one is nothing) -/
def rRep : R2 := fun x y H Q => ∃ l k xs, x = .ref l ∧ y = .int k ∧ H l = some (.lst xs) ∧ -(2 ^ 63) ≤ k ∧ k < 2 ^ 63 ∧ xs.length * k.toNat ≤ sizeLine ∧
  ∀ p, H p = none → Q (.ref p) (upd H p (.lst (List.replicate k.toNat xs).flatten))
theorem len_rep {α : Type} (xs : List α) (k : Nat) : (List.replicate k xs).flatten.length = k * xs.length := by
  induction k with
  | zero => simp
  | succ k ih => rw [List.replicate_succ, List.flatten_cons, List.length_append, ih, Nat.succ_mul, Nat.add_comm]
theorem op_rep : OpR X (binaryOp .Mult) rRep := by
  intro pins s σ H x y v u Q I rx ry h
  obtain ⟨l, k, xs, rfl, rfl, hH, h1, h2, hz, q⟩ := h
  cases rx
  obtain ⟨t, rfl⟩ := ry
  obtain ⟨z, its, n, r, hl, e⟩ := I.lstM hH
  have hlen : its.toArray.size * k.toNat ≤ sizeLine := by rw [List.size_toArray, ← hl]; exact hz
  have hcap : ¬ its.toArray.size * k.toNat > (2 ^ 63 - 1) / 8 := by
    have : (sizeLine : Nat) ≤ (2 ^ 63 - 1) / 8 := by decide
    omega
  have hfit : ¬ (!Builtin.List.listFitsIndex k) = true := by
    rw [fitsIndex_both h1 h2]
    exact Bool.false_ne_true
  have hlong : ¬ Builtin.List.listTooLong (its.toArray.size * k.toNat) = true := by
    rw [notLongL hlen]
    exact Bool.false_ne_true
  have hnew : List.foldl (fun x1 x2 => x1 ++ x2) #[] (List.replicate (if its.toArray.isEmpty = true then 0 else k.toNat) its.toArray) = (List.replicate k.toNat its).flatten.toArray := by
    have f0 : ∀ m : Nat, List.foldl (fun x1 x2 => x1 ++ x2) #[] (List.replicate m its.toArray) = (List.replicate m its).flatten.toArray := fun m => by
      have := foldl_rep its m []
      rw [List.nil_append] at this
      exact this
    rw [f0]
    cases its with
    | nil => simp
    | cons a r' => rw [if_neg (by simp)]
  refine wpAny_binaryOp_repeat_ref (T := "list") (U := "int") (by decide) ⟨_, e, rfl⟩ (fun s' => typeIs_int s' k t) noFill_list_mul F.fills_int_mul F.slot_int_rmul repeat_list F.slot_int_index.lookup
    (call_meets F.slot_int_rmul (typeIs_int s k t) F.entry_int_rmul (F.args_int_rmul_2 _ _) (int___rmul___int_list k t l its.toArray n)
      ⟨e, rfl, ⟨_, e, rfl⟩, call_meets F.slot_list_mul ⟨_, e, rfl⟩ F.entry_list_mul (F.args_list_mul_2 _ _) (AutoListH.list___mul___list_int_3 l its.toArray n k t hfit hcap hlong) ⟨e, ?_⟩⟩)
  rw [hnew]
  exact ⟨.ref _, _, I.lnew (t' := s.toks) (r.rep k.toNat) (by rw [len_rep, Nat.mul_comm]; exact hz), rfl, q _ I.fresh⟩

/-! ### del xs[i] -/
end

/-! ### xs[a:b] = ys -/
section
variable {prog : Program} {w : World} {A : Around} {E : Value → Shared → Prop} {s : Shared}
end

section
variable {X : Cx}
end
end L2
namespace L2
open PySem PySem.Spec PyProof.Rows

/-! ### lists of pairs as tables -/
section
variable {κ : Type} [DecidableEq κ]
def valV (kvs : List (κ × V)) (k : κ) : Option V := (kvs.find? fun kv => decide (kv.1 = k)).map (·.2)
/-- in its place, or at the end -/
def putK (kvs : List (κ × V)) (k : κ) (v : V) : List (κ × V) :=
  if (kvs.any fun kv => decide (kv.1 = k)) = true then kvs.map (fun kv => if kv.1 = k then (kv.1, v) else kv) else kvs ++ [(k, v)]
theorem valV_pos {p : κ × V} {r : List (κ × V)} {k : κ} (e : p.1 = k) : valV (p :: r) k = some p.2 := by simp [valV, List.find?_cons, e]
theorem valV_neg {p : κ × V} {r : List (κ × V)} {k : κ} (e : ¬ p.1 = k) : valV (p :: r) k = valV r k := by simp [valV, List.find?_cons, e]
theorem valV_any (k : κ) : ∀ kvs : List (κ × V), (kvs.any fun kv => decide (kv.1 = k)) = (valV kvs k).isSome
  | [] => rfl
  | p :: r => by
    rw [List.any_cons]
    by_cases e : p.1 = k
    · simp only [valV_pos e, decide_eq_true e, Bool.true_or, Option.isSome_some]
    · rw [valV_neg e, decide_eq_false e, Bool.false_or]; exact valV_any k r
theorem length_putK (kvs : List (κ × V)) (k : κ) (v : V) : (putK kvs k v).length ≤ kvs.length + 1 := by
  unfold putK
  split
  · rw [List.length_map]; omega
  · rw [List.length_append, List.length_cons, List.length_nil]; omega
theorem RelO.isSome_eq {o : Option V} {u : Option Value} (r : RelO o u) : o.isSome = u.isSome := by
  cases o with
  | none => cases u with
    | none => rfl
    | some _ => exact (show False from r).elim
  | some _ => cases u with
    | none => exact (show False from r).elim
    | some _ => rfl
/-- raw tables of the same keys -/
theorem KV.val {kvs : List (κ × V)} {vs : List (κ × Value)} (r : KV kvs vs) (k : κ) : RelO (valV kvs k) (valueAt vs k) := by
  unfold KV at r
  induction r with
  | nil => exact True.intro
  | @cons p q ps qs h t ih =>
    obtain ⟨h1, h2⟩ := h
    by_cases e : p.1 = k
    · have e' : q.1 = k := h1.symm.trans e
      have b : valueAt (q :: qs) k = some q.2 := by simp [valueAt, List.find?_cons, e']
      rw [valV_pos e, b]; exact h2
    · have e' : ¬ q.1 = k := fun z => e (h1.trans z)
      have b : valueAt (q :: qs) k = valueAt qs k := by simp [valueAt, List.find?_cons, e']
      rw [valV_neg e, b]; exact ih
theorem KV.any {kvs : List (κ × V)} {vs : List (κ × Value)} (r : KV kvs vs) (k : κ) : (kvs.any fun kv => decide (kv.1 = k)) = vs.any fun kv => decide (kv.1 = k) := by
  unfold KV at r
  induction r with
  | nil => rfl
  | cons h t ih => rw [List.any_cons, List.any_cons, ih, h.1]
theorem KV.repl {kvs : List (κ × V)} {vs : List (κ × Value)} (r : KV kvs vs) (k : κ) {y : V} {u : Value} (ry : RelV y u) :
    KV (kvs.map fun kv => if kv.1 = k then (kv.1, y) else kv) (vs.map fun kv => if kv.1 = k then (kv.1, u) else kv) := by
  unfold KV at r ⊢
  induction r with
  | nil => exact .nil
  | @cons p q ps qs h t ih =>
    rw [List.map_cons, List.map_cons]
    refine .cons ?_ ih
    obtain ⟨h1, h2⟩ := h
    by_cases e : p.1 = k
    · rw [if_pos e, if_pos (h1.symm.trans e)]; exact ⟨h1, ry⟩
    · rw [if_neg e, if_neg (fun z => e (h1.trans z))]; exact ⟨h1, h2⟩
theorem KV.put {kvs : List (κ × V)} {vs : List (κ × Value)} (r : KV kvs vs) (k : κ) {y : V} {u : Value} (ry : RelV y u) : KV (putK kvs k y) (stored vs k u) := by
  unfold putK stored
  rw [r.any k]
  by_cases e : (vs.any fun kv => decide (kv.1 = k)) = true
  · rw [if_pos e, if_pos e]; exact r.repl k ry
  · rw [if_neg e, if_neg e]; exact Paired.snoc r ⟨rfl, ry⟩
theorem KV.length {kvs : List (κ × V)} {vs : List (κ × Value)} (r : KV kvs vs) : kvs.length = vs.length := Paired.length r
end


/-! ### a tracked dict, its keys ints and texts or tuples of these -/
theorem kV_is {P : Program} {w : World} {k : Key} {u : Value} (r : RelV (kV k) u) : (mixKind P w).is k u = true := by
  cases k with
  | inl i => obtain ⟨t, e⟩ := (show ∃ t, u = Value.int i t from r); subst e; exact mixKind_int P w i t
  | inr x => obtain ⟨t, e⟩ := (show ∃ t, u = Value.str x t from r); subst e; exact mixKind_str P w x t
theorem items_are {P : Program} {w : World} : ∀ {ks : List Key} {us : List Value}, Vals (ks.map kV) us → ItemsAre (mixKind P w) ks us
  | [], _, r => by rw [List.map_nil] at r; cases r; exact .nil
  | k :: ks, _, r => by
    rw [List.map_cons] at r
    cases r with
    | cons h t => exact .cons (kV_is h) (items_are t)

/-- raw entries of a dict with tuple keys -/
abbrev KT (H : Hp) : List (List Key × V) → List (List Key × Addr × Value) → Prop := Paired fun p q => p.1 = q.1 ∧ H q.2.1 = some (.tup (p.1.map kV)) ∧ RelV p.2 q.2.2
theorem KT.val {H : Hp} {kvs : List (List Key × V)} {xs : List (List Key × Addr × Value)} (r : KT H kvs xs) (k : List Key) : RelO (valV kvs k) ((atKey xs k).map (·.2)) := by
  induction r with
  | nil => exact True.intro
  | @cons p q ps qs h t ih =>
    obtain ⟨h1, _, h2⟩ := h
    by_cases e : p.1 = k
    · have e' : q.1 = k := h1.symm.trans e
      have b : atKey (q :: qs) k = some q.2 := by simp [atKey, List.find?_cons, e']
      rw [valV_pos e, b]; exact h2
    · have e' : ¬ q.1 = k := fun z => e (h1.trans z)
      have b : atKey (q :: qs) k = atKey qs k := by simp [atKey, List.find?_cons, e']
      rw [valV_neg e, b]; exact ih
theorem KT.repl {H : Hp} {kvs : List (List Key × V)} {xs : List (List Key × Addr × Value)} (r : KT H kvs xs) (k : List Key) {y : V} {u : Value} (ry : RelV y u) :
    KT H (kvs.map fun kv => if kv.1 = k then (kv.1, y) else kv) (xs.map (putAt k u)) := by
  induction r with
  | nil => exact .nil
  | @cons p q ps qs h t ih =>
    rw [List.map_cons, List.map_cons]
    refine .cons ?_ ih
    obtain ⟨h1, h2, h3⟩ := h
    unfold putAt
    by_cases e : p.1 = k
    · rw [if_pos e, if_pos (h1.symm.trans e)]; exact ⟨h1, h2, ry⟩
    · rw [if_neg e, if_neg (fun z => e (h1.trans z))]; exact ⟨h1, h2, h3⟩
theorem KT.put {H : Hp} {kvs : List (List Key × V)} {xs : List (List Key × Addr × Value)} (r : KT H kvs xs) (k : List Key) {b : Addr} {y : V} {u : Value} (hb : H b = some (.tup (k.map kV))) (ry : RelV y u) :
    KT H (putK kvs k y) (storedH xs k b u) := by
  have e : (kvs.any fun kv => decide (kv.1 = k)) = (atKey xs k).isSome := by
    rw [valV_any, (r.val k).isSome_eq, Option.isSome_map]
  unfold putK storedH
  rw [e]
  by_cases q : (atKey xs k).isSome = true
  · rw [if_pos q, if_pos q]; exact r.repl k ry
  · rw [if_neg q, if_neg q]; exact Paired.snoc r ⟨rfl, hb, ry⟩
theorem KT.keeps {H H' : Hp} {kvs : List (List Key × V)} {xs : List (List Key × Addr × Value)} (r : KT H kvs xs) (ht : ∀ b ys, H b = some (.tup ys) → H' b = some (.tup ys)) : KT H' kvs xs :=
  Paired.mapP r fun _ _ z => ⟨z.1, ht _ _ z.2.1, z.2.2⟩

section
variable {P : Program} {w : World} {H : Hp} {h : Heap} {a : Addr}
theorem rd_of {u : HO} (ok : HOk P w H h) (e : Rd H a u) : ObjOk P w H h a u := e.ok ok
theorem dk_rd {kvs : List (Key × V)} (ok : HOk P w H h) (e : Rd H a (.dK kvs)) : kvs.length ≤ sizeLine ∧ (a == sysModules) = false ∧ ∃ vs, KV kvs vs ∧ h.DictOf (mixKind P w) a vs :=
  show ObjOk P w H h a (.dK kvs) from rd_of ok e
theorem dk_of {kvs : List (Key × V)} (ok : HOk P w H h) (e : H a = some (.dK kvs)) : kvs.length ≤ sizeLine ∧ (a == sysModules) = false ∧ ∃ vs, KV kvs vs ∧ h.DictOf (mixKind P w) a vs := dk_rd ok (.inl e)
/-- a tracked tuple of ints and texts is a key -/
theorem key_of {ks : List Key} (ok : HOk P w H h) (e : H a = some (.tup (ks.map kV))) : (tupleKind (mixKind P w)).is h ks a := by
  obtain ⟨_, its, r, o, h1, h2, n, h3, _⟩ := (show ObjOk P w H h a (.tup (ks.map kV)) from ok a _ e)
  exact ⟨o, its.toArray, n, h1, h2, h3, by simpa using items_are r⟩
theorem dt_rd {kvs : List (List Key × V)} (ok : HOk P w H h) (e : Rd H a (.dT kvs)) : kvs.length ≤ sizeLine ∧ (a == sysModules) = false ∧
    ∃ xs, KT H kvs xs ∧ h.DictOfH (tupleKind (mixKind P w)) a xs := by
  obtain ⟨z, y, xs, r, o, es, ep, h1, h2, h3, h4, h5⟩ := (show ObjOk P w H h a (.dT kvs) from rd_of ok e)
  refine ⟨z, y, xs, r, o, es, ep, h1, h2, h3, h4, fun x hx => ?_, h5⟩
  have all : ∀ {l : List (List Key × V)} {m : List (List Key × Addr × Value)}, KT H l m → ∀ x ∈ m, (tupleKind (mixKind P w)).is h x.1 x.2.1 := by
    intro l m q
    induction q with
    | nil => intro x hx; exact nomatch hx
    | @cons p q ps qs hq t ih =>
      intro x hx
      rcases List.mem_cons.mp hx with e | hx
      · subst e
        exact key_of ok (by rw [← hq.1]; exact hq.2.1)
      · exact ih x hx
  exact all r x hx
theorem dt_of {kvs : List (List Key × V)} (ok : HOk P w H h) (e : H a = some (.dT kvs)) : kvs.length ≤ sizeLine ∧ (a == sysModules) = false ∧
    ∃ xs, KT H kvs xs ∧ h.DictOfH (tupleKind (mixKind P w)) a xs := dt_rd ok (.inl e)
end

/-- what the dict at a holds at the key y -/
def DGet (H : Hp) (a : Addr) (y : V) (r : Option V) : Prop :=
  (∃ kvs k, Rd H a (.dK kvs) ∧ y = kV k ∧ r = valV kvs k) ∨ ∃ kvs k b, Rd H a (.dT kvs) ∧ y = .ref b ∧ H b = some (.tup (k.map kV)) ∧ r = valV kvs k
/-- the heap behind a[y] = v -/
def DPut (H : Hp) (a : Addr) (y v : V) (H' : Hp) : Prop :=
  (∃ kvs k, H a = some (.dK kvs) ∧ y = kV k ∧ kvs.length < sizeLine ∧ H' = upd H a (.dK (putK kvs k v))) ∨
  ∃ kvs k b, H a = some (.dT kvs) ∧ y = .ref b ∧ H b = some (.tup (k.map kV)) ∧ kvs.length < sizeLine ∧ H' = upd H a (.dT (putK kvs k v))
theorem DGet.k {H : Hp} {a : Addr} {kvs : List (Key × V)} {k : Key} (e : H a = some (.dK kvs)) : DGet H a (kV k) (valV kvs k) := .inl ⟨kvs, k, .inl e, rfl, rfl⟩
theorem DPut.k {H : Hp} {a : Addr} {kvs : List (Key × V)} {k : Key} {v : V} (e : H a = some (.dK kvs)) (hl : kvs.length < sizeLine) : DPut H a (kV k) v (upd H a (.dK (putK kvs k v))) := .inl ⟨kvs, k, e, rfl, hl, rfl⟩
section
variable {X : Cx} {pins : List (Addr × Obj)} {σ : St} {H : Hp} {s : Shared} {a : Addr} {y v : V} {u r : Value} {o : Option V} {A : Around} {E : Value → Shared → Prop}

theorem Inv.big (I : Inv X pins σ H s) : sysModules < s.heap.objs.size := by
  have h : mainGlobals < s.heap.objs.size := (I.mod.glob.keeps I.bk).lt
  exact Nat.lt_trans (by decide) h

/-- d[y], there -/
theorem d_getItem {Q : Value → Shared → Prop} (hu : A.units + 1 < cLine) (I : Inv X pins σ H s) (g : DGet H a y (some v)) (ry : RelV y u) (h : ∀ w' s', Inv X pins σ H s' → RelV v w' → Q w' s') :
    wpAny (model X.prog X.w) A (getItem (.ref a) u) Q E s := by
  rcases g with ⟨kvs, k, e, ey, l⟩ | ⟨kvs, k, b, e, ey, eb, l⟩
  · subst ey
    obtain ⟨z, hd, vs, rel, dd⟩ := dk_rd I.hok e
    obtain ⟨w', hw, rw'⟩ := RelO.some_of (v := v) (o := valueAt vs k) (by rw [l]; exact rel.val k)
    exact wpAny_getItem_of (kV_is ry) dd.mapOf hw (h w' _ (I.tok _) rw')
  · subst ey
    cases (show u = Value.ref b from ry)
    obtain ⟨z, hd, xs, rel, dd⟩ := dt_rd I.hok e
    obtain ⟨w', hw, rw'⟩ := RelO.some_of (v := v) (o := (atKey xs k).map (·.2)) (by rw [l]; exact rel.val k)
    obtain ⟨p, hp, hp2⟩ := Option.map_eq_some_iff.mp hw
    refine wpAny_getItem_heap (tupleKind_room_in1 hu) (key_of I.hok eb) dd hp ?_
    rw [hp2]
    exact h w' _ (I.tok _) rw'
/-- a dict's object is replaced -/
theorem d_write {h' : Heap} {t' : Nat} {ob : HO} (I : Inv X pins σ H s) (mu : Mut (H a)) (hs : Heap.SameBut a s.heap h') (he : ∃ q, h'.get? a = some q) (new : ObjOk X.prog X.w (upd H a ob) h' a ob) :
    Inv X pins σ (upd H a ob) { s with heap := h', toks := t' } :=
  I.write (x := a) (e := a) mu (.inl rfl) (fun b q hb z => (hs.2 b hb).trans z) he new
theorem dk_new {P : Program} {w : World} {H' : Hp} {h' : Heap} {kvs : List (Key × V)} {vs : List (Key × Value)} (z : kvs.length ≤ sizeLine) (hd : (a == sysModules) = false) (rel : KV kvs vs) (dd : h'.DictOf (mixKind P w) a vs) :
    ObjOk P w H' h' a (.dK kvs) := ⟨z, hd, vs, rel, dd⟩
/-- d[y] = v -/
theorem d_setItem {H' : Hp} {Q : Unit → Shared → Prop} (hu : A.units + 1 < cLine) (I : Inv X pins σ H s) (g : DPut H a y v H') (ry : RelV y u) (rv : RelV v r) (h : ∀ s', Inv X pins σ H' s' → Q () s') :
    wpAny (model X.prog X.w) A (setItem (.ref a) u r) Q E s := by
  rcases g with ⟨kvs, k, e, ey, l, eH⟩ | ⟨kvs, k, b, e, ey, eb, l, eH⟩
  · subst ey eH
    obtain ⟨z, hd, vs, rel, dd⟩ := dk_of I.hok e
    have hz : vs.length ≤ sizeLine := by rw [← rel.length]; exact z
    have hl : (putK kvs k v).length ≤ sizeLine := by have := length_putK kvs k v; omega
    refine wpAny_setItem_pairs (hsz := hz) (kV_is ry) dd fun h' dd' hs => h _ ?_
    have he : ∃ q, h'.get? a = some q := let ⟨q, _, _, hq, _⟩ := dd'; ⟨q, hq⟩
    exact d_write I (by rw [e]; exact True.intro) hs he (dk_new hl hd (rel.put k rv) dd')
  · subst ey eH
    cases (show u = Value.ref b from ry)
    obtain ⟨z, hd, xs, rel, dd⟩ := dt_of I.hok e
    have hz : xs.length ≤ sizeLine := by rw [← Paired.length rel]; exact z
    have hl : (putK kvs k v).length ≤ sizeLine := by have := length_putK kvs k v; omega
    refine wpAny_setItem_heap (hsz := hz) (tupleKind_room_in1 hu) (key_of I.hok eb) dd fun h' dd' hs => h _ ?_
    obtain ⟨q, es, ep, hq, h2, h3, h4, _, h5⟩ := dd'
    refine d_write I (by rw [e]; exact True.intro) hs ⟨q, hq⟩ ⟨hl, hd, _, (rel.put k eb rv).keeps fun c ys ec => ?_, q, es, ep, hq, h2, h3, h4, h5⟩
    rw [upd_ne (ne_of ec e (fun z => nomatch z))]
    exact ec
end

section
variable {X : Cx} {pins : List (Addr × Obj)} {σ : St} {H : Hp} {s : Shared} {a : Addr} {kvs : List (Key × V)} {k : Key} {u : Value} {A : Around} {E : Value → Shared → Prop}
end


/-! ### readings and rules -/
/-- the element of a subscription, not a slice -/
def NoSl (i : Expr) : Prop := ∀ ov iv, subscripted i false ov iv = operate [ov, iv] (getItem ov iv)
theorem subD_of {prog : Program} {w : World} {A : Around} {E : Value → Shared → Prop} {s : Shared} {env : Env} {value slice : Expr} {pos : Pos} {T id : String} {Q : Value → Shared → Prop}
    (hl : typeLookup (.type T) "__getitem__" = pure (some (.builtin id))) (hs : NoSl slice)
    (h : wpAny (model prog w) A (eval value env) (fun o s₁ => wpAny (model prog w) A (eval slice env) (fun i s₂ => s₂.TypeIs o T ∧ wpAny (model prog w) A (getItem o i) Q E s₂) E s₁) E s) :
    wpAny (model prog w) A (eval (.Subscript value slice pos) env) Q E s := by
  refine Subscript_ (wpAny_mono h (fun o s₁ h₁ => wpAny_mono h₁ (fun i s₂ h₂ => ?_) fun _ _ x => x) fun _ _ x => x)
  obtain ⟨hT, h₂⟩ := h₂
  unfold subscriptTail
  refine wpAny_bind ?_
  rw [getitemInPython_of_ne hT.not_modules]
  refine wpAny_bind (wpAny_specialOf hT hl ?_)
  have fin : wpAny (model prog w) A (subscripted slice false o i) (fun r s₃ => wpAny (model prog w) A (letTemporaryGo value o r >>= fun _ => pure r) Q E s₃) E s₂ := by
    rw [hs o i]
    exact wpAny_operating (wpAny_mono h₂ (fun r s₃ h₃ => wpAny_bind (wpAny_letTemporaryGo (wpAny_pure h₃))) fun _ _ x => x)
  first
    | exact wpAny_pure (wpAny_bind fin)
    | exact wpAny_bind (wpAny_pure (wpAny_bind fin))
    | exact wpAny_bind fin

theorem dict_typeIs {X : Cx} {pins : List (Addr × Obj)} {σ : St} {H : Hp} {s : Shared} {a : Addr} {y : V} {o : Option V} (I : Inv X pins σ H s) (g : DGet H a y o) : s.TypeIs (.ref a) "dict" := by
  rcases g with ⟨kvs, k, e, _, _⟩ | ⟨kvs, k, b, e, _, _, _⟩
  · obtain ⟨_, _, vs, _, dd⟩ := dk_rd I.hok e
    exact dd.typeIs
  · obtain ⟨_, _, xs, _, dd⟩ := dt_rd I.hok e
    exact dd.typeIs
/-- d[y] -/
def tDGet (td ty : TE) : TE := fun σ H Q => td σ H fun x H1 => ty σ H1 fun y H2 => ∃ a v, x = .ref a ∧ DGet H2 a y (some v) ∧ Q v H2
/-- d[y] = v -/
def sDPut (td ty tv : TE) : TS := fun D σ H => tv σ H fun v H1 => td σ H1 fun x H2 => ty σ H2 fun y H3 => ∃ a H4, x = .ref a ∧ DPut H3 a y v H4 ∧ D.nx σ H4
section
variable {X : Cx} {o i e value : Expr} {pos pos' tpos : Pos} {td ty tv : TE}
theorem pe_dget (hu : X.A.units + 1 < cLine) (ho : PE X o td) (hi : PE X i ty) (hs : NoSl i) : PE X (.Subscript o i pos) (tDGet td ty) := by
  intro pins s σ H Q I h
  refine subD_of PySem.F.slot_dict_getitem.lookup hs (thn (ho pins s σ H _ I h) fun u s1 ⟨x, H1, I1, rx, q1⟩ => thn (hi pins s1 σ H1 _ I1 q1) fun iv s2 ⟨y, H2, I2, ry, a, v, ex, g, q2⟩ => ?_)
  subst ex
  obtain rfl : u = Value.ref a := rx
  exact ⟨dict_typeIs I2 g, d_getItem hu I2 g ry fun w' s3 I3 rw' => ⟨v, H2, I3, rw', q2⟩⟩
theorem ps_dput (hu : X.A.units + 1 < cLine) (ho : PE X o td) (hi : PE X i ty) (hv : PE X value tv) (hs : swapsWith value (some (.Subscript o i pos')) pos.line X.env = pure false) :
    PS X (.Assign [.Subscript o i pos'] value pos) (sDPut td ty tv) := by
  intro pins s σ H D I h
  refine wpAny_Assign_Subscript (thn (hv pins s σ H _ I h) fun r s1 ⟨v, H1, I1, rv, q1⟩ => thn (ho pins s1 σ H1 _ I1 q1) fun u s2 ⟨x, H2, I2, rx, q2⟩ => thn (hi pins s2 σ H2 _ I2 q2) fun iv s3 ⟨y, H3, I3, ry, a, H4, ex, g, q3⟩ => ?_) hs
  subst ex
  obtain rfl : u = Value.ref a := rx
  exact d_setItem hu I3 g ry rv fun s4 I4 => ⟨σ, H4, I4, q3⟩
end


/-! ### displays -/
theorem dk_empty {P : Program} {w : World} {H : Hp} (h : Heap) (hb : sysModules < h.objs.size) : ObjOk P w H (h.push { cls := .type "dict", data := .dict #[] }) h.objs.size (.dK []) :=
  ⟨Nat.zero_le _, beq_eq_false_iff_ne.mpr (Ne.symm (Nat.ne_of_lt hb)), [], .nil, Heap.DictOf.new h⟩
section
variable {X : Cx} {pos : Pos}
end

/-- the pairs of a display, from the left -/
def tPairs : List (TE × TE) → St → Hp → (List (V × V) → Hp → Prop) → Prop
  | [], _, H, Q => Q [] H
  | (tk, tv) :: r, σ, H, Q => tk σ H fun x H1 => tv σ H1 fun y H2 => tPairs r σ H2 fun ps H3 => Q ((x, y) :: ps) H3
abbrev VV : List (V × V) → List (Value × Value) → Prop := Paired fun p q => RelV p.1 q.1 ∧ RelV p.2 q.2
def PPs (X : Cx) (pos : Pos) (keys : List (Option Expr)) (values : List Expr) (trs : List (TE × TE)) : Prop :=
  ∀ (pins : List (Addr × Obj)) (s : Shared) (σ : St) (H : Hp) (Q : List (V × V) → Hp → Prop), Inv X pins σ H s → tPairs trs σ H Q →
    wpAny (model X.prog X.w) X.A (evalPairs (pairTrees keys values X.env pos)) (fun vs s' => ∃ ps H', Inv X pins σ H' s' ∧ VV ps vs ∧ Q ps H') X.xe s
theorem pps_nil {X : Cx} {pos : Pos} : PPs X pos [] [] [] := fun pins s σ H Q I h => pairTrees_nil_walk ⟨[], H, I, .nil, h⟩
theorem pps_cons {X : Cx} {pos : Pos} {k v : Expr} {ks : List (Option Expr)} {vs : List Expr} {tk tv : TE} {trs : List (TE × TE)} (hk : PE X k tk) (hv : PE X v tv) (hr : PPs X pos ks vs trs) :
    PPs X pos (some k :: ks) (v :: vs) ((tk, tv) :: trs) := fun pins s σ H Q I h =>
  pairTrees_cons_walk (thn (hk pins s σ H _ I h) fun u s1 ⟨x, H1, I1, rx, q1⟩ => thn (hv pins s1 σ H1 _ I1 q1) fun w2 s2 ⟨y, H2, I2, ry, q2⟩ =>
    thn (hr pins s2 σ H2 _ I2 q2) fun ws s3 ⟨ps, H3, I3, rel, q3⟩ => ⟨(x, y) :: ps, H3, I3, .cons ⟨rx, ry⟩ rel, q3⟩)

def mergeK (kvs more : List (Key × V)) : List (Key × V) := more.foldl (fun acc kv => putK acc kv.1 kv.2) kvs
theorem KV.merge : ∀ {more : List (Key × V)} {rs : List (Key × Value)} {kvs : List (Key × V)} {vs : List (Key × Value)}, KV more rs → KV kvs vs → KV (mergeK kvs more) (merged vs rs) := by
  intro more rs kvs vs r
  unfold KV at r
  induction r generalizing kvs vs with
  | nil => intro q; exact q
  | @cons p q ps qs h t ih =>
    intro r0
    have e : KV (putK kvs p.1 p.2) (stored vs q.1 q.2) := by
      have := r0.put p.1 h.2
      rw [← h.1]; exact this
    exact ih e
theorem length_mergeK : ∀ (more kvs : List (Key × V)), (mergeK kvs more).length ≤ kvs.length + more.length
  | [], kvs => by show kvs.length ≤ kvs.length + 0; omega
  | p :: r, kvs => by
    have h1 := length_mergeK r (putK kvs p.1 p.2)
    have h2 := length_putK kvs p.1 p.2
    show (mergeK (putK kvs p.1 p.2) r).length ≤ _
    rw [List.length_cons]; omega
theorem carries_of {P : Program} {w : World} : ∀ {kvs : List (Key × V)} {ws : List (Value × Value)}, VV (kvs.map fun kv => (kV kv.1, kv.2)) ws → ∃ rs, Carries (mixKind P w) ws rs ∧ KV kvs rs
  | [], _, r => by rw [List.map_nil] at r; cases r; exact ⟨[], True.intro, .nil⟩
  | p :: kvs, _, r => by
    rw [List.map_cons] at r
    cases r with
    | @cons a b as bs h t =>
      obtain ⟨rs, c, q⟩ := carries_of (P := P) (w := w) t
      obtain ⟨b1, b2⟩ := b
      exact ⟨(p.1, b2) :: rs, ⟨kV_is h.1, rfl, c⟩, .cons ⟨rfl, h.2⟩ q⟩
/-- {k: v, ..} with keys ints and texts; the new dict stands empty while the pairs are made -/
def tDisp (trs : List (TE × TE)) : TE := fun σ H Q => ∀ p, H p = none → tPairs trs σ (upd H p (.dK [])) fun ps H2 => H2 p = some (.dK []) ∧ ∃ kvs : List (Key × V), ps = kvs.map (fun kv => (kV kv.1, kv.2)) ∧ kvs.length ≤ 15 ∧ Q (.ref p) (upd H2 p (.dK (mergeK [] kvs)))
theorem pe_disp {X : Cx} {pos : Pos} {keys : List (Option Expr)} {values : List Expr} {trs : List (TE × TE)} (h : PPs X pos keys values trs) (hall : keys.all (·.isSome) = true) (hl : keys.length = values.length) (h0 : keys ≠ [])
    (h15 : keys.length ≤ 15) : PE X (.Dict keys values pos) (tDisp trs) := by
  intro pins s σ H Q I q
  have hn := I.hok.fresh (Nat.le_refl s.heap.objs.size)
  have I1 := I.laid (a := s.heap.objs.size) (o := .dK []) (h' := s.heap.push { cls := .type "dict", data := .dict #[] }) (t' := s.toks) (fun _ _ q => Heap.get?_push_of_some _ q) (Nat.le_refl _) (dk_empty s.heap I.big)
  refine wpAny_Dict_walk (knd := mixKind X.prog X.w) hall hl h0 h15 (thn (h pins _ σ _ _ I1 (q _ hn)) fun ws s2 ⟨ps, H2, I2, rel, e, kvs, ep, lk, q2⟩ => ?_)
  subst ep
  obtain ⟨rs, c, rk⟩ := carries_of (P := X.prog) (w := X.w) rel
  obtain ⟨z, hd, vs0, r0, dd⟩ := dk_of I2.hok e
  cases r0
  refine ⟨rs, c, dd, fun h' dd' hs => ⟨.ref s.heap.objs.size, _, ?_, rfl, q2⟩⟩
  have hz : (mergeK [] kvs).length ≤ sizeLine := by
    have h1 := length_mergeK kvs []
    rw [List.length_nil] at h1
    rw [sizeLine_eq]; omega
  have he : ∃ q, h'.get? s.heap.objs.size = some q := let ⟨q, _, _, hq, _⟩ := dd'; ⟨q, hq⟩
  exact d_write I2 (by rw [e]; exact True.intro) hs he (dk_new hz hd (rk.merge .nil) dd')


/-! ### methods -/
section
variable {X : Cx} {pins : List (Addr × Obj)} {σ : St} {H : Hp} {s : Shared} {a : Addr} {y d : V} {u r : Value} {o : Option V} {A : Around} {E : Value → Shared → Prop}
end

section
variable {X : Cx} {o e f : Expr} {apos cpos : Pos} {td ty tx : TE}
end

/-! ### dict(d): a copy -/
section
variable {X : Cx} {pins : List (Addr × Obj)} {σ : St} {H : Hp} {s : Shared} {a : Addr} {kvs : List (Key × V)} {A : Around} {E : Value → Shared → Prop}
end


section
variable {X : Cx} {pins : List (Addr × Obj)} {σ : St} {H : Hp} {s : Shared} {a : Addr} {y : V} {u : Value} {A : Around} {E : Value → Shared → Prop}
end
end L2

namespace Att
open PySem PySem.W PySem.Calls PyProof.Rows

/-! ### the script -/
theorem ints_of_wellAll {P : Params} {h : Heap} : ∀ (ns : List Int) (vs : List Value), WellAll P h vs (ns.map WData.int) → IntsAre vs ns := by
  intro ns
  induction ns with
  | nil =>
    intro vs w
    rw [List.map_nil] at w
    cases w
    exact .nil
  | cons n ns ih =>
    intro vs w
    rw [List.map_cons] at w
    cases w with
    | cons a b =>
      cases a
      exact .cons _ _ (ih _ b)

theorem script_of {l : OpenLaw} {n : Nat} (hn : l.most = some n) {P : Params} {h : Heap} {args : List WData} {vals : List Value}
    (hpre : l.row.toRowW.claim.pre args = true) (hwl : WellAll P h vals args) :
    ∃ a vs ns, vals = [Value.ref a] ∧ args = [WData.list (ns.map WData.int)] ∧ h.get? a = some { cls := .type "list", data := .seq vs.toArray } ∧ IntsAre vs ns ∧ ns.length ≤ n := by
  have hsh : WShape.hasAll [] args [.list .int] = true := (pre_splitW hpre).1
  have hc : l.pre.holds [] { args := args } = true := (pre_splitW hpre).2
  obtain ⟨d, r, rfl, h1, h2⟩ := hasAllW_cons hsh
  obtain rfl := hasAllW_nil h2
  obtain ⟨xs, rfl, h3⟩ := hasW_list h1
  obtain ⟨ns, rfl⟩ := items_int h3
  have hlen : ns.length ≤ n := by
    unfold OpenLaw.pre at hc
    have h4 : (WTm.not (.lt (.lit (.int (n : Int))) (.len (.arg 0)))).holds [] { args := [.list (ns.map .int)] } = true := by
      have h4 := (holds_andW hc).1
      rw [hn] at h4
      exact h4
    have h5 := condW_of h4 (w_not (w_lt w_lit (w_len_list (w_arg rfl))))
    rw [List.length_map] at h5
    refine Nat.le_of_not_lt fun q => ?_
    have q' : (n : Int) < ((ns.length : Nat) : Int) := by omega
    first
      | (rw [decide_eq_true q'] at h5; exact absurd h5 (by decide))
      | (simp at h5; omega)
  cases hwl with
  | cons w1 w2 =>
    cases w2
    cases w1 with
    | list ho hall => exact ⟨_, _, ns, rfl, rfl, ho, ints_of_wellAll ns _ hall, hlen⟩

theorem post_true (l : OpenLaw) (args : List WData) : l.row.toRowW.claim.post args (.bool true) args = true :=
  postW_of (r := l.row.toRowW) (X := (true == true))
    (show WShape.has [] (.bool true) .bool = true by first | rfl | decide | simp [WShape.has, WShape.arms, WShape.armsAll])
    (show (WTm.eq .res (.lit (.bool true))).value [] { args := args, res := some (.bool true), after := args } = some (.bool (true == true)) from w_eq_bool (w_res rfl) w_lit) rfl

/-! ### the attachment: holds_open's last premise (the goal 'hc' behind k_head) from a wpAny of the law's body -/
/-- the same from a codeAny of the CALL (for a layer whose function contracts speak of calls) -/
theorem attach_call {l : OpenLaw} {n : Nat} {q : Program} {loose : List Str} {XP : (Str → Option Value) → Heap → Prop} {YP : World → Heap → Prop} {d : DefRec}
    (hn : l.most = some n) (hdf : d.params.defaults = [])
    (call : ∀ (w : World) (s₀ s₁ : Shared) (mg mb : Str → Option Value) (fa : Addr) (o : Obj) (pm cd doc : Value) (a : Addr) (vs : List Value) (ns : List Int),
      Ground q loose [] XP w s₀ mg mb s₁.heap → YP w s₁.heap →
      s₁.heap.get? fa = some o → o.data = .func (docDef d.name d.params d.body d.scope pm cd doc) → s₁.heap.CodeRec cd d.name → mg d.name = some (.ref fa) →
      s₁.heap.get? a = some { cls := .type "list", data := .seq vs.toArray } → IntsAre vs ns → ns.length ≤ n → s₁.gens = #[] →
      codeAny (model l.prog w) callerA (.call (.ref fa) ⟨[.ref a], []⟩) (fun r s' => r = .ok (.ret (.bool true)) ∧ OldK s₁.heap s'.heap ∧ s'.os = s₁.os ∧ AllBare s'.gens) s₁) :
    WalkO q loose XP YP l.row.toRowW d [] (fun f vs => PySem.call f vs) := by
  intro w s₀ s₁ mg mb G Y fa o pm cd doc dV kV ho hd hcd hD hmg hg args vals as hpre hlay hrd hwl hlo
  obtain rfl : dV = .none := Dflts.none hD hdf
  obtain rfl : kV = .none := Dflts.noKw hD
  obtain ⟨a, vs, ns, rfl, rfl, hobj, hints, hlen⟩ := script_of hn hpre hwl
  refine enter_call (codeAny_mono (call w s₀ s₁ mg mb fa o pm cd doc a vs ns G Y ho (fd_plain hd) hcd hmg hobj hints hlen hg) fun r s' hq => ?_)
  obtain ⟨rfl, h2, h3, h4⟩ := hq
  exact ⟨.inl ⟨.bool true, .bool true, [], rfl, fun _ => rfl, .bool true, post_true l _, fun _ => ⟨List.Pairwise.nil, fun _ hm => (nomatch hm)⟩⟩, h2, h3, h4⟩

/-! ### rules over ANY heap (no ledger) from facts about the written part K: the library's own take a ledger (News) for what they write -/
section
variable {prog : Program} {w : World} {A : Around} {E : Value → Shared → Prop} {s : Shared} {K : Frag}

/-! the whole heap as the ledger: makes every rule that writes through a ledger a rule over any heap -/
end
end Att

namespace L2
open PySem PySem.Spec PyProof.Rows

theorem vals_ints : ∀ {vs : List Value} {ns : List Int}, IntsAre vs ns → Vals (ns.map V.int) vs
  | _, _, .nil => .nil
  | _, _, .cons n t h => .cons ⟨t, rfl⟩ (vals_ints h)

end L2

namespace L2
open PySem PySem.Spec PyProof.Rows

abbrev KOf {K : PySem.W.Frag} {h : Heap} (_ : K.In h) : PySem.W.Frag := K

end L2

/- THE LAST THEOREM (shape; LID, My.* are yours):
   My.Adr: a structure of the addresses that your layer names (classes, functions); My.Txt K t: a structure (Prop) of the equations over K;
   My.txt_mk : {K} {implicit addresses ..} (e1 : nsIn K mainGlobals "law" = some (some (.ref f))) (e2 : K.lookup f = some ⟨oc, od, .func (fnOf "law" "law" params body scope dV kV doc pm an cdv ct), sl⟩) (e3 : codeIn K cdv "law" = true) .. : ∃ t, My.Txt K t

(the tactic k_is has no namespace: write k_is) -/

/-! SHORT WORDS over the layer: a def of the text, its body, what a loop and a test want. -/
namespace L2
open PySem PySem.Spec PyProof.Rows

/-! ### the text by places -/
def defArgs (s : Stmt) : Arguments := match s with
  | .FunctionDef _ a _ _ _ _ _ _ _ _ => a
  | _ => { posonlyargs := [], args := [], vararg := none, kwonlyargs := [], kw_defaults := [], kwarg := none, defaults := [] }
def defBody (s : Stmt) : List Stmt := match s with
  | .FunctionDef _ _ b _ _ _ _ _ _ _ => b
  | _ => []
def defScope (s : Stmt) : Scope := match s with
  | .FunctionDef _ _ _ _ _ _ sc _ _ _ => sc
  | _ => { kind := .function, names := [], isGenerator := false, isCoroutine := false }

/-! ### no exception leaves a def -/
abbrev CX0 : CXT := fun _ _ _ _ _ _ => False
abbrev E0 : XK := fun _ _ _ => False
theorem pass0 {X : Cx} : Passes CX0 X E0 := fun _ _ _ _ _ _ _ h => h.elim

/-! ### a def (or method) of the text as it stands behind the top -/
structure Fun (K : PySem.W.Frag) (x qual : Str) (st : Stmt) (f : Addr) (fd : FuncData) : Prop where
  ex : ∃ (oc : Value) (od : Option Addr) (kV doc pm : Value) (an : Option Addr) (cdv ct : Value) (osl : Array (Option Value)),
    fd = PySem.W.fnOf x qual (defArgs st) (defBody st) (defScope st) .none kV doc pm an cdv ct ∧ K.lookup f = some ⟨oc, od, .func fd, osl⟩ ∧ PySem.W.codeIn K cdv qual = true
  kp : PySem.W.keepIn K (.ref f) = true
section
variable {P : Program} {w : World} {K : PySem.W.Frag} {mg : Str → Option Value} {base : Heap}
/-- THE RULE for a def: its body as a term of rules, and the reading of that term -/
theorem Fun.ok {x qual : Str} {st : Stmt} {f : Addr} {fd : FuncData} {N ps : List Str} {k : Nat} {sp : Sp} (F : Fun K x qual st f fd) (S : FnScope N ps (defScope st)) (len : ∀ vs H Q E, sp vs H Q E → vs.length = ps.length)
    (hbody : ∀ (cdv : Value) (A : Around) (outer : List Env) (s : Shared) (H : Hp) (vs : List V) (Q : VK) (E : XK), Room k (A.deeper (envOfC qual (defScope st) s.heap.objs.size f cdv)) → sp vs H Q E →
      ∃ t, PSs (cxOf CX0 P w K mg base N qual (defScope st) f cdv A outer s H E).nox (defBody st) t ∧ t { nx := fun _ H' => Q .non H', rt := Q } (start N vs) H) : FnOk P w K mg base CX0 (k + 1) f fd ps sp := by
  obtain ⟨oc, od, kV, doc, pm, an, cdv, ct, osl, rfl, lk, hcd⟩ := F.ex
  refine fn_of lk hcd S len fun A outer s H vs Q E hr hsp => ?_
  obtain ⟨t, h, q⟩ := hbody cdv A outer s H vs Q E hr hsp
  exact ⟨t, h.nox, q⟩
/-- how its arguments bind (no defaults): h is «fun _ _ _ _ _ _ us hl => match us, hl with | [_, _], _ => rfl», one _ a parameter -/
theorem Fun.binds {x qual : Str} {st : Stmt} {f : Addr} {fd : FuncData} {ps : List Str} (F : Fun K x qual st f fd)
    (h : ∀ (kV doc pm : Value) (an : Option Addr) (cdv ct : Value) (us : List Value), us.length = ps.length → bindArgs (PySem.W.fnOf x qual (defArgs st) (defBody st) (defScope st) .none kV doc pm an cdv ct) ⟨us, []⟩ = pure (ps.zip us)) : Binds K fd ps [] := by
  obtain ⟨oc, od, kV, doc, pm, an, cdv, ct, osl, rfl, lk, hcd⟩ := F.ex
  exact .all (h kV doc pm an cdv ct)
theorem fun_mk {x qual : Str} {st : Stmt} {f : Addr} {oc : Value} {od an : Option Addr} {osl : Array (Option Value)} {kV doc pm cdv ct : Value} (l : K.lookup f = some ⟨oc, od, .func (PySem.W.fnOf x qual (defArgs st) (defBody st) (defScope st) .none kV doc pm an cdv ct), osl⟩)
    (c : PySem.W.codeIn K cdv qual = true) (k : PySem.W.keepIn K (.ref f) = true) : Fun K x qual st f (PySem.W.fnOf x qual (defArgs st) (defBody st) (defScope st) .none kV doc pm an cdv ct) := ⟨⟨oc, od, kV, doc, pm, an, cdv, ct, osl, rfl, l, c⟩, k⟩
end
theorem hu_of {A : Around} {k : Nat} (hr : Room k A) : A.units + 1 < cLine := Nat.lt_of_le_of_lt (Nat.add_le_add_left (by decide : 1 ≤ 64) _) hr.units
/-! ### expressions in short: the name that stands in the i-th slot -/
section
variable {X : Cx}
theorem pv (i : Nat) {x : Str} {pos : Pos} (hN : X.N[i]? = some x := by rfl) (hv : Vis X.env.scope x := by first | exact Or.inl rfl | exact Or.inr (Or.inl rfl) | exact Or.inr (Or.inr rfl)) (hd : (x == ("__debug__" : Str)) = false := by decide)
    (hcd : (x == ("__classdict__" : Str)) = false := by decide) : PE X (.Name x pos) (tVar i) := pe_var hN hv hd hcd
end

/-! ### tests -/
theorem iteF {A B : Prop} (h : B) : if false = true then A else B := by
  rw [if_neg Bool.false_ne_true]
  exact h
theorem iteT {A B : Prop} (h : A) : if true = true then A else B := by
  rw [if_pos rfl]
  exact h
theorem ite2 {c A B : Prop} [Decidable c] (h1 : c → A) (h2 : ¬ c → B) : if c then A else B := by
  by_cases h : c
  · rw [if_pos h]
    exact h1 h
  · rw [if_neg h]
    exact h2 h
theorem iteNS {c A B : Prop} [Decidable c] (hc : c) (h : B) : if (!decide c) = true then A else B := by
  rw [decide_eq_true hc]
  exact iteF h

/-! ### heaps -/
/-- all that was tracked is as it was -/
def Same (H H' : Hp) : Prop := ∀ b o, H b = some o → H' b = some o
theorem Same.refl (H : Hp) : Same H H := fun _ _ h => h
theorem Same.trans {H H1 H2 : Hp} (a : Same H H1) (b : Same H1 H2) : Same H H2 := fun c o h => b c o (a c o h)
theorem Same.seq {K : PySem.W.Frag} {H H' : Hp} {a : Addr} {xs : List V} (e : Same H H') (h : SqL K H a xs) : SqL K H' a xs := by
  rcases h with (h | ⟨o, h⟩) | h
  · exact .inl (.inl (e _ _ h))
  · exact .inl (.inr ⟨o, e _ _ h⟩)
  · exact .inr h

end L2

namespace L2
open PySem PySem.Spec PyProof.Rows
section
variable {X : Cx}
end
/-! ### a dict's pairs: keys that differ -/
section
variable {κ : Type} [DecidableEq κ]
end

end L2

set_option Elab.async false
set_option linter.all false
set_option maxRecDepth 100000
set_option maxHeartbeats 4000000
namespace L2
open PySem PySem.Spec PyProof.Rows
section
variable {X : Cx}
/-- == of two tuples of flat values -/
def eqSeq (xs ys : List V) : Bool := (List.range (min xs.length ys.length)).all (fun j => eqV (xs.getD j .non) (ys.getD j .non)) && xs.length == ys.length
theorem getD_of {α : Type} {xs : List α} {d : α} {j : Nat} (h : j < xs.length) : xs.getD j d = xs[j] := by
  rw [List.getD_eq_getElem?_getD, List.getElem?_eq_getElem h]; rfl
theorem all_at {f : V → Bool} {xs : List V} (h : xs.all f = true) {j : Nat} (hj : j < xs.length) : f (xs.getD j .non) = true := by
  rw [getD_of hj]
  exact List.all_eq_true.mp h _ (List.getElem_mem hj)
theorem rel_at {xs : List V} {us : List Value} (r : Vals xs us) {j : Nat} (hj : j < us.toArray.size) : RelV (xs.getD j .non) (us.toArray[j]) := by
  have hl := r.length
  have hj' : j < us.length := by simpa using hj
  have hx : j < xs.length := by omega
  obtain ⟨u, h1, h2⟩ := r.get (i := j) (x := xs[j]) (List.getElem?_eq_getElem hx)
  rw [getD_of hx]
  have : us.toArray[j] = us[j] := by simp
  rw [this]
  rw [List.getElem?_eq_getElem hj'] at h1
  cases h1
  exact h2
def rNeT (K : PySem.W.Frag) : R2 := fun x y H Q => ∃ p q xs ys, x = .ref p ∧ y = .ref q ∧ SqT K H p xs ∧ SqT K H q ys ∧ xs.all flatV = true ∧ ys.all flatV = true ∧ Q (.bl (!eqSeq xs ys)) H
theorem op_neT (hu : X.A.units < cLine) : OpR X (compareOp .NotEq) (rNeT X.K) := by
  intro pins s σ H x y v u Q I rx ry h
  obtain ⟨p, q, xs, ys, rfl, rfl, h1, h2, f1, f2, k⟩ := h
  cases rx
  cases ry
  obtain ⟨us, r1, t1, z1⟩ := I.tuple h1
  obtain ⟨ws, r2, t2, z2⟩ := I.tuple h2
  refine PySem.W.cmp_ofNotEq (SeqAt.RcNeAt.tuples (e := fun j => eqV (xs.getD j .non) (ys.getD j .non)) (show s.heap.IsTuple p us.toArray from t1) (show s.heap.IsTuple q ws.toArray from t2) hu (fun j a b => ?_) X.prog X.w X.xe _ (fin_bl I k ?_))
  · exact eqAt_V (rel_at r1 a) (rel_at r2 b) (all_at f1 (by have := r1.length; have := a; simp at this; omega)) (all_at f2 (by have := r2.length; have := b; simp at this; omega))
  · unfold eqSeq
    rw [List.size_toArray, List.size_toArray, r1.length, r2.length]
end
end L2

set_option Elab.async false
set_option linter.all false
set_option maxRecDepth 100000
set_option maxHeartbeats 4000000
namespace L2
open PySem PySem.Spec PyProof.Rows
section
variable {X : Cx}
/-- isinstance(x, T), T a built-in -/
def rIsi (K : PySem.W.Frag) : List V → Hp → VK → Prop := fun xs H Q => ∃ x t T b, xs = [x, .ty T] ∧ TyOf K H x t ∧ PySem.W.kitOne K t (.type T) = some b ∧ Q (.bl b) H
theorem call_isi : CallR X (.builtin "isinstance") (rIsi X.K) := by
  intro pins s σ H xs us Q I r h
  obtain ⟨x, t, T, b, rfl, ty, e, q⟩ := h
  obtain ⟨u, w', rfl, rx, rt⟩ := vals2 r
  obtain rfl : w' = Value.type T := rt
  exact isinst_ok I rx ty e fun tk => ⟨.bl b, H, I.tok _, rfl, q⟩
example (K : PySem.W.Frag) : PySem.W.kitOne K (.type "int") (.type "bool") = some false := by rfl
example (K : PySem.W.Frag) : PySem.W.kitOne K (.type "tuple") (.type "tuple") = some true := by rfl
example (K : PySem.W.Frag) : PySem.W.kitOne K (.type "int") (.type "int") = some true := by rfl
end
/-- a def that may be called by its name -/
structure Cal (P : Program) (w : World) (K : PySem.W.Frag) (mg : Str → Option Value) (base : Heap) (x : Str) (ps : List Str) (k : Nat) (sp : Sp) : Prop where
  ex : ∃ f fd, FnOk P w K mg base CX0 k f fd ps sp ∧ mg x = some (.ref f) ∧ PySem.W.keepIn K (.ref f) = true ∧ Binds K fd ps []
structure FunAt (K : PySem.W.Frag) (mg : Str → Option Value) (x : Str) (ps : List Str) (st : Stmt) : Prop where
  ex : ∃ f fd, Fun K x x st f fd ∧ mg x = some (.ref f) ∧ Binds K fd ps []
theorem FunAt.cal {P : Program} {w : World} {K : PySem.W.Frag} {mg : Str → Option Value} {base : Heap} {x : Str} {ps N : List Str} {st : Stmt} {k : Nat} {sp : Sp} (F : FunAt K mg x ps st) (S : FnScope N ps (defScope st)) (len : ∀ vs H Q E, sp vs H Q E → vs.length = ps.length)
    (hbody : ∀ (f : Addr) (cdv : Value) (A : Around) (outer : List Env) (s : Shared) (H : Hp) (vs : List V) (Q : VK) (E : XK), Room k (A.deeper (envOfC x (defScope st) s.heap.objs.size f cdv)) → sp vs H Q E →
      ∃ t, PSs (cxOf CX0 P w K mg base N x (defScope st) f cdv A outer s H E).nox (defBody st) t ∧ t { nx := fun _ H' => Q .non H', rt := Q } (start N vs) H) : Cal P w K mg base x ps (k + 1) sp := by
  obtain ⟨f, fd, F1, m, b⟩ := F.ex
  exact ⟨f, fd, F1.ok S len (hbody f), m, F1.kp, b⟩
section
variable {X : Cx} {x : Str} {ps : List Str} {k : Nat} {sp : Sp} {e : Expr} {es : List Expr} {t : TA} {p pos : Pos}
theorem cc (c : Cal X.prog X.w X.K X.mg X.base x ps k sp) (hr : Room k X.A) (ha : PA X (e :: es) t) (hg : Gl X x := by rfl) (hd : (x == ("__debug__" : Str)) = false := by decide)
    (hs : starEach (e :: es) X.env = (false, eval e X.env) :: starEach es X.env := by rfl) (hp : (backTo pos (starEach es X.env)).any (·.1) = false := by rfl) : PE X (.Call (.Name x p) (e :: es) [] pos) (tCall sp [] E0 t) := by
  obtain ⟨f, fd, F, m, kp, b⟩ := c.ex
  exact pe_call F hr hg m kp b .nil pass0 ha hd hs hp
end
theorem funAt_mk {K : PySem.W.Frag} {h : Heap} {mg : Str → Option Value} {x : Str} {ps : List Str} {st : Stmt} {f : Addr} {oc : Value} {od an : Option Addr} {osl : Array (Option Value)} {kV doc pm cdv ct : Value} (X : K.In h) (G : h.Ns mainGlobals mg)
    (hb : ∀ (kV doc pm : Value) (an : Option Addr) (cdv ct : Value) (us : List Value), us.length = ps.length → bindArgs (PySem.W.fnOf x x (defArgs st) (defBody st) (defScope st) .none kV doc pm an cdv ct) ⟨us, []⟩ = pure (ps.zip us))
    (a : PySem.W.nsIn K mainGlobals x = some (some (.ref f))) (l : K.lookup f = some ⟨oc, od, .func (PySem.W.fnOf x x (defArgs st) (defBody st) (defScope st) .none kV doc pm an cdv ct), osl⟩)
    (c : PySem.W.codeIn K cdv x = true) (k : PySem.W.keepIn K (.ref f) = true) : FunAt K mg x ps st :=
  let F := fun_mk (st := st) l c k
  ⟨f, _, F, PySem.W.mg_of X G a, F.binds hb⟩

theorem bt_abs : bootBuiltins "abs" = some (.builtin "abs") := by decide +kernel
theorem bt_len : bootBuiltins "len" = some (.builtin "len") := by decide +kernel
theorem bt_isinstance : bootBuiltins "isinstance" = some (.builtin "isinstance") := by decide +kernel
theorem bt_int : bootBuiltins "int" = some (.type "int") := by decide +kernel
theorem bt_bool : bootBuiltins "bool" = some (.type "bool") := by decide +kernel
theorem bt_tuple : bootBuiltins "tuple" = some (.type "tuple") := by decide +kernel
theorem bt_list : bootBuiltins "list" = some (.type "list") := by decide +kernel
/-! ### shares in the heap -/
open MA
theorem same_new {H : Hp} {p : Addr} (h : H p = none) (o : HO) : Same H (upd H p o) := fun b u q => by rw [upd_ne (ne_of_none q h)]; exact q
/-- all but the thing at p is as it was -/
def penL (c : Addr) (a l : Int) : List (Key × V) := [(.inr "cells", .ref c), (.inr "at", .int a), (.inr "left", .int l)]
/-- .. and that thing is a pen that keeps its cells -/
structure SameX (p : Addr) (H H' : Hp) : Prop where
  all : ∀ b o, H b = some o → b ≠ p → H' b = some o
  pen : ∀ c a l, H p = some (.dK (penL c a l)) → ∃ a' l', H' p = some (.dK (penL c a' l'))
theorem SameX.trans {p : Addr} {H H1 H2 : Hp} (a : SameX p H H1) (b : SameX p H1 H2) : SameX p H H2 :=
  ⟨fun c o h n => b.all c o (a.all c o h n) n, fun c x l h => let ⟨x', l', h'⟩ := a.pen c x l h; b.pen c x' l' h'⟩
theorem Same.x {p : Addr} {H H' : Hp} (a : Same H H') : SameX p H H' := ⟨fun b o h _ => a b o h, fun _ x l h => ⟨x, l, a _ _ h⟩⟩
theorem SameX.upd {p c : Addr} {H : Hp} {a l a' l' : Int} (h : H p = some (.dK (penL c a l))) : SameX p H (upd H p (.dK (penL c a' l'))) :=
  ⟨fun b o e hb => by rw [upd_ne hb]; exact e, fun c' x y e => by rw [h] at e; cases e; exact ⟨a', l', upd_same⟩⟩
end L2

set_option Elab.async false
set_option linter.all false
set_option maxRecDepth 100000
set_option maxHeartbeats 4000000
namespace L2
open PySem PySem.Spec PyProof.Rows
/-! ### a list comprehension of one clause -/
theorem closure_go {env : Env} : ∀ (ns : List (Str × NameKind)) (cs : List (Str × Addr)), (∀ x ∈ ns, x.2 = .free → ∃ c, env.cells.lookup x.1 = some c) → (∀ x c, cs.lookup x = some c → env.cells.lookup x = some c) →
    ∃ cl, (forIn ns cs (fun (p : Str × NameKind) (r : List (Str × Addr)) => if (p.2 == NameKind.free) = true then (do let c ← cellOf env p.1; pure (ForInStep.yield ((p.1, c) :: r))) else pure (ForInStep.yield r)) : Sem (List (Str × Addr))) = pure cl ∧
      (∀ x c, cl.lookup x = some c → env.cells.lookup x = some c) ∧ (∀ x, (x, NameKind.free) ∈ ns → ∃ c, cl.lookup x = some c) ∧ (∀ x c, cs.lookup x = some c → ∃ c', cl.lookup x = some c')
  | [], cs, _, hcs => ⟨cs, rfl, hcs, fun _ h => (by simp at h), fun x c h => ⟨c, h⟩⟩
  | (n, k) :: r, cs, hall, hcs => by
    by_cases hk : k = .free
    · subst hk
      obtain ⟨c, hc⟩ := hall (n, .free) (by simp) rfl
      have hce : cellOf env n = pure c := by unfold cellOf; rw [hc]
      have hcs' : ∀ x d, ((n, c) :: cs).lookup x = some d → env.cells.lookup x = some d := fun x d h => by
        rw [List.lookup_cons] at h
        cases e : x == n with
        | true => rw [e] at h; cases h; rw [eq_of_beq e]; exact hc
        | false => rw [e] at h; exact hcs x d h
      obtain ⟨cl, e, h1, h2, h3⟩ := closure_go r ((n, c) :: cs) (fun x hx => hall x (by simp [hx])) hcs'
      refine ⟨cl, ?_, h1, fun x hx => ?_, fun x d hd => ?_⟩
      · rw [List.forIn_cons, ← e]
        show (cellOf env n >>= _) >>= _ = _
        rw [hce]
        rfl
      · rcases List.mem_cons.mp hx with z | z
        · cases z
          exact h3 n c (by simp)
        · exact h2 x z
      · cases q : x == n with
        | true => exact h3 x c (by rw [List.lookup_cons, q])
        | false => exact h3 x d (by rw [List.lookup_cons, q]; exact hd)
    · obtain ⟨cl, e, h1, h2, h3⟩ := closure_go r cs (fun x hx => hall x (by simp [hx])) hcs
      refine ⟨cl, ?_, h1, fun x hx => ?_, h3⟩
      · rw [List.forIn_cons, ← e]
        have : (k == NameKind.free) = false := by simpa using hk
        simp only [this, Bool.false_eq_true, if_false]
        rfl
      · rcases List.mem_cons.mp hx with z | z
        · cases z
          exact absurd rfl hk
        · exact h2 x z
theorem closure_of {env : Env} {scope : Scope} (hall : ∀ x ∈ scope.names, x.2 = .free → ∃ c, env.cells.lookup x.1 = some c) :
    ∃ cl, closureFor scope env = pure cl ∧ (∀ x c, cl.lookup x = some c → env.cells.lookup x = some c) ∧ (∀ x, (x, NameKind.free) ∈ scope.names → ∃ c, cl.lookup x = some c) := by
  obtain ⟨cl, e, h1, h2, _⟩ := closure_go (env := env) scope.names [] hall (fun x c h => by simp at h)
  refine ⟨cl, ?_, h1, h2⟩
  simp only [closureFor]
  rw [e]
  rfl
/-- the block of a comprehension -/
def cxComp (X : Cx) (scope : Scope) (N : List Str) (cl : List (Str × Addr)) (C : Addr) (s : Shared) (H : Hp) (ex : List Addr) : Cx :=
  { X with N := N, s₀ := s, H₀ := H, env := compEnvC scope cl C X.env, outer := X.stack, stack := X.stack, ex := ex, fn := fun _ => false, pn := [] }
def PTs (X : Cx) (ifs : List Expr) (t : TT) : Prop :=
  ∀ (pins : List (Addr × Obj)) (s : Shared) (σ : St) (H : Hp) (Q : Bool → Hp → Prop), Inv X pins σ H s → t σ H Q →
    wpAny (model X.prog X.w) X.A (forIn ifs true fun c r => if r = true then do let ok ← isTrue c X.env (eval c X.env); pure (ForInStep.yield ok) else pure (ForInStep.yield r)) (TP X pins σ Q) X.xe s
def tTT : TT := fun _ H Q => Q true H
theorem pts_nil {X : Cx} : PTs X [] tTT := fun pins s σ H Q I h => wpAny_tests_nil ⟨H, I, h⟩
theorem pts_one {X : Cx} {c : Expr} {t : TT} (h : PT X c t) : PTs X [c] t := fun pins s σ H Q I hw => wpAny_tests_one (h pins s σ H Q I hw)
def tComp (σ0 : St → St) (wi : TI) (g : TG) (tc : TT) (te : TE) : TE := fun σ H Q => wi σ H fun J H1 => ∀ p, H1 p = none → ∃ W : Nat → Nat → List V → St → Hp → Prop, (∃ m, W 0 m [] (σ0 σ) (upd H1 p (.lst []))) ∧ ∀ i m ys σ' H', W i m ys σ' H' →
  (J.stop i H' ∧ Q (.ref p) H') ∨ (J.go i H' ∧ ∀ x H2, J.yld i H' x H2 → g x σ' H2 fun σ2 H3 => tc σ2 H3 fun b H4 => if b = true then te σ2 H4 fun v H5 => ys.length < sizeLine ∧ H5 p = some (.lst ys) ∧ (∃ m', m' < m ∧ W (i + 1) m' (ys ++ [v]) σ2 (upd H5 p (.lst (ys ++ [v]))))
    else ∃ m', m' < m ∧ W (i + 1) m' ys σ2 H4)
/-- which of the def's values the block sees -/
def Sees (X : Cx) (scope : Scope) (N : List Str) (σ0 : St → St) : Prop :=
  ∀ σ : St, (σ0 σ).length = N.length ∧ ∀ (i : Nat) (x : Str) (v : V), N[i]? = some x → (σ0 σ)[i]? = some (some v) → scope.names.lookup x = some .free ∧ ∃ j : Nat, X.N[j]? = some x ∧ σ[j]? = some (some v)
theorem lookup_relabel_mem {env : Env} {names : List (Str × NameKind)} {x : Str} : ∀ {k}, (names.map fun (n, k) => if (k == NameKind.free && env.scope.kind == .function && env.kindOf n == some .cell) = true then (n, NameKind.cell) else (n, k)).lookup x = some k → (x, k) ∈ names ∨ (k = .cell ∧ (x, NameKind.free) ∈ names) := by
  induction names with
  | nil => intro k h; simp at h
  | cons a r ih =>
    intro k h
    obtain ⟨n, k0⟩ := a
    rw [List.map_cons] at h
    dsimp only at h
    by_cases hc : (k0 == NameKind.free && env.scope.kind == .function && env.kindOf n == some .cell) = true
    · rw [if_pos hc] at h
      have hk0 : k0 = .free := by
        simp only [Bool.and_eq_true, beq_iff_eq] at hc
        exact hc.1.1
      rw [List.lookup_cons] at h
      cases e : x == n with
      | true =>
        rw [e] at h
        cases h
        exact .inr ⟨rfl, by rw [eq_of_beq e, hk0]; simp⟩
      | false =>
        rw [e] at h
        rcases ih h with z | ⟨z1, z2⟩
        · exact .inl (List.mem_cons_of_mem _ z)
        · exact .inr ⟨z1, List.mem_cons_of_mem _ z2⟩
    · rw [if_neg hc] at h
      rw [List.lookup_cons] at h
      cases e : x == n with
      | true =>
        rw [e] at h
        cases h
        exact .inl (by rw [eq_of_beq e]; simp)
      | false =>
        rw [e] at h
        rcases ih h with z | ⟨z1, z2⟩
        · exact .inl (List.mem_cons_of_mem _ z)
        · exact .inr ⟨z1, List.mem_cons_of_mem _ z2⟩
theorem lookup_relabel_free {env : Env} {x : Str} : ∀ {names : List (Str × NameKind)}, names.lookup x = some .free →
    (names.map fun (n, k) => if (k == NameKind.free && env.scope.kind == .function && env.kindOf n == some .cell) = true then (n, NameKind.cell) else (n, k)).lookup x = some .cell ∨ (names.map fun (n, k) => if (k == NameKind.free && env.scope.kind == .function && env.kindOf n == some .cell) = true then (n, NameKind.cell) else (n, k)).lookup x = some .free
  | [], h => by simp at h
  | (n, k0) :: r, h => by
    rw [List.lookup_cons] at h
    rw [List.map_cons]
    dsimp only
    cases e : x == n with
    | true =>
      rw [e] at h
      cases h
      by_cases hc : (NameKind.free == NameKind.free && env.scope.kind == .function && env.kindOf n == some .cell) = true
      · rw [if_pos hc]; left; rw [List.lookup_cons, e]
      · rw [if_neg hc]; right; rw [List.lookup_cons, e]
    | false =>
      rw [e] at h
      have ih := lookup_relabel_free (env := env) h
      by_cases hc : (k0 == NameKind.free && env.scope.kind == .function && env.kindOf n == some .cell) = true
      · rw [if_pos hc, List.lookup_cons, e]; exact ih
      · rw [if_neg hc, List.lookup_cons, e]; exact ih
theorem mem_of_lookupF {x : Str} {k : NameKind} : ∀ {names : List (Str × NameKind)}, names.lookup x = some k → (x, k) ∈ names := fun h => PySem.mem_of_lookup h
theorem pe_comp {X : Cx} {elt tg iter : Expr} {ifs : List Expr} {scope : Scope} {pos : Pos} {wi : TI} {g : TG} {tc : TT} {te : TE} {N : List Str} {σ0 : St → St}
    (hc : X.calm = true) (hxe : ∀ e s, X.xe e s → False) (hcell : ∀ y ∈ scope.names, y.2 ≠ .cell) (hkind : scope.kind = .function) (hnames : ∀ y ∈ scope.names, y.2 = .local → scope.names.lookup y.1 = some .local)
    (hfr : ∀ y ∈ scope.names, y.2 = .free → X.env.kindOf y.1 = some .cell ∨ X.env.kindOf y.1 = some .free) (hσ : Sees X scope N σ0)
    (hi : PI X tg iter wi)
    (hg : ∀ cl C s H ex, PG (cxComp X scope N cl C s H ex) tg g) (ht : ∀ cl C s H ex, PTs (cxComp X scope N cl C s H ex) ifs tc) (he : ∀ cl C s H ex, PE (cxComp X scope N cl C s H ex) elt te)
    (hs : ∀ x, foldedSetIterable iter X.env x = pure x := by intro _; rfl) : PE X (.ListComp elt [⟨tg, iter, ifs, 0⟩] scope pos) (tComp σ0 wi g tc te) := by
  intro pins s σ H Q I h
  obtain ⟨cl, hclos, hcl1, hcl2⟩ := closure_of (env := X.env) (scope := scope) fun y hy hf => I.ok.has y.1 (hfr y hy hf)
  rw [eval_ListComp]
  refine wpAny_comprehension_free (use := none) rfl hs hclos hkind hnames (thn (hi pins s σ H _ I h) fun v s1 h1 => thn h1 fun itv s2 h2 => ?_)
  obtain ⟨it, fp, tn, J, H2, e, I2, T, st2, f2, h3⟩ := h2
  subst e
  have hpn : H2 s2.heap.objs.size = none := I2.hok.fresh (Nat.le_refl _)
  obtain ⟨W, ⟨m0, w0⟩, turn⟩ := h3 _ hpn
  refine wpAny_newObj_type ?_
  generalize hp : s2.heap.objs.size = p at *
  have I3 : Inv X pins σ (upd H2 p (.lst [])) { s2 with heap := s2.heap.push { cls := .type "list", dict := none, data := .seq ([] : List Value).toArray } } := by
    refine I2.laid (a := p) (o := .lst []) (t' := s2.toks) (fun b u q => Heap.get?_push_of_some _ q) (Nat.le_of_eq hp) ⟨Nat.zero_le _, [], 0, .nil, ?_⟩
    rw [← hp]
    exact Heap.get?_push_size _ rfl
  have hf3 : ∀ b ∈ fp, FpOk X pins (upd H2 p (.lst [])) b := fun b hb => by
    obtain ⟨o, ho, _⟩ := T.obj _ _ st2 b hb
    have : b ≠ p := by rw [← hp]; exact Nat.ne_of_lt (Heap.lt_size ho)
    exact ⟨by rw [upd_ne this]; exact (f2 b hb).1, (f2 b hb).2⟩
  generalize hs3 : ({ s2 with heap := s2.heap.push { cls := .type "list", dict := none, data := .seq ([] : List Value).toArray } } : Shared) = s3 at *
  have st3 : tn 0 s3.heap := by rw [← hs3]; exact T.keep _ _ _ st2 fun b _ o e => Heap.get?_push_of_some _ e
  generalize hH3 : upd H2 p (.lst []) = H3 at *
  refine wpAny_newFunctionEnv hcell (by intro y hy; simp at hy) (fun h1 hns1 hsb1 => ?_) hkind
  generalize hC : s3.heap.objs.size = C at *
  have keep : ∀ b u, s3.heap.get? b = some u → h1.get? b = some u := fun b u q =>
    hsb1.extBut b u (by rw [← hC]; exact Nat.ne_of_lt (Heap.lt_size q)) (Heap.get?_push_of_some _ q)
  have fpC : ∀ b ∈ fp, b ≠ C := fun b hb => by
    obtain ⟨o, ho, _⟩ := T.obj _ _ st3 b hb
    rw [← hC]; exact Nat.ne_of_lt (Heap.lt_size ho)
  have hCn : H3 C = none := I3.hok.fresh (Nat.le_of_eq hC)
  -- the block's own invariant, at its entry
  have ok' : (cxComp X scope N cl C s3 H3 fp).Ok := by
    refine ⟨I3.mod, hkind, I3.ok.glob, I3.ok.blt, Nat.le_of_eq hC, fun x y c a b => I3.ok.inj x y c (hcl1 x c a) (hcl1 y c b), fun x hx => ?_, fun _ _ z => Bool.noConfusion (show false = true from z), I3.ok.hd, I3.ok.frames, .inl rfl, fun b hb => ⟨fpC b hb, fun x c q => (hf3 b hb).2.2.2.2.1 x c (hcl1 x c q)⟩,
      I3.bs, Nat.le_trans I3.ok.bsz I3.sz, fun b o e hb => ?_, fun b hb z => ?_, I3.stack, I3.stkFree⟩
    · have hx' : (relabel scope X.env).names.lookup x = some .cell ∨ (relabel scope X.env).names.lookup x = some .free := hx
      rcases hx' with z | z
      · rcases lookup_relabel_mem z with y | ⟨_, y⟩
        · exact absurd rfl (hcell _ y)
        · exact hcl2 x y
      · rcases lookup_relabel_mem z with y | ⟨y, _⟩
        · exact hcl2 x y
        · cases y
    · rcases (hf3 b hb).2.2.2.1 with z | z
      · exact I3.ok.noex b o e z
      · exact absurd (Nat.lt_of_lt_of_le (Heap.lt_size e) (Nat.le_trans I3.ok.bsz z)) (Nat.lt_irrefl _)
    · rcases List.mem_cons.mp (I3.stkSub b z) with q | q
      · exact (hf3 b hb).2.1 q
      · exact (hf3 b hb).2.2.1 q
  have J0 : Inv (cxComp X scope N cl C s3 H3 fp) [] (σ0 σ) H3 { s3 with heap := h1, toks := s3.toks + ([] : List (Str × Value)).length } := by
    refine ⟨ok', rfl, I3.bare, Un.kept keep, ⟨_, hns1, fun i x v a b c => ?_⟩, fun x c q => ?_, hCn, fun x c q => I3.freeC x c (hcl1 x c q), fun q hq => absurd (show q ∈ ([] : List (Addr × Obj)) from hq) (by simp), I3.hok.kept keep, (hσ σ).1⟩
    · obtain ⟨hf, j, hj, hv⟩ := (hσ σ).2 i x v a b
      have hm := mem_of_lookupF hf
      obtain ⟨m, hn, hl⟩ := id I3.loc
      have hk := hfr _ hm rfl
      have hvis : Vis X.env.scope x := hk.elim (fun z => .inr (.inl z)) fun z => .inr (.inr z)
      obtain ⟨u, r, lk⟩ := hl j x v hj hv hvis
      refine ⟨u, r, .inr ⟨lookup_relabel_free hf, ?_⟩⟩
      obtain ⟨c', hc'⟩ := hcl2 x hm
      refine ⟨c', hc', ?_⟩
      have hx := hcl1 x c' hc'
      rcases lk with ⟨kl, _⟩ | ⟨_, c2, e2, o2, ho2, hd2⟩
      · rcases hk with z | z <;> rw [kl] at z <;> cases z
      · rw [hx] at e2
        cases e2
        exact ⟨o2, keep _ _ ho2, hd2⟩
    · obtain ⟨v, o, ho, hd⟩ := I3.cell x c (hcl1 x c q)
      exact ⟨v, o, keep _ _ ho, hd⟩
  have st4 : tn 0 h1 := T.keep _ _ _ st3 fun b _ o e => keep b o e
  have stat : ∀ {H' : Hp}, (∀ b ∈ fp, H' b = none) → ∀ b ∈ fp, FpOk (cxComp X scope N cl C s3 H3 fp) [] H' b := fun hn b hb =>
    ⟨hn b hb, fpC b hb, fun z => ok'.exfs b hb z, .inl hb, fun x c q => (hf3 b hb).2.2.2.2.1 x c (hcl1 x c q), fun q hq => absurd (show q ∈ ([] : List (Addr × Obj)) from hq) (by simp)⟩
  -- back to the def
  have back : ∀ {σ' : St} {H' : Hp} {s' : Shared} {pl : List (Addr × Obj)}, Inv (cxComp X scope N cl C s3 H3 fp) pl σ' H' s' → ∀ h', Heap.SameBut C s'.heap h' → Inv X pins σ H' { s' with heap := h' } := fun {σ' H' s' pl} J h' hsb => by
    have I5 : Inv X pins σ H' s' := Inv.call' (ch := fp) I3 J.os J.base J.hok J.bare fun b hb => ⟨(hf3 b hb).2.2.2.1, (hf3 b hb).2.1, (hf3 b hb).2.2.2.2.1, (hf3 b hb).2.2.2.2.2⟩
    refine Inv.turned (it := C) (t' := s'.toks) I5 (fun b o hb e => hsb.extBut b o hb e) J.free (fun z => ?_) (.inr ?_) (fun x c q z => ?_) fun q hq z => ?_
    · exact absurd (show X.env.locals < C by rw [← hC]; exact I3.lt) (by rw [z]; exact Nat.lt_irrefl _)
    · rw [← hC]; exact I3.sz
    · obtain ⟨v, o, ho, _⟩ := I3.cell x c q
      have := Heap.lt_size ho
      rw [z, hC] at this
      exact Nat.lt_irrefl _ this
    · have := Heap.lt_size (I3.pin q hq).1
      rw [z, hC] at this
      exact Nat.lt_irrefl _ this
  have loop : codeAny (model X.prog X.w) X.A (.compLoop (.ListComp elt [⟨tg, iter, ifs, 0⟩] scope pos) 0 (.ref it) (.ref p) (compEnvC scope cl C X.env)) (compPost (model X.prog X.w) X.A X.xe none (EP X pins σ Q) (.ref p) C) { s3 with heap := h1, toks := s3.toks + ([] : List (Str × Value)).length } := by
    refine codeAny_loop rfl (fun n s' => ∃ i ys σ' H', Inv (cxComp X scope N cl C s3 H3 fp) [] σ' H' s' ∧ tn i s'.heap ∧ (∀ b ∈ fp, H' b = none) ∧ W i n ys σ' H') (fun n s' hI => ?_) m0 ⟨0, [], σ0 σ, H3, J0, st4, fun b hb => (hf3 b hb).1, w0⟩
    obtain ⟨i, ys, σ', H', J', st', fr', w'⟩ := hI
    show wpAny _ X.A ((compTurn (.ListComp elt [⟨tg, iter, ifs, 0⟩] scope pos) 0 (.ref it) (.ref p) (compEnvC scope cl C X.env)).onRaise (fun x => do noteFrame x (compEnvC scope cl C X.env); theTreesLotGoes x)) _ _ s'
    refine wpAny_noted ?_
    rw [compTurn_list]
    rcases turn i n ys σ' H' w' with ⟨stop, q⟩ | ⟨go, step⟩
    · refine wpAny_bind (wpAny_standAt (wpAny_bind (wpAny_mono (T.done (cxComp X scope N cl C s3 H3 fp) rfl rfl rfl hc i [] s' σ' H' X.xe J' (stat fr') st' stop) (fun r s4 h4 => ?_) fun _ _ x => (hxe _ _ x).elim)))
      obtain ⟨hr, I4⟩ := h4
      subst hr
      refine wpAny_pure ?_
      obtain ⟨m, hn, _⟩ := id I4.loc
      exact ⟨m, hn, fun h' hsb => ⟨.ref p, H', back I4 h' hsb, rfl, q⟩⟩
    · refine wpAny_bind (wpAny_standAt (wpAny_bind (wpAny_mono (T.item (cxComp X scope N cl C s3 H3 fp) rfl rfl rfl hc i [] s' σ' H' X.xe J' (stat fr') st' go) (fun r s4 h4 => ?_) fun _ _ x => (hxe _ _ x).elim)))
      obtain ⟨u, hr, h4⟩ := h4
      subst hr
      refine wpAny_bind (wpAny_mono h4 (fun _ s5 h5 => ?_) fun _ _ x => (hxe _ _ x).elim)
      obtain ⟨x, H5, I5, r5, y5, st5, fr5⟩ := h5
      have I5' := I5.pinned (stat fr5) (T.obj _ _ st5)
      refine wpAny_bind (wpAny_mono (hg cl C s3 H3 fp _ s5 σ' H5 x u _ I5' r5 (step x H5 y5)) (fun _ s6 h6 => ?_) fun _ _ x => (hxe _ _ x).elim)
      obtain ⟨σ6, H6, I6, q6⟩ := h6
      have again : ∀ {σ7 : St} {H7 : Hp} {s7 : Shared} {ys7 : List V}, Inv (cxComp X scope N cl C s3 H3 fp) ([] ++ pinsAt fp s5.heap) σ7 H7 s7 → (∃ m', m' < n ∧ W (i + 1) m' ys7 σ7 H7) →
          ∃ m, m < n ∧ ∃ i ys σ' H', Inv (cxComp X scope N cl C s3 H3 fp) [] σ' H' s7 ∧ tn i s7.heap ∧ (∀ b ∈ fp, H' b = none) ∧ W i m ys σ' H' := fun {σ7 H7 s7 ys7} I7 n7 => by
        obtain ⟨m', hm, w7⟩ := n7
        refine ⟨m', hm, i + 1, ys7, σ7, H7, I7.unpinned, T.keep _ _ _ st5 fun b hb o e => (I7.pin (b, o) (List.mem_append_right _ (List.mem_append_right _ (mem_pinsAt hb e)))).1, fun b hb => ?_, w7⟩
        obtain ⟨o, e, d⟩ := T.obj _ _ st5 b hb
        exact (I7.pin (b, o) (List.mem_append_right _ (List.mem_append_right _ (mem_pinsAt hb e)))).2.1
      refine wpAny_bind (wpAny_mono (ht cl C s3 H3 fp _ s6 σ6 H6 _ I6 q6) (fun ok s7 h7 => ?_) fun _ _ x => (hxe _ _ x).elim)
      obtain ⟨H7, I7, q7⟩ := h7
      cases ok with
      | false =>
        rw [if_neg Bool.false_ne_true] at q7
        exact wpAny_pure ⟨rfl, again I7 q7⟩
      | true =>
        rw [if_pos rfl] at q7
        refine wpAny_bind (wpAny_bind (wpAny_mono (he cl C s3 H3 fp _ s7 σ6 H7 _ I7 q7) (fun y s8 h8 => ?_) fun _ _ x => (hxe _ _ x).elim))
        obtain ⟨v, H8, I8, r8, hz, hH8, w8⟩ := h8
        refine wpAny_bind (wpAny_mono (mt_append (X := cxComp X scope N cl C s3 H3 fp) _ s8 σ6 H8 (.ref p) [v] (.ref p) [y] (fun x H9 => x = .non ∧ H9 = upd H8 p (.lst (ys ++ [v]))) I8 rfl (.cons r8 .nil) ⟨p, ys, v, rfl, rfl, hH8, hz, rfl, rfl⟩) (fun _ s9 h9 => ?_) fun _ _ x => (hxe _ _ x).elim)
        obtain ⟨z, H9, I9, _, _, e9⟩ := h9
        subst e9
        exact wpAny_pure (wpAny_pure ⟨rfl, again I9 w8⟩)
  exact codeAny_compStart_list loop (T.self X.A 0 _ _ _ st4 loop)
end L2
namespace L2
open PySem PySem.Spec PyProof.Rows
section
variable {X : Cx}
end
end L2

set_option Elab.async false
set_option linter.all false
set_option maxRecDepth 100000
set_option maxHeartbeats 4000000
namespace L2
open PySem PySem.Spec PyProof.Rows
section
variable {X : Cx}
end
end L2
namespace L2
open MA
end L2
namespace My
open PySem L2 MA
section
variable {P : Program} {w : World} {K : PySem.W.Frag} {mg : Str → Option Value} {base : Heap}
structure Txt (mg : Str → Option Value) : Prop where
  z_abs : mg "abs" = none
  z_len : mg "len" = none
  z_isinstance : mg "isinstance" = none
  z_range : mg "range" = none
  z_int : mg "int" = none
  z_bool : mg "bool" = none
  z_tuple : mg "tuple" = none
  z_list : mg "list" = none
  z_all : mg "all" = none
/-- of a whole number -/
def spWhole : Sp := fun vs H Q _ => ∃ a : Int, vs = [.int a] ∧ Q (.bl true) H
/-- the pen: where it stands in the script, n draws at most so far -/
def Pen (H : Hp) (p : Addr) (n : Nat) : Prop := ∃ (c : Addr) (ns : List Int) (a l : Int), H p = some (.dK (penL c a l)) ∧ H c = some (.lst (ns.map V.int)) ∧ 0 ≤ a ∧ a ≤ n
theorem Pen.mono {H : Hp} {p : Addr} {m n : Nat} (h : Pen H p m) (l : m ≤ n) : Pen H p n := let ⟨c, ns, a, x, h1, h2, h3, h4⟩ := h; ⟨c, ns, a, x, h1, h2, h3, by omega⟩
theorem Pen.same {H H' : Hp} {p : Addr} {n : Nat} (h : Pen H p n) (s : Same H H') : Pen H' p n := let ⟨c, ns, a, x, h1, h2, h3, h4⟩ := h; ⟨c, ns, a, x, s _ _ h1, s _ _ h2, h3, h4⟩
theorem Pen.dk {H : Hp} {p : Addr} {n : Nat} (h : Pen H p n) : ∃ kvs, H p = some (.dK kvs) := let ⟨c, ns, a, x, h1, _⟩ := h; ⟨_, h1⟩
theorem pen_cells (c : Addr) (a l : Int) : valV (penL c a l) (.inr "cells" : Key) = some (.ref c) := by rfl

theorem pen_at (c : Addr) (a l : Int) : valV (penL c a l) (.inr "at" : Key) = some (.int a) := by rfl
theorem pen_left (c : Addr) (a l : Int) : valV (penL c a l) (.inr "left" : Key) = some (.int l) := by rfl
theorem put_at (c : Addr) (a l b : Int) : putK (penL c a l) (.inr "at" : Key) (.int b) = penL c b l := by rfl
theorem put_left (c : Addr) (a l b : Int) : putK (penL c a l) (.inr "left" : Key) (.int b) = penL c a b := by rfl
theorem get_cells {H : Hp} {p c : Addr} {a l : Int} (h : H p = some (.dK (penL c a l))) : DGet H p (.str "cells") (some (.ref c)) := by
  have := DGet.k (k := (.inr "cells" : Key)) h; rw [pen_cells] at this; exact this
theorem get_at {H : Hp} {p c : Addr} {a l : Int} (h : H p = some (.dK (penL c a l))) : DGet H p (.str "at") (some (.int a)) := by
  have := DGet.k (k := (.inr "at" : Key)) h; rw [pen_at] at this; exact this
theorem get_left {H : Hp} {p c : Addr} {a l : Int} (h : H p = some (.dK (penL c a l))) : DGet H p (.str "left") (some (.int l)) := by
  have := DGet.k (k := (.inr "left" : Key)) h; rw [pen_left] at this; exact this
theorem dput_at {H : Hp} {p c : Addr} {a l b : Int} (h : H p = some (.dK (penL c a l))) : DPut H p (.str "at") (.int b) (upd H p (.dK (penL c b l))) := by
  have := DPut.k (k := (.inr "at" : Key)) (v := .int b) h (by show 3 < sizeLine; decide); rw [put_at] at this; exact this
theorem dput_left {H : Hp} {p c : Addr} {a l b : Int} (h : H p = some (.dK (penL c a l))) : DPut H p (.str "left") (.int b) (upd H p (.dK (penL c a b))) := by
  have := DPut.k (k := (.inr "left" : Key)) (v := .int b) h (by show 3 < sizeLine; decide); rw [put_left] at this; exact this
theorem prime_at (a : Int) : ∃ pr : Int, 0 < pr ∧ pr < 2147483648 ∧ atI ([.int 2147483647, .int 2147483629, .int 2147483587, .int 2147483579, .int 2147483563, .int 2147483549, .int 2147483543] : List V) (a % 7) = some (.int pr) := by
  have h : a % 7 = 0 ∨ a % 7 = 1 ∨ a % 7 = 2 ∨ a % 7 = 3 ∨ a % 7 = 4 ∨ a % 7 = 5 ∨ a % 7 = 6 := by omega
  rcases h with e | e | e | e | e | e | e <;> rw [e] <;> exact ⟨_, by decide, by decide, rfl⟩
theorem sq_bound {a : Int} (h0 : 0 ≤ a) (h1 : a ≤ 100000) : 0 ≤ 75329 * a * a ∧ 75329 * a * a ≤ 753290000000000 := by
  have h2 : 0 ≤ 75329 * a := by omega
  refine ⟨Int.mul_nonneg h2 h0, ?_⟩
  have := Int.mul_le_mul (show 75329 * a ≤ 7532900000 by omega) h1 h0 (by decide)
  omega
theorem cell_at {ns : List Int} (a : Int) (h : 0 < ns.length) : ∃ z : Int, atI (ns.map V.int) (a % (((ns.map V.int).length : Nat) : Int)) = some (.int z) := by
  rw [List.length_map]
  have h0 := Int.emod_nonneg a (show ((ns.length : Nat) : Int) ≠ 0 by omega)
  have h1 := Int.emod_lt_of_pos a (show 0 < ((ns.length : Nat) : Int) by omega)
  have hk : (a % (ns.length : Int)).toNat < ns.length := by omega
  have ek : a % (ns.length : Int) = (((a % (ns.length : Int)).toNat : Nat) : Int) := by omega
  refine ⟨ns[(a % (ns.length : Int)).toNat], ?_⟩
  have q : atI (ns.map V.int) (((a % (ns.length : Int)).toNat : Nat) : Int) = some (.int ns[(a % (ns.length : Int)).toNat]) := atI_nat (by rw [List.getElem?_map, List.getElem?_eq_getElem hk] <;> rfl)
  rw [← ek] at q
  exact q
/-- the last rows of a draw, as they are read -/
abbrev tTail (K : PySem.W.Frag) : TS := tSeq (tAsg (tOp (rIxT K) (tTup (tCons (tC (.int 2147483647)) (tCons (tC (.int 2147483629)) (tCons (tC (.int 2147483587)) (tCons (tC (.int 2147483579)) (tCons (tC (.int 2147483563)) (tCons (tC (.int 2147483549)) (tCons (tC (.int 2147483543)) tNil))))))))
    (tOp (rI (fun _ j => 0 < j) fun i j => .int (i % j)) (tVar 2) (tC (.int 7)))) (gName 4))
  (tSeq (tAsg (tOp (rI (fun _ j => 0 < j) fun i j => .int (i % j)) (tOp (rI CPow fun i j => .int (i ^ j.toNat)) (tOp (rI0 fun i j => .int (i + j)) (tOp (rI0 fun i j => .int (i + j)) (tOp (rI0 fun i j => .int (i + j)) (tOp (rI (fun _ j => 0 < j) fun i j => .int (i % j)) (tVar 3) (tC (.int 2147483497)))
      (tOp (rI CMul fun i j => .int (i * j)) (tOp (rI CMul fun i j => .int (i * j)) (tC (.int 75329)) (tVar 2)) (tVar 2))) (tOp (rI CMul fun i j => .int (i * j)) (tC (.int 30011)) (tVar 2))) (tC (.int 271))) (tC (.int 3))) (tVar 4)) (gName 5))
  (tSeq (tAsg (tOp (rI (fun _ j => 0 < j) fun i j => .int (i % j)) (tOp (rI CPow fun i j => .int (i ^ j.toNat)) (tOp (rI0 fun i j => .int (i + j)) (tOp (rI0 fun i j => .int (i + j)) (tVar 5) (tOp (rI CMul fun i j => .int (i * j)) (tC (.int 11)) (tVar 2))) (tC (.int 5))) (tC (.int 2))) (tC (.int 2147483489))) (gName 5))
  (tRet (tOp (rI (fun _ j => 0 < j) fun i j => .int (i % j)) (tOp (rI CDiv fun i j => .int (i / j)) (tOp (rI (fun _ j => 0 < j) fun i j => .int (i % j)) (tOp (rI CMul fun i j => .int (i * j)) (tVar 5) (tC (.int 69621))) (tC (.int 2147483477))) (tC (.int 1013))) (tVar 1)))))
theorem draw_tail {D : Ends} {H : Hp} {p : Addr} {m a x pr : Int} {u v y : Option V} (hm : 0 < m) (pr0 : 0 < pr) (pr1 : pr < 2147483648)
    (hpr : atI ([.int 2147483647, .int 2147483629, .int 2147483587, .int 2147483579, .int 2147483563, .int 2147483549, .int 2147483543] : List V) (a % 7) = some (.int pr)) (ha0 : 0 ≤ a) (ha : a ≤ 100000) (sq0 : 0 ≤ 75329 * a * a) (sq1 : 75329 * a * a ≤ 753290000000000)
    (k : ∀ (r : Int) (t : Addr), H t = none → 0 ≤ r → r < m → D.rt (.int r) (upd H t (.tup [.int 2147483647, .int 2147483629, .int 2147483587, .int 2147483579, .int 2147483563, .int 2147483549, .int 2147483543]))) :
    tTail K D [some (.ref p), some (.int m), some (.int a), some (.int x), u, v, y] H := by
  refine ⟨(by show 7 ≤ sizeLine; decide), fun t ht => ?_⟩
  refine ⟨_, rfl, _, _, rfl, rfl, (show (0 : Int) < 7 by decide), t, _, _, _, rfl, rfl, SqT.of upd_same, hpr, ?_⟩
  have e0 := Int.emod_nonneg x (show (2147483497 : Int) ≠ 0 by decide)
  have e1 := Int.emod_lt_of_pos x (show (0 : Int) < 2147483497 by decide)
  refine ⟨_, rfl, _, _, rfl, rfl, (show (0 : Int) < 2147483497 by decide), _, rfl, _, _, rfl, rfl, .inl ⟨by decide, by decide⟩, _, rfl, _, _, rfl, rfl, .inr ⟨by omega, by omega⟩, _, _, rfl, rfl, _, rfl, _, _, rfl, rfl, .inl ⟨by decide, by decide⟩, _, _, rfl, rfl, _, _, rfl, rfl, _, _, rfl, rfl, ⟨by decide, by decide, ?_⟩, _, rfl, _, _, rfl, rfl, pr0, ?_⟩
  · show (x % 2147483497 + 75329 * a * a + 30011 * a + 271).natAbs < 2 ^ 64
    omega
  have w0 := Int.emod_nonneg ((x % 2147483497 + 75329 * a * a + 30011 * a + 271) ^ Int.toNat 3) (show pr ≠ 0 by omega)
  have w2 := Int.emod_lt_of_pos ((x % 2147483497 + 75329 * a * a + 30011 * a + 271) ^ Int.toNat 3) pr0
  refine ⟨_, rfl, _, rfl, _, _, rfl, rfl, .inl ⟨by decide, by decide⟩, _, _, rfl, rfl, _, _, rfl, rfl, _, _, rfl, rfl, ⟨by decide, by decide, ?_⟩, _, _, rfl, rfl, (show (0 : Int) < 2147483489 by decide), ?_⟩
  · show ((x % 2147483497 + 75329 * a * a + 30011 * a + 271) ^ Int.toNat 3 % pr + 11 * a + 5).natAbs < 2 ^ 64
    generalize (x % 2147483497 + 75329 * a * a + 30011 * a + 271) ^ Int.toNat 3 % pr = w1 at w0 w2 ⊢
    omega
  refine ⟨_, rfl, _, _, rfl, rfl, .inr ⟨by decide, by decide⟩, _, _, rfl, rfl, (show (0 : Int) < 2147483477 by decide), _, _, rfl, rfl, ⟨by decide, by decide⟩, _, rfl, _, _, rfl, rfl, hm, ?_⟩
  exact k _ t ht (Int.emod_nonneg _ (by omega)) (Int.emod_lt_of_pos _ hm)
def spDraw : Sp := fun vs H Q _ => ∃ (p : Addr) (m : Int) (n : Nat), vs = [.ref p, .int m] ∧ Pen H p n ∧ n < 100000 ∧ 0 < m ∧ m < 1073741824 ∧ ∀ (r : Int) (H' : Hp), 0 ≤ r → r < m → Pen H' p (n + 1) → SameX p H H' → Q (.int r) H'
def spPen (K : PySem.W.Frag) : Sp := fun vs H Q _ => ∃ (a : Addr) (ns : List Int), vs = [.ref a] ∧ SqL K H a (ns.map V.int) ∧ ∀ (p : Addr) (H' : Hp), Same H H' → Pen H' p 0 → Q (.ref p) H'
theorem cut_ints (ns : List Int) (lo hi : Option Int) : ∃ ms : List Int, cutV (ns.map V.int) lo hi = ms.map V.int := by
  unfold cutV
  rw [← List.map_drop, ← List.map_take]
  exact ⟨_, rfl⟩
end
end My
namespace L2
open PySem PySem.Spec PyProof.Rows
theorem Sees.none1 {X : Cx} {scope : Scope} {x : Str} : Sees X scope [x] (fun _ => [none]) := fun σ => ⟨rfl, fun i y v _ h2 => by
  match i with
  | 0 => simp at h2
  | n + 1 => simp at h2⟩
theorem pe_comp0 {X : Cx} {elt tg iter : Expr} {ifs : List Expr} {scope : Scope} {pos : Pos} {wi : TI} {g : TG} {tc : TT} {te : TE} {N : List Str} {σ0 : St → St}
    (hc : X.calm = true) (hxe : ∀ e s, X.xe e s → False) (hcell : ∀ y ∈ scope.names, y.2 ≠ .cell) (hkind : scope.kind = .function) (hnames : ∀ y ∈ scope.names, y.2 = .local → scope.names.lookup y.1 = some .local)
    (hnf : ∀ y ∈ scope.names, y.2 ≠ .free) (hσ : Sees X scope N σ0) (hi : PI X tg iter wi)
    (hg : ∀ cl C s H ex, PG (cxComp X scope N cl C s H ex) tg g) (ht : ∀ cl C s H ex, PTs (cxComp X scope N cl C s H ex) ifs tc) (he : ∀ cl C s H ex, PE (cxComp X scope N cl C s H ex) elt te)
    (hs : ∀ x, foldedSetIterable iter X.env x = pure x := by intro _; rfl) : PE X (.ListComp elt [⟨tg, iter, ifs, 0⟩] scope pos) (tComp σ0 wi g tc te) :=
  pe_comp hc hxe hcell hkind hnames (fun y hy hf => absurd hf (hnf y hy)) hσ hi hg ht he hs
end L2

set_option Elab.async false
set_option linter.all false
set_option maxRecDepth 100000
set_option maxHeartbeats 4000000
namespace L2
open PySem PySem.Spec PyProof.Rows
/-! ### repr: what a value is, as plain data -/
mutual
inductive DataV (H : Hp) : V → PyData → Prop
  | non : DataV H .non .none
  | bl (b : Bool) : DataV H (.bl b) (.bool b)
  | int (i : Int) : DataV H (.int i) (.int i)
  | str (x : Str) : DataV H (.str x) (.str x)
  | lst {a : Addr} {xs : List V} {ds : List PyData} : H a = some (.lst xs) → DataL H xs ds → DataV H (.ref a) (.list ds)
  | tup {a : Addr} {xs : List V} {ds : List PyData} : H a = some (.tup xs) → DataL H xs ds → DataV H (.ref a) (.tuple ds)
  | dict {a : Addr} {kvs : List (Key × V)} {ps : List (PyData × PyData)} : H a = some (.dK kvs) → DataL H (kvs.map fun p => kV p.1) (ps.map (·.1)) → DataL H (kvs.map (·.2)) (ps.map (·.2)) → DataV H (.ref a) (.dict ps)
inductive DataL (H : Hp) : List V → List PyData → Prop
  | nil : DataL H [] []
  | cons {x : V} {xs : List V} {d : PyData} {ds : List PyData} : DataV H x d → DataL H xs ds → DataL H (x :: xs) (d :: ds)
end
mutual
def lists : PyData → Bool
  | .list _ => true
  | .tuple xs => listsAll xs
  | .dict kvs => listsKv kvs
  | _ => false
def listsAll : List PyData → Bool
  | [] => false
  | x :: xs => lists x || listsAll xs
def listsKv : List (PyData × PyData) → Bool
  | [] => false
  | (k, v) :: r => lists k || lists v || listsKv r
end
theorem listsKv_eq : ∀ ps : List (PyData × PyData), listsKv ps = false → listsAll (ps.map (·.1)) = false ∧ listsAll (ps.map (·.2)) = false
  | [], _ => ⟨rfl, rfl⟩
  | (k, v) :: r, h => by
    simp only [listsKv, Bool.or_eq_false_iff] at h
    obtain ⟨h1, h2⟩ := listsKv_eq r h.2
    simp only [List.map_cons, listsAll, Bool.or_eq_false_iff]
    exact ⟨⟨h.1.1, h1⟩, ⟨h.1.2, h2⟩⟩
theorem pairs_split {P : Program} {w : World} : ∀ {es : List DictEntry} {vs : List (Key × Value)} {kvs : List (Key × V)}, Pairs (mixKind P w) es vs → KV kvs vs → Vals (kvs.map fun p => kV p.1) (es.map (·.key)) ∧ Vals (kvs.map (·.2)) (es.map (·.val)) := by
  intro es vs kvs h
  induction h generalizing kvs with
  | nil =>
    intro r
    cases r
    exact ⟨.nil, .nil⟩
  | @cons e kv es vs h1 h2 _ ih =>
    intro r
    cases r with
    | @cons p _ kvs' _ hp hr =>
      obtain ⟨a, b⟩ := ih hr
      refine ⟨.cons ?_ a, .cons ?_ b⟩
      · have h1' : keyIs kv.1 e.key = true := h1
        rw [← hp.1] at h1'
        rcases keyIs_shape h1' with ⟨i, t, e1, e2⟩ | ⟨x, t, e1, e2⟩
        · show RelV (kV p.1) e.key
          rw [e1, e2]; exact ⟨t, rfl⟩
        · show RelV (kV p.1) e.key
          rw [e1, e2]; exact ⟨t, rfl⟩
      · show RelV p.2 e.val
        rw [h2]; exact hp.2
mutual
theorem reads_of {P : Program} {w : World} {H : Hp} {h : Heap} (ok : HOk P w H h) : ∀ {v : V} {d : PyData} {u : Value}, DataV H v d → RelV v u → ∃ as, Reads h u d as ∧ (lists d = false → sysModules ∉ as)
  | _, _, _, .non, r => by cases r; exact ⟨[], .none, fun _ => by simp⟩
  | _, _, _, .bl b, r => by cases r; exact ⟨[], .bool b, fun _ => by simp⟩
  | _, _, _, .int i, r => by obtain ⟨t, rfl⟩ := r; exact ⟨[], .int i t, fun _ => by simp⟩
  | _, _, _, .str x, r => by obtain ⟨t, rfl⟩ := r; exact ⟨[], .str x t, fun _ => by simp⟩
  | _, _, _, .lst (a := a) (xs := xs) ha hd, r => by
    cases r
    obtain ⟨_, its, n, rv, e⟩ := ok a _ ha
    obtain ⟨as, hr, _⟩ := readsAll_of ok hd rv
    exact ⟨a :: as, .list e rfl rfl (by simpa using hr), fun z => by simp [lists] at z⟩
  | _, _, _, .tup (a := a) (xs := xs) ha hd, r => by
    cases r
    obtain ⟨_, its, rv, o, e, hc, n, hdt, _⟩ := ok a _ ha
    obtain ⟨as, hr, hs⟩ := readsAll_of ok hd rv
    exact ⟨as, .tuple e hc hdt (by simpa using hr), fun z => hs (by simpa [lists] using z)⟩
  | _, _, _, .dict (a := a) (kvs := kvs) (ps := ps) ha hk hv, r => by
    cases r
    obtain ⟨_, hm, vs, rv, o, es, ep, e, hx, hdt, _, hp, _⟩ := ok a _ ha
    obtain ⟨rk, rvv⟩ := pairs_split hp rv
    obtain ⟨as, hr, hs⟩ := readsAll_of ok hk rk
    obtain ⟨bs, hr', hs'⟩ := readsAll_of ok hv rvv
    refine ⟨a :: as ++ bs, .dict e hx.1 hdt hr hr', fun z => ?_⟩
    obtain ⟨z1, z2⟩ := listsKv_eq ps (by simpa [lists] using z)
    have hne : a ≠ sysModules := by simpa using hm
    simp only [List.cons_append, List.mem_cons, List.mem_append, not_or]
    exact ⟨fun q => hne q.symm, hs z1, hs' z2⟩
theorem readsAll_of {P : Program} {w : World} {H : Hp} {h : Heap} (ok : HOk P w H h) : ∀ {vs : List V} {ds : List PyData} {us : List Value}, DataL H vs ds → Vals vs us → ∃ as, ReadsAll h us ds as ∧ (listsAll ds = false → sysModules ∉ as)
  | _, _, _, .nil, r => by cases r; exact ⟨[], .nil, fun _ => by simp⟩
  | _, _, _, .cons hx hd, r => by
    cases r with
    | cons r1 r2 =>
      obtain ⟨as, h1, s1⟩ := reads_of ok hx r1
      obtain ⟨bs, h2, s2⟩ := readsAll_of ok hd r2
      refine ⟨as ++ bs, .cons h1 h2, fun z => ?_⟩
      simp only [listsAll, Bool.or_eq_false_iff] at z
      simp only [List.mem_append, not_or]
      exact ⟨s1 z.1, s2 z.2⟩
end
theorem bt_repr : bootBuiltins "repr" = some (.builtin "repr") := by decide +kernel
section
variable {X : Cx}
/-- repr(x), x plain data -/
def rRepr : List V → Hp → VK → Prop := fun xs H Q => ∃ v d, xs = [v] ∧ DataV H v d ∧ d.showable = true ∧ (d.hasDict = true → lists d = false) ∧ d.depth ≤ 20 ∧ d.shown.length ≤ sizeLine ∧ Q (.str d.shown) H
theorem call_repr {k : Nat} (hr : Room k X.A) : CallR X (.builtin "repr") rRepr := by
  intro pins s σ H xs us Q I r h
  obtain ⟨v, d, rfl, hd, hs, hl, hdp, hz, q⟩ := h
  obtain ⟨u, rfl, ru⟩ := vals1 r
  obtain ⟨as, rd, hsm⟩ := reads_of I.hok hd ru
  have fin : ∀ h' u tk, (∀ b o, s.heap.get? b = some o → h'.get? b = some o) → EP X pins σ Q (.str d.shown u) { s with heap := h', toks := tk } := fun h' u tk hk =>
    ⟨.str d.shown, H, I.kept (t' := tk) hk, ⟨u, rfl⟩, q⟩
  cases u with
  | ref a => exact repr_of_reads' rd hs (fun z => hsm (hl z)) hr.gd (by have := hr.un; omega) (fun _ _ e => e) fin hz
  | none => cases rd; rw [PyData.shown_none] at fin; exact PySem.P.repr_of_none (fin _ _ _ fun _ _ e => e)
  | bool b => cases rd; rw [PyData.shown_bool] at fin; exact PySem.P.repr_of_bool (fin _ _ _ fun _ _ e => e)
  | int i t => cases rd; rw [PyData.shown_int] at fin; exact PySem.P.repr_of_int (by simpa [PyData.showable] using hs) (fin _ _ _ fun _ _ e => e)
  | str x t => cases rd; rw [PyData.shown_str] at fin hz; exact PySem.P.repr_of_str (fin _ _ _ fun _ _ e => e) hz
  | _ => cases rd
end
end L2

set_option Elab.async false
set_option linter.all false
set_option maxRecDepth 100000
set_option maxHeartbeats 4000000
namespace L2
open PySem PySem.Spec PyProof.Rows MA
theorem DataL.length {H : Hp} : ∀ {vs : List V} {ds : List PyData}, DataL H vs ds → vs.length = ds.length
  | _, _, .nil => rfl
  | _, _, .cons _ r => by simp [DataL.length r]
/-- plain data that may be shown -/
structure Good (d : PyData) : Prop where
  sh : d.showable = true
  ld : d.hasDict = true → lists d = false
  dp : d.depth ≤ 20
  ln : d.shown.length ≤ sizeLine
structure Sm (n : Nat) (d : PyData) : Prop where
  sh : d.showable = true
  ld : (d.hasDict && lists d) = false
  dp : d.depth ≤ n
  lv : d.leavesShort 40 = true
  bk : d.bulk ≤ n
theorem Sm.good {n : Nat} {d : PyData} (h : Sm n d) (l : n ≤ 100000) (l2 : d.depth ≤ 20) : Good d := by
  refine ⟨h.sh, fun z => ?_, l2, ?_⟩
  · have := h.ld; rw [z] at this; simpa using this
  · have a := PyData.shown_le_bulk 40 (by decide) d h.lv
    have b := h.bk
    have : (40 + 2) * d.bulk ≤ 42 * 100000 := Nat.mul_le_mul (by omega) (by omega)
    rw [sizeLine_eq]
    omega
/-- an int of at most thirty-six figures -/
abbrev I36 (i : Int) : Prop := i.natAbs < 1000000000000000000000000000000000000
theorem sm_int36 {i : Int} (h : I36 i) (n : Nat) : Sm n (.int i) := by
  have h' : i.natAbs < 1000000000000000000000000000000000000 := h
  refine ⟨?_, rfl, Nat.zero_le _, ?_, Nat.zero_le _⟩
  · simp only [PyData.showable, decide_eq_true_eq]
    by_cases z : i.natAbs = 0
    · rw [z]; decide
    · exact (Nat.log2_lt z).mpr (Nat.lt_of_lt_of_le h' (Nat.le_trans (show (1000000000000000000000000000000000000 : Nat) ≤ 2 ^ 120 by decide) (Nat.pow_le_pow_right (by decide) (by decide))))
  · have e := int_text_length_le10 (a := i) (k := 36) (by decide) (Nat.lt_of_lt_of_le h' (by decide))
    simp only [PyData.leavesShort, decide_eq_true_eq]
    show (Str.ofString (toString i)).length ≤ 40
    rw [PySem.ofString_length]; omega
theorem sm_tup {ds : List PyData} {n m : Nat} (h : ∀ d ∈ ds, Sm n d) (hd : (PyData.hasDictAll ds && listsAll ds) = false) (hm : n + 1 ≤ m) (hm2 : ds.length * (n + 1) ≤ m) : Sm m (.tuple ds) := by
  have key : ∀ ds : List PyData, (∀ d ∈ ds, Sm n d) → PyData.showableAll ds = true ∧ PyData.depthAll ds ≤ n ∧ PyData.leavesShortAll 40 ds = true ∧ PyData.bulkAll ds ≤ ds.length * (n + 1) := by
    intro ds
    induction ds with
    | nil => intro _; exact ⟨rfl, Nat.zero_le _, rfl, Nat.zero_le _⟩
    | cons d ds ih =>
      intro h
      obtain ⟨a, b, c, e⟩ := ih fun d hd => h d (List.mem_cons_of_mem _ hd)
      have hd := h d List.mem_cons_self
      refine ⟨by simp [PyData.showableAll, hd.sh, a], by simp only [PyData.depthAll]; exact Nat.max_le.mpr ⟨hd.dp, b⟩, by simp [PyData.leavesShortAll, hd.lv, c], ?_⟩
      simp only [PyData.bulkAll, List.length_cons, Nat.add_mul]
      have := hd.bk
      omega
  obtain ⟨a, b, c, e⟩ := key ds h
  exact ⟨by simpa [PyData.showable] using a, by simpa [PyData.hasDict, lists] using hd, by simp only [PyData.depth]; omega, by simpa [PyData.leavesShort] using c, by simp only [PyData.bulk]; omega⟩
theorem sm_list {ds : List PyData} {n m : Nat} (h : ∀ d ∈ ds, Sm n d) (hd : PyData.hasDictAll ds = false) (hm : n + 1 ≤ m) (hm2 : ds.length * (n + 1) ≤ m) : Sm m (.list ds) := by
  have t := sm_tup (m := m) h (by rw [hd]; rfl) hm hm2
  exact ⟨by have := t.sh; simpa [PyData.showable] using this, by simp [PyData.hasDict, hd], by have := t.dp; simpa [PyData.depth] using this, by have := t.lv; simpa [PyData.leavesShort] using this, by have := t.bk; simpa [PyData.bulk] using this⟩
end L2
namespace L2
open PySem
theorem bt_min : bootBuiltins "min" = some (.builtin "min") := by decide +kernel
end L2
namespace My
open PySem L2 MA
structure Txt2 (mg : Str → Option Value) : Prop extends Txt mg where
  z_str : mg "str" = none
  z_repr : mg "repr" = none
  z_dict : mg "dict" = none
  z_sum : mg "sum" = none
  z_sorted : mg "sorted" = none
  z_max : mg "max" = none
  z_min : mg "min" = none
  z_any : mg "any" = none
  z_enumerate : mg "enumerate" = none
  z_zip : mg "zip" = none
  z_set : mg "set" = none
  z_reversed : mg "reversed" = none
  z_ValueError : mg "ValueError" = none
end My

set_option Elab.async false
set_option linter.all false
set_option maxRecDepth 100000
set_option maxHeartbeats 4000000
namespace L2
open PySem PySem.Spec PyProof.Rows
def notStar : Expr → Bool
  | .Starred _ _ => false
  | _ => true
theorem star_cons {e : Expr} {es : List Expr} {env : Env} (h : notStar e = true) : starEach (e :: es) env = (false, eval e env) :: starEach es env := by
  cases e <;> first | rfl | exact absurd h (by simp [notStar])
section
variable {X : Cx} {e : Expr} {es : List Expr} {te : TE} {t : TA} {pos : Pos}
/-- an item of a row, whose rest may be long -/
theorem pa_consN (ha : PE X e te) (hr : PA X es t) (hn : notStar e = true := by rfl) : PA X (e :: es) (tCons te t) := pa_cons ha hr (star_cons hn)
end
end L2
namespace L2
end L2
namespace L2
end L2

set_option Elab.async false
set_option linter.all false
set_option maxRecDepth 100000
set_option maxHeartbeats 4000000
namespace L2
open PySem PySem.Spec PyProof.Rows
theorem comp_core {X : Cx} {elt tg iter : Expr} {ifs : List Expr} {scope : Scope} {pos pos2 : Pos} {wi : TI} {g : TG} {tc : TT} {te : TE} {N : List Str} {σ0 : St → St} {pins : List (Addr × Obj)} {s : Shared} {σ : St} {H : Hp} {Q : VK} {use : Option (Value → Sem Unit)} {QQ : Value → Shared → Prop}
    (hc : X.calm = true) (hxe : ∀ e s, X.xe e s → False) (hcell : ∀ y ∈ scope.names, y.2 ≠ .cell) (hkind : scope.kind = .function) (hnames : ∀ y ∈ scope.names, y.2 = .local → scope.names.lookup y.1 = some .local)
    (hfr : ∀ y ∈ scope.names, y.2 = .free → X.env.kindOf y.1 = some .cell ∨ X.env.kindOf y.1 = some .free) (hσ : Sees X scope N σ0)
    (hi : PI X tg iter wi)
    (hg : ∀ cl C s H ex, PG (cxComp X scope N cl C s H ex) tg g) (ht : ∀ cl C s H ex, PTs (cxComp X scope N cl C s H ex) ifs tc) (he : ∀ cl C s H ex, PE (cxComp X scope N cl C s H ex) elt te)
    (hs : ∀ x, foldedSetIterable iter X.env x = pure x) (I : Inv X pins σ H s) (h : tComp σ0 wi g tc te σ H Q)
    (hend : ∀ (p C : Addr) (H' : Hp) (s' : Shared) (m : Str → Option Value) (f : Flow), Inv X pins σ H' s' → FpOk X pins H' C → s'.heap.Ns C m → (∀ h', Heap.SameBut C s'.heap h' → Inv X pins σ H' { s' with heap := h' }) → Q (.ref p) H' →
      compPost (model X.prog X.w) X.A X.xe use QQ (.ref p) C (.ok f) s') :
    wpAny (model X.prog X.w) X.A (comprehension (.ListComp elt [⟨tg, iter, ifs, 0⟩] scope pos) scope X.env pos2 (newList []) false (eval iter X.env) use) QQ X.xe s := by
  obtain ⟨cl, hclos, hcl1, hcl2⟩ := closure_of (env := X.env) (scope := scope) fun y hy hf => I.ok.has y.1 (hfr y hy hf)
  refine wpAny_comprehension_free (use := use) rfl hs hclos hkind hnames (thn (hi pins s σ H _ I h) fun v s1 h1 => thn h1 fun itv s2 h2 => ?_)
  obtain ⟨it, fp, tn, J, H2, e, I2, T, st2, f2, h3⟩ := h2
  subst e
  have hpn : H2 s2.heap.objs.size = none := I2.hok.fresh (Nat.le_refl _)
  obtain ⟨W, ⟨m0, w0⟩, turn⟩ := h3 _ hpn
  refine wpAny_newObj_type ?_
  generalize hp : s2.heap.objs.size = p at *
  have I3 : Inv X pins σ (upd H2 p (.lst [])) { s2 with heap := s2.heap.push { cls := .type "list", dict := none, data := .seq ([] : List Value).toArray } } := by
    refine I2.laid (a := p) (o := .lst []) (t' := s2.toks) (fun b u q => Heap.get?_push_of_some _ q) (Nat.le_of_eq hp) ⟨Nat.zero_le _, [], 0, .nil, ?_⟩
    rw [← hp]
    exact Heap.get?_push_size _ rfl
  have hf3 : ∀ b ∈ fp, FpOk X pins (upd H2 p (.lst [])) b := fun b hb => by
    obtain ⟨o, ho, _⟩ := T.obj _ _ st2 b hb
    have : b ≠ p := by rw [← hp]; exact Nat.ne_of_lt (Heap.lt_size ho)
    exact ⟨by rw [upd_ne this]; exact (f2 b hb).1, (f2 b hb).2⟩
  generalize hs3 : ({ s2 with heap := s2.heap.push { cls := .type "list", dict := none, data := .seq ([] : List Value).toArray } } : Shared) = s3 at *
  have st3 : tn 0 s3.heap := by rw [← hs3]; exact T.keep _ _ _ st2 fun b _ o e => Heap.get?_push_of_some _ e
  generalize hH3 : upd H2 p (.lst []) = H3 at *
  refine wpAny_newFunctionEnv hcell (by intro y hy; simp at hy) (fun h1 hns1 hsb1 => ?_) hkind
  generalize hC : s3.heap.objs.size = C at *
  have keep : ∀ b u, s3.heap.get? b = some u → h1.get? b = some u := fun b u q =>
    hsb1.extBut b u (by rw [← hC]; exact Nat.ne_of_lt (Heap.lt_size q)) (Heap.get?_push_of_some _ q)
  have fpC : ∀ b ∈ fp, b ≠ C := fun b hb => by
    obtain ⟨o, ho, _⟩ := T.obj _ _ st3 b hb
    rw [← hC]; exact Nat.ne_of_lt (Heap.lt_size ho)
  have hCn : H3 C = none := I3.hok.fresh (Nat.le_of_eq hC)
  -- the block's own invariant, at its entry
  have ok' : (cxComp X scope N cl C s3 H3 fp).Ok := by
    refine ⟨I3.mod, hkind, I3.ok.glob, I3.ok.blt, Nat.le_of_eq hC, fun x y c a b => I3.ok.inj x y c (hcl1 x c a) (hcl1 y c b), fun x hx => ?_, fun _ _ z => Bool.noConfusion (show false = true from z), I3.ok.hd, I3.ok.frames, .inl rfl, fun b hb => ⟨fpC b hb, fun x c q => (hf3 b hb).2.2.2.2.1 x c (hcl1 x c q)⟩,
      I3.bs, Nat.le_trans I3.ok.bsz I3.sz, fun b o e hb => ?_, fun b hb z => ?_, I3.stack, I3.stkFree⟩
    · have hx' : (relabel scope X.env).names.lookup x = some .cell ∨ (relabel scope X.env).names.lookup x = some .free := hx
      rcases hx' with z | z
      · rcases lookup_relabel_mem z with y | ⟨_, y⟩
        · exact absurd rfl (hcell _ y)
        · exact hcl2 x y
      · rcases lookup_relabel_mem z with y | ⟨y, _⟩
        · exact hcl2 x y
        · cases y
    · rcases (hf3 b hb).2.2.2.1 with z | z
      · exact I3.ok.noex b o e z
      · exact absurd (Nat.lt_of_lt_of_le (Heap.lt_size e) (Nat.le_trans I3.ok.bsz z)) (Nat.lt_irrefl _)
    · rcases List.mem_cons.mp (I3.stkSub b z) with q | q
      · exact (hf3 b hb).2.1 q
      · exact (hf3 b hb).2.2.1 q
  have J0 : Inv (cxComp X scope N cl C s3 H3 fp) [] (σ0 σ) H3 { s3 with heap := h1, toks := s3.toks + ([] : List (Str × Value)).length } := by
    refine ⟨ok', rfl, I3.bare, Un.kept keep, ⟨_, hns1, fun i x v a b c => ?_⟩, fun x c q => ?_, hCn, fun x c q => I3.freeC x c (hcl1 x c q), fun q hq => absurd (show q ∈ ([] : List (Addr × Obj)) from hq) (by simp), I3.hok.kept keep, (hσ σ).1⟩
    · obtain ⟨hf, j, hj, hv⟩ := (hσ σ).2 i x v a b
      have hm := mem_of_lookupF hf
      obtain ⟨m, hn, hl⟩ := id I3.loc
      have hk := hfr _ hm rfl
      have hvis : Vis X.env.scope x := hk.elim (fun z => .inr (.inl z)) fun z => .inr (.inr z)
      obtain ⟨u, r, lk⟩ := hl j x v hj hv hvis
      refine ⟨u, r, .inr ⟨lookup_relabel_free hf, ?_⟩⟩
      obtain ⟨c', hc'⟩ := hcl2 x hm
      refine ⟨c', hc', ?_⟩
      have hx := hcl1 x c' hc'
      rcases lk with ⟨kl, _⟩ | ⟨_, c2, e2, o2, ho2, hd2⟩
      · rcases hk with z | z <;> rw [kl] at z <;> cases z
      · rw [hx] at e2
        cases e2
        exact ⟨o2, keep _ _ ho2, hd2⟩
    · obtain ⟨v, o, ho, hd⟩ := I3.cell x c (hcl1 x c q)
      exact ⟨v, o, keep _ _ ho, hd⟩
  have st4 : tn 0 h1 := T.keep _ _ _ st3 fun b _ o e => keep b o e
  have stat : ∀ {H' : Hp}, (∀ b ∈ fp, H' b = none) → ∀ b ∈ fp, FpOk (cxComp X scope N cl C s3 H3 fp) [] H' b := fun hn b hb =>
    ⟨hn b hb, fpC b hb, fun z => ok'.exfs b hb z, .inl hb, fun x c q => (hf3 b hb).2.2.2.2.1 x c (hcl1 x c q), fun q hq => absurd (show q ∈ ([] : List (Addr × Obj)) from hq) (by simp)⟩
  -- back to the def
  have back : ∀ {σ' : St} {H' : Hp} {s' : Shared} {pl : List (Addr × Obj)}, Inv (cxComp X scope N cl C s3 H3 fp) pl σ' H' s' → ∀ h', Heap.SameBut C s'.heap h' → Inv X pins σ H' { s' with heap := h' } := fun {σ' H' s' pl} J h' hsb => by
    have I5 : Inv X pins σ H' s' := Inv.call' (ch := fp) I3 J.os J.base J.hok J.bare fun b hb => ⟨(hf3 b hb).2.2.2.1, (hf3 b hb).2.1, (hf3 b hb).2.2.2.2.1, (hf3 b hb).2.2.2.2.2⟩
    refine Inv.turned (it := C) (t' := s'.toks) I5 (fun b o hb e => hsb.extBut b o hb e) J.free (fun z => ?_) (.inr ?_) (fun x c q z => ?_) fun q hq z => ?_
    · exact absurd (show X.env.locals < C by rw [← hC]; exact I3.lt) (by rw [z]; exact Nat.lt_irrefl _)
    · rw [← hC]; exact I3.sz
    · obtain ⟨v, o, ho, _⟩ := I3.cell x c q
      have := Heap.lt_size ho
      rw [z, hC] at this
      exact Nat.lt_irrefl _ this
    · have := Heap.lt_size (I3.pin q hq).1
      rw [z, hC] at this
      exact Nat.lt_irrefl _ this
  have loop : codeAny (model X.prog X.w) X.A (.compLoop (.ListComp elt [⟨tg, iter, ifs, 0⟩] scope pos) 0 (.ref it) (.ref p) (compEnvC scope cl C X.env)) (compPost (model X.prog X.w) X.A X.xe use QQ (.ref p) C) { s3 with heap := h1, toks := s3.toks + ([] : List (Str × Value)).length } := by
    refine codeAny_loop rfl (fun n s' => ∃ i ys σ' H', Inv (cxComp X scope N cl C s3 H3 fp) [] σ' H' s' ∧ tn i s'.heap ∧ (∀ b ∈ fp, H' b = none) ∧ W i n ys σ' H') (fun n s' hI => ?_) m0 ⟨0, [], σ0 σ, H3, J0, st4, fun b hb => (hf3 b hb).1, w0⟩
    obtain ⟨i, ys, σ', H', J', st', fr', w'⟩ := hI
    show wpAny _ X.A ((compTurn (.ListComp elt [⟨tg, iter, ifs, 0⟩] scope pos) 0 (.ref it) (.ref p) (compEnvC scope cl C X.env)).onRaise (fun x => do noteFrame x (compEnvC scope cl C X.env); theTreesLotGoes x)) _ _ s'
    refine wpAny_noted ?_
    rw [compTurn_list]
    rcases turn i n ys σ' H' w' with ⟨stop, q⟩ | ⟨go, step⟩
    · refine wpAny_bind (wpAny_standAt (wpAny_bind (wpAny_mono (T.done (cxComp X scope N cl C s3 H3 fp) rfl rfl rfl hc i [] s' σ' H' X.xe J' (stat fr') st' stop) (fun r s4 h4 => ?_) fun _ _ x => (hxe _ _ x).elim)))
      obtain ⟨hr, I4⟩ := h4
      subst hr
      refine wpAny_pure ?_
      obtain ⟨m, hn, _⟩ := id I4.loc
      have I5 : Inv X pins σ H' s4 := Inv.call' (ch := fp) I3 I4.os I4.base I4.hok I4.bare fun b hb => ⟨(hf3 b hb).2.2.2.1, (hf3 b hb).2.1, (hf3 b hb).2.2.2.2.1, (hf3 b hb).2.2.2.2.2⟩
      exact hend p C H' s4 m _ I5 (I3.fpOk (Nat.le_of_eq hC) I4.free) hn (fun h' hsb => back I4 h' hsb) q
    · refine wpAny_bind (wpAny_standAt (wpAny_bind (wpAny_mono (T.item (cxComp X scope N cl C s3 H3 fp) rfl rfl rfl hc i [] s' σ' H' X.xe J' (stat fr') st' go) (fun r s4 h4 => ?_) fun _ _ x => (hxe _ _ x).elim)))
      obtain ⟨u, hr, h4⟩ := h4
      subst hr
      refine wpAny_bind (wpAny_mono h4 (fun _ s5 h5 => ?_) fun _ _ x => (hxe _ _ x).elim)
      obtain ⟨x, H5, I5, r5, y5, st5, fr5⟩ := h5
      have I5' := I5.pinned (stat fr5) (T.obj _ _ st5)
      refine wpAny_bind (wpAny_mono (hg cl C s3 H3 fp _ s5 σ' H5 x u _ I5' r5 (step x H5 y5)) (fun _ s6 h6 => ?_) fun _ _ x => (hxe _ _ x).elim)
      obtain ⟨σ6, H6, I6, q6⟩ := h6
      have again : ∀ {σ7 : St} {H7 : Hp} {s7 : Shared} {ys7 : List V}, Inv (cxComp X scope N cl C s3 H3 fp) ([] ++ pinsAt fp s5.heap) σ7 H7 s7 → (∃ m', m' < n ∧ W (i + 1) m' ys7 σ7 H7) →
          ∃ m, m < n ∧ ∃ i ys σ' H', Inv (cxComp X scope N cl C s3 H3 fp) [] σ' H' s7 ∧ tn i s7.heap ∧ (∀ b ∈ fp, H' b = none) ∧ W i m ys σ' H' := fun {σ7 H7 s7 ys7} I7 n7 => by
        obtain ⟨m', hm, w7⟩ := n7
        refine ⟨m', hm, i + 1, ys7, σ7, H7, I7.unpinned, T.keep _ _ _ st5 fun b hb o e => (I7.pin (b, o) (List.mem_append_right _ (List.mem_append_right _ (mem_pinsAt hb e)))).1, fun b hb => ?_, w7⟩
        obtain ⟨o, e, d⟩ := T.obj _ _ st5 b hb
        exact (I7.pin (b, o) (List.mem_append_right _ (List.mem_append_right _ (mem_pinsAt hb e)))).2.1
      refine wpAny_bind (wpAny_mono (ht cl C s3 H3 fp _ s6 σ6 H6 _ I6 q6) (fun ok s7 h7 => ?_) fun _ _ x => (hxe _ _ x).elim)
      obtain ⟨H7, I7, q7⟩ := h7
      cases ok with
      | false =>
        rw [if_neg Bool.false_ne_true] at q7
        exact wpAny_pure ⟨rfl, again I7 q7⟩
      | true =>
        rw [if_pos rfl] at q7
        refine wpAny_bind (wpAny_bind (wpAny_mono (he cl C s3 H3 fp _ s7 σ6 H7 _ I7 q7) (fun y s8 h8 => ?_) fun _ _ x => (hxe _ _ x).elim))
        obtain ⟨v, H8, I8, r8, hz, hH8, w8⟩ := h8
        refine wpAny_bind (wpAny_mono (mt_append (X := cxComp X scope N cl C s3 H3 fp) _ s8 σ6 H8 (.ref p) [v] (.ref p) [y] (fun x H9 => x = .non ∧ H9 = upd H8 p (.lst (ys ++ [v]))) I8 rfl (.cons r8 .nil) ⟨p, ys, v, rfl, rfl, hH8, hz, rfl, rfl⟩) (fun _ s9 h9 => ?_) fun _ _ x => (hxe _ _ x).elim)
        obtain ⟨z, H9, I9, _, _, e9⟩ := h9
        subst e9
        exact wpAny_pure (wpAny_pure ⟨rfl, again I9 w8⟩)
  exact codeAny_compStart_list loop (T.self X.A 0 _ _ _ st4 loop)
theorem ps_comp {X : Cx} {elt tg iter : Expr} {ifs : List Expr} {scope : Scope} {pos spos py : Pos} {wi : TI} {g : TG} {tc : TT} {te : TE} {N : List Str} {σ0 : St → St} {i : Nat} {y : Str}
    (hN : X.N.Nodup) (hiy : X.N[i]? = some y) (hy : Loc X.env.scope y)
    (hc : X.calm = true) (hxe : ∀ e s, X.xe e s → False) (hcell : ∀ y ∈ scope.names, y.2 ≠ .cell) (hkind : scope.kind = .function) (hnames : ∀ y ∈ scope.names, y.2 = .local → scope.names.lookup y.1 = some .local)
    (hfr : ∀ y ∈ scope.names, y.2 = .free → X.env.kindOf y.1 = some .cell ∨ X.env.kindOf y.1 = some .free) (hσ : Sees X scope N σ0)
    (hi : PI X tg iter wi)
    (hg : ∀ cl C s H ex, PG (cxComp X scope N cl C s H ex) tg g) (ht : ∀ cl C s H ex, PTs (cxComp X scope N cl C s H ex) ifs tc) (he : ∀ cl C s H ex, PE (cxComp X scope N cl C s H ex) elt te)
    (hs : ∀ x, foldedSetIterable iter X.env x = pure x := by intro _; rfl) (hsw : swapsWith (.ListComp elt [⟨tg, iter, ifs, 0⟩] scope pos) (some (.Name y py)) spos.line X.env = pure true := by rfl)
    (hf : X.fn y = true ∨ X.env.scope.names.lookup y = some .local := by first | exact .inl rfl | exact .inr rfl | assumption) :
    PS X (.Assign [.Name y py] (.ListComp elt [⟨tg, iter, ifs, 0⟩] scope pos) spos) (tAsg (tComp σ0 wi g tc te) (gName i)) := by
  intro pins s σ H D I h
  rw [exec_Assign_Name_used _ _ _ _ hsw]
  refine wpAny_bind (wpAny_standAt (wpAny_bind ?_))
  show wpAny _ X.A (do let _ ← comprehension (.ListComp elt [⟨tg, iter, ifs, 0⟩] scope pos) scope X.env _ (newList []) false (eval iter X.env) (some (assign (.Name y py) X.env))) _ _ s
  refine wpAny_bind (wpAny_mono (comp_core (use := some (assign (.Name y py) X.env)) (QQ := fun _ s' => SP X pins D .next s') hc hxe hcell hkind hnames hfr hσ hi hg ht he hs I h ?_) (fun _ s' hq => wpAny_pure (wpAny_pure hq)) fun _ _ e => e)
  intro p C H' s' m f I5 fC hn back q
  show wpAny _ X.A (assign (.Name y py) X.env (.ref p)) _ _ _
  have hnC := id hn
  obtain ⟨o, es, ep, ho, hd, _⟩ := hnC
  have Ip := I5.pinned (fp := [C]) (fun b hb => by rw [List.mem_singleton.mp hb]; exact fC) (fun b hb => ⟨o, by rw [List.mem_singleton.mp hb]; exact ho, fun v z => by rw [hd] at z; cases z⟩)
  refine wpAny_mono (pg_name (pos := py) hN hiy hy hf (pins ++ pinsAt [C] s'.heap) s' σ H' (.ref p) (.ref p) _ Ip rfl q) (fun _ s2 h2 => ?_) fun _ _ e => e
  obtain ⟨σ2, H2, I2, q2⟩ := h2
  have hp2 := I2.pin (C, o) (List.mem_append_right _ (List.mem_append_right _ (mem_pinsAt (by simp) ho)))
  refine ⟨m, hn.at' (fun o' e => ?_), fun h' hsb => ⟨σ2, H2, ?_, q2⟩⟩
  · rw [ho] at e; cases e; exact hp2.1
  · exact Inv.turned (it := C) (t' := s2.toks) I2.unpinned (fun b o hb e => hsb.extBut b o hb e) hp2.2.1 hp2.2.2.1 fC.2.2.2.1 fC.2.2.2.2.1 fC.2.2.2.2.2
end L2
namespace L2
open PySem PySem.Spec PyProof.Rows
section
variable {X : Cx} {e : Expr} {te : TE} {p2 p3 p4 pos : Pos} {k1 : Nat}
end
end L2

set_option Elab.async false
set_option linter.all false
set_option maxRecDepth 100000
set_option maxHeartbeats 4000000
namespace L2
open PySem PySem.Spec PyProof.Rows MA
/-- a comprehension's names: its own, then the def's that it reads -/
theorem Sees.frees {X : Cx} {scope : Scope} (ks : List Str) (fs : List (Str × Nat)) (h : ∀ p ∈ fs, scope.names.lookup p.1 = some .free ∧ X.N[p.2]? = some p.1) :
    Sees X scope (ks ++ fs.map (·.1)) (fun σ => ks.map (fun _ => none) ++ fs.map fun p => σ.getD p.2 none) := by
  intro σ
  refine ⟨by simp, fun i x v h1 h2 => ?_⟩
  by_cases hi : i < ks.length
  · rw [List.getElem?_append_left (by simpa using hi), List.getElem?_map] at h2
    cases e : ks[i]? with
    | none => rw [e] at h2; cases h2
    | some y => rw [e] at h2; cases h2
  · rw [List.getElem?_append_right (by omega), List.getElem?_map] at h1
    rw [List.getElem?_append_right (by simp; omega), List.getElem?_map, List.length_map] at h2
    cases e : fs[i - ks.length]? with
    | none => rw [e] at h1; cases h1
    | some p =>
      rw [e] at h1 h2
      cases h1
      obtain ⟨a, b⟩ := h p (List.mem_of_getElem? e)
      refine ⟨a, p.2, b, ?_⟩
      have h3 : σ.getD p.2 none = some v := by simpa using h2
      rw [List.getD_eq_getElem?_getD] at h3
      cases z : σ[p.2]? with
      | none => rw [z] at h3; cases h3
      | some u => rw [z] at h3; exact congrArg some h3
/-- [.. for k in range(n)], no test -/
theorem comp_rng {n : Nat} {lo : Int} {te : TE} {H : Hp} {R : Addr → Hp → Prop} {fs : St} (Pv : Addr → Nat → List V → Hp → Prop) (hn : n ≤ 100000) (hp0 : ∀ p, H p = none → Pv p 0 [] (upd H p (.lst [])))
    (hte : ∀ p i ys H', H p = none → i < n → ys.length = i → Pv p i ys H' → H' p = some (.lst ys) → ∀ Q' : VK, (∀ v H'', H'' p = some (.lst ys) → Pv p (i + 1) (ys ++ [v]) (upd H'' p (.lst (ys ++ [v]))) → Q' v H'') → te (some (.int (lo + i)) :: fs) H' Q')
    (q : ∀ p ys H', H p = none → Pv p n ys H' → H' p = some (.lst ys) → ys.length = n → R p H') :
    ∀ p, H p = none → ∃ W : Nat → Nat → List V → St → Hp → Prop, (∃ m, W 0 m [] (none :: fs) (upd H p (.lst []))) ∧ ∀ i m ys σ' H', W i m ys σ' H' →
      ((Itr lo n).stop i H' ∧ R p H') ∨ ((Itr lo n).go i H' ∧ ∀ x H2, (Itr lo n).yld i H' x H2 → gName 0 x σ' H2 fun σ2 H3 => tTT σ2 H3 fun b H4 => if b = true then te σ2 H4 fun v H5 => ys.length < sizeLine ∧ H5 p = some (.lst ys) ∧ (∃ m', m' < m ∧ W (i + 1) m' (ys ++ [v]) σ2 (upd H5 p (.lst (ys ++ [v]))))
        else ∃ m', m' < m ∧ W (i + 1) m' ys σ2 H4) := by
  intro p hp
  refine ⟨fun i m ys σ' H' => m = n - i ∧ i ≤ n ∧ ys.length = i ∧ Pv p i ys H' ∧ H' p = some (.lst ys) ∧ ∃ o, σ' = o :: fs, ⟨n, by simp, Nat.zero_le _, rfl, hp0 p hp, upd_same, _, rfl⟩, ?_⟩
  rintro i m ys σ' H' ⟨rfl, hi, hl, pv, hp', o, rfl⟩
  by_cases hlt : i < n
  · refine .inr ⟨hlt, fun x H2 hy => ?_⟩
    obtain ⟨rfl, rfl⟩ := hy
    change te (some (.int (lo + i)) :: fs) H2 _
    refine hte p i ys H2 hp hlt hl pv hp' _ fun v H5 h5 pv5 => ⟨?_, h5, n - (i + 1), by omega, rfl, hlt, by simp [hl], pv5, upd_same, _, rfl⟩
    rw [hl, sizeLine_eq]; omega
  · have e : i = n := by omega
    subst e
    exact .inl ⟨Nat.le_refl _, q p ys H' hp pv hp' hl⟩
/-! ### sums over one common bottom -/
end L2
namespace L2
open PySem
theorem fr_nil {C : Str × Nat → Prop} : ∀ p ∈ ([] : List (Str × Nat)), C p := fun _ h => nomatch h
theorem fr_cons {C : Str × Nat → Prop} {a : Str × Nat} {l : List (Str × Nat)} (h : C a) (t : ∀ p ∈ l, C p) : ∀ p ∈ a :: l, C p := fun p hp => (List.mem_cons.mp hp).elim (fun e => e ▸ h) (t p)
theorem hfr_of {scope : Scope} {env : Env} (h : scope.names.all (fun y => y.2 != .free || env.kindOf y.1 == some .cell || env.kindOf y.1 == some .free) = true) : ∀ y ∈ scope.names, y.2 = .free → env.kindOf y.1 = some .cell ∨ env.kindOf y.1 = some .free := by
  intro y hy hf
  have := List.all_eq_true.mp h y hy
  rw [hf] at this
  simpa using this
end L2

set_option Elab.async false
set_option linter.all false
set_option maxRecDepth 100000
set_option maxHeartbeats 4000000
namespace L2
open PySem PySem.Spec PyProof.Rows
section
variable {X : Cx}
end
end L2
namespace L2
open PySem PySem.Spec PyProof.Rows MA
section
variable {X : Cx}
end
/-- [.. for x in xs], xs a list, no test -/
theorem comp_lst {K : PySem.W.Frag} {a : Addr} {xs : List V} {te : TE} {H : Hp} {R : Addr → Hp → Prop} {fs : St} (Pv : Addr → Nat → List V → Hp → Prop) (hn : xs.length ≤ 100000) (hp0 : ∀ p, H p = none → Pv p 0 [] (upd H p (.lst [])))
    (hl : ∀ p i ys H', H p = none → Pv p i ys H' → H' a = some (.lst xs))
    (hte : ∀ p i ys H' x, H p = none → xs[i]? = some x → ys.length = i → Pv p i ys H' → H' p = some (.lst ys) → ∀ Q' : VK, (∀ v H'', H'' p = some (.lst ys) → Pv p (i + 1) (ys ++ [v]) (upd H'' p (.lst (ys ++ [v]))) → Q' v H'') → te (some x :: fs) H' Q')
    (q : ∀ p ys H', H p = none → Pv p xs.length ys H' → H' p = some (.lst ys) → ys.length = xs.length → R p H') :
    ∀ p, H p = none → ∃ W : Nat → Nat → List V → St → Hp → Prop, (∃ m, W 0 m [] (none :: fs) (upd H p (.lst []))) ∧ ∀ i m ys σ' H', W i m ys σ' H' →
      ((Itl K a).stop i H' ∧ R p H') ∨ ((Itl K a).go i H' ∧ ∀ x H2, (Itl K a).yld i H' x H2 → gName 0 x σ' H2 fun σ2 H3 => tTT σ2 H3 fun b H4 => if b = true then te σ2 H4 fun v H5 => ys.length < sizeLine ∧ H5 p = some (.lst ys) ∧ (∃ m', m' < m ∧ W (i + 1) m' (ys ++ [v]) σ2 (upd H5 p (.lst (ys ++ [v]))))
        else ∃ m', m' < m ∧ W (i + 1) m' ys σ2 H4) := by
  intro p hp
  refine ⟨fun i m ys σ' H' => m = xs.length - i ∧ i ≤ xs.length ∧ ys.length = i ∧ Pv p i ys H' ∧ H' p = some (.lst ys) ∧ ∃ o, σ' = o :: fs, ⟨xs.length, by simp, Nat.zero_le _, rfl, hp0 p hp, upd_same, _, rfl⟩, ?_⟩
  rintro i m ys σ' H' ⟨rfl, hi, hlen, pv, hp', o, rfl⟩
  have hla := hl p i ys H' hp pv
  by_cases hlt : i < xs.length
  · refine .inr ⟨⟨xs, xs[i], SqL.of hla, List.getElem?_eq_getElem hlt⟩, fun x H2 hy => ?_⟩
    obtain ⟨rfl, hx⟩ := hy
    have hx' := hx xs (SqL.of hla)
    change te (some x :: fs) H2 _
    refine hte p i ys H2 x hp hx' hlen pv hp' _ fun v H5 h5 pv5 => ⟨?_, h5, xs.length - (i + 1), by omega, rfl, hlt, by simp [hlen], pv5, upd_same, _, rfl⟩
    rw [hlen, sizeLine_eq]; omega
  · have e : i = xs.length := by omega
    subst e
    exact .inl ⟨⟨xs, SqL.of hla, Nat.le_refl _⟩, q p ys H' hp pv hp' hlen⟩
end L2

set_option Elab.async false
set_option linter.all false
set_option maxRecDepth 100000
set_option maxHeartbeats 4000000
namespace L2
open PySem PySem.Spec PyProof.Rows
section
variable {X : Cx} {e : Expr} {t : TA} {p p3 p4 pos : Pos}
end
end L2
namespace L2
open PySem PySem.Spec PyProof.Rows MA
section
variable {X : Cx}
/-- items by their place, the heap named alone (for use in a comprehension) -/
theorem ix_list0 : IxR X (fun x y H Q => ∃ p xs i v, x = .ref p ∧ y = .int i ∧ H p = some (.lst xs) ∧ atI xs i = some v ∧ Q v H) := by
  intro value slice pins s σ H x y v u Q I rx ry h hs
  obtain ⟨p, xs, i, w', e1, e2, hp, ha, q⟩ := h
  exact ix_list value slice pins s σ H x y v u Q I rx ry ⟨p, xs, i, w', e1, e2, SqL.of hp, ha, q⟩ hs
end
/-- [.. for x in t], t a tuple, no test -/
theorem comp_tp {K : PySem.W.Frag} {a : Addr} {xs : List V} {te : TE} {H : Hp} {R : Addr → Hp → Prop} {fs : St} (Pv : Addr → Nat → List V → Hp → Prop) (hn : xs.length ≤ 100000) (hp0 : ∀ p, H p = none → Pv p 0 [] (upd H p (.lst [])))
    (hl : ∀ p i ys H', H p = none → Pv p i ys H' → H' a = some (.tup xs))
    (hte : ∀ p i ys H' x, H p = none → xs[i]? = some x → ys.length = i → Pv p i ys H' → H' p = some (.lst ys) → ∀ Q' : VK, (∀ v H'', H'' p = some (.lst ys) → Pv p (i + 1) (ys ++ [v]) (upd H'' p (.lst (ys ++ [v]))) → Q' v H'') → te (some x :: fs) H' Q')
    (q : ∀ p ys H', H p = none → Pv p xs.length ys H' → H' p = some (.lst ys) → ys.length = xs.length → R p H') :
    ∀ p, H p = none → ∃ W : Nat → Nat → List V → St → Hp → Prop, (∃ m, W 0 m [] (none :: fs) (upd H p (.lst []))) ∧ ∀ i m ys σ' H', W i m ys σ' H' →
      ((Itt K a).stop i H' ∧ R p H') ∨ ((Itt K a).go i H' ∧ ∀ x H2, (Itt K a).yld i H' x H2 → gName 0 x σ' H2 fun σ2 H3 => tTT σ2 H3 fun b H4 => if b = true then te σ2 H4 fun v H5 => ys.length < sizeLine ∧ H5 p = some (.lst ys) ∧ (∃ m', m' < m ∧ W (i + 1) m' (ys ++ [v]) σ2 (upd H5 p (.lst (ys ++ [v]))))
        else ∃ m', m' < m ∧ W (i + 1) m' ys σ2 H4) := by
  intro p hp
  refine ⟨fun i m ys σ' H' => m = xs.length - i ∧ i ≤ xs.length ∧ ys.length = i ∧ Pv p i ys H' ∧ H' p = some (.lst ys) ∧ ∃ o, σ' = o :: fs, ⟨xs.length, by simp, Nat.zero_le _, rfl, hp0 p hp, upd_same, _, rfl⟩, ?_⟩
  rintro i m ys σ' H' ⟨rfl, hi, hlen, pv, hp', o, rfl⟩
  have hla := hl p i ys H' hp pv
  by_cases hlt : i < xs.length
  · refine .inr ⟨⟨xs, xs[i], SqT.of hla, List.getElem?_eq_getElem hlt⟩, fun x H2 hy => ?_⟩
    obtain ⟨rfl, hx⟩ := hy
    have hx' := hx xs (SqT.of hla)
    change te (some x :: fs) H2 _
    refine hte p i ys H2 x hp hx' hlen pv hp' _ fun v H5 h5 pv5 => ⟨?_, h5, xs.length - (i + 1), by omega, rfl, hlt, by simp [hlen], pv5, upd_same, _, rfl⟩
    rw [hlen, sizeLine_eq]; omega
  · have e : i = xs.length := by omega
    subst e
    exact .inl ⟨⟨xs, SqT.of hla, Nat.le_refl _⟩, q p ys H' hp pv hp' hlen⟩
end L2
namespace L2
open PySem PySem.Spec PyProof.Rows MA
section
variable {X : Cx}
end
end L2

set_option Elab.async false
set_option linter.all false
set_option maxRecDepth 100000
set_option maxHeartbeats 1000000
namespace L2
open PySem PySem.Spec PyProof.Rows MA
theorem tuple_mul1 (l : Addr) (items : Array Value) (n : Nat) (dd : Option Addr) (sl : Array (Option Value)) (u : Tok) :
    Meets (Builtin.«tuple.__mul__» ⟨[.ref l, .int 1 u], []⟩) (fun _ R s => s.heap.get? l = some { cls := .type "tuple", dict := dd, data := .seq items n, slots := sl } ∧ R (.ok (.ret (Value.ref l))) { s with heap := s.heap, toks := s.toks }) :=
  .of_wp fun prog w A R s h => by
    obtain ⟨hp, g, d, tk, os⟩ := s; obtain ⟨hl, h⟩ := h
    have f1 := AutoSeq1.idx_int; have f2 := AutoSeq1.sub_tuple_tuple; have f3 := AutoSeq1.sub_list_list; have f4 := AutoSeq1.sub_tuple_list; have f5 := AutoSeq1.sub_list_tuple
    wp_walk using wpAny_loadPart' hl
    exact ⟨_, rfl, h⟩
theorem tuple_mul0 (l : Addr) (items : Array Value) (n : Nat) (dd : Option Addr) (sl : Array (Option Value)) (u : Tok) (he : ¬ items.isEmpty = true) :
    Meets (Builtin.«tuple.__mul__» ⟨[.ref l, .int 0 u], []⟩) (fun _ R s => s.heap.get? l = some { cls := .type "tuple", dict := dd, data := .seq items n, slots := sl } ∧ R (.ok (.ret (Value.ref s.heap.objs.size))) { s with heap := s.heap.push { cls := Value.type "tuple", data := Data.seq #[] }, toks := s.toks }) :=
  .of_wp fun prog w A R s h => by
    obtain ⟨hp, g, d, tk, os⟩ := s; obtain ⟨hl, h⟩ := h
    have f1 := AutoSeq1.idx_int; have f2 := AutoSeq1.sub_tuple_tuple; have f3 := AutoSeq1.sub_list_list; have f4 := AutoSeq1.sub_tuple_list; have f5 := AutoSeq1.sub_list_tuple
    wp_walk using wpAny_loadPart' hl
    exact ⟨_, rfl, h⟩
theorem tuple_mul2 (l : Addr) (items : Array Value) (n : Nat) (dd : Option Addr) (sl : Array (Option Value)) (x : Int) (u : Tok) (he : items.isEmpty = false) (h1 : (decide (x < -(2 ^ 63)) || decide (x ≥ 2 ^ 63)) = false) (h2 : (x == 1) = false) (h3 : decide (x ≤ 0) = false)
    (h4 : decide ((items.size : Int) * x > (2 ^ 63 - 1) / 8) = false) (h5 : Builtin.Tuple.tupleTooMany ((items.size : Int) * x) = false) (h6 : ((List.replicate x.toNat items).foldl (· ++ ·) #[]).size ≤ sizeLine) :
    Meets (Builtin.«tuple.__mul__» ⟨[.ref l, .int x u], []⟩) (fun _ R s => s.heap.get? l = some { cls := .type "tuple", dict := dd, data := .seq items n, slots := sl } ∧ R (.ok (.ret (Value.ref s.heap.objs.size))) { s with heap := s.heap.push { cls := Value.type "tuple", data := Data.seq ((List.replicate x.toNat items).foldl (· ++ ·) #[]) }, toks := s.toks }) :=
  .of_wp fun prog w A R s h => by
    obtain ⟨hp, g, d, tk, os⟩ := s; obtain ⟨hl, h⟩ := h
    have f1 := AutoSeq1.idx_int; have f2 := AutoSeq1.sub_tuple_tuple; have f3 := AutoSeq1.sub_list_list; have f4 := AutoSeq1.sub_tuple_list; have f5 := AutoSeq1.sub_list_tuple
    wp_walk using wpAny_loadPart' hl
    refine wpAny_ite_false (by rw [h1]; rfl) ?_
    wp_walk using wpAny_loadPart' hl
    refine wpAny_ite_false h4 ?_
    wp_walk using wpAny_loadPart' hl
    first
    | exact ⟨_, rfl, h⟩
    | (refine wpAny_ite_false (by rw [h5]; rfl) ?_
       wp_walk using wpAny_loadPart' hl
       first
       | exact ⟨_, rfl, h⟩
       | (refine wpAny_ite_false (decide_eq_false (Nat.not_lt.mpr h6)) ?_
          wp_walk using wpAny_loadPart' hl
          exact ⟨_, rfl, h⟩))
    | (refine wpAny_ite_false (decide_eq_false (Nat.not_lt.mpr h6)) ?_
       wp_walk using wpAny_loadPart' hl
       exact ⟨_, rfl, h⟩)
theorem noFill_tuple_mul : fillsNumberSlot (.type "tuple") "mul" = pure false :=
  PySem.fillsNumberSlot_seq (id := "tuple.__mul__") (r := some (.builtin "tuple.__rmul__")) F.slot_tuple_mul.lookup (by decide +kernel) F.slot_tuple_rmul.lookup (by decide +kernel)
theorem repeat_tuple : seqRepeat? (.type "tuple") = pure (some (.builtin "tuple.__mul__")) := by
  unfold seqRepeat?
  rw [PySem.seqSlot_of (T := "tuple") (name := "__mul__") (id := "tuple.__mul__") F.slot_tuple_mul.lookup (by decide +kernel), PySem.seqSlot_of (T := "tuple") (name := "__rmul__") (id := "tuple.__rmul__") F.slot_tuple_rmul.lookup (by decide +kernel)]
  rfl
theorem int_rmul_tuple (a : Int) (t : Tok) (l : Addr) (items : Array Value) (n : Nat) (d : Option Addr) (sl : Array (Option Value)) :
    Meets (Builtin.«int.__rmul__» ⟨[.int a t, .ref l], []⟩) (fun _ R s => s.heap.get? l = some { cls := .type "tuple", dict := d, data := .seq items n, slots := sl } ∧ R (.ok (.ret Value.notImplemented)) s) :=
  .of_wp fun prog w A R s h => by obtain ⟨hp, g, d, tk, os⟩ := s; obtain ⟨hl, h⟩ := h; wp_walk; exact ⟨_, rfl, h⟩
theorem foldl_rep' {α : Type} (its : List α) : ∀ (m : Nat) (acc : List α), List.foldl (fun x1 x2 => x1 ++ x2) acc.toArray (List.replicate m its.toArray) = (acc ++ (List.replicate m its).flatten).toArray
  | 0, acc => by simp
  | m + 1, acc => by
    rw [List.replicate_succ, List.foldl_cons, List.replicate_succ, List.flatten_cons]
    have : acc.toArray ++ its.toArray = (acc ++ its).toArray := by simp
    rw [this, foldl_rep' its m (acc ++ its), List.append_assoc]
section
variable {X : Cx}
/-- a tuple times an int, the tuple not empty, from 0 to a thousand times -/
theorem op_repT : OpR X (binaryOp .Mult) (fun x y H Q => ∃ l k xs, x = .ref l ∧ y = .int k ∧ H l = some (.tup xs) ∧ xs ≠ [] ∧ 0 ≤ k ∧ k ≤ 1000 ∧ xs.length ≤ 1000 ∧
    (k = 1 → Q (.ref l) H) ∧ (k ≠ 1 → ∀ p, H p = none → Q (.ref p) (upd H p (.tup (List.replicate k.toNat xs).flatten)))) := by
  intro pins s σ H x y v u Q I rx ry h
  obtain ⟨l, k, xs, rfl, rfl, hH, hne, k0, k1, hx, q1, q2⟩ := h
  cases rx
  obtain ⟨t, rfl⟩ := ry
  obtain ⟨its, r, p1, hz⟩ := I.tuple (SqT.of (K := X.K) hH)
  have hlen := r.length
  have hne' : its ≠ [] := fun z => hne (r.nil_iff.mp z)
  obtain ⟨⟨cls, dd, data, sl⟩, ho, hc, n, hd⟩ := id p1
  simp only at hc hd
  subst hc hd
  refine wpAny_binaryOp_repeat_ref (T := "tuple") (U := "int") (by decide) ⟨_, ho, rfl⟩ (fun s' => typeIs_int s' k t) noFill_tuple_mul F.fills_int_mul F.slot_int_rmul repeat_tuple F.slot_int_index.lookup
    (call_meets F.slot_int_rmul (typeIs_int s k t) F.entry_int_rmul (F.args_int_rmul_2 _ _) (int_rmul_tuple k t l its.toArray n dd sl) ⟨ho, rfl, ⟨_, ho, rfl⟩, ?_⟩)
  have new : ∀ zs : List V, ∀ us : List Value, Vals zs us → zs.length ≤ sizeLine → (∀ p, H p = none → Q (.ref p) (upd H p (.tup zs))) → EP X pins σ Q (.ref s.heap.objs.size) { s with heap := s.heap.push { cls := .type "tuple", data := .seq us.toArray } } := fun zs us rz hzs hq =>
    ⟨.ref s.heap.objs.size, _, I.laid (t' := s.toks) (o := .tup zs) (fun b ob q => Heap.get?_push_of_some _ q) (Nat.le_refl _) ⟨hzs, _, rz, IsTupN.new _ _⟩, rfl, hq _ (I.hok.fresh (Nat.le_refl _))⟩
  by_cases e1 : k = 1
  · subst e1
    exact call_meets F.slot_tuple_mul ⟨_, ho, rfl⟩ F.entry_tuple_mul (F.args_tuple_mul_2 _ _) (tuple_mul1 l its.toArray n dd sl t) ⟨ho, ⟨.ref l, H, I, rfl, q1 rfl⟩⟩
  by_cases e0 : k = 0
  · subst e0
    exact call_meets F.slot_tuple_mul ⟨_, ho, rfl⟩ F.entry_tuple_mul (F.args_tuple_mul_2 _ _) (tuple_mul0 l its.toArray n dd sl t (by simpa using hne')) ⟨ho, new [] [] .nil (by simp) (q2 (by decide))⟩
  have hfold : List.foldl (fun x1 x2 => x1 ++ x2) #[] (List.replicate k.toNat its.toArray) = (List.replicate k.toNat its).flatten.toArray := by
    have := foldl_rep' its k.toNat []
    simpa using this
  have hsz : (its.length : Int) * k ≤ 1000 * 1000 := Int.mul_le_mul (by omega) k1 k0 (by decide)
  have hflat : (List.replicate k.toNat its).flatten.length ≤ sizeLine := by
    rw [len_rep]
    have : k.toNat * its.length ≤ 1000 * 1000 := Nat.mul_le_mul (by omega) (by omega)
    rw [sizeLine_eq]; omega
  refine call_meets F.slot_tuple_mul ⟨_, ho, rfl⟩ F.entry_tuple_mul (F.args_tuple_mul_2 _ _) (tuple_mul2 l its.toArray n dd sl k t (by simpa using hne') ?_ (by simpa using e1) (by simp; omega) ?_ ?_ (by rw [hfold]; simpa using hflat)) ⟨ho, ?_⟩
  · simp; omega
  · simp; omega
  · unfold Builtin.Tuple.tupleTooMany
    rw [List.size_toArray, sizeLine_eq]
    simp
    omega
  · rw [hfold]
    refine new _ _ (r.rep k.toNat) ?_ (q2 e1)
    rw [len_rep]
    have : k.toNat * xs.length ≤ 1000 * 1000 := Nat.mul_le_mul (by omega) (by omega)
    rw [sizeLine_eq]; omega
end
end L2

set_option Elab.async false
set_option linter.all false
set_option maxRecDepth 100000
set_option maxHeartbeats 1000000
namespace L2
open PySem PySem.Spec PyProof.Rows
section
variable {X : Cx} {pins : List (Addr × Obj)} {σ : St} {H : Hp} {s : Shared} {h' : Heap} {fp : List Addr}
/-- several records of ours have turned -/
theorem Inv.turnedL {t' : Nat} (I : Inv X pins σ H s) (hf : ∀ b ∈ fp, FpOk X pins H b) (k : ∀ b o, b ∉ fp → s.heap.get? b = some o → h'.get? b = some o) : Inv X pins σ H { s with heap := h', toks := t' } := by
  have nit : ∀ b u, H b = some u → b ∉ fp := fun b u e z => by rw [(hf b z).1] at e; cases e
  have hL : X.env.locals ∉ fp := fun z => (hf _ z).2.1 rfl
  refine I.step (g' := s.gens) (d' := s.drawn) (ch := fp) (fun b hb => ⟨(hf b hb).2.2.2.1, (hf b hb).2.1, (hf b hb).2.2.2.2.1, (hf b hb).2.2.2.2.2⟩) (fun b o _ _ hc e _ => k b o hc e) (fun b o _ _ hc e _ => ⟨o.slots, k b o hc e⟩) (fun _ _ _ _ n => n)
    (fun b o hc e => ⟨o, k b o hc e⟩) (fun _ _ e => e) (fun _ _ _ e => e) (fun b ps e => ⟨#[], by rw [e]; simp⟩) (fun m hm => ?_) (fun b u e => ?_) I.bare
  · obtain ⟨o, es, ep, ho, r⟩ := hm
    exact ⟨o, es, ep, k _ o hL ho, r⟩
  · refine (I.hok b u e).stay (fun c v hc q => k c v ?_ q) (fun _ q => q) fun _ _ q => q
    rcases hc with z | z
    · rw [z]; exact nit b u e
    · exact nit c _ z
end
end L2

set_option Elab.async false
set_option linter.all false
set_option maxRecDepth 100000
set_option maxHeartbeats 1000000
namespace My
open PySem L2 MA
/-! a pen that is a list: its cells, where it stands, what is left -/
end My

set_option Elab.async false
set_option linter.all false
set_option maxRecDepth 100000
set_option maxHeartbeats 1000000
namespace L2
open PySem PySem.Spec PyProof.Rows
def rSlL0 : V → Option Int → Option Int → Hp → VK → Prop := fun x lo hi H Q => ∃ a xs, x = .ref a ∧ H a = some (.lst xs) ∧ ∀ p, H p = none → Q (.ref p) (upd H p (.lst (cutV xs lo hi)))
theorem sl_list0 {X : Cx} : SlR X rSlL0 := by
  intro pins s σ H x v vl vu lo hi sl Q I rx hs pl pu h
  obtain ⟨a, xs, e, hx, q⟩ := h
  exact sl_list pins s σ H x v vl vu lo hi sl Q I rx hs pl pu ⟨a, xs, e, SqL.of hx, q⟩
end L2
namespace My
open PySem L2 MA
end My

set_option Elab.async false
set_option linter.all false
set_option maxRecDepth 100000
set_option maxHeartbeats 4000000
namespace L2
open PySem PySem.Spec PyProof.Rows
section
variable {prog : Program} {w : World} {A : Around} {E : Value → Shared → Prop} {s : Shared}
end
/-- a list (true) or a tuple (false) -/
def IsB (h : Heap) : Bool → Addr → Array Value → Prop
  | true => h.IsList
  | false => h.IsTuple
def IterB (h : Heap) : Bool → Addr → Addr → Nat → Prop
  | true => h.IsListIter
  | false => h.IsTupleIter
def SqB (K : PySem.W.Frag) (H : Hp) : Bool → Addr → List V → Prop
  | true => SqL K H
  | false => SqT K H
theorem IsB.at {h h' : Heap} {b : Bool} {a : Addr} {its : Array Value} (x : IsB h b a its) (k : ∀ o, h.get? a = some o → h'.get? a = some o) : IsB h' b a its := by
  cases b <;> (obtain ⟨o, e, r⟩ := x; exact ⟨o, k o e, r⟩)
theorem IterB.at {h h' : Heap} {b : Bool} {a l : Addr} {i : Nat} (x : IterB h b a l i) (k : ∀ o, h.get? a = some o → h'.get? a = some o) : IterB h' b a l i := by
  cases b <;> (obtain ⟨o, e, r⟩ := x; exact ⟨o, k o e, r⟩)
theorem IterB.ob {h : Heap} {b : Bool} {a l : Addr} {i : Nat} (x : IterB h b a l i) : ∃ o, h.get? a = some o ∧ ∀ v, o.data ≠ .cell v := by
  cases b <;> (obtain ⟨o, e, _, d⟩ := x; exact ⟨o, e, fun v z => by rw [d] at z; cases z⟩)
theorem IsB.lt {h : Heap} {b : Bool} {a : Addr} {its : Array Value} (x : IsB h b a its) : a < h.objs.size := by
  cases b <;> (obtain ⟨o, e, _⟩ := x; exact Heap.lt_size e)
theorem iterB {prog : Program} {w : World} {A : Around} {E : Value → Shared → Prop} {s : Shared} {b : Bool} {l : Addr} {its : Array Value} {Q : Value → Shared → Prop} (hl : IsB s.heap b l its)
    (k : ∀ h', IterB h' b s.heap.objs.size l 0 → h'.objs.size = s.heap.objs.size + 1 → (∀ c o, s.heap.get? c = some o → h'.get? c = some o) → Q (.ref s.heap.objs.size) { s with heap := h' }) : wpAny (model prog w) A (pyIter (.ref l)) Q E s := by
  cases b with
  | true => exact wpAny_pyIter_list hl (k _ ⟨_, Heap.get?_push_size _ rfl, rfl, rfl⟩ (Heap.size_push ..) fun c o e => Heap.get?_push_of_some _ e)
  | false => exact wpAny_pyIter_tuple hl (k _ ⟨_, Heap.get?_push_size _ rfl, rfl, rfl⟩ (Heap.size_push ..) fun c o e => Heap.get?_push_of_some _ e)
section
variable {X : Cx} {pins : List (Addr × Obj)} {σ : St} {H : Hp} {s : Shared} {a : Addr} {xs ys : List V} {b : Bool}
theorem Inv.seqB (I : Inv X pins σ H s) (h : SqB X.K H b a xs) : ∃ its : List Value, Vals xs its ∧ IsB s.heap b a its.toArray ∧ xs.length ≤ sizeLine := by
  cases b with
  | true => obtain ⟨its, r, p, z⟩ := I.list h; exact ⟨its, r, p.isList, z⟩
  | false => obtain ⟨its, r, p, z⟩ := I.tuple h; exact ⟨its, r, p, z⟩
end
end L2

set_option Elab.async false
set_option linter.all false
set_option maxRecDepth 100000
set_option maxHeartbeats 4000000
namespace L2
open PySem PySem.Spec PyProof.Rows
section
variable {prog : Program} {w : World} {A : Around} {E : Value → Shared → Prop} {s : Shared}
def itc : Bool → String
  | true => "list_iterator"
  | false => "tuple_iterator"
theorem pyIterB {b : Bool} {l : Addr} {its : Array Value} {Q : Value → Shared → Prop} (hl : IsB s.heap b l its)
    (hQ : Q (.ref s.heap.objs.size) { s with heap := s.heap.push { cls := .type (itc b), data := .fields #[.ref l, .int 0 0] } }) : wpAny (model prog w) A (pyIter (.ref l)) Q E s := by
  cases b with
  | true => exact wpAny_pyIter_list hl hQ
  | false => exact wpAny_pyIter_tuple hl hQ
end
end L2

set_option Elab.async false
set_option linter.all false
set_option maxRecDepth 100000
set_option maxHeartbeats 4000000
namespace L2
open PySem PySem.Spec PyProof.Rows
end L2
namespace L2
open PySem PySem.Spec PyProof.Rows
section
variable {prog : Program} {w : World} {A : Around} {E : Value → Shared → Prop} {s : Shared}
end
end L2

set_option Elab.async false
set_option linter.all false
set_option maxRecDepth 100000
set_option maxHeartbeats 4000000
namespace L2
open PySem PySem.Spec PyProof.Rows
theorem walksB {prog : Program} {w : World} {A : Around} (hh : A.handled = none) (b : Bool) (I l : Addr) (hne : l ≠ I) (its : Array Value) :
    Walks prog w A I [I, l] [I] its.size (fun i v => its[i]? = some v) (fun i h => IterB h b I l i ∧ IsB h b l its) := by
  cases b with
  | true => exact Walks.list hh I l hne its
  | false => exact Walks.tuple hh I l hne its
theorem argBest_lt (f : Nat → Int) (n : Nat) : argBest (fun i j => decide (f i < f j)) n ≤ n ∧ ∀ j, j ≤ n → f (argBest (fun i j => decide (f i < f j)) n) ≤ f j := by
  have e : (fun i j : Nat => decide (f i < f j)) = fun i j => decide (-(f i) > -(f j)) := by
    funext i j
    rw [decide_eq_decide]
    omega
  rw [e]
  have := argBest_gt (fun i => -(f i)) n
  exact ⟨this.1, fun j hj => by have := this.2 j hj; omega⟩
section
variable {X : Cx}
theorem bestB (up : Bool) {pins : List (Addr × Obj)} {s : Shared} {σ : St} {H : Hp} {b : Bool} {l : Addr} {ns : List Int} {Q : VK} (hc : X.calm = true) (I : Inv X pins σ H s) (hl : SqB X.K H b l (ns.map V.int)) (hne : ns ≠ [])
    (q : ∀ M, M ∈ ns → (∀ a ∈ ns, if up = true then a ≤ M else M ≤ a) → Q (.int M) H) : wpAny (model X.prog X.w) X.A (call (.builtin (if up = true then "max" else "min")) [.ref l]) (EP X pins σ Q) X.xe s := by
  obtain ⟨its, rv, p, hz⟩ := I.seqB hl
  have hi := intsAre_of rv
  obtain ⟨ys, e⟩ := hi.allInts.items
  have hnum : ns = ys.toList.map (·.1) := by
    have h1 := hi.numsOf
    have h2 := nums_intItems ys
    rw [← e] at h2
    rw [← h1, ← h2]
  have hsz : 0 < ys.size := by
    have : 0 < ns.length := List.length_pos_iff.mpr hne
    rw [hnum] at this
    simpa using this
  have hlt := p.lt
  have hh : X.A.in1.handled = none := I.ok.hd hc
  rw [e] at p
  have st0 : IterB (s.heap.push { cls := .type (itc b), data := .fields #[.ref l, .int 0 0] }) b s.heap.objs.size l 0 := by cases b <;> exact ⟨_, Heap.get?_push_size _ rfl, rfl, rfl⟩
  have fp0 : ∀ c ∈ [s.heap.objs.size, l], c < (s.heap.push { cls := .type (itc b), data := .fields #[.ref l, .int 0 0] }).objs.size := fun c hc' => by
    rw [Heap.size_push]
    simp only [List.mem_cons, List.not_mem_nil, or_false] at hc'
    rcases hc' with rfl | rfl
    · exact Nat.lt_succ_self _
    · exact Nat.lt_succ_of_lt hlt
  have fin : ∀ (k : Nat) (v : Value) (h' : Heap) (tk : Nat), k ≤ ys.size - 1 → (intItems ys)[k]? = some v → (∀ a ∈ ns, if up = true then a ≤ numAt ys k else numAt ys k ≤ a) →
      (∀ c o, c ∉ [s.heap.objs.size] → (s.heap.push { cls := .type (itc b), data := .fields #[.ref l, .int 0 0] }).get? c = some o → h'.get? c = some o) → EP X pins σ Q v { s with heap := h', toks := tk } := fun k v h' tk hk hv ha kk => by
    obtain ⟨t, rfl⟩ := intItems_at hv
    refine ⟨.int (numAt ys k), H, I.kept (t' := tk) fun c o eo => kk c o ?_ (Heap.get?_push_of_some _ eo), ⟨t, rfl⟩, q _ ?_ ha⟩
    · intro z
      have : c = s.heap.objs.size := by simpa using z
      subst this
      exact Nat.lt_irrefl _ (Heap.lt_size eo)
    · rw [numAt_eq, hnum]; exact getD_mem (by rw [List.length_map, Array.length_toList]; omega)
  cases up with
  | true =>
    refine call_max_walk (pyIterB p ⟨_, _, _, _, _, _, _, rfl, walksB hh b _ l (Nat.ne_of_lt hlt) (intItems ys), ⟨st0, p.at fun o eo => Heap.get?_push_of_some _ eo⟩, fp0, by simpa [intItems] using hsz, CmpOf.ints_gt (numAt ys) (fun _ _ => intItems_at), fun v h' tk hv kk => ?_⟩)
    obtain ⟨h1, h2⟩ := argBest_gt (numAt ys) (ys.size - 1)
    have es : (intItems ys).size = ys.size := by simp [intItems]
    rw [es] at hv
    refine fin _ v h' tk h1 hv (fun a ha => ?_) kk
    rw [if_pos rfl]
    rw [hnum] at ha
    obtain ⟨j, hj, rfl⟩ := mem_getD ha
    rw [List.length_map, Array.length_toList] at hj
    rw [← numAt_eq]; exact h2 j (by omega)
  | false =>
    refine call_min_walk (pyIterB p ⟨_, _, _, _, _, _, _, rfl, walksB hh b _ l (Nat.ne_of_lt hlt) (intItems ys), ⟨st0, p.at fun o eo => Heap.get?_push_of_some _ eo⟩, fp0, by simpa [intItems] using hsz, CmpOf.ints_lt (numAt ys) (fun _ _ => intItems_at), fun v h' tk hv kk => ?_⟩)
    obtain ⟨h1, h2⟩ := argBest_lt (numAt ys) (ys.size - 1)
    have es : (intItems ys).size = ys.size := by simp [intItems]
    rw [es] at hv
    refine fin _ v h' tk h1 hv (fun a ha => ?_) kk
    rw [if_neg (by decide)]
    rw [hnum] at ha
    obtain ⟨j, hj, rfl⟩ := mem_getD ha
    rw [List.length_map, Array.length_toList] at hj
    rw [← numAt_eq]; exact h2 j (by omega)
def rMinB (K : PySem.W.Frag) (b : Bool) : List V → Hp → VK → Prop := fun xs H Q => ∃ (l : Addr) (ns : List Int), xs = [.ref l] ∧ SqB K H b l (ns.map V.int) ∧ ns ≠ [] ∧ ∀ M, M ∈ ns → (∀ a ∈ ns, M ≤ a) → Q (.int M) H
theorem call_minB (b : Bool) (hc : X.calm = true) : CallR X (.builtin "min") (rMinB X.K b) := by
  intro pins s σ H xs us Q I r h
  obtain ⟨l, ns, rfl, hl, hne, q⟩ := h
  obtain ⟨u, rfl, ru⟩ := vals1 r
  cases ru
  exact bestB false hc I hl hne fun M h1 h2 => q M h1 fun a ha => by simpa using h2 a ha
theorem SqB.l {K : PySem.W.Frag} {H : Hp} {a : Addr} {xs : List V} (h : H a = some (.lst xs)) : SqB K H true a xs := SqL.of h
theorem SqB.t {K : PySem.W.Frag} {H : Hp} {a : Addr} {xs : List V} (h : H a = some (.tup xs)) : SqB K H false a xs := SqT.of h
/-- o[i] by values, o a list (for o[i] += e) -/
def rGetL : V → V → Hp → VK → Prop := fun o i H Q => ∃ p xs k v, o = .ref p ∧ i = .int k ∧ 0 ≤ k ∧ H p = some (.lst xs) ∧ atI xs k = some v ∧ Q v H
theorem get_list : PGet X rGetL := by
  intro pins s σ H o i ov iv Q I ro ri h
  obtain ⟨p, xs, k, z, rfl, rfl, h0, hp, he, q⟩ := h
  cases ro
  obtain ⟨t, rfl⟩ := ri
  obtain ⟨its, r, pl, hz⟩ := I.list (SqL.of (K := X.K) hp)
  obtain ⟨j, h1, h2, h3, h4, h5⟩ := atI_get he
  obtain ⟨w, ew, rw'⟩ := r.get h2
  have hl := r.length
  have hn := line63
  have hj : k.toNat = j := by
    rw [seqIndex_of h0 h5] at h1
    exact Option.some.inj h1
  exact wpAny_getItem_list pl.isList h0 (by omega) (by rw [hj]; simpa using ew) ⟨z, H, I, rw', q⟩
end
end L2

set_option Elab.async false
set_option linter.all false
set_option maxRecDepth 100000
set_option maxHeartbeats 1000000
namespace L2
open PySem PySem.Spec PyProof.Rows MA
/-! ### ints in a row -/
abbrev iv (ns : List Int) : List V := ns.map V.int
theorem iv_at {ns : List Int} {i : Nat} {x : V} (h : (iv ns)[i]? = some x) : ∃ y, ns[i]? = some y ∧ x = .int y := by
  rw [List.getElem?_map] at h
  cases e : ns[i]? with
  | none => rw [e] at h; cases h
  | some y => rw [e] at h; cases h; exact ⟨y, rfl, rfl⟩
theorem iv_get {ns : List Int} {i : Nat} (h : i < ns.length) : (iv ns)[i]? = some (.int ns[i]) := by rw [List.getElem?_map, List.getElem?_eq_getElem h]; rfl
theorem iv_atI {ns : List Int} {i : Nat} (h : i < ns.length) : atI (iv ns) (i : Int) = some (.int (ns.getD i 0)) := by
  rw [atI_nat (iv_get h), getD_of h]
theorem iv_flat (ns : List Int) : (iv ns).all flatV = true := by simp [flatV]
theorem eqSeq_ints (xs ys : List Int) : eqSeq (iv xs) (iv ys) = decide (xs = ys) := by
  rw [Bool.eq_iff_iff, decide_eq_true_eq]
  unfold eqSeq
  rw [Bool.and_eq_true, List.all_eq_true]
  constructor
  · rintro ⟨h, hl⟩
    have hl : xs.length = ys.length := by simpa using hl
    refine List.ext_getElem hl fun i h1 h2 => ?_
    have := h i (by simp; omega)
    rw [getD_of (by simpa using h1), getD_of (by simpa using h2)] at this
    simpa [eqV] using this
  · rintro rfl
    refine ⟨fun i hi => ?_, by simp⟩
    have hi : i < xs.length := by simpa using hi
    rw [getD_of (by simpa using hi)]
    simp [eqV]
section
variable {X : Cx}
theorem op_neI (hu : X.A.units < cLine) : OpR X (compareOp .NotEq) (fun x y H Q => ∃ a b xs ys, x = .ref a ∧ y = .ref b ∧ H a = some (.tup (iv xs)) ∧ H b = some (.tup (iv ys)) ∧ Q (.bl (!decide (xs = ys))) H) := by
  intro pins s σ H x y v u Q I rx ry h
  obtain ⟨a, b, xs, ys, e1, e2, ha, hb, q⟩ := h
  exact op_neT hu pins s σ H x y v u Q I rx ry ⟨a, b, _, _, e1, e2, SqT.of ha, SqT.of hb, iv_flat _, iv_flat _, by rw [eqSeq_ints]; exact q⟩
end
theorem cut_take {xs : List V} {k : Nat} (h : k ≤ xs.length) : cutV xs none (some (k : Int)) = xs.take k := by
  unfold cutV
  rw [HT.sIx_nat, HT.sIx_none]
  simp only [List.drop_zero, Nat.sub_zero]
  rw [Nat.min_eq_left h]
theorem cut_drop {xs : List V} {k : Nat} (h : k ≤ xs.length) : cutV xs (some (k : Int)) none = xs.drop k := by
  unfold cutV
  rw [HT.sIx_nat, HT.sIx_none]
  rw [List.take_of_length_le (by rw [List.length_drop]; omega), Nat.min_eq_left h]
theorem data_ints (H : Hp) : ∀ ns : List Int, DataL H (iv ns) (ns.map PyData.int)
  | [] => .nil
  | n :: ns => .cons (.int n) (data_ints H ns)
theorem noDict_ints : ∀ ns : List Int, PyData.hasDictAll (ns.map PyData.int) = false
  | [] => rfl
  | n :: ns => by simp [PyData.hasDictAll, PyData.hasDict, noDict_ints ns]
theorem sm_ints {ns : List Int} {m : Nat} (h : ∀ x ∈ ns, I36 x) (hm : 2 ≤ m) (hm2 : ns.length * 2 ≤ m) : Sm m (.tuple (ns.map PyData.int)) :=
  sm_tup (n := 1) (fun d hd => by obtain ⟨x, hx, rfl⟩ := List.mem_map.mp hd; exact sm_int36 (h x hx) 1) (by rw [noDict_ints]; rfl) hm (by rw [List.length_map]; exact hm2)
theorem depth_ints : ∀ ns : List Int, PyData.depthAll (ns.map PyData.int) = 0
  | [] => rfl
  | n :: ns => by simp [PyData.depthAll, PyData.depth, depth_ints ns]
end L2
namespace My
open PySem L2 MA
theorem lz {m : Nat} (n : Nat) (h : m = n) (hn : n ≤ 100 := by decide) : m ≤ sizeLine := by
  rw [h, sizeLine_eq]; omega
theorem penX_upd {H H2 : Hp} {p acc : Addr} {n m : Nat} (hn : H acc = none) (hp : Pen H p n) (x : SameX p H H2) (hp2 : Pen H2 p m) (o : HO) : Pen (upd H2 acc o) p m ∧ SameX p H (upd H2 acc o) := by
  obtain ⟨c, ns, a, l, h1, h2, _, _⟩ := hp
  obtain ⟨c', ns', a', l', h1', h2', h3', h4'⟩ := hp2
  have hap : p ≠ acc := ne_of_none h1 hn
  have hac : c ≠ acc := ne_of_none h2 hn
  obtain ⟨a'', l'', e⟩ := x.pen c a l h1
  rw [h1'] at e
  have ec : c' = c := by
    have e' := congrArg (fun o => match o with | some (HO.dK ((_, V.ref q) :: _)) => q | _ => c) e
    exact e'
  subst ec
  refine ⟨⟨c', ns', a', l', by rw [upd_ne hap]; exact h1', by rw [upd_ne hac]; exact h2', h3', h4'⟩, ⟨fun b u hb hbp => ?_, fun c2 a2 l2 e2 => ?_⟩⟩
  · rw [upd_ne (ne_of_none hb hn)]; exact x.all b u hb hbp
  · rw [upd_ne hap]; exact x.pen c2 a2 l2 e2
/-- what isn't the pen stays beside draws -/
theorem Pen.nep {H : Hp} {p b : Addr} {n : Nat} {o : HO} (hp : Pen H p n) (hb : H b = some o) (ho : ∀ kvs, o ≠ .dK kvs := by intro _ z; cases z) : b ≠ p := by
  obtain ⟨kvs, e⟩ := hp.dk
  rintro rfl
  rw [hb] at e
  cases e
  exact ho _ rfl
theorem Pen.keep {H H' : Hp} {p b : Addr} {n : Nat} {o : HO} (hp : Pen H p n) (x : SameX p H H') (hb : H b = some o) (ho : ∀ kvs, o ≠ .dK kvs := by intro _ z; cases z) : H' b = some o := x.all b o hb (hp.nep hb ho)
end My

set_option Elab.async false
set_option linter.all false
set_option maxRecDepth 100000
set_option maxHeartbeats 1000000
namespace L2
open PySem PySem.Spec PyProof.Rows MA
end L2
namespace HT
open PySem PySem.Spec PyProof.Rows
section
variable {prog : Program} {w : World} {A : Around} {E : Value → Shared → Prop} {s : Shared}
end
end HT
namespace L2
open PySem PySem.Spec PyProof.Rows MA
section
variable {X : Cx} {e : Expr} {te : TE} {p2 p3 p4 pos : Pos}
end
end L2
namespace L2
open PySem PySem.Spec PyProof.Rows MA
/-! ### data that lies in tuples and in what is new since H -/
end L2

set_option Elab.async false
set_option linter.all false
set_option maxRecDepth 100000
set_option maxHeartbeats 4000000
namespace L2
open PySem PySem.Spec PyProof.Rows
/-! ### comprehensions of two clauses: the block's body is any action on the new list -/
end L2

set_option Elab.async false
set_option linter.all false
set_option maxRecDepth 100000
set_option maxHeartbeats 1000000
namespace L2
open PySem PySem.Spec PyProof.Rows MA
/-! ### set(list of ints), len of a set, list(range(n)) -/
section
variable {X : Cx}
end
/-! ### readings of a clause's walk -/
/-! ### a tuple, a list walked inside a comprehension: no K -/
section
variable {X : Cx} {o e : Expr} {es : List Expr} {to : TE} {t : TA} {name : Str} {apos cpos : Pos} {id : String} {r : V → List V → Hp → VK → Prop}
end
end L2

set_option Elab.async false
set_option linter.all false
set_option maxRecDepth 100000
set_option maxHeartbeats 1000000
namespace L2
open PySem PySem.Spec PyProof.Rows MA SeqAt
/-! ### a text and a dict are not the same -/
section
variable {X : Cx}
end
end L2

set_option Elab.async false
set_option linter.all false
set_option maxRecDepth 100000
set_option maxHeartbeats 1000000
namespace PySem
open Sem (wp)
namespace F
end F
section
variable {prog : Program} {w : World} {K : Type} [DecidableEq K] {knd : KeyKind prog w K} {A : Around} {R : Result → Shared → Prop}
end
end PySem
namespace L2
open PySem PySem.Spec PyProof.Rows MA
section
variable {X : Cx}
end
end L2

set_option Elab.async false
set_option linter.all false
set_option maxRecDepth 100000
set_option maxHeartbeats 4000000
namespace L2
open PySem PySem.Spec PyProof.Rows
/-! ### dict comprehensions of one clause -/
end L2

set_option Elab.async false
set_option linter.all false
set_option maxRecDepth 100000
set_option maxHeartbeats 1000000
namespace L2
open PySem PySem.Spec PyProof.Rows
/-! ### for k, v in d.items(): the dict is frozen from then on -/
end L2

set_option Elab.async false
set_option linter.all false
set_option maxRecDepth 100000
set_option maxHeartbeats 4000000
/-! ### isinstance of an own exception -/
namespace L2
open PySem PySem.Builtin PySem.Builtin.ObjectAttr PySem.Spec PyProof.Rows
section
variable {K : PySem.W.Frag} {e C : Addr} {h : Heap} {M : Model}
end
section
variable {prog : Program} {w : World} {A : Around} {E : Value → Shared → Prop} {s : Shared} {K : PySem.W.Frag} {e C : Addr}
end
end L2

set_option Elab.async false
set_option linter.all false
set_option maxRecDepth 100000
set_option maxHeartbeats 4000000
/-! ### own exceptions -/
namespace L2
open PySem PySem.Spec PyProof.Rows
/-- an own exception in flight, at x, of the class at C: all that was tracked or stood ahead of the call stands in B, which the flight keeps -/
structure FlyB (B : Heap) (a0 : Value) (P : Program) (w : World) (outer : List Env) (H : Hp) (s : Shared) (x C : Addr) (H' : Hp) (s' : Shared) : Prop where
  os : s'.os = s.os
  bare : AllBare s'.gens
  un : Un (frs outer) [] H H' s.heap s'.heap
  hok : HOk P w H' s'.heap
  fl : Heap.FlyingW B outer x (.ref C) a0 s'.heap
  tr : ∀ b u, H' b = some u → ∃ o, B.get? b = some o
  pre : ∀ b o, s.heap.get? b = some o → b ∉ frs outer → ∃ o', B.get? b = some o'
def Fly (P : Program) (w : World) (outer : List Env) (H : Hp) (s : Shared) (x C : Addr) (H' : Hp) (s' : Shared) : Prop := ∃ B a0, FlyB B a0 P w outer H s x C H' s'
def CX1 (P : Program) (w : World) : CXT := fun outer H s E e s' => ∃ x C H', e = .ref x ∧ Fly P w outer H s x C H' s' ∧ E (.ref C) none H'
section
variable {X : Cx} {pins : List (Addr × Obj)} {σ : St} {H H' : Hp} {s s' : Shared}
end
/-! ### raise -/
section
variable {P : Program} {w : World} {K : PySem.W.Frag} {mg : Str → Option Value} {base : Heap} {N : List Str} {qual : Str} {scope : Scope} {f : Addr} {cd : Value} {A : Around} {outer : List Env} {s : Shared} {H : Hp} {E : XK}
end
section
variable {P : Program} {w : World} {K : PySem.W.Frag} {mg : Str → Option Value} {base : Heap} {x : Str} {ps : List Str} {k : Nat} {sp : Sp}
end
end L2

set_option Elab.async false
set_option linter.all false
set_option maxRecDepth 100000
set_option maxHeartbeats 4000000
/-! ### try .. except -/
namespace L2
open PySem PySem.Spec PyProof.Rows
section
variable {P : Program} {w : World} {outer : List Env} {H H' : Hp} {s s' : Shared} {x C : Addr} {B : Heap} {a0 : Value}
end
section
variable {X : Cx} {pins : List (Addr × Obj)} {σ : St} {H H' : Hp} {s s' : Shared} {x C : Addr} {B : Heap} {a0 : Value}
end
/-! ### what may raise: an expression, a statement -/
section
variable {X : Cx}
end
/-! ### the statement -/
end L2

set_option Elab.async false
set_option linter.all false
set_option maxRecDepth 100000
set_option maxHeartbeats 4000000
/-! ### lambdas -/
namespace L2
open PySem PySem.Spec PyProof.Rows
/-- an object that is known and stays; a cell that is known for a while -/
abbrev fz (o : Obj) : HO := .frz o (.own 0)
abbrev fc (o : Obj) : HO := .frz o (.own 1)
def dropC (cs : List Addr) (H : Hp) : Hp := fun b => if b ∈ cs then none else H b
def frzC (h : Heap) (cs : List Addr) (H : Hp) : Hp := fun b => if b ∈ cs then (h.get? b).map fc else H b
def backC (cs : List Addr) (H H2 : Hp) : Hp := fun b => if b ∈ cs then H b else H2 b
section
variable {cs : List Addr} {H H' H2 : Hp} {h h' : Heap} {b : Addr}
theorem dropC_in (e : b ∈ cs) : dropC cs H b = none := if_pos e
theorem dropC_out (e : b ∉ cs) : dropC cs H b = H b := if_neg e
theorem frzC_in {o : Obj} (e : b ∈ cs) (q : h.get? b = some o) : frzC h cs H b = some (fc o) := by unfold frzC; rw [if_pos e, q]; rfl
theorem frzC_out (e : b ∉ cs) : frzC h cs H b = H b := if_neg e
theorem backC_in (e : b ∈ cs) : backC cs H H2 b = H b := if_pos e
theorem backC_out (e : b ∉ cs) : backC cs H H2 b = H2 b := if_neg e
/-- the cells are there, untracked -/
def CellsIn (cs : List Addr) (H : Hp) (h : Heap) : Prop := ∀ c ∈ cs, H c = none ∧ ∃ o, h.get? c = some o
/-- the cells are known -/
def CellsAt (cs : List Addr) (H : Hp) : Prop := ∀ c ∈ cs, ∃ o, H c = some (fc o)
theorem CellsIn.frz (x : CellsIn cs H h) : CellsAt cs (frzC h cs H) := fun c hc => let ⟨_, o, e⟩ := x c hc; ⟨o, frzC_in hc e⟩
theorem out_of {u : HO} (x : CellsIn cs H h) (e : H b = some u) : b ∉ cs := fun z => by rw [(x b z).1] at e; cases e
theorem out_at {u : HO} (x : CellsAt cs H) (e : H b = some u) (n : ∀ o, u ≠ fc o) : b ∉ cs := fun z => by
  obtain ⟨o, q⟩ := x b z
  rw [q] at e
  cases e
  exact n o rfl
variable {P : Program} {w : World} {fs : List Addr}
theorem hok_frz (x : CellsIn cs H h) (ok : HOk P w H h) : HOk P w (frzC h cs H) h := fun b u q => by
  by_cases hb : b ∈ cs
  · obtain ⟨_, o, e⟩ := x b hb
    rw [frzC_in hb e] at q
    cases q
    exact ⟨e, o, e⟩
  · rw [frzC_out hb] at q
    exact (ok b u q).stay (fun _ _ _ z => z) (fun c z => by rw [frzC_out (out_of x z)]; exact z) (fun c xs z => by rw [frzC_out (out_of x z)]; exact z) fun c ob z => by rw [frzC_out (out_of x z)]; exact z
theorem un_frz (x : CellsIn cs H h) (u : Un fs [] (frzC h cs H) H' h h') (ok : HOk P w H' h') : Un fs [] H (dropC cs H') h h' where
  keep := fun b o e n hb he => by
    by_cases hc : b ∈ cs
    · have q := u.frzs b o _ (frzC_in (H := H) hc e)
      exact (ok b _ q).1
    · exact u.keep b o e (by rw [frzC_out hc]; exact n) hb he
  slot := fun b o e n hb he => by
    by_cases hc : b ∈ cs
    · have q := u.frzs b o _ (frzC_in (H := H) hc e)
      exact ⟨o.slots, (ok b _ q).1⟩
    · exact u.slot b o e (by rw [frzC_out hc]; exact n) hb he
  free := fun b o e n he => by
    by_cases hc : b ∈ cs
    · exact dropC_in hc
    · rw [dropC_out hc]
      exact u.free b o e (by rw [frzC_out hc]; exact n) he
  there := u.there
  tups := fun b xs q => by
    have hc := out_of x q
    rw [dropC_out hc]
    exact u.tups b xs (by rw [frzC_out hc]; exact q)
  frzs := fun b o v q => by
    have hc := out_of x q
    rw [dropC_out hc]
    exact u.frzs b o v (by rw [frzC_out hc]; exact q)
  tbls := fun b ps q => by
    have hc := out_of x q
    obtain ⟨m, e⟩ := u.tbls b ps (by rw [frzC_out hc]; exact q)
    exact ⟨m, by rw [dropC_out hc]; exact e⟩
theorem hok_drop (x : CellsAt cs H') (ok : HOk P w H' h') : HOk P w (dropC cs H') h' := fun b u q => by
  by_cases hb : b ∈ cs
  · rw [dropC_in hb] at q
    cases q
  · rw [dropC_out hb] at q
    exact (ok b u q).stay (fun _ _ _ z => z) (fun c z => by rw [dropC_out (out_at x z fun _ => by simp)]; exact z) (fun c xs z => by rw [dropC_out (out_at x z fun _ => by simp)]; exact z)
      fun c ob z => by rw [dropC_out (out_at x z fun _ => by simp)]; exact z
theorem at_of_un (x : CellsAt cs H) (u : Un fs [] H H' h h') : CellsAt cs H' := fun c hc => let ⟨o, e⟩ := x c hc; ⟨o, u.frzs c o _ e⟩
/-- into the lambda's body and back: the cells are not tracked there -/
theorem un_back (x : CellsAt cs H) (u : Un fs [] (dropC cs H) H2 h h') : Un fs [] H (backC cs H H2) h h' := by
  have out : ∀ {b : Addr}, H b = none → b ∉ cs := fun {b} n z => by obtain ⟨o, e⟩ := x b z; rw [n] at e; cases e
  refine ⟨fun b o e n hb he => u.keep b o e (by rw [dropC_out (out n)]; exact n) hb he, fun b o e n hb he => u.slot b o e (by rw [dropC_out (out n)]; exact n) hb he,
    fun b o e n he => by rw [backC_out (out n)]; exact u.free b o e (by rw [dropC_out (out n)]; exact n) he, u.there, fun b xs q => ?_, fun b o v q => ?_, fun b ps q => ?_⟩
  · have hc := out_at x q fun _ => by simp
    rw [backC_out hc]
    exact u.tups b xs (by rw [dropC_out hc]; exact q)
  · by_cases hc : b ∈ cs
    · rw [backC_in hc]; exact q
    · rw [backC_out hc]; exact u.frzs b o v (by rw [dropC_out hc]; exact q)
  · have hc := out_at x q fun _ => by simp
    obtain ⟨m, e⟩ := u.tbls b ps (by rw [dropC_out hc]; exact q)
    exact ⟨m, by rw [backC_out hc]; exact e⟩
theorem hok_back (x : CellsAt cs H) (ok0 : HOk P w H h) (nf : ∀ c ∈ cs, c ∉ fs) (u : Un fs [] (dropC cs H) H2 h h') (ok : HOk P w H2 h') : HOk P w (backC cs H H2) h' := by
  have no : ∀ c ∈ cs, H2 c = none := fun c hc => by
    obtain ⟨o, e⟩ := x c hc
    exact u.free c o (ok0 c _ e).1 (dropC_in hc) (by simp)
  have out : ∀ {b : Addr} {v : HO}, H2 b = some v → b ∉ cs := fun {b v} e z => by rw [no b z] at e; cases e
  intro b v q
  by_cases hc : b ∈ cs
  · rw [backC_in hc] at q
    obtain ⟨o, e⟩ := x b hc
    rw [q] at e
    cases e
    have e2 := u.keep b o (ok0 b _ q).1 (dropC_in hc) (nf b hc) (by simp)
    exact ⟨e2, o, e2⟩
  · rw [backC_out hc] at q
    exact (ok b v q).stay (fun _ _ _ z => z) (fun c z => by rw [backC_out (out z)]; exact z) (fun c xs z => by rw [backC_out (out z)]; exact z) fun c ob z => by rw [backC_out (out z)]; exact z
end
/-- a call's end, seen with the cells known -/
theorem cr_back {P : Program} {w : World} {outer : List Env} {cs : List Addr} {H : Hp} {s s' : Shared} {Q Q' : VK} {E E' : XK} {r : Result} (x : CellsAt cs H) (ok0 : HOk P w H s.heap) (nf : ∀ c ∈ cs, c ∉ frs outer)
    (hQ : ∀ v H2, (∀ c ∈ cs, H2 c = none) → Q v H2 → Q' v (backC cs H H2)) (hE : ∀ c d H2, (∀ c ∈ cs, H2 c = none) → E c d H2 → E' c d (backC cs H H2))
    (h : CR (CX1 P w) outer P w (dropC cs H) s Q E r s') : CR (CX1 P w) outer P w H s Q' E' r s' := by
  have no : ∀ {H2 : Hp}, Un (frs outer) [] (dropC cs H) H2 s.heap s'.heap → ∀ c ∈ cs, H2 c = none := fun u c hc => by
    obtain ⟨o, e⟩ := x c hc
    exact u.free c o (ok0 c _ e).1 (dropC_in hc) (by simp)
  cases r with
  | error e =>
    obtain ⟨y, C, H2, rfl, ⟨B, a0, F⟩, hx⟩ := h
    refine ⟨y, C, backC cs H H2, rfl, ⟨B, a0, F.os, F.bare, un_back x F.un, hok_back x ok0 nf F.un F.hok, F.fl, fun b u q => ?_, F.pre⟩, hE _ _ _ (no F.un) hx⟩
    by_cases hc : b ∈ cs
    · obtain ⟨o, e⟩ := x b hc
      exact F.pre b o (ok0 b _ e).1 (nf b hc)
    · rw [backC_out hc] at q
      exact F.tr b u q
  | ok fl =>
    cases fl with
    | ret u =>
      obtain ⟨v, H2, os, bare, un, hok, rv, q⟩ := h
      exact ⟨v, backC cs H H2, os, bare, un_back x un, hok_back x ok0 nf un hok, rv, hQ v H2 (no un) q⟩
    | next => exact h
    | brk => exact h
    | cont => exact h
end L2

set_option Elab.async false
set_option linter.all false
set_option maxRecDepth 100000
set_option maxHeartbeats 4000000
/-! ### a lambda without arguments, handed to a def that calls it -/
namespace L2
open PySem PySem.Spec PyProof.Rows
abbrev Sp0 := Hp → VK → XK → Prop
/-- the context of a lambda's body -/
def cxLam (P : Program) (w : World) (K : PySem.W.Frag) (mg : Str → Option Value) (base : Heap) (N : List Str) (qual : Str) (scope : Scope) (cl : List (Str × Addr)) (f : Addr) (cd : Value) (A : Around) (outer : List Env) (s : Shared) (H : Hp) (E : XK) : Cx where
  prog := P
  w := w
  K := K
  mg := mg
  base := base
  A := A.deeper (PySem.W.envX qual scope s.heap.objs.size f cd cl)
  N := N
  s₀ := s
  H₀ := H
  env := PySem.W.envX qual scope s.heap.objs.size f cd cl
  outer := outer
  stack := PySem.W.envX qual scope s.heap.objs.size f cd cl :: outer
  ex := []
  calm := true
  fn := fun _ => false
  pn := []
  xe := fun e s' => wpAny (model P w) (A.deeper (PySem.W.envX qual scope s.heap.objs.size f cd cl)) (leaving (PySem.W.envX qual scope s.heap.objs.size f cd cl) e) (fun _ s'' => CX1 P w outer H s E e s'') (fun e' s'' => CX1 P w outer H s E e' s'') s'
section
variable {P : Program} {w : World} {K : PySem.W.Frag} {mg : Str → Option Value} {base : Heap} {N : List Str} {qual : Str} {scope : Scope} {cl : List (Str × Addr)} {f c' : Addr} {cd : Value}
/-- what the call of the lambda promises -/
def spLam (cs : List Addr) (Hc : Hp) (f c' : Addr) (te : XK → TE) (σl : St) : Sp0 := fun H' Q' E' => H' f = Hc f ∧ H' c' = Hc c' ∧ (∀ c ∈ cs, H' c = Hc c) ∧ ∃ Qu Eu, te Eu σl (dropC cs H') Qu ∧
  (∀ v H2, (∀ c ∈ cs, H2 c = none) → Qu v H2 → Q' v (backC cs H' H2)) ∧ (∀ c d H2, (∀ c ∈ cs, H2 c = none) → Eu c d H2 → E' c d (backC cs H' H2))
end
/-! ### the lambda is made -/
structure LamB (mg : Str → Option Value) (base : Heap) (c P : Addr) : Prop where
  cd : PySem.W.CodeHd base c P
  bm : ∃ bm ob, mg "__builtins__" = some (.ref bm) ∧ bm ≠ builtinsNs ∧ base.get? bm = some ob ∧ ob.cls = .type "module" ∧ ob.dict = some builtinsNs ∧ ob.data = .plain
theorem among_snoc {pos : Pos} {a b : Nat} {c cv : Value} : ∀ (l : List Value), TriplesOk l → codeAmong pos (l ++ [rawInt a, rawInt b, c]) = some cv → codeAmong pos l = some cv ∨ cv = c := fun l => by
  fun_induction TriplesOk l with
  | case1 =>
    intro _ h
    right
    simp only [List.nil_append, rawInt, codeAmong] at h
    split at h
    · exact (Option.some.inj h).symm
    · cases h
  | case2 i1 t1 i2 t2 v rest ih =>
    intro ok h
    simp only [List.cons_append, codeAmong] at h ⊢
    split at h
    · rename_i z
      rw [if_pos z]
      exact .inl h
    · rename_i z
      rw [if_neg z]
      exact ih ok h
  | case3 l h1 h2 => intro ok; exact ok.elim
theorem triples_snoc {a b : Nat} {c : Value} : ∀ (l : List Value), TriplesOk l → TriplesOk (l ++ [rawInt a, rawInt b, c]) := fun l => by
  fun_induction TriplesOk l with
  | case1 => intro _; exact True.intro
  | case2 i1 t1 i2 t2 v rest ih => intro ok; exact ih ok
  | case3 l h1 h2 => intro ok; exact ok.elim
section
variable {X : Cx} {pins : List (Addr × Obj)} {σ : St} {H : Hp} {s : Shared} {c P : Addr} {q : Str} {params : Arguments} {body : Expr} {scope : Scope} {pos : Pos} {cl : List (Str × Addr)}
theorem lam_made {E : Value → Shared → Prop} {M : Model} {A : Around} (L : LamB X.mg X.base c P) (hcode : X.env.code = .ref c) (hq : X.env.qual ++ "<lambda>" = q) (hdef : defaultsOf params X.env = ([], [])) (hcl : closureFor scope X.env = pure cl) (I : Inv X pins σ H s) (hP : H P = some (.tab q)) :
    wpAny M A (eval (.Lambda params body scope pos) X.env) (fun v s1 => ∃ f c' oc vs t pm ctv H1, v = .ref f ∧ Inv X pins σ H1 s1 ∧ Same H H1 ∧ H1 f = some (fz (PySem.W.kla_obj "<lambda>" q params body scope cl pm c' ctv)) ∧ H1 c' = some (fz oc) ∧ oc.data = .fields vs ∧ vs[1]? = some (.str q t)) E s := by
  refine PySem.W.kla_eval hdef ?_
  rw [hq]
  obtain ⟨ps, eP, tr, cs⟩ := I.hok P _ hP
  have hgs : s.heap.Ns mainGlobals X.mg := I.mod.glob.keeps I.bk
  obtain ⟨bm, ob, b1, b2, b3, b4, b5, b6⟩ := L.bm
  have hgP : mainGlobals ≠ P := fun z => by
    obtain ⟨o, es, ep, e, hd, _⟩ := hgs
    rw [z, eP] at e; cases e; cases hd
  have hbP : bm ≠ P := fun z => by
    have e := I.bk _ _ b3
    rw [z, eP] at e; cases e; cases b4
  have hbG : bm ≠ mainGlobals := fun z => by
    obtain ⟨o, es, ep, e, hd, _⟩ := I.mod.glob
    rw [z, e] at b3; cases b3; rw [hd] at b6; cases b6
  have hB : s.heap.BuiltinsAt X.mg P := ⟨bm, ob, b1, b2, hbG, hbP, I.bk _ _ b3, b4, b5, b6⟩
  cases hf : codeAmong pos ps.toList with
  | some cv =>
    obtain ⟨c', oc, vs, t, rfl, e1, e2, e3⟩ := cs pos cv hf
    refine PySem.W.kla_makeFunctionHit hcl I.ok.glob hgs hcode (L.cd.keeps I.bk) eP tr hf hB fun ctv h' tk hk hsz => ?_
    have hn : H h'.objs.size = none := I.hok.fresh hsz
    refine ⟨h'.objs.size, c', oc, vs, t, (X.mg "__name__").getD .none, ctv, upd H h'.objs.size (fz _), rfl, I.laid (t' := tk) (fun b u e => Heap.get?_push_of_some _ (hk b u e)) hsz ⟨Heap.get?_push_size _ rfl, _, Heap.get?_push_size _ rfl⟩, same_new hn _, upd_same, ?_, e2, e3⟩
    rw [upd_ne (ne_of_none e1 hn)]
    exact e1
  | none =>
    refine PySem.W.kla_makeFunction hcl I.ok.glob hgs hcode (L.cd.keeps I.bk) eP tr hf hgP hB fun c' ctv h' tk hx hge hlt hrec htb => ?_
    obtain ⟨c2, oc, vs, t, e2, hoc, hd, hv⟩ := hrec
    cases e2
    generalize hfo : PySem.W.kla_obj "<lambda>" q params body scope cl ((X.mg "__name__").getD .none) c' ctv = fo
    have hn1 : H c' = none := I.hok.fresh hge
    have hsz : s.heap.objs.size ≤ h'.objs.size := Nat.le_of_lt (Nat.lt_of_le_of_lt hge hlt)
    have hfc : h'.objs.size ≠ c' := Nat.ne_of_gt hlt
    have hn2 : upd H c' (fz oc) h'.objs.size = none := by rw [upd_ne hfc]; exact I.hok.fresh hsz
    have sm : Same H (upd (upd H c' (fz oc)) h'.objs.size (fz fo)) := (same_new hn1 _).trans (same_new hn2 _)
    have kp : ∀ b o, b ≠ P → s.heap.get? b = some o → (h'.push fo).get? b = some o := fun b o hb e => Heap.get?_push_of_some _ (hx b o hb e)
    have nP : ∀ b, H b = none → b ≠ P := fun b n z => by rw [z, hP] at n; cases n
    have new : ∀ b o, s.heap.get? b = some o → upd (upd H c' (fz oc)) h'.objs.size (fz fo) b = H b := fun b o e => by
      have l := Heap.lt_size e
      rw [upd_ne (Nat.ne_of_lt (Nat.lt_of_lt_of_le l hsz)), upd_ne (Nat.ne_of_lt (Nat.lt_of_lt_of_le l hge))]
    have eP2 : (h'.push fo).get? P = some { cls := .none, data := .fields (ps ++ #[rawInt pos.line, rawInt pos.col, .ref c']) } := Heap.get?_push_of_some _ htb
    have c'P : c' ≠ P := fun z => by rw [z, hP] at hn1; cases hn1
    refine ⟨h'.objs.size, c', oc, vs, t, (X.mg "__name__").getD .none, ctv, upd (upd H c' (fz oc)) h'.objs.size (fz fo), rfl, I.un (h' := h'.push fo) (t' := tk) ⟨fun b o e n _ _ => kp b o (nP b n) e, fun b o e n _ _ => ⟨o.slots, kp b o (nP b n) e⟩, fun b o e n _ => by rw [new b o e]; exact n, fun b o e _ => ?_, fun b xs z => sm b _ z, fun b o u z => sm b _ z, fun b ps z => ⟨#[], by rw [sm b _ z]; simp⟩⟩ fun b u z => ?_, sm, by rw [hfo]; exact upd_same, by rw [upd_ne (Ne.symm hfc)]; exact upd_same, hd, hv⟩
    · by_cases hb : b = P
      · rw [hb]; exact ⟨_, eP2⟩
      · exact ⟨o, kp b o hb e⟩
    · by_cases hb : b = h'.objs.size
      · rw [hb, upd_same] at z
        cases z
        rw [hb]
        exact ⟨Heap.get?_push_size _ (by rw [← hfo]; rfl), _, Heap.get?_push_size _ (by rw [← hfo]; rfl)⟩
      · rw [upd_ne hb] at z
        by_cases hc : b = c'
        · rw [hc, upd_same] at z
          cases z
          rw [hc]
          exact ⟨Heap.get?_push_of_some _ hoc, _, Heap.get?_push_of_some _ hoc⟩
        · rw [upd_ne hc] at z
          by_cases hbP' : b = P
          · subst hbP'
            rw [hP] at z
            cases z
            refine ⟨_, eP2, ?_, fun pos2 cv h2 => ?_⟩
            · rw [Array.toList_append]
              exact triples_snoc _ tr
            · rw [Array.toList_append] at h2
              rcases among_snoc _ tr h2 with h3 | h3
              · obtain ⟨c3, oc3, vs3, t3, g1, g2, g3⟩ := cs pos2 cv h3
                exact ⟨c3, oc3, vs3, t3, g1, sm _ _ g2, g3⟩
              · exact ⟨c', oc, vs, t, h3, by rw [upd_ne (Ne.symm hfc)]; exact upd_same, hd, hv⟩
          · refine (I.hok b u z).stay (fun d v hdd e => kp d v ?_ e) (fun d e => sm _ _ e) (fun d xs e => sm _ _ e) fun d ob e => sm _ _ e
            rcases hdd with y | y
            · rw [y]; exact hbP'
            · intro y2
              rw [y2, hP] at y
              cases y
end
end L2

set_option Elab.async false
set_option linter.all false
set_option maxRecDepth 100000
set_option maxHeartbeats 4000000
namespace L2
open PySem PySem.Spec PyProof.Rows
theorem drop_frz {cs : List Addr} {H : Hp} {h : Heap} (x : CellsIn cs H h) : dropC cs (frzC h cs H) = H := by
  funext b
  by_cases hb : b ∈ cs
  · rw [dropC_in hb, (x b hb).1]
  · rw [dropC_out hb, frzC_out hb]
theorem drop_back {cs : List Addr} {H H2 : Hp} (x : ∀ c ∈ cs, H2 c = none) : dropC cs (backC cs H H2) = H2 := by
  funext b
  by_cases hb : b ∈ cs
  · rw [dropC_in hb, x b hb]
  · rw [dropC_out hb, backC_out hb]
/-! ### the closure is called, within a try -/
/-! ### isinstance(x, c): c by its name -/
end L2

set_option Elab.async false
set_option linter.all false
set_option maxRecDepth 100000
set_option maxHeartbeats 4000000
/-! ### the head of a law one of whose defs makes lambdas -/
namespace L2
open PySem PySem.Spec PyProof.Rows
def qLam (x : Str) : Str := (x ++ ".<locals>.") ++ "<lambda>"
/-- the def by the name x: its code, its table of lambdas -/
structure LamFor (mg : Str → Option Value) (base : Heap) (x : Str) (c P : Addr) : Prop where
  fn : ∃ f o fd, mg x = some (.ref f) ∧ base.get? f = some o ∧ o.data = .func fd ∧ fd.code = .ref c
  lb : LamB mg base c P
theorem FunAt.calL {P : Program} {w : World} {K : PySem.W.Frag} {mg : Str → Option Value} {base : Heap} {x : Str} {ps N : List Str} {st : Stmt} {k : Nat} {sp : Sp} {c T : Addr} (F : FunAt K mg x ps st) (kb : K.In base) (L : LamFor mg base x c T) (S : FnScope N ps (defScope st)) (len : ∀ vs H Q E, sp vs H Q E → vs.length = ps.length)
    (hbody : ∀ (f : Addr) (A : Around) (outer : List Env) (s : Shared) (H : Hp) (vs : List V) (Q : VK) (E : XK), Room k (A.deeper (envOfC x (defScope st) s.heap.objs.size f (.ref c))) → sp vs H Q E →
      ∃ t, PSs (cxOf CX0 P w K mg base N x (defScope st) f (.ref c) A outer s H E).nox (defBody st) t ∧ t { nx := fun _ H' => Q .non H', rt := Q } (start N vs) H) : Cal P w K mg base x ps (k + 1) sp := by
  obtain ⟨f, fd, F1, m, b⟩ := F.ex
  refine ⟨f, fd, ?_, m, F1.kp, b⟩
  obtain ⟨oc, od, kV, doc, pm, an, cdv, ct, osl, rfl, lk, hcd⟩ := F1.ex
  have e : cdv = .ref c := by
    obtain ⟨f2, o2, fd2, m2, g2, d2, c2⟩ := L.fn
    rw [m] at m2
    cases m2
    rw [kb _ _ lk] at g2
    cases g2
    cases d2
    exact c2
  subst e
  refine fn_of lk hcd S len fun A outer s H vs Q E hr hsp => ?_
  obtain ⟨t, h, q⟩ := hbody f A outer s H vs Q E hr hsp
  exact ⟨t, h.nox, q⟩
theorem law_callT {P : Program} {w : World} {K : PySem.W.Frag} {mg mb : Str → Option Value} {k : Nat} {fa a : Addr} {fd : FuncData} {x : Str} {sp : Sp} {s₁ : Shared} {vs : List Value} {ns : List Int} {lams : List Str} {cp : Str → Addr × Addr}
    (KX : K.In s₁.heap) (hns : s₁.heap.Ns mainGlobals mg) (hb : s₁.heap.Ns builtinsNs mb) (hbb : ∀ x : Str, x ≠ "__name__" → mb x = bootBuiltins x) (hlim : s₁.heap.NoLimit) (hg : s₁.gens = #[])
    (hbm : ∃ bm ob, mg "__builtins__" = some (.ref bm) ∧ bm ≠ builtinsNs ∧ s₁.heap.get? bm = some ob ∧ ob.cls = .type "module" ∧ ob.dict = some builtinsNs ∧ ob.data = .plain)
    (ha : s₁.heap.get? a = some { cls := .type "list", data := .seq vs.toArray }) (hi : IntsAre vs ns) (hl : ns.length ≤ sizeLine) (hr : Room k callerA) (noT : PySem.W.noTabs K = true)
    (hT : ∀ y ∈ lams, (∃ f o fd, mg y = some (.ref f) ∧ s₁.heap.get? f = some o ∧ o.data = .func fd ∧ fd.code = .ref (cp y).1) ∧ PySem.W.CodeHd s₁.heap (cp y).1 (cp y).2 ∧ s₁.heap.get? (cp y).2 = some (PySem.W.tabObj #[]))
    (hinj : ∀ y ∈ lams, ∀ z ∈ lams, (cp y).2 = (cp z).2 → y = z)
    (F : ∀ base : Heap, K.In base → base.Ns mainGlobals mg → (∀ y ∈ lams, LamFor mg base y (cp y).1 (cp y).2) → FnOk P w K mg base CX0 k fa fd [x] sp) (hbind : ∀ (s : Shared) (u : Value), BindsTo s fd ⟨[u], []⟩ [(x, u)])
    (hsp : ∀ H : Hp, SqL K H a (ns.map V.int) → (∀ y ∈ lams, H (cp y).2 = some (.tab (qLam y))) → sp [.ref a] H (fun v H' => v = .bl true ∧ ∀ y ∈ lams, H' (cp y).2 = some (.tab (qLam y))) fun _ _ _ => False) :
    codeAny (model P w) callerA (.call (.ref fa) ⟨[.ref a], []⟩) (fun r s' => r = .ok (.ret (.bool true)) ∧ OldK s₁.heap s'.heap ∧ s'.os = s₁.os ∧ AllBare s'.gens) s₁ := by
  have rv := vals_ints hi
  have lenV := hi.length
  have kT : ∀ y ∈ lams, K.lookup (cp y).2 = none := fun y hy => by
    cases e : K.lookup (cp y).2 with
    | none => rfl
    | some o =>
      have e2 := KX _ _ e
      rw [(hT y hy).2.2] at e2
      cases e2
      have := List.all_eq_true.mp noT _ (PySem.W.mem_of_lookupK e)
      exact absurd (show false = true from this) Bool.false_ne_true
  have aT : ∀ y ∈ lams, (cp y).2 ≠ a := fun y hy z => by
    have e := (hT y hy).2.2
    rw [z, ha] at e
    cases e
  have core : ∀ H : Hp, SqL K H a (ns.map V.int) → (∀ y ∈ lams, H (cp y).2 = some (.tab (qLam y))) → HOk P w H s₁.heap → (∀ b u, H b = some u → (b = a ∧ K.lookup a = none ∧ ∃ o v, u = .frz o v) ∨ ∃ y ∈ lams, b = (cp y).2) →
      codeAny (model P w) callerA (.call (.ref fa) ⟨[.ref a], []⟩) (fun r s' => r = .ok (.ret (.bool true)) ∧ OldK s₁.heap s'.heap ∧ s'.os = s₁.os ∧ AllBare s'.gens) s₁ := by
    intro H hS hTab hok hA
    have non : ∀ {b : Addr} {o : Obj}, s₁.heap.get? b = some o → (∀ ps, o ≠ PySem.W.tabObj ps) → (K.lookup a = none → b ≠ a) → H b = none := fun {b o} e n na => by
      cases q : H b with
      | none => rfl
      | some u =>
        rcases hA b u q with ⟨z, kz, _⟩ | ⟨y, hy, z⟩
        · exact absurd z (na kz)
        · rw [z, (hT y hy).2.2] at e
          cases e
          exact absurd rfl (n #[])
    have noA : ∀ {b : Addr} {o : Obj} {es : Array DictEntry} {ep : Nat}, s₁.heap.get? b = some o → o.data = .dict es ep → H b = none := fun {b o es ep} e d => by
      refine non e (fun ps z => by rw [z] at d; cases d) fun _ z => ?_
      rw [z, ha] at e
      cases e
      cases d
    have nsK : ∀ {b : Addr} {m : Str → Option Value}, s₁.heap.Ns b m → (hidT s₁.heap H).Ns b m := fun {b m} ⟨o, es, ep, e, d, r⟩ => ⟨o, es, ep, hidT_get e (noA e d), d, r⟩
    have hKb : K.In (hidT s₁.heap H) := fun b o e => hidT_get (KX b o e) (by
      cases q : H b with
      | none => rfl
      | some u =>
        rcases hA b u q with ⟨z, kz, _⟩ | ⟨y, hy, z⟩
        · rw [z, kz] at e; cases e
        · rw [z, kT y hy] at e; cases e)
    have hM : Mod K mg (hidT s₁.heap H) := ⟨hKb, nsK hns, ⟨mb, nsK hb, hbb⟩, let ⟨mc, h1, h2⟩ := hlim; ⟨mc, nsK h1, h2⟩⟩
    have e0 : Env0 P w K mg (hidT s₁.heap H) callerA [] s₁ H := ⟨rfl, hM, fun b o e => of_hidT e, Nat.le_of_eq (hidT_size _ _), trivial, fun b hb => absurd (show b ∈ ([] : List Addr) from hb) (by simp), hok, .of_eq hg⟩
    have lamB : ∀ y ∈ lams, LamFor mg (hidT s₁.heap H) y (cp y).1 (cp y).2 := fun y hy => by
      obtain ⟨⟨f, o, fd', m1, g1, d1, c1⟩, ⟨o2, vs2, file, tf, flags, tg, inF, text, tt, p1, p2, p3, r⟩, _⟩ := hT y hy
      obtain ⟨bm, ob, q1, q2, q3, q4, q5⟩ := hbm
      refine ⟨⟨f, o, fd', m1, hidT_get g1 (non g1 (fun ps z => by rw [z] at d1; cases d1) fun _ z => by rw [z, ha] at g1; cases g1; cases d1), d1, c1⟩, ⟨o2, vs2, file, tf, flags, tg, inF, text, tt, hidT_get p1 (non p1 (fun ps z => by rw [z] at p2; cases p2) fun _ z => by rw [z, ha] at p1; cases p1; exact absurd p2 (by simp)), p2, p3, r⟩, bm, ob, q1, q2, hidT_get q3 (non q3 (fun ps z => by rw [z] at q4; cases q4) fun _ z => by rw [z, ha] at q3; cases q3; exact absurd q4 (by simp)), q4, q5⟩
    refine codeAny_mono ((F _ hKb (nsK hns) lamB).run callerA [] s₁ H ⟨[.ref a], []⟩ [.ref a] [.ref a] _ _ hr e0 (hbind s₁ (.ref a)) (.cons rfl .nil) (hsp H hS hTab)) fun r s' h => ?_
    cases r with
    | error e => exact False.elim h
    | ok fl =>
      cases fl with
      | next => exact False.elim h
      | brk => exact False.elim h
      | cont => exact False.elim h
      | ret u =>
        obtain ⟨v, H', os, bare, un, hok', r', q⟩ := h
        obtain ⟨q', qT⟩ : v = .bl true ∧ ∀ y ∈ lams, H' (cp y).2 = some (.tab (qLam y)) := q
        subst q'
        obtain rfl : u = Value.bool true := r'
        refine ⟨rfl, ⟨fun b o e => ?_, fun b o e => un.there b o e (by simp)⟩, os, bare⟩
        cases q : H b with
        | none => exact .inl (un.keep b o e q (by intro z; exact absurd (show b ∈ ([] : List Addr) from z) (by simp)) (by simp))
        | some u =>
          rcases hA b u q with ⟨z, kz, ob, v, rfl⟩ | ⟨y, hy, z⟩
          · have z2 := un.frzs b ob _ q
            obtain ⟨e1, _⟩ := hok b _ q
            obtain ⟨e2, _⟩ := hok' b _ z2
            rw [e] at e1; cases e1
            exact .inl e2
          · subst z
            have e2 := (hT y hy).2.2
            rw [e] at e2
            cases e2
            obtain ⟨ps, e3, _⟩ := hok' _ _ (qT y hy)
            exact .inr (.inl ⟨((hT y hy).2.1.tab (hT y hy).2.2).isCodeTable, rfl, #[], ps, rfl, by rw [Array.empty_append]; exact e3⟩)
  have fnd : ∀ y ∈ lams, lams.find? (fun z => decide ((cp z).2 = (cp y).2)) = some y := fun y hy => by
    cases e : lams.find? (fun z => decide ((cp z).2 = (cp y).2)) with
    | none => exact absurd (decide_eq_true rfl) (List.find?_eq_none.mp e y hy)
    | some z =>
      have h1 := List.mem_of_find?_eq_some e
      have h2 := of_decide_eq_true (List.find?_some (p := fun z => decide ((cp z).2 = (cp y).2)) e)
      rw [hinj z h1 y hy h2]
  have tabOk : ∀ (H : Hp) (y : Str), y ∈ lams → ObjOk P w H s₁.heap (cp y).2 (.tab (qLam y)) := fun H y hy => ⟨#[], (hT y hy).2.2, True.intro, fun pos cv h => by cases (show (none : Option Value) = some cv from h)⟩
  cases hk : K.lookup a with
  | some o =>
    have e := KX a o hk
    rw [ha] at e
    cases e
    refine core (fun b => (lams.find? fun z => decide ((cp z).2 = b)).map fun y => .tab (qLam y)) (.inr ⟨_, vs.toArray, _, hk, rfl, rfl, rfl, by rw [List.size_toArray, lenV]; exact hl, by simpa using rv⟩) (fun y hy => by rw [fnd y hy]; rfl) (fun b u z => ?_) fun b u z => ?_
    · obtain ⟨y, e1, rfl⟩ := Option.map_eq_some_iff.mp z
      have h1 := List.mem_of_find?_eq_some e1
      have h2 := of_decide_eq_true (List.find?_some (p := fun z => decide ((cp z).2 = b)) e1)
      rw [← h2]
      exact tabOk _ y h1
    · obtain ⟨y, e1, rfl⟩ := Option.map_eq_some_iff.mp z
      exact .inr ⟨y, List.mem_of_find?_eq_some e1, (of_decide_eq_true (List.find?_some (p := fun z => decide ((cp z).2 = b)) e1)).symm⟩
  | none =>
    refine core (fun b => if b = a then some (.frz { cls := .type "list", data := .seq vs.toArray } (.lst (ns.map V.int))) else (lams.find? fun z => decide ((cp z).2 = b)).map fun y => .tab (qLam y)) (.inl (.inr ⟨{ cls := .type "list", data := .seq vs.toArray }, if_pos rfl⟩)) (fun y hy => by rw [if_neg (aT y hy), fnd y hy]; rfl) (fun b u z => ?_) fun b u z => ?_
    · by_cases hb : b = a
      · have z' := (if_pos hb).symm.trans z
        cases z'
        subst hb
        exact ⟨ha, by rw [List.length_map]; exact hl, vs, _, rv, ha⟩
      · have z' := (if_neg hb).symm.trans z
        obtain ⟨y, e1, rfl⟩ := Option.map_eq_some_iff.mp z'
        have h1 := List.mem_of_find?_eq_some e1
        have h2 := of_decide_eq_true (List.find?_some (p := fun z => decide ((cp z).2 = b)) e1)
        rw [← h2]
        exact tabOk _ y h1
    · by_cases hb : b = a
      · have z' := (if_pos hb).symm.trans z
        cases z'
        exact .inl ⟨hb, hk, _, _, rfl⟩
      · have z' := (if_neg hb).symm.trans z
        obtain ⟨y, e1, rfl⟩ := Option.map_eq_some_iff.mp z'
        exact .inr ⟨y, List.mem_of_find?_eq_some e1, (of_decide_eq_true (List.find?_some (p := fun z => decide ((cp z).2 = b)) e1)).symm⟩
theorem walk_ofT {l : PySem.W.OpenLaw} {n k : Nat} {q : Program} {loose : List Str} {XP : (Str → Option Value) → Heap → Prop} {YP : World → Heap → Prop} {d : DefRec} {K : Params → PySem.W.Frag} {sp : World → (Str → Addr × Addr) → Sp} {x : Str} {lams : List Str}
    (hn : l.most = some n) (hn2 : n ≤ sizeLine) (hdf : d.params.defaults = []) (hr : Room k callerA) (noT : ∀ p, PySem.W.noTabs (K p) = true) (hlam : ∀ y ∈ lams, ∃ e ∈ recsOf q, e.name = y)
    (hY : ∀ (w : World) (h : Heap), YP w h → (K w.params).In h)
    (hinj : ∀ (w : World) (mg : Str → Option Value) (h : Heap) (cp : Str → Addr × Addr), (K w.params).In h → h.Ns mainGlobals mg →
      (∀ y ∈ lams, (∃ f o fd, mg y = some (.ref f) ∧ h.get? f = some o ∧ o.data = .func fd ∧ fd.code = .ref (cp y).1) ∧ PySem.W.CodeHd h (cp y).1 (cp y).2 ∧ h.get? (cp y).2 = some (PySem.W.tabObj #[])) → ∀ y ∈ lams, ∀ z ∈ lams, (cp y).2 = (cp z).2 → y = z)
    (F : ∀ (w : World) (mg : Str → Option Value) (fa : Addr) (h : Heap), (K w.params).In h → h.Ns mainGlobals mg → mg d.name = some (.ref fa) →
      ∃ fd : FuncData, (∀ (s : Shared) (u : Value), BindsTo s fd ⟨[u], []⟩ [(x, u)]) ∧
        ∀ (cp : Str → Addr × Addr) (base : Heap), (K w.params).In base → base.Ns mainGlobals mg → (∀ y ∈ lams, LamFor mg base y (cp y).1 (cp y).2) → FnOk l.prog w (K w.params) mg base CX0 k fa fd [x] (sp w cp))
    (hsp : ∀ (w : World) (cp : Str → Addr × Addr) (H : Hp) (a : Addr) (ns : List Int), ns.length ≤ n → SqL (K w.params) H a (ns.map V.int) → (∀ y ∈ lams, H (cp y).2 = some (.tab (qLam y))) →
      sp w cp [.ref a] H (fun v H' => v = .bl true ∧ ∀ y ∈ lams, H' (cp y).2 = some (.tab (qLam y))) fun _ _ _ => False) :
    PySem.W.WalkO q loose XP YP l.row.toRowW d [] (fun f vs => PySem.call f vs) := by
  refine Att.attach_call hn hdf fun w s₀ s₁ mg mb fa o pm cd doc a vs ns G Y ho hd hcd hmg hobj hints hlen hg => ?_
  have KX := hY w _ Y
  obtain ⟨fd, hb, hF⟩ := F w mg fa _ KX G.T.g hmg
  have ex : ∀ y : Str, ∃ cp : Addr × Addr, y ∈ lams → (∃ f o fd, mg y = some (.ref f) ∧ s₁.heap.get? f = some o ∧ o.data = .func fd ∧ fd.code = .ref cp.1) ∧ PySem.W.CodeHd s₁.heap cp.1 cp.2 ∧ s₁.heap.get? cp.2 = some (PySem.W.tabObj #[]) := fun y => by
    by_cases hy : y ∈ lams
    · obtain ⟨e, he, rfl⟩ := hlam y hy
      obtain ⟨a', o', fd', c, P, h1, h2, h3, h4, h5, h6⟩ := G.T.tab e he
      exact ⟨(c, P), fun _ => ⟨⟨a', o', fd', h1, h2, h3, h4⟩, PySem.W.CodeHd.of h5 h6, h6.2⟩⟩
    · exact ⟨(0, 0), fun z => absurd z hy⟩
  obtain ⟨cp, hcp⟩ := Classical.axiomOfChoice ex
  exact law_callT KX G.T.g G.T.b G.T.builtins G.T.nolimit hg G.T.bmain hobj hints (Nat.le_trans hlen hn2) hr (noT _) hcp (hinj w mg _ cp KX G.T.g hcp) (hF cp) hb fun H hS hT => hsp w cp H a ns hlen hS hT
end L2
namespace L2
end L2

set_option Elab.async false
set_option linter.all false
set_option maxRecDepth 100000
set_option maxHeartbeats 4000000
namespace My
open PySem L2 MA
end My
namespace L2
end L2
namespace My
open PySem L2 MA
def spLawT (K : PySem.W.Frag) (T : Addr) (q : Str) : Sp := fun vs H Q _ => ∃ (a : Addr) (ns : List Int), vs = [.ref a] ∧ SqL K H a (ns.map V.int) ∧ ns.length ≤ 63 ∧ H T = some (.tab q) ∧ ∀ H', H' T = some (.tab q) → Q (.bl true) H'
end My
namespace My
open PySem L2 MA
theorem lam_rec {q : Program} {x : Str} {d : PySem.DefRec} (hr : (PyProof.Rows.recsOf q).find? (fun e => e.name == x) = some d) : ∃ e ∈ PyProof.Rows.recsOf q, e.name = x :=
  ⟨d, List.mem_of_find?_eq_some hr, beq_iff_eq.mp (List.find?_some (p := fun e : PySem.DefRec => e.name == x) hr)⟩
end My

set_option Elab.async false
set_option linter.all false
set_option maxRecDepth 100000
set_option maxHeartbeats 4000000
namespace L2
open PySem PySem.Spec PyProof.Rows
section
variable {X : Cx}
end
end L2
namespace My
open PySem L2 MA
theorem same_updN {H H' : Hp} {l : Addr} (hl : H l = none) (s : Same H H') (o : HO) : Same H (upd H' l o) := fun b u q => by rw [upd_ne (ne_of_none q hl)]; exact s _ _ q
theorem ixN_nat {n j : Nat} (h : j < n) : ixN n ((j : Nat) : Int) = some j := by
  unfold ixN
  rw [if_pos (by omega), if_pos (by omega)]
  simp
theorem atI_iv {ns : List Int} {j : Nat} {x : Int} (h : ns[j]? = some x) : atI (iv ns) ((j : Nat) : Int) = some (.int x) := atI_nat (by rw [List.getElem?_map, h]; rfl)
theorem iv_set (ns : List Int) (j : Nat) (y : Int) : (iv ns).set j (.int y) = iv (ns.set j y) := by show (ns.map V.int).set j (.int y) = (ns.set j y).map V.int; rw [List.map_set]
end My
namespace My
open PySem L2 MA
theorem iv_app (a b : List Int) : iv (a ++ b) = iv a ++ iv b := List.map_append
end My

set_option Elab.async false
set_option linter.all false
set_option maxRecDepth 100000
set_option maxHeartbeats 4000000
namespace L2
open PySem PySem.Spec PyProof.Rows
end L2
namespace My
open PySem L2 MA
end My

set_option Elab.async false
set_option linter.all false
set_option maxRecDepth 100000
set_option maxHeartbeats 4000000
namespace L2
open PySem PySem.Spec PyProof.Rows
section
variable {prog : Program} {w : World} {A : Around} {E : Value → Shared → Prop} {s : Shared}
end
end L2

set_option Elab.async false
set_option linter.all false
set_option maxRecDepth 100000
set_option maxHeartbeats 4000000
namespace L2
open PySem PySem.Spec PyProof.Rows
section
variable {prog : Program} {w : World} {A : Around} {E : Value → Shared → Prop} {s : Shared}
end
end L2

set_option Elab.async false
set_option linter.all false
set_option maxRecDepth 100000
set_option maxHeartbeats 4000000
namespace L2
open PySem PySem.Spec PyProof.Rows
end L2

set_option Elab.async false
set_option linter.all false
set_option maxRecDepth 100000
set_option maxHeartbeats 4000000
namespace L2
open PySem PySem.Spec PyProof.Rows
section
variable {prog : Program} {w : World} {A : Around} {E : Value → Shared → Prop} {s : Shared}
end
end L2

set_option Elab.async false
set_option linter.all false
set_option maxRecDepth 100000
set_option maxHeartbeats 4000000
namespace L2
open PySem PySem.Spec PyProof.Rows
section
variable {prog : Program} {w : World} {A : Around} {E : Value → Shared → Prop} {s : Shared}
end
end L2

set_option Elab.async false
set_option linter.all false
set_option maxRecDepth 100000
set_option maxHeartbeats 4000000
namespace L2
open PySem PySem.Spec PyProof.Rows
end L2

set_option Elab.async false
set_option linter.all false
set_option maxRecDepth 100000
set_option maxHeartbeats 4000000
namespace L2
open PySem PySem.Spec PyProof.Rows
end L2

set_option Elab.async false
set_option linter.all false
set_option maxRecDepth 100000
set_option maxHeartbeats 4000000
namespace L2
open PySem PySem.Spec PyProof.Rows MA
section
variable {X : Cx}
end
end L2

set_option Elab.async false
set_option linter.all false
set_option maxRecDepth 100000
set_option maxHeartbeats 4000000
namespace My
open PySem L2 MA
end My

set_option Elab.async false
set_option linter.all false
set_option maxRecDepth 100000
set_option maxHeartbeats 4000000
namespace L2
open PySem PySem.Spec PyProof.Rows MA SeqAt
section
variable {X : Cx}
end
end L2

set_option Elab.async false
set_option linter.all false
set_option maxRecDepth 100000
set_option maxHeartbeats 4000000
namespace My
open PySem L2 MA
end My

set_option Elab.async false
set_option linter.all false
set_option maxRecDepth 100000
set_option maxHeartbeats 4000000
namespace My
open PySem L2 MA
end My

set_option Elab.async false
set_option linter.all false
set_option maxRecDepth 100000
set_option maxHeartbeats 4000000
namespace My
open PySem L2 MA
end My

set_option Elab.async false
set_option linter.all false
set_option maxRecDepth 100000
set_option maxHeartbeats 4000000
/-! ### min(xs, key=lambda x: ..), over a list or a tuple -/
namespace L2
open PySem PySem.Spec PyProof.Rows
def ClOk1 (P : Program) (w : World) (K : PySem.W.Frag) (mg : Str → Option Value) (base : Heap) (k : Nat) (f : Addr) (sp : V → Sp0) : Prop :=
  ∀ (A : Around) (outer : List Env) (s : Shared) (H : Hp) (v : V) (u : Value) (Q : VK) (E : XK), Room k A → Env0 P w K mg base A outer s H → RelV v u → sp v H Q E → codeAny (model P w) A (.call (.ref f) ⟨[u], []⟩) (CR (CX1 P w) outer P w H s Q E) s
section
variable {P : Program} {w : World} {K : PySem.W.Frag} {mg : Str → Option Value} {base : Heap} {N : List Str} {qual : Str} {scope : Scope} {cl : List (Str × Addr)} {f c' : Addr} {cd : Value}
theorem lam_run1 {k : Nat} {params : Arguments} {body : Expr} {pm ctv : Value} {cs : List Addr} {Hc : Hp} {σl : St} {oc : Obj} {vs : Array Value} {t : Tok} {te : TE} {px : Str}
    (hkind : scope.kind = .function) (hco : scope.isCoroutine = false) (hgen : scope.isGenerator = false) (hcell : ∀ y ∈ scope.names, y.2 ≠ .cell) (hx : scope.names.lookup px = some .local)
    (hcl1 : ∀ x c, cl.lookup x = some c → c ∈ cs) (inj : ∀ x y c, cl.lookup x = some c → cl.lookup y = some c → x = y) (hcl2 : ∀ x, (x, NameKind.free) ∈ scope.names → ∃ c, cl.lookup x = some c)
    (len : σl.length = N.length) (vals : ∀ (i : Nat) x v, N[i]? = some x → σl[i]? = some (some v) → scope.names.lookup x = some .free ∧ ∃ c o u, cl.lookup x = some c ∧ Hc c = some (fc o) ∧ o.data = .cell (some u) ∧ RelV v u)
    (cells : ∀ c ∈ cs, ∃ o v, Hc c = some (fc o) ∧ o.data = .cell v)
    (hf : Hc f = some (fz (PySem.W.kla_obj "<lambda>" qual params body scope cl pm c' ctv))) (hc : Hc c' = some (fz oc)) (hd : oc.data = .fields vs) (hv : vs[1]? = some (.str qual t))
    (hbind : ∀ u, bindArgs (PySem.W.kla_fn "<lambda>" qual params body scope cl pm (.ref c') ctv) ⟨[u], []⟩ = pure [(px, u)])
    (hbody : ∀ (A : Around) (outer : List Env) (s : Shared) (H : Hp) (E : XK), Room k (A.deeper (PySem.W.envX qual scope s.heap.objs.size f (.ref c') cl)) → PE (cxLam P w K mg base (px :: N) qual scope cl f (.ref c') A outer s H E) body te) :
    ClOk1 P w K mg base (k + 1) f (fun v => spLam cs Hc f c' (fun _ => te) (some v :: σl)) := by
  intro A outer s H' va ua Q' E' hr e0 rva h
  obtain ⟨ef, ec, ecs, Qu, Eu, ht, hQ, hE⟩ := h
  have x : CellsAt cs H' := fun c hcc => by
    obtain ⟨o, v, e, _⟩ := cells c hcc
    exact ⟨o, by rw [ecs c hcc]; exact e⟩
  have nf : ∀ c ∈ cs, c ∉ frs outer := fun c hcc z => by
    obtain ⟨o, e⟩ := x c hcc
    rw [e0.frf c z] at e
    cases e
  refine codeAny_mono (R := CR (CX1 P w) outer P w (dropC cs H') s Qu Eu) ?_ fun r s' h => cr_back x e0.hok nf hQ hE h
  have ho : s.heap.get? f = some (PySem.W.kla_obj "<lambda>" qual params body scope cl pm c' ctv) := (e0.hok f _ (ef.trans hf)).1
  have hoc : s.heap.get? c' = some oc := (e0.hok c' _ (ec.trans hc)).1
  have nolim : s.heap.NoLimit := e0.mod.nolimit.keeps fun b o e => (e0.bs b o e).1
  refine PySem.W.kla_callFunE hr.depth ho rfl hco hgen rfl ⟨c', oc, vs, t, rfl, hoc, hd, hv⟩ ?_
  rw [hbind]
  refine wpAny_pure (wpAny_newFunctionEnv hcell (fun y hy => by rw [List.mem_singleton.mp hy]; exact hx) (fun h1 hns hsb => ⟨nolim.fresh _ hsb, ?_⟩) hkind)
  show codeAny _ _ (.expr body (PySem.W.envX qual scope s.heap.objs.size f (.ref c') cl)) _ _
  have keep : ∀ b u, s.heap.get? b = some u → h1.get? b = some u := fun b u q =>
    hsb.extBut b u (Nat.ne_of_lt (Heap.lt_size q)) (Heap.get?_push_of_some _ q)
  have dn : ∀ {b : Addr}, H' b = none → dropC cs H' b = none := fun {b} n => by
    by_cases hb : b ∈ cs
    · exact dropC_in hb
    · rw [dropC_out hb]; exact n
  have okd : HOk P w (dropC cs H') s.heap := hok_drop x e0.hok
  have noA : ∀ b : Addr, b ∉ (cxLam P w K mg base (px :: N) qual scope cl f (.ref c') A outer s (dropC cs H') Eu).ex := fun b z => absurd (show b ∈ ([] : List Addr) from z) (by simp)
  have cellAt : ∀ c ∈ cs, ∃ o v, s.heap.get? c = some o ∧ o.data = .cell v ∧ Hc c = some (fc o) := fun c hcc => by
    obtain ⟨o, v, e, d⟩ := cells c hcc
    exact ⟨o, v, (e0.hok c _ ((ecs c hcc).trans e)).1, d, e⟩
  have I : Inv (cxLam P w K mg base (px :: N) qual scope cl f (.ref c') A outer s (dropC cs H') Eu) [] (some va :: σl) (dropC cs H') { s with heap := h1, toks := s.toks + ([(px, ua)] : List (Str × Value)).length } := by
    refine ⟨⟨e0.mod, hkind, rfl, rfl, Nat.le_refl _, inj, fun y hy => ?_, fun y c z => Bool.noConfusion (show false = true from z), fun _ => hr.hd, Around.frames_deeper e0.frames, .inr ⟨rfl, rfl⟩, fun b z => absurd z (noA b), fun b o e => ⟨(e0.bs b o e).1, dn (e0.bs b o e).2⟩, e0.bsz, fun b _ _ => noA b, fun b z => absurd z (noA b), e0.funs, fun b hb => dn (e0.frf b hb)⟩,
      rfl, e0.bare, Un.kept keep, ⟨_, hns, fun i y v e1 e2 e3 => ?_⟩, fun y c h => ?_, okd.fresh (Nat.le_refl _), fun y c h => dropC_in (hcl1 y c h), fun p hp => absurd (show p ∈ ([] : List (Addr × Obj)) from hp) (by simp), okd.kept keep, ?_⟩
    · have hy : scope.names.lookup y = some .cell ∨ scope.names.lookup y = some .free := hy
      rcases hy with hy | hy
      · exact absurd rfl (hcell _ (PySem.mem_of_lookup hy))
      · exact hcl2 y (PySem.mem_of_lookup hy)
    · cases i with
      | zero =>
        have ey : px = y := Option.some.inj e1
        have ev : va = v := Option.some.inj (Option.some.inj e2)
        subst ey ev
        exact ⟨ua, rva, .inl ⟨hx, by simp⟩⟩
      | succ i =>
        obtain ⟨l1, c, o, u, l2, l3, l4, l5⟩ := vals i y v e1 e2
        obtain ⟨o2, v2, g1, g2, g3⟩ := cellAt c (hcl1 y c l2)
        rw [l3] at g3
        cases g3
        exact ⟨u, l5, .inr ⟨.inr l1, c, l2, o, keep _ _ g1, l4⟩⟩
    · obtain ⟨o2, v2, g1, g2, _⟩ := cellAt c (hcl1 y c h)
      exact ⟨v2, o2, keep _ _ g1, g2⟩
    · show (some va :: σl).length = (px :: N).length
      simp [len]
  exact PySem.W.kla_codeExpr (wpAny_mono (hbody A outer s (dropC cs H') Eu (hr.deeper _) [] _ (some va :: σl) (dropC cs H') Qu I ht) (fun v s' ⟨v', H2, J, r, q⟩ => ⟨v', H2, J.os, J.bare, J.base, J.hok, r, q⟩) fun e s' z => z)
end
section
variable {X : Cx} {pins : List (Addr × Obj)} {σ : St} {H : Hp} {b : Bool} {l I S f : Addr} {xs : List V} {kf : Nat → Int} {R : Result → Shared → Prop}
theorem minKey_loop (hh : X.A.in1.handled = none) (sq : SqB X.K H b l xs) (hlI : l ≠ I) (hSI : S ≠ I) (fI : FpOk X pins H I) (fS : FpOk X pins H S)
    (turn : ∀ (pins' : List (Addr × Obj)) (s' : Shared) (i : Nat) (v : V) (u : Value), Inv X pins' σ H s' → xs[i]? = some v → RelV v u → wpAny (model X.prog X.w) X.A.in1 (call (.ref f) [u]) (fun r s2 => ∃ t, r = .int (kf i) t ∧ Inv X pins' σ H s2) (fun _ _ => False) s')
    (hR : ∀ (i : Nat) (v : V) (u : Value) (s' : Shared), xs[i]? = some v → RelV v u → (∀ j, j < xs.length → kf i ≤ kf j ∧ (j < i → kf i < kf j)) → Inv X pins σ H s' → R (.ok (.ret u)) s') :
    ∀ (r j i : Nat) (s : Shared) (vb : V) (ub : Value) (tb : Tok) (c : Nat), xs.length - (j + 1) = r → j + 1 ≤ xs.length → Inv X pins σ H s → IterB s.heap b I l (j + 1) → s.heap.get? S = some (seqObj "list" #[ub, .int (kf i) tb] c) →
      xs[i]? = some vb → RelV vb ub → i ≤ j → (∀ j', j' ≤ j → kf i ≤ kf j' ∧ (j' < i → kf i < kf j')) → codeAny (model X.prog X.w) X.A (.builtin "min.loop" ⟨[.ref I, .ref f, .ref S], []⟩) R s := by
  have hname : (toString "min" ++ toString ".loop" : String) = "min.loop" := by decide
  have fpI : ∀ b ∈ [I], FpOk X pins H b := fun b hb => by rw [List.mem_singleton.mp hb]; exact fI
  have fpS : ∀ b ∈ [S], FpOk X pins H b := fun b hb => by rw [List.mem_singleton.mp hb]; exact fS
  have fpB : ∀ b ∈ [I, S], FpOk X pins H b := fun b hb => by
    rcases List.mem_cons.mp hb with rfl | hb
    · exact fI
    · exact fpS b hb
  intro r
  induction r with
  | zero =>
    intro j i s vb ub tb c hr hj J hit hS hvb rvb hij hbest
    obtain ⟨its, rv, p, hz⟩ := J.seqB sq
    have hlen := rv.length
    have hin : j + 1 = its.toArray.size := by rw [List.size_toArray]; omega
    refine codeAny_builtin PySem.F.entry_min_loop ?_
    rw [Around.under_plainId PySem.F.plain_min_loop _]
    show wpAny _ X.A.in1 (seqItems? (.ref S) >>= _) _ _ _
    refine wpAny_bind (wpAny_seqItems hS rfl ?_)
    show wpAny _ X.A.in1 (tryCatch (pyNext (.ref I)) _ >>= _) _ _ _
    refine wpAny_bind (wpAny_tryCatch ((walksB hh b I l hlI its.toArray).done _ _ _ ⟨by rw [← hin]; exact hit, p⟩ fun h' tk' hk' => ?_))
    have J1 : Inv X pins σ H { s with heap := h', toks := tk' } := J.turnedL (t' := tk') fpI fun b o hb e => hk' b o hb e
    have hS' := hk' S _ (by simpa using hSI) hS
    have s1 := Heap.SameBut.update h' S (Obj.mapSeq fun _ => (#[] : Array Value))
    show wpAny _ X.A.in1 (updateSeq S (fun _ => #[]) >>= _) _ _ _
    refine wpAny_bind ?_
    refine wpAny_updateSeq hS' rfl (wpAny_bind (wpAny_letGo (wpAny_pure ?_)))
    exact hR i vb ub _ hvb rvb (fun j' hj' => hbest j' (by omega)) (J1.turnedL (t' := tk') fpS fun b o hb e => (s1.2 b (by simpa using hb)).trans e)
  | succ r ih =>
    intro j i s vb ub tb c hr hj J hit hS hvb rvb hij hbest
    obtain ⟨its, rv, p, hz⟩ := J.seqB sq
    have hlen := rv.length
    have hlt : j + 1 < xs.length := by omega
    refine codeAny_builtin PySem.F.entry_min_loop ?_
    rw [Around.under_plainId PySem.F.plain_min_loop _]
    show wpAny _ X.A.in1 (seqItems? (.ref S) >>= _) _ _ _
    refine wpAny_bind (wpAny_seqItems hS rfl ?_)
    show wpAny _ X.A.in1 (tryCatch (pyNext (.ref I)) _ >>= _) _ _ _
    refine wpAny_bind (wpAny_tryCatch ((walksB hh b I l hlI its.toArray).item (j + 1) _ _ _ (by rw [List.size_toArray]; omega) ⟨hit, p⟩ fun v h' tk' hP hst' hk' => ?_))
    have J1 : Inv X pins σ H { s with heap := h', toks := tk' } := J.turnedL (t' := tk') fpI fun b o hb e => hk' b o hb e
    have hS' := hk' S _ (by simpa using hSI) hS
    have hxv : xs[j + 1]? = some xs[j + 1] := List.getElem?_eq_getElem hlt
    obtain ⟨v', ev, rvv⟩ := rv.get hxv
    have ev' : v' = v := by
      have hP : its[j + 1]? = some v := by simpa using hP
      rw [ev] at hP
      exact Option.some.inj hP
    subst ev'
    have ho : ∀ b ∈ [I, S], ∃ o, h'.get? b = some o ∧ ∀ v, o.data ≠ .cell v := fun b hb => by
      rcases List.mem_cons.mp hb with rfl | hb
      · exact hst'.1.ob
      · rw [List.mem_singleton.mp hb]; exact ⟨_, hS', fun v z => by cases z⟩
    have J1p := J1.pinned fpB ho
    show wpAny _ X.A.in1 (tryCatch (holding [v'] (call (.ref f) [v'])) _ >>= _) _ _ _
    refine wpAny_bind (wpAny_tryCatch (wpAny_holding (wpAny_mono (turn _ _ (j + 1) _ v' J1p hxv rvv) (fun x s2 he => ?_) fun _ _ hF => hF.elim)))
    obtain ⟨t2, rfl, J2p⟩ := he
    have J2 := J2p.unpinned
    have hS2 : s2.heap.get? S = some (seqObj "list" #[ub, .int (kf i) tb] c) := (J2p.pin (S, _) (List.mem_append_right _ (List.mem_append_right _ (mem_pinsAt (by simp) hS')))).1
    have hit2 : IterB s2.heap b I l (j + 1 + 1) := hst'.1.at fun o e => (J2p.pin (I, o) (List.mem_append_right _ (List.mem_append_right _ (mem_pinsAt (by simp) e)))).1
    show wpAny _ X.A.in1 (tryCatch (holding [v', .int (kf (j + 1)) t2] (richCompare .Lt (.int (kf (j + 1)) t2) (.int (kf i) tb) >>= _)) _ >>= _) _ _ _
    refine wpAny_bind (wpAny_tryCatch (wpAny_holding (wpAny_bind (CmpOf.ints_lt (prog := X.prog) (w := X.w) (A := X.A.in1) (P := fun i v => ∃ t, v = .int (kf i) t) kf (fun i v h => h) (j + 1) i _ _ _ _ _ ⟨t2, rfl⟩ ⟨tb, rfl⟩ ?_))))
    refine wpAny_bind (wpAny_holding (wpAny_truthy_bool ?_))
    refine wpAny_bind (wpAny_letGo (wpAny_pure ?_))
    by_cases hb' : kf (j + 1) < kf i
    · have s1 := Heap.SameBut.update s2.heap S (Obj.mapSeq fun _ => #[v', .int (kf (j + 1)) t2])
      obtain ⟨c2, hc2⟩ : ∃ c2, (s2.heap.update S (Obj.mapSeq fun _ => #[v', .int (kf (j + 1)) t2])).get? S = some (seqObj "list" #[v', .int (kf (j + 1)) t2] c2) := ⟨_, get?_update_seq hS2 fun _ => #[v', .int (kf (j + 1)) t2]⟩
      simp only [hb', decide_true, if_true]
      refine wpAny_bind ?_
      refine wpAny_updateSeq hS2 rfl (wpAny_bind (wpAny_letGo ?_))
      rw [hname]
      refine wpAny_pure ⟨plainId_quiet PySem.F.plain_min_loop _, ih (j + 1) (j + 1) _ xs[j + 1] v' t2 c2 (by omega) hlt (J2.turnedL (t' := s2.toks) fpS fun b o hb e => (s1.2 b (by simpa using hb)).trans e) (hit2.at fun o e => (s1.2 I hSI.symm).trans e) hc2 hxv rvv (Nat.le_refl _) fun j' hj' => ?_⟩
      by_cases e : j' = j + 1
      · subst e
        exact ⟨by omega, fun _ => by omega⟩
      · have hb1 := hbest j' (by omega)
        have hb2 := hb1.1
        exact ⟨by omega, fun _ => by omega⟩
    · simp only [hb', decide_false, Bool.false_eq_true, if_false]
      refine wpAny_bind (wpAny_letGo ?_)
      rw [hname]
      refine wpAny_pure ⟨plainId_quiet PySem.F.plain_min_loop _, ih (j + 1) i _ vb ub tb c (by omega) hlt J2 hit2 hS2 hvb rvb (by omega) fun j' hj' => ?_⟩
      by_cases e : j' = j + 1
      · subst e
        exact ⟨by omega, fun _ => by omega⟩
      · exact hbest j' (by omega)
theorem minKey_call {s : Shared} {Q : Value → Shared → Prop} {E : Value → Shared → Prop} (hc : X.calm = true) (J : Inv X pins σ H s) (sq : SqB X.K H b l xs) (hne : xs ≠ [])
    (turn : ∀ (pins' : List (Addr × Obj)) (s' : Shared) (i : Nat) (v : V) (u : Value), Inv X pins' σ H s' → xs[i]? = some v → RelV v u → wpAny (model X.prog X.w) X.A.in1 (call (.ref f) [u]) (fun r s2 => ∃ t, r = .int (kf i) t ∧ Inv X pins' σ H s2) (fun _ _ => False) s')
    (hQ : ∀ (i : Nat) (v : V) (u : Value) (s' : Shared), xs[i]? = some v → RelV v u → (∀ j, j < xs.length → kf i ≤ kf j ∧ (j < i → kf i < kf j)) → Inv X pins σ H s' → Q u s') :
    wpAny (model X.prog X.w) X.A (call (.builtin "min") [.ref l] [(Str.ofString "key", .ref f)]) Q E s := by
  have hname : (toString "min" ++ toString ".loop" : String) = "min.loop" := by decide
  have hh : X.A.in1.handled = none := J.ok.hd hc
  have hpos : 0 < xs.length := List.length_pos_iff.mpr hne
  obtain ⟨its, rv, p, hz⟩ := J.seqB sq
  have hlen := rv.length
  have hll := p.lt
  refine kmk_tree PySem.F.kind_min PySem.F.plain_min PySem.F.entry_min (kmk_min_key _ _) ?_
  show wpAny _ X.A.in1 (Builtin.Builtins.bindParams "min" ["key", "default"] 0 ⟨[], [(Str.ofString "key", .ref f)]⟩ >>= _) _ _ s
  refine wpAny_bind (wpAny_of_eq (show Builtin.Builtins.bindParams "min" ["key", "default"] 0 ⟨[], [(Str.ofString "key", .ref f)]⟩ = pure [some (.ref f), none] from rfl) ?_)
  refine wpAny_bind (wpAny_pure ?_)
  refine wpAny_bind (iterB p fun h0 it0 sz0 k0 => ?_)
  refine wpAny_bind (wpAny_newList ?_ (Nat.zero_le _))
  rw [hname]
  have J0 : Inv X pins σ H { s with heap := h0, toks := s.toks } := J.kept (t' := s.toks) k0
  have JS : Inv X pins σ H { s with heap := h0.push (seqObj "list" #[] 0), toks := s.toks } := J.kept (t' := s.toks) fun b u e => Heap.get?_push_of_some _ (k0 b u e)
  have gS : (h0.push (seqObj "list" #[] 0)).get? h0.objs.size = some (seqObj "list" #[] 0) := Heap.get?_push_size _ rfl
  have hSI : h0.objs.size ≠ s.heap.objs.size := by rw [sz0]; exact Nat.ne_of_gt (Nat.lt_succ_self _)
  have hlI : l ≠ s.heap.objs.size := Nat.ne_of_lt hll
  have fI : FpOk X pins H s.heap.objs.size := J.fpOk (Nat.le_refl _) (J.hok.fresh (Nat.le_refl _))
  have fS : FpOk X pins H h0.objs.size := J.fpOk (by rw [sz0]; exact Nat.le_succ _) (J.hok.fresh (by rw [sz0]; exact Nat.le_succ _))
  have fpI : ∀ b ∈ [s.heap.objs.size], FpOk X pins H b := fun b hb => by rw [List.mem_singleton.mp hb]; exact fI
  have fpS : ∀ b ∈ [h0.objs.size], FpOk X pins H b := fun b hb => by rw [List.mem_singleton.mp hb]; exact fS
  have fpB : ∀ b ∈ [s.heap.objs.size, h0.objs.size], FpOk X pins H b := fun b hb => by
    rcases List.mem_cons.mp hb with rfl | hb
    · exact fI
    · exact fpS b hb
  refine wpAny_pure ⟨plainId_quiet PySem.F.plain_min_loop _, ?_⟩
  generalize hI : s.heap.objs.size = I at *
  generalize hSS : h0.objs.size = S at *
  refine codeAny_builtin PySem.F.entry_min_loop ?_
  rw [Around.under_plainId PySem.F.plain_min_loop _]
  show wpAny _ X.A.in1 (seqItems? (.ref S) >>= _) _ _ _
  refine wpAny_bind (wpAny_seqItems gS rfl ?_)
  show wpAny _ X.A.in1 (tryCatch (pyNext (.ref I)) _ >>= _) _ _ _
  refine wpAny_bind (wpAny_tryCatch ((walksB hh b I l hlI its.toArray).item 0 _ _ _ (by rw [List.size_toArray]; omega) ⟨it0.at fun o e => Heap.get?_push_of_some _ e, p.at fun o e => Heap.get?_push_of_some _ (k0 _ _ e)⟩ fun v h' tk' hP hst' hk' => ?_))
  have J1 : Inv X pins σ H { s with heap := h', toks := tk' } := JS.turnedL (t' := tk') fpI fun b o hb e => hk' b o hb e
  have hS' := hk' S _ (by simpa using hSI) gS
  have hxv : xs[0]? = some xs[0] := List.getElem?_eq_getElem hpos
  obtain ⟨v', ev, rvv⟩ := rv.get hxv
  have ev' : v' = v := by
    have hP : its[0]? = some v := by simpa using hP
    rw [ev] at hP
    exact Option.some.inj hP
  subst ev'
  have ho : ∀ b ∈ [I, S], ∃ o, h'.get? b = some o ∧ ∀ v, o.data ≠ .cell v := fun b hb => by
    rcases List.mem_cons.mp hb with rfl | hb
    · exact hst'.1.ob
    · rw [List.mem_singleton.mp hb]; exact ⟨_, hS', fun v z => by cases z⟩
  have J1p := J1.pinned fpB ho
  show wpAny _ X.A.in1 (tryCatch (holding [v'] (call (.ref f) [v'])) _ >>= _) _ _ _
  refine wpAny_bind (wpAny_tryCatch (wpAny_holding (wpAny_mono (turn _ _ 0 _ v' J1p hxv rvv) (fun x s2 he => ?_) fun _ _ hF => hF.elim)))
  obtain ⟨t2, rfl, J2p⟩ := he
  have J2 := J2p.unpinned
  have hS2 : s2.heap.get? S = some (seqObj "list" #[] 0) := (J2p.pin (S, _) (List.mem_append_right _ (List.mem_append_right _ (mem_pinsAt (by simp) hS')))).1
  have hit2 : IterB s2.heap b I l (0 + 1) := hst'.1.at fun o e => (J2p.pin (I, o) (List.mem_append_right _ (List.mem_append_right _ (mem_pinsAt (by simp) e)))).1
  have s1 := Heap.SameBut.update s2.heap S (Obj.mapSeq fun _ => #[v', .int (kf 0) t2])
  obtain ⟨c2, hc2⟩ : ∃ c2, (s2.heap.update S (Obj.mapSeq fun _ => #[v', .int (kf 0) t2])).get? S = some (seqObj "list" #[v', .int (kf 0) t2] c2) := ⟨_, get?_update_seq hS2 fun _ => #[v', .int (kf 0) t2]⟩
  show wpAny _ X.A.in1 (updateSeq S (fun _ => #[v', .int (kf 0) t2]) >>= _) _ _ _
  refine wpAny_bind ?_
  refine wpAny_updateSeq hS2 rfl ?_
  rw [hname]
  refine wpAny_pure ⟨plainId_quiet PySem.F.plain_min_loop _, minKey_loop hh sq hlI hSI fI fS turn hQ _ 0 0 _ xs[0] v' t2 c2 rfl hpos (J2.turnedL (t' := s2.toks) fpS fun b o hb e => (s1.2 b (by simpa using hb)).trans e) (hit2.at fun o e => (s1.2 I hSI.symm).trans e) hc2 hxv rvv (Nat.le_refl _) fun j' hj' => ?_⟩
  have : j' = 0 := by omega
  subst this
  exact ⟨Int.le_refl _, fun z => absurd z (Nat.lt_irrefl _)⟩
end
end L2

set_option Elab.async false
set_option linter.all false
set_option maxRecDepth 100000
set_option maxHeartbeats 4000000
namespace L2
open PySem PySem.Spec PyProof.Rows
/-- min(e, key=lambda x: ..): the key tells an int and leaves everything as it is -/
def tMinKey (b : Bool) (K : PySem.W.Frag) (P : Addr) (q : Str) (σ0 : St → St) (te : TE) (t : TA) : TE := fun σ H Q => t σ H fun vs H1 => ∃ l xs, vs = [.ref l] ∧ SqB K H1 b l xs ∧ xs ≠ [] ∧ H1 P = some (.tab q) ∧
  ∀ H2, Same H1 H2 → ∃ kf : Nat → Int, (∀ i v, xs[i]? = some v → te (some v :: σ0 σ) H2 (fun u H' => u = .int (kf i) ∧ H' = H2)) ∧ ∀ i v, xs[i]? = some v → (∀ j, j < xs.length → kf i ≤ kf j ∧ (j < i → kf i < kf j)) → Q v H2
theorem SqB.same {K : PySem.W.Frag} {H H1 : Hp} (sm : Same H H1) {b : Bool} {l : Addr} {xs : List V} (h : SqB K H b l xs) : SqB K H1 b l xs := by
  cases b with
  | true =>
    rcases h with (h | ⟨ob, h⟩) | h
    · exact .inl (.inl (sm _ _ h))
    · exact .inl (.inr ⟨ob, sm _ _ h⟩)
    · exact .inr h
  | false =>
    rcases h with (h | ⟨ob, h⟩) | h
    · exact .inl (.inl (sm _ _ h))
    · exact .inl (.inr ⟨ob, sm _ _ h⟩)
    · exact .inr h
theorem pe_minKey {X : Cx} (b : Bool) (kc : Nat) (px : Str) {c P : Addr} {q : Str} {params : Arguments} {body e : Expr} {scope : Scope} {lpos p p4 pos : Pos} {N : List Str} {σ0 : St → St} {te : TE} {t : TA}
    (hr : Room (kc + 2) X.A) (hca : X.calm = true) (L : LamB X.mg X.base c P) (hcode : X.env.code = .ref c) (hq : X.env.qual ++ "<lambda>" = q) (hfn : ∀ x, X.fn x = true)
    (hdef : defaultsOf params X.env = ([], [])) (hkind : scope.kind = .function) (hco : scope.isCoroutine = false) (hgen : scope.isGenerator = false) (hcell : ∀ y ∈ scope.names, y.2 ≠ .cell) (hpx : scope.names.lookup px = some .local)
    (hfr : ∀ y ∈ scope.names, y.2 = .free → X.env.kindOf y.1 = some .cell ∨ X.env.kindOf y.1 = some .free) (hσ : Sees X scope N σ0)
    (hbind : ∀ (cl : List (Str × Addr)) (pm ctv cd u : Value), bindArgs (PySem.W.kla_fn "<lambda>" q params body scope cl pm cd ctv) ⟨[u], []⟩ = pure [(px, u)])
    (hg : Gl X "min") (hm : X.mg "min" = none) (ha : PA X [e] t)
    (hbody : ∀ (cl : List (Str × Addr)) (f c' : Addr) (A : Around) (outer : List Env) (s : Shared) (H : Hp) (E : XK), Room kc (A.deeper (PySem.W.envX q scope s.heap.objs.size f (.ref c') cl)) → PE (cxLam X.prog X.w X.K X.mg X.base (px :: N) q scope cl f (.ref c') A outer s H E) body te)
    (he : backTo pos (starEach [e] X.env) = (false, eval e X.env) :: backTo pos (starEach [] X.env) := by rfl) (hpl : (backTo pos (starEach [e] X.env)).any (·.1) = false := by rfl) :
    PE X (.Call (.Name "min" p) [e] [⟨some "key", .Lambda params body scope lpos, p4⟩] pos) (tMinKey b X.K P q σ0 te t) := by
  intro pins s σ H Q I h
  refine wpAny_Call_Name_kw (ld_blt I hg hm bt_min ?_ (by decide) (by decide))
  refine callWith_kw (thn (ha pos pins s σ H _ I h) fun us s1 ⟨vs, H1, I1, r1, q1⟩ => ?_) he hpl
  obtain ⟨l, xs, rfl, sq, hne, hP, hte⟩ := q1
  obtain ⟨u, rfl, ru⟩ := vals1 r1
  cases ru
  obtain ⟨cl, hclos, hcl1, hcl2⟩ := closure_of (env := X.env) (scope := scope) fun y hy hf => I.ok.has y.1 (hfr y hy hf)
  show wpAny _ X.A (evalAll [(do let v ← eval (.Lambda params body scope lpos) X.env; standAt pos; pure v)]) _ _ s1
  refine wpAny_evalAll_cons (wpAny_bind (thn (lam_made L hcode hq hdef hclos I1 hP) fun v s2 h2 => wpAny_bind (wpAny_standAt (wpAny_pure (wpAny_evalAll_nil ?_)))))
  obtain ⟨f, c', oc, vs, tt, pm, ctv, H2, rfl, I2, sm, ef, ec, hd1, hv1⟩ := h2
  show wpAny _ X.A (call (.builtin "min") [.ref l] [(Str.ofString "key", .ref f)]) _ _ _
  obtain ⟨kf, hkey, hQ⟩ := hte H2 sm
  refine minKey_call (kf := kf) hca I2 (sq.same sm) hne (fun pins' s' i v u J hv rv => ?_) fun i v u s' hv rv hb J => ⟨v, H2, J, rv, hQ i v hv hb⟩
  -- the key is asked
  have inC : ∀ x c, cl.lookup x = some c → c ∈ cl.filterMap fun p => cl.lookup p.1 := fun x c e => List.mem_filterMap.mpr ⟨(x, c), PySem.mem_of_lookup e, e⟩
  have ofC : ∀ c ∈ cl.filterMap (fun p => cl.lookup p.1), ∃ x, cl.lookup x = some c ∧ X.env.cells.lookup x = some c := fun c hc => by
    obtain ⟨p, _, e⟩ := List.mem_filterMap.mp hc
    exact ⟨p.1, e, hcl1 _ _ e⟩
  generalize hcs : (cl.filterMap fun p => cl.lookup p.1) = cs at *
  have xin : CellsIn cs H2 s'.heap := fun c hc => by
    obtain ⟨x, _, e⟩ := ofC c hc
    obtain ⟨v, o, eo, _⟩ := J.cell x c e
    exact ⟨J.freeC x c e, o, eo⟩
  have low : ∀ c ∈ cs, X.s₀.heap.objs.size ≤ c := fun c hc => by
    obtain ⟨x, _, e⟩ := ofC c hc
    exact J.ok.cab x c (hfn x) e
  have nS : ∀ c ∈ cs, c ∉ frs X.stack := fun c hc z => by
    obtain ⟨x, _, e⟩ := ofC c hc
    rcases List.mem_cons.mp (J.stkSub c z) with y | y
    · exact J.cne x c e y
    · obtain ⟨_, o, eo, _⟩ := J.ok.funs.mem y
      exact absurd (Nat.lt_of_lt_of_le (Heap.lt_size eo) (low c hc)) (Nat.lt_irrefl _)
  have fo : f ∉ cs := out_of xin ef
  have co : c' ∉ cs := out_of xin ec
  have e0 : Env0 X.prog X.w X.K X.mg X.base X.A X.stack s' (frzC s'.heap cs H2) := by
    refine ⟨J.ok.frames, J.ok.mod, fun b o e => ⟨J.bk b o e, ?_⟩, Nat.le_trans J.ok.bsz J.sz, J.stack, fun b hb => ?_, hok_frz xin J.hok, J.bare⟩
    · have : b ∉ cs := fun z => absurd (Nat.lt_of_lt_of_le (Heap.lt_size e) (Nat.le_trans J.ok.bsz (low b z))) (Nat.lt_irrefl _)
      rw [frzC_out this]
      exact (J.bs b o e).2
    · rw [frzC_out fun z => nS b z hb]
      exact J.stkFree b hb
  have ob : ∀ c ∈ cs, ∃ o v, frzC s'.heap cs H2 c = some (fc o) ∧ o.data = .cell v := fun c hc => by
    obtain ⟨x, _, e⟩ := ofC c hc
    obtain ⟨v, o, eo, d⟩ := J.cell x c e
    exact ⟨o, v, frzC_in hc eo, d⟩
  have cok : ClOk1 X.prog X.w X.K X.mg X.base (kc + 1) f (fun v => spLam cs (frzC s'.heap cs H2) f c' (fun _ => te) (some v :: σ0 σ)) := by
    refine lam_run1 (N := N) hkind hco hgen hcell hpx inC (fun x y c a b => J.ok.inj x y c (hcl1 x c a) (hcl1 y c b)) hcl2 (hσ σ).1 (fun i x v e1 e2 => ?_) ob (by rw [frzC_out fo]; exact ef) (by rw [frzC_out co]; exact ec) hd1 hv1 (fun u => hbind cl pm ctv (.ref c') u) fun A outer s H E hr => hbody cl f c' A outer s H E hr
    obtain ⟨hf, j, hj, hv⟩ := (hσ σ).2 i x v e1 e2
    refine ⟨hf, ?_⟩
    have hm := mem_of_lookupF hf
    obtain ⟨m', hn, hl⟩ := id J.loc
    have hk := hfr _ hm rfl
    have hvis : Vis X.env.scope x := hk.elim (fun z => .inr (.inl z)) fun z => .inr (.inr z)
    obtain ⟨u, r, lk⟩ := hl j x v hj hv hvis
    obtain ⟨c2, hc2⟩ := hcl2 x hm
    have hx := hcl1 x c2 hc2
    rcases lk with ⟨kl, _⟩ | ⟨_, c3, e3, o3, ho3, hd3⟩
    · rcases hk with z | z <;> rw [kl] at z <;> cases z
    · rw [hx] at e3
      cases e3
      exact ⟨c2, o3, u, hc2, frzC_in (inC x c2 hc2) ho3, hd3, r⟩
  have hsp : spLam cs (frzC s'.heap cs H2) f c' (fun _ => te) (some v :: σ0 σ) (frzC s'.heap cs H2) (fun u H' => u = .int (kf i) ∧ dropC cs H' = H2) (fun _ _ _ => False) := by
    refine ⟨rfl, rfl, fun _ _ => rfl, fun u H' => u = .int (kf i) ∧ H' = H2, fun _ _ _ => False, ?_, fun v H3 n z => ⟨z.1, by rw [drop_back n]; exact z.2⟩, fun c d H3 n z => z⟩
    rw [drop_frz xin]
    exact hkey i v hv
  refine wpAny_call (codeAny_mono (cok X.A.in1 X.stack s' _ v u _ _ hr.in1 e0.in1 rv hsp) fun r s'' hz => ?_)
  cases r with
  | error e =>
    obtain ⟨x, C, H', rfl, F, hE⟩ := hz
    exact False.elim hE
  | ok fl =>
    cases fl with
    | ret u =>
      obtain ⟨v, H', os, bare, un, hok, rv', rfl, hdrop⟩ := hz
      obtain ⟨t2, rfl⟩ := rv'
      have J' := J.call' os (un_frz xin un hok) (hok_drop (at_of_un xin.frz un) hok) bare fun b z => absurd z (by simp)
      rw [hdrop] at J'
      exact ⟨t2, rfl, J'⟩
    | next => exact False.elim hz
    | brk => exact False.elim hz
    | cont => exact False.elim hz
end L2

set_option Elab.async false
set_option linter.all false
set_option maxRecDepth 100000
set_option maxHeartbeats 4000000
/-! ### == and != of data: ints, texts, tuples and lists of them, nested -/
namespace L2
open PySem PySem.Spec PyProof.Rows MA SeqAt
theorem pairs_ext : ∀ {a b : List (PyData × PyData)}, a.map (·.1) = b.map (·.1) → a.map (·.2) = b.map (·.2) → a = b
  | [], [], _, _ => rfl
  | [], _ :: _, x, _ => by simp at x
  | _ :: _, [], x, _ => by simp at x
  | p :: r, p' :: r', x, y => by
    simp at x y
    rw [pairs_ext x.2 y.2, Prod.ext x.1 y.1]
mutual
theorem DataV.inj {H : Hp} : ∀ {v : V} {d d' : PyData}, DataV H v d → DataV H v d' → d = d'
  | _, _, _, .non, h => by cases h; rfl
  | _, _, _, .bl b, h => by cases h; rfl
  | _, _, _, .int i, h => by cases h; rfl
  | _, _, _, .str x, h => by cases h; rfl
  | _, _, _, .lst e r, h => by
    cases h with
    | lst e' r' => rw [e] at e'; cases e'; rw [DataL.inj r r']
    | tup e' r' => rw [e] at e'; cases e'
    | dict e' r' q' => rw [e] at e'; cases e'
  | _, _, _, .tup e r, h => by
    cases h with
    | lst e' r' => rw [e] at e'; cases e'
    | tup e' r' => rw [e] at e'; cases e'; rw [DataL.inj r r']
    | dict e' r' q' => rw [e] at e'; cases e'
  | _, _, _, .dict e r q, h => by
    cases h with
    | lst e' r' => rw [e] at e'; cases e'
    | tup e' r' => rw [e] at e'; cases e'
    | dict e' r' q' =>
      rw [e] at e'; cases e'
      have h1 := DataL.inj r r'
      have h2 := DataL.inj q q'
      exact congrArg PyData.dict (pairs_ext h1 h2)
theorem DataL.inj {H : Hp} : ∀ {vs : List V} {ds ds' : List PyData}, DataL H vs ds → DataL H vs ds' → ds = ds'
  | _, _, _, .nil, h => by cases h; rfl
  | _, _, _, .cons x r, h => by
    cases h with
    | cons x' r' => rw [DataV.inj x x', DataL.inj r r']
end
/-- what == compares without a word -/
def cmpN : Nat → PyData → PyData → Prop
  | _, .int _, .int _ => True
  | _, .str _, .str _ => True
  | n + 1, .tuple xs, .tuple ys => ∀ p ∈ xs.zip ys, cmpN n p.1 p.2
  | n + 1, .list xs, .list ys => ∀ p ∈ xs.zip ys, cmpN n p.1 p.2
  | _, _, _ => False
noncomputable def cdec (p : Prop) : Bool := @decide p (Classical.propDecidable p)
theorem cdec_iff {p : Prop} : cdec p = true ↔ p := by unfold cdec; exact @decide_eq_true_iff p (Classical.propDecidable p)
theorem cdec_eq {p : Prop} {b : Bool} (h : b = true ↔ p) : b = cdec p := by rw [Bool.eq_iff_iff, h, cdec_iff]
theorem DataL.nth {H : Hp} : ∀ {vs : List V} {ds : List PyData}, DataL H vs ds → ∀ {j : Nat}, j < vs.length → DataV H (vs.getD j .non) (ds.getD j .none)
  | _, _, .cons x r, 0, _ => x
  | _, _, .cons x r, j + 1, h => DataL.nth r (j := j) (by simpa using h)
theorem zip_at {ds es : List PyData} {j : Nat} (h1 : j < ds.length) (h2 : j < es.length) : (ds.getD j .none, es.getD j .none) ∈ ds.zip es := by
  have e : (ds.zip es)[j]? = some (ds.getD j .none, es.getD j .none) := by
    rw [List.getElem?_zip_eq_some]
    exact ⟨by rw [List.getElem?_eq_getElem h1]; simp [List.getD_eq_getElem?_getD, List.getElem?_eq_getElem h1], by rw [List.getElem?_eq_getElem h2]; simp [List.getD_eq_getElem?_getD, List.getElem?_eq_getElem h2]⟩
  exact List.mem_of_getElem? e
theorem all_iff {ds es : List PyData} (hl : ds.length = es.length) : ((List.range ds.length).all fun j => cdec (ds.getD j .none = es.getD j .none)) = true ↔ ds = es := by
  rw [List.all_eq_true]
  constructor
  · intro h
    refine List.ext_getElem hl fun i h1 h2 => ?_
    have := cdec_iff.mp (h i (List.mem_range.mpr h1))
    simpa [List.getD_eq_getElem?_getD, List.getElem?_eq_getElem h1, List.getElem?_eq_getElem h2] using this
  · rintro rfl j hj
    exact cdec_iff.mpr rfl
theorem tup_res {ds es : List PyData} : ((List.range (min ds.length es.length)).all (fun j => cdec (ds.getD j .none = es.getD j .none)) && ds.length == es.length) = cdec (ds = es) := by
  refine cdec_eq ?_
  rw [Bool.and_eq_true, beq_iff_eq]
  constructor
  · rintro ⟨h, hl⟩
    rw [← hl, Nat.min_self] at h
    exact (all_iff hl).mp h
  · rintro rfl
    rw [Nat.min_self]
    exact ⟨(all_iff rfl).mpr rfl, rfl⟩
theorem cdec_tup {ds es : List PyData} : cdec (PyData.tuple ds = PyData.tuple es) = cdec (ds = es) := by
  refine (cdec_eq ?_).symm
  rw [cdec_iff]
  exact ⟨fun h => by rw [h], fun h => PyData.tuple.inj h⟩
theorem cdec_lst {ds es : List PyData} : cdec (PyData.list ds = PyData.list es) = cdec (ds = es) := by
  refine (cdec_eq ?_).symm
  rw [cdec_iff]
  exact ⟨fun h => by rw [h], fun h => PyData.list.inj h⟩
section
variable {X : Cx} {pins : List (Addr × Obj)} {σ : St} {H : Hp} {s : Shared}
theorem eqAt_D (I : Inv X pins σ H s) : ∀ (n : Nat) {A : Around} {x y : V} {d d' : PyData} {u v : Value}, A.units + n < cLine → DataV H x d → DataV H y d' → RelV x u → RelV y v → cmpN n d d' → EqAt A s u v (cdec (d = d')) := by
  intro n
  induction n with
  | zero =>
    intro A x y d d' u v hu h1 h2 r1 r2 hc
    cases h1 with
    | int i =>
      cases h2 with
      | int j =>
        have := eqAt_V (A := A) (s := s) r1 r2 rfl rfl
        rw [show eqV (.int i) (.int j) = cdec (PyData.int i = PyData.int j) from cdec_eq (by simp [eqV])] at this
        exact this
      | _ => exact False.elim hc
    | str i =>
      cases h2 with
      | str j =>
        have := eqAt_V (A := A) (s := s) r1 r2 rfl rfl
        rw [show eqV (.str i) (.str j) = cdec (PyData.str i = PyData.str j) from cdec_eq (by simp [eqV])] at this
        exact this
      | _ => exact False.elim hc
    | _ => first | exact False.elim hc | (cases h2 <;> exact False.elim hc)
  | succ n ih =>
    intro A x y d d' u v hu h1 h2 r1 r2 hc
    cases h1 with
    | int i =>
      cases h2 with
      | int j =>
        have := eqAt_V (A := A) (s := s) r1 r2 rfl rfl
        rw [show eqV (.int i) (.int j) = cdec (PyData.int i = PyData.int j) from cdec_eq (by simp [eqV])] at this
        exact this
      | _ => exact False.elim hc
    | str i =>
      cases h2 with
      | str j =>
        have := eqAt_V (A := A) (s := s) r1 r2 rfl rfl
        rw [show eqV (.str i) (.str j) = cdec (PyData.str i = PyData.str j) from cdec_eq (by simp [eqV])] at this
        exact this
      | _ => exact False.elim hc
    | @tup a xs ds e1 q1 =>
      cases h2 with
      | @tup b ys es e2 q2 =>
        cases r1
        cases r2
        by_cases e : a = b
        · subst e
          rw [e1] at e2
          cases e2
          rw [DataL.inj q1 q2, show cdec (PyData.tuple es = PyData.tuple es) = true from cdec_iff.mpr rfl]
          exact EqAt.same _
        obtain ⟨us, v1, t1, z1⟩ := I.tuple (SqT.of e1)
        obtain ⟨ws, v2, t2, z2⟩ := I.tuple (SqT.of e2)
        have l1 := q1.length
        have l2 := q2.length
        have m1 := v1.length
        have m2 := v2.length
        refine EqAt.of_refs e ?_
        have key := RcAt.tuples (A := A) (s := s) (e := fun j => cdec (ds.getD j .none = es.getD j .none)) (show s.heap.IsTuple a us.toArray from t1) (show s.heap.IsTuple b ws.toArray from t2) (by omega) (fun j x y => ?_)
        · rw [List.size_toArray, List.size_toArray, ← m1, ← m2, l1, l2, tup_res, ← cdec_tup] at key
          exact key
        · have hx : j < xs.length := by have := x; rw [List.size_toArray] at this; omega
          have hy : j < ys.length := by have := y; rw [List.size_toArray] at this; omega
          exact ih (by show A.in1.units + n < cLine; have : A.in1.units = A.units + 1 := rfl; omega) (q1.nth hx) (q2.nth hy) (rel_at v1 x) (rel_at v2 y) (hc _ (zip_at (by omega) (by omega)))
      | _ => exact False.elim hc
    | @lst a xs ds e1 q1 =>
      cases h2 with
      | @lst b ys es e2 q2 =>
        cases r1
        cases r2
        by_cases e : a = b
        · subst e
          rw [e1] at e2
          cases e2
          rw [DataL.inj q1 q2, show cdec (PyData.list es = PyData.list es) = true from cdec_iff.mpr rfl]
          exact EqAt.same _
        obtain ⟨us, v1, t1, z1⟩ := I.list (SqL.of e1)
        obtain ⟨ws, v2, t2, z2⟩ := I.list (SqL.of e2)
        have l1 := q1.length
        have l2 := q2.length
        have m1 := v1.length
        have m2 := v2.length
        refine EqAt.of_refs e ?_
        by_cases hl : xs.length = ys.length
        · have key := RcAt.lists (A := A) (s := s) (e := fun j => cdec (ds.getD j .none = es.getD j .none)) t1.isList t2.isList (by rw [List.size_toArray, List.size_toArray]; omega) (by omega) (fun j x y => ?_)
          · rw [List.size_toArray, ← m1, l1, show ((List.range ds.length).all fun j => cdec (ds.getD j .none = es.getD j .none)) = cdec (ds = es) from cdec_eq (all_iff (by omega)), ← cdec_lst] at key
            exact key
          · have hx : j < xs.length := by have := x; rw [List.size_toArray] at this; omega
            have hy : j < ys.length := by have := y; rw [List.size_toArray] at this; omega
            exact ih (by show A.in1.units + n < cLine; have : A.in1.units = A.units + 1 := rfl; omega) (q1.nth hx) (q2.nth hy) (rel_at v1 x) (rel_at v2 y) (hc _ (zip_at (by omega) (by omega)))
        · rw [show cdec (PyData.list ds = PyData.list es) = false from (cdec_eq (b := false) (by constructor <;> intro z; cases z; exact absurd (congrArg List.length (PyData.list.inj z)) (by omega))).symm]
          exact RcAt.lists_lengths t1.isList t2.isList (by rw [List.size_toArray, List.size_toArray]; simp; omega) (by omega)
      | _ => exact False.elim hc
    | _ => first | exact False.elim hc | (cases h2 <;> exact False.elim hc)
def rNeD (n : Nat) : R2 := fun x y H Q => ∃ d d', DataV H x d ∧ DataV H y d' ∧ cmpN n d d' ∧ ∀ b : Bool, (b = true ↔ d ≠ d') → Q (.bl b) H
theorem op_neD (n : Nat) (hu : X.A.units + (n + 1) < cLine) : OpR X (compareOp .NotEq) (rNeD (n + 1)) := by
  intro pins s σ H x y v u Q I rx ry h
  obtain ⟨d, d', h1, h2, hc, k⟩ := h
  cases h1 with
  | int i =>
    cases h2 with
    | int j => exact op_ne pins s σ H _ _ v u Q I rx ry ⟨rfl, k _ (by simp)⟩
    | _ => exact False.elim hc
  | str i =>
    cases h2 with
    | str j => exact op_ne pins s σ H _ _ v u Q I rx ry ⟨rfl, k _ (by simp)⟩
    | _ => exact False.elim hc
  | @tup a xs ds e1 q1 =>
    cases h2 with
    | @tup b ys es e2 q2 =>
      cases rx
      cases ry
      obtain ⟨us, v1, t1, z1⟩ := I.tuple (SqT.of e1)
      obtain ⟨ws, v2, t2, z2⟩ := I.tuple (SqT.of e2)
      have l1 := q1.length
      have l2 := q2.length
      have m1 := v1.length
      have m2 := v2.length
      refine PySem.W.cmp_ofNotEq (RcNeAt.tuples (e := fun j => cdec (ds.getD j .none = es.getD j .none)) (show s.heap.IsTuple a us.toArray from t1) (show s.heap.IsTuple b ws.toArray from t2) (by omega) (fun j x y => ?_) X.prog X.w X.xe _ (fin_bl I (k (!cdec (PyData.tuple ds = PyData.tuple es)) ?_) ?_))
      · have hx : j < xs.length := by have := x; rw [List.size_toArray] at this; omega
        have hy : j < ys.length := by have := y; rw [List.size_toArray] at this; omega
        exact eqAt_D I n (by show X.A.in1.units + n < cLine; have : X.A.in1.units = X.A.units + 1 := rfl; omega) (q1.nth hx) (q2.nth hy) (rel_at v1 x) (rel_at v2 y) (hc _ (zip_at (by omega) (by omega)))
      · rw [Bool.not_eq_true', ← Bool.not_eq_true, not_congr cdec_iff]
      · rw [List.size_toArray, List.size_toArray, ← m1, ← m2, l1, l2, tup_res, ← cdec_tup]
    | _ => exact False.elim hc
  | @lst a xs ds e1 q1 =>
    cases h2 with
    | @lst b ys es e2 q2 =>
      cases rx
      cases ry
      obtain ⟨us, v1, t1, z1⟩ := I.list (SqL.of e1)
      obtain ⟨ws, v2, t2, z2⟩ := I.list (SqL.of e2)
      have l1 := q1.length
      have l2 := q2.length
      have m1 := v1.length
      have m2 := v2.length
      by_cases hl : xs.length = ys.length
      · refine PySem.W.cmp_ofNotEq (RcNeAt.lists (e := fun j => cdec (ds.getD j .none = es.getD j .none)) t1.isList t2.isList (by rw [List.size_toArray, List.size_toArray]; omega) (by omega) (fun j x y => ?_) X.prog X.w X.xe _ (fin_bl I (k (!cdec (PyData.list ds = PyData.list es)) ?_) ?_))
        · have hx : j < xs.length := by have := x; rw [List.size_toArray] at this; omega
          have hy : j < ys.length := by have := y; rw [List.size_toArray] at this; omega
          exact eqAt_D I n (by show X.A.in1.units + n < cLine; have : X.A.in1.units = X.A.units + 1 := rfl; omega) (q1.nth hx) (q2.nth hy) (rel_at v1 x) (rel_at v2 y) (hc _ (zip_at (by omega) (by omega)))
        · rw [Bool.not_eq_true', ← Bool.not_eq_true, not_congr cdec_iff]
        · rw [List.size_toArray, ← m1, l1, show ((List.range ds.length).all fun j => cdec (ds.getD j .none = es.getD j .none)) = cdec (ds = es) from cdec_eq (all_iff (by omega)), ← cdec_lst]
      · have nd : PyData.list ds ≠ PyData.list es := fun z => absurd (congrArg List.length (PyData.list.inj z)) (by omega)
        refine PySem.W.cmp_ofNotEq (RcNeAt.lists_lengths t1.isList t2.isList (by rw [List.size_toArray, List.size_toArray]; simp; omega) (by omega) X.prog X.w X.xe _ (fin_bl I (k true ?_) rfl))
        simp [nd]
    | _ => exact False.elim hc
  | _ => first | exact False.elim hc | (cases h2 <;> exact False.elim hc)
end
end L2

set_option Elab.async false
set_option linter.all false
set_option maxRecDepth 100000
set_option maxHeartbeats 4000000
namespace PySem.SeqAt
open AutoSeq1 (wpAny_loadPart')
open MeetsSeq MeetsSeq2 MeetsSeq3 SeqRoads2
end PySem.SeqAt
namespace L2
open PySem PySem.Spec PyProof.Rows MA
section
variable {X : Cx}
end
/-- [.. for x in t if ..], t a tuple -/
theorem comp_tpT {K : PySem.W.Frag} {a : Addr} {xs : List V} {tc : TT} {te : TE} {H : Hp} {R : Addr → Hp → Prop} {fs : St} (Pv : Addr → Nat → List V → Hp → Prop) (hn : xs.length ≤ 100000) (hp0 : ∀ p, H p = none → Pv p 0 [] (upd H p (.lst [])))
    (hl : ∀ p i ys H', H p = none → Pv p i ys H' → H' a = some (.tup xs))
    (hte : ∀ p i ys H' x, H p = none → xs[i]? = some x → ys.length ≤ i → Pv p i ys H' → H' p = some (.lst ys) → ∀ (Qf : Hp → Prop) (Q' : VK), (∀ H'', H'' p = some (.lst ys) → Pv p (i + 1) ys H'' → Qf H'') →
      (∀ v H'', H'' p = some (.lst ys) → Pv p (i + 1) (ys ++ [v]) (upd H'' p (.lst (ys ++ [v]))) → Q' v H'') → tc (some x :: fs) H' (fun b H4 => if b = true then te (some x :: fs) H4 Q' else Qf H4))
    (q : ∀ p ys H', H p = none → Pv p xs.length ys H' → H' p = some (.lst ys) → R p H') :
    ∀ p, H p = none → ∃ W : Nat → Nat → List V → St → Hp → Prop, (∃ m, W 0 m [] (none :: fs) (upd H p (.lst []))) ∧ ∀ i m ys σ' H', W i m ys σ' H' →
      ((Itt K a).stop i H' ∧ R p H') ∨ ((Itt K a).go i H' ∧ ∀ x H2, (Itt K a).yld i H' x H2 → gName 0 x σ' H2 fun σ2 H3 => tc σ2 H3 fun b H4 => if b = true then te σ2 H4 fun v H5 => ys.length < sizeLine ∧ H5 p = some (.lst ys) ∧ (∃ m', m' < m ∧ W (i + 1) m' (ys ++ [v]) σ2 (upd H5 p (.lst (ys ++ [v]))))
        else ∃ m', m' < m ∧ W (i + 1) m' ys σ2 H4) := by
  intro p hp
  refine ⟨fun i m ys σ' H' => m = xs.length - i ∧ i ≤ xs.length ∧ ys.length ≤ i ∧ Pv p i ys H' ∧ H' p = some (.lst ys) ∧ ∃ o, σ' = o :: fs, ⟨xs.length, by simp, Nat.zero_le _, Nat.le_refl _, hp0 p hp, upd_same, _, rfl⟩, ?_⟩
  rintro i m ys σ' H' ⟨rfl, hi, hlen, pv, hp', o, rfl⟩
  have hla := hl p i ys H' hp pv
  by_cases hlt : i < xs.length
  · refine .inr ⟨⟨xs, xs[i], SqT.of hla, List.getElem?_eq_getElem hlt⟩, fun x H2 hy => ?_⟩
    obtain ⟨rfl, hx⟩ := hy
    have hx' := hx xs (SqT.of hla)
    change tc (some x :: fs) H2 _
    refine hte p i ys H2 x hp hx' hlen pv hp' _ _ (fun H5 h5 pv5 => ⟨xs.length - (i + 1), by omega, rfl, hlt, by omega, pv5, h5, _, rfl⟩) fun v H5 h5 pv5 => ⟨?_, h5, xs.length - (i + 1), by omega, rfl, hlt, by simp; omega, pv5, upd_same, _, rfl⟩
    rw [sizeLine_eq]; omega
  · have e : i = xs.length := by omega
    subst e
    exact .inl ⟨⟨xs, SqT.of hla, Nat.le_refl _⟩, q p ys H' hp pv hp'⟩
end L2

set_option Elab.async false
set_option linter.all false
set_option maxRecDepth 100000
set_option maxHeartbeats 4000000
namespace My
open PySem L2 MA
def top (i : Nat) : Stmt := PySem.Challenge.pw_emptierbox_k55_where_the_order_matters.main.body.getD i (.Pass ⟨0, 0, 0, 0⟩)
abbrev s_emptiest_of : Stmt := top 1
theorem sc_emptiest_of : FnScope ["numbers", "draw"] ["numbers", "draw"] (defScope s_emptiest_of) := ⟨rfl, rfl, rfl, by decide +kernel, rfl, by decide +kernel, by decide +kernel⟩
abbrev s_by_draws : Stmt := top 2
theorem sc_by_draws : FnScope ["stand", "draws", "draw", "numbers", "boxes", "box"] ["stand", "draws"] (defScope s_by_draws) := ⟨rfl, rfl, rfl, by decide +kernel, rfl, by decide +kernel, by decide +kernel⟩
abbrev s_order_matters : Stmt := top 3
theorem sc_order_matters : FnScope ["stand", "draws", "last", "k", "changed"] ["stand", "draws"] (defScope s_order_matters) := ⟨rfl, rfl, rfl, by decide +kernel, rfl, by decide +kernel, by decide +kernel⟩
abbrev s_l_pen : Stmt := top 5
theorem sc_l_pen : FnScope ["_law_script"] ["_law_script"] (defScope s_l_pen) := ⟨rfl, rfl, rfl, by decide +kernel, rfl, by decide +kernel, by decide +kernel⟩
abbrev s_l_draw : Stmt := top 6
theorem sc_l_draw : FnScope ["_law_pen_here", "_law_many", "_law_at", "_law_cell", "_law_prime", "_law_number", "_law_found"] ["_law_pen_here", "_law_many"] (defScope s_l_draw) := ⟨rfl, rfl, rfl, by decide +kernel, rfl, by decide +kernel, by decide +kernel⟩
abbrev s_l_is_whole : Stmt := top 7
theorem sc_l_is_whole : FnScope ["_law_thing"] ["_law_thing"] (defScope s_l_is_whole) := ⟨rfl, rfl, rfl, by decide +kernel, rfl, by decide +kernel, by decide +kernel⟩
abbrev s_l_stand : Stmt := top 8
theorem sc_l_stand : FnScope ["_law_pen_here", "_law_n", "_law_most", "_law_way", "_law_some"] ["_law_pen_here", "_law_n", "_law_most"] (defScope s_l_stand) := ⟨rfl, rfl, rfl, by decide +kernel, rfl, by decide +kernel, by decide +kernel⟩
abbrev s_l_draws : Stmt := top 9
theorem sc_l_draws : FnScope ["_law_pen_here", "_law_n", "_law_most", "_law_way", "_law_size", "_law_many", "_law_found", "_law_k", "_law_boxes"] ["_law_pen_here", "_law_n", "_law_most"] (defScope s_l_draws) := ⟨rfl, rfl, rfl, by decide +kernel, rfl, by decide +kernel, by decide +kernel⟩
abbrev s_l_behind : Stmt := top 10
theorem sc_l_behind : FnScope ["_law_stand_here", "_law_draws_here", "_law_numbers", "_law_draw_here", "_law_least", "_law_box"] ["_law_stand_here", "_law_draws_here"] (defScope s_l_behind) := ⟨rfl, rfl, rfl, by decide +kernel, rfl, by decide +kernel, by decide +kernel⟩
abbrev s_l_due : Stmt := top 11
theorem sc_l_due : FnScope ["_law_stand_here", "_law_draws_here", "_law_here", "_law_k", "_law_changed"] ["_law_stand_here", "_law_draws_here"] (defScope s_l_due) := ⟨rfl, rfl, rfl, by decide +kernel, rfl, by decide +kernel, by decide +kernel⟩
abbrev s_l_late : Stmt := top 12
theorem sc_l_late : FnScope ["_law_pen_here", "_law_n", "_law_one", "_law_other", "_law_many", "_law_first"] ["_law_pen_here", "_law_n"] (defScope s_l_late) := ⟨rfl, rfl, rfl, by decide +kernel, rfl, by decide +kernel, by decide +kernel⟩
abbrev s_law : Stmt := top 13
theorem sc_law : FnScope ["_law_script", "_law_pen_here", "_law_k", "_law_late_here", "_law_n", "_law_stand_here", "_law_draws_here", "_law_kept", "_law_found", "_law_due_here"] ["_law_script"] (defScope s_law) := ⟨rfl, rfl, rfl, by decide +kernel, rfl, by decide +kernel, by decide +kernel⟩

section
variable {P : Program} {w : World} {K : PySem.W.Frag} {mg : Str → Option Value} {base : Heap}
theorem ok_pen (F : FunAt K mg "_law_pen" ["_law_script"] s_l_pen) : Cal P w K mg base "_law_pen" ["_law_script"] 1 (spPen K) := by
  have S := sc_l_pen
  refine F.cal sc_l_pen (fun vs H Q E h => ?_) (fun f cdv A outer s H vs Q E hr h => ?_)
  · obtain ⟨a, ns, rfl, _⟩ := h; rfl
  obtain ⟨a, ns, rfl, ha, k⟩ := h
  obtain ⟨ms, hms⟩ := cut_ints ns none (some 63)
  refine ⟨_, (@pss_one _ _ _ (@ps_ret _ _ _ _ (@pe_disp _ _ _ _ _ (@pps_cons _ _ _ _ _ _ _ _ _ pe_str (@pe_slice _ _ _ _ _ _ _ _ _ _ sl_list (pv 0) po_none (@po_some _ _ _ pe_int)) (@pps_cons _ _ _ _ _ _ _ _ _ pe_str pe_int (@pps_cons _ _ _ _ _ _ _ _ _ pe_str pe_int pps_nil))) (by rfl) (by rfl) (by simp) (by decide)))), ?_⟩
  intro p hp
  have s1 : Same H (upd H p (.dK [])) := same_new hp _
  refine ⟨_, rfl, _, rfl, a, _, rfl, s1.seq ha, fun c hc => ?_⟩
  have hpc : p ≠ c := fun e => by rw [← e, upd_same] at hc; cases hc
  refine ⟨by rw [upd_ne hpc]; exact upd_same, [(.inr "cells", .ref c), (.inr "at", .int 0), (.inr "left", .int 0)], rfl, (by show 3 ≤ 15; decide), ?_⟩
  refine k p _ (fun b o e => ?_) ⟨c, ms, 0, 0, ?_, ?_, by omega, by omega⟩
  · rw [upd_ne (ne_of_none e hp), upd_ne, upd_ne (ne_of_none e hp)]
    · exact e
    · intro z
      subst z
      rw [upd_ne (Ne.symm hpc), e] at hc
      cases hc
  · rw [upd_same]
    rfl
  · rw [upd_ne (Ne.symm hpc), upd_same, hms]
theorem ok_draw (T : Txt mg) (F : FunAt K mg "_law_draw" ["_law_pen_here", "_law_many"] s_l_draw) : Cal P w K mg base "_law_draw" ["_law_pen_here", "_law_many"] 1 spDraw := by
  have S := sc_l_draw
  refine F.cal sc_l_draw (fun vs H Q E h => ?_) (fun f cdv A outer s H vs Q E hr h => ?_)
  · obtain ⟨p, m, n, rfl, _⟩ := h; rfl
  obtain ⟨p, m, n, rfl, ⟨c, ns, a, l, hp, hc, ha0, han⟩, hn, hm, hm2, k⟩ := h
  have hu := hu_of hr
  have hcp : c ≠ p := ne_of hc hp (by intro z; cases z)
  refine ⟨_, (@pss_cons _ _ _ _ _ (@ps_if _ _ _ _ _ _ _ _ (@pt_cmpR _ _ _ _ _ _ _ _ op_gt (@pe_dget _ _ _ _ _ _ (by exact hu) (pv 0) pe_str (by exact (fun _ _ => rfl))) pe_int (by exact (nomark _))) (@pss_cons _ _ _ _ _ (@ps_set _ _ (6) _ _ _ _ (by exact S.nd) (by rfl) (by first | exact Or.inl rfl | exact Or.inr rfl) (@pe_op _ _ _ _ _ _ _ _ op_mod (@pe_dget _ _ _ _ _ _ (by exact hu) (pv 0) pe_str (by exact (fun _ _ => rfl))) (pv 1)) (by first | rfl | decide | exact Or.inl rfl | exact Or.inr rfl | (intro _; rfl) | (intro _ _; rfl) | (intro _ _ _; rfl)) (by first | rfl | decide | exact Or.inl rfl | exact Or.inr rfl | (intro _; rfl) | (intro _ _; rfl) | (intro _ _ _; rfl))) (@pss_cons _ _ _ _ _ (@ps_dput _ _ _ _ _ _ _ _ _ (by exact hu) (pv 0) pe_str (@pe_op _ _ _ _ _ _ _ _ op_fdiv (@pe_dget _ _ _ _ _ _ (by exact hu) (pv 0) pe_str (by exact (fun _ _ => rfl))) (pv 1)) (by rfl)) (@pss_one _ _ _ (@ps_ret _ _ _ _ (pv 6))))) pss_nil) (@pss_cons _ _ _ _ _ (@ps_set _ _ (2) _ _ _ _ (by exact S.nd) (by rfl) (by first | exact Or.inl rfl | exact Or.inr rfl) (@pe_dget _ _ _ _ _ _ (by exact hu) (pv 0) pe_str (by exact (fun _ _ => rfl))) (by first | rfl | decide | exact Or.inl rfl | exact Or.inr rfl | (intro _; rfl) | (intro _ _; rfl) | (intro _ _ _; rfl)) (by first | rfl | decide | exact Or.inl rfl | exact Or.inr rfl | (intro _; rfl) | (intro _ _; rfl) | (intro _ _ _; rfl))) (@pss_cons _ _ _ _ _ (@ps_dput _ _ _ _ _ _ _ _ _ (by exact hu) (pv 0) pe_str (@pe_op _ _ _ _ _ _ _ _ op_add (pv 2) pe_int) (by rfl)) (@pss_cons _ _ _ _ _ (@ps_set _ _ (3) _ _ _ _ (by exact S.nd) (by rfl) (by first | exact Or.inl rfl | exact Or.inr rfl) (@pe_op _ _ _ _ _ _ _ _ op_add (@pe_op _ _ _ _ _ _ _ _ op_mul pe_int (pv 2)) pe_int) (by first | rfl | decide | exact Or.inl rfl | exact Or.inr rfl | (intro _; rfl) | (intro _ _; rfl) | (intro _ _ _; rfl)) (by first | rfl | decide | exact Or.inl rfl | exact Or.inr rfl | (intro _; rfl) | (intro _ _; rfl) | (intro _ _ _; rfl))) (@pss_cons _ _ _ _ _ (@ps_if _ _ _ _ _ _ _ _ (@pt_cmpR _ _ _ _ _ _ _ _ op_gt (@pe_callB _ _ _ _ _ _ _ _ _ call_len_seq (by rfl) (by exact T.z_len) (by exact bt_len) (@pa_consN _ _ _ _ _ (@pe_dget _ _ _ _ _ _ (by exact hu) (pv 0) pe_str (by exact (fun _ _ => rfl))) pa_nil (by first | rfl | decide | exact Or.inl rfl | exact Or.inr rfl | (intro _; rfl) | (intro _ _; rfl) | (intro _ _ _; rfl))) (by first | rfl | decide | exact Or.inl rfl | exact Or.inr rfl | (intro _; rfl) | (intro _ _; rfl) | (intro _ _ _; rfl)) (by first | rfl | decide | exact Or.inl rfl | exact Or.inr rfl | (intro _; rfl) | (intro _ _; rfl) | (intro _ _ _; rfl)) (by first | rfl | decide | exact Or.inl rfl | exact Or.inr rfl | (intro _; rfl) | (intro _ _; rfl) | (intro _ _ _; rfl)) (by first | rfl | decide | exact Or.inl rfl | exact Or.inr rfl | (intro _; rfl) | (intro _ _; rfl) | (intro _ _ _; rfl))) pe_int (by exact (nomark _))) (@pss_one _ _ _ (@ps_set _ _ (3) _ _ _ _ (by exact S.nd) (by rfl) (by first | exact Or.inl rfl | exact Or.inr rfl) (@pe_ix _ _ _ _ _ _ _ ix_list (@pe_dget _ _ _ _ _ _ (by exact hu) (pv 0) pe_str (by exact (fun _ _ => rfl))) (@pe_op _ _ _ _ _ _ _ _ op_mod (pv 2) (@pe_callB _ _ _ _ _ _ _ _ _ call_len_seq (by rfl) (by exact T.z_len) (by exact bt_len) (@pa_consN _ _ _ _ _ (@pe_dget _ _ _ _ _ _ (by exact hu) (pv 0) pe_str (by exact (fun _ _ => rfl))) pa_nil (by first | rfl | decide | exact Or.inl rfl | exact Or.inr rfl | (intro _; rfl) | (intro _ _; rfl) | (intro _ _ _; rfl))) (by first | rfl | decide | exact Or.inl rfl | exact Or.inr rfl | (intro _; rfl) | (intro _ _; rfl) | (intro _ _ _; rfl)) (by first | rfl | decide | exact Or.inl rfl | exact Or.inr rfl | (intro _; rfl) | (intro _ _; rfl) | (intro _ _ _; rfl)) (by first | rfl | decide | exact Or.inl rfl | exact Or.inr rfl | (intro _; rfl) | (intro _ _; rfl) | (intro _ _ _; rfl)) (by first | rfl | decide | exact Or.inl rfl | exact Or.inr rfl | (intro _; rfl) | (intro _ _; rfl) | (intro _ _ _; rfl)))) (by exact (fun _ _ => rfl))) (by first | rfl | decide | exact Or.inl rfl | exact Or.inr rfl | (intro _; rfl) | (intro _ _; rfl) | (intro _ _ _; rfl)) (by first | rfl | decide | exact Or.inl rfl | exact Or.inr rfl | (intro _; rfl) | (intro _ _; rfl) | (intro _ _ _; rfl)))) pss_nil) (@pss_cons _ _ _ _ _ (@ps_if _ _ _ _ _ _ _ _ (@PW.pt _ _ _ (@pw_and _ _ _ _ _ _ _ (@pt_cmpR _ _ _ _ _ _ _ _ op_lt (pv 2) (@pe_callB _ _ _ _ _ _ _ _ _ call_len_seq (by rfl) (by exact T.z_len) (by exact bt_len) (@pa_consN _ _ _ _ _ (@pe_dget _ _ _ _ _ _ (by exact hu) (pv 0) pe_str (by exact (fun _ _ => rfl))) pa_nil (by first | rfl | decide | exact Or.inl rfl | exact Or.inr rfl | (intro _; rfl) | (intro _ _; rfl) | (intro _ _ _; rfl))) (by first | rfl | decide | exact Or.inl rfl | exact Or.inr rfl | (intro _; rfl) | (intro _ _; rfl) | (intro _ _ _; rfl)) (by first | rfl | decide | exact Or.inl rfl | exact Or.inr rfl | (intro _; rfl) | (intro _ _; rfl) | (intro _ _ _; rfl)) (by first | rfl | decide | exact Or.inl rfl | exact Or.inr rfl | (intro _; rfl) | (intro _ _; rfl) | (intro _ _ _; rfl)) (by first | rfl | decide | exact Or.inl rfl | exact Or.inr rfl | (intro _; rfl) | (intro _ _; rfl) | (intro _ _ _; rfl))) (by exact (nomark _))) (@pw_and1 _ _ _ _ (@pt_cmpR _ _ _ _ _ _ _ _ op_ge (@pe_callB _ _ _ _ _ _ _ _ _ call_abs (by rfl) (by exact T.z_abs) (by exact bt_abs) (@pa_consN _ _ _ _ _ (pv 3) pa_nil (by first | rfl | decide | exact Or.inl rfl | exact Or.inr rfl | (intro _; rfl) | (intro _ _; rfl) | (intro _ _ _; rfl))) (by first | rfl | decide | exact Or.inl rfl | exact Or.inr rfl | (intro _; rfl) | (intro _ _; rfl) | (intro _ _ _; rfl)) (by first | rfl | decide | exact Or.inl rfl | exact Or.inr rfl | (intro _; rfl) | (intro _ _; rfl) | (intro _ _ _; rfl)) (by first | rfl | decide | exact Or.inl rfl | exact Or.inr rfl | (intro _; rfl) | (intro _ _; rfl) | (intro _ _ _; rfl)) (by first | rfl | decide | exact Or.inl rfl | exact Or.inr rfl | (intro _; rfl) | (intro _ _; rfl) | (intro _ _ _; rfl))) (@pe_op _ _ _ _ _ _ _ _ op_pow pe_int pe_int) (by exact (nomark _)))))) (@pss_cons _ _ _ _ _ (@ps_dput _ _ _ _ _ _ _ _ _ (by exact hu) (pv 0) pe_str (@pe_op _ _ _ _ _ _ _ _ op_fdiv (@pe_callB _ _ _ _ _ _ _ _ _ call_abs (by rfl) (by exact T.z_abs) (by exact bt_abs) (@pa_consN _ _ _ _ _ (pv 3) pa_nil (by first | rfl | decide | exact Or.inl rfl | exact Or.inr rfl | (intro _; rfl) | (intro _ _; rfl) | (intro _ _ _; rfl))) (by first | rfl | decide | exact Or.inl rfl | exact Or.inr rfl | (intro _; rfl) | (intro _ _; rfl) | (intro _ _ _; rfl)) (by first | rfl | decide | exact Or.inl rfl | exact Or.inr rfl | (intro _; rfl) | (intro _ _; rfl) | (intro _ _ _; rfl)) (by first | rfl | decide | exact Or.inl rfl | exact Or.inr rfl | (intro _; rfl) | (intro _ _; rfl) | (intro _ _ _; rfl)) (by first | rfl | decide | exact Or.inl rfl | exact Or.inr rfl | (intro _; rfl) | (intro _ _; rfl) | (intro _ _ _; rfl))) (pv 1)) (by rfl)) (@pss_one _ _ _ (@ps_ret _ _ _ _ (@pe_op _ _ _ _ _ _ _ _ op_mod (@pe_callB _ _ _ _ _ _ _ _ _ call_abs (by rfl) (by exact T.z_abs) (by exact bt_abs) (@pa_consN _ _ _ _ _ (pv 3) pa_nil (by first | rfl | decide | exact Or.inl rfl | exact Or.inr rfl | (intro _; rfl) | (intro _ _; rfl) | (intro _ _ _; rfl))) (by first | rfl | decide | exact Or.inl rfl | exact Or.inr rfl | (intro _; rfl) | (intro _ _; rfl) | (intro _ _ _; rfl)) (by first | rfl | decide | exact Or.inl rfl | exact Or.inr rfl | (intro _; rfl) | (intro _ _; rfl) | (intro _ _ _; rfl)) (by first | rfl | decide | exact Or.inl rfl | exact Or.inr rfl | (intro _; rfl) | (intro _ _; rfl) | (intro _ _ _; rfl)) (by first | rfl | decide | exact Or.inl rfl | exact Or.inr rfl | (intro _; rfl) | (intro _ _; rfl) | (intro _ _ _; rfl))) (pv 1))))) pss_nil) (@pss_cons _ _ _ _ _ (@ps_set _ _ (4) _ _ _ _ (by exact S.nd) (by rfl) (by first | exact Or.inl rfl | exact Or.inr rfl) (@pe_ix _ _ _ _ _ _ _ ix_tup (@pe_tup _ _ _ _ _ (@pa_consN _ _ _ _ _ pe_int (@pa_consN _ _ _ _ _ pe_int (@pa_consN _ _ _ _ _ pe_int (@pa_consN _ _ _ _ _ pe_int (@pa_consN _ _ _ _ _ pe_int (@pa_consN _ _ _ _ _ pe_int (@pa_consN _ _ _ _ _ pe_int pa_nil (by first | rfl | decide | exact Or.inl rfl | exact Or.inr rfl | (intro _; rfl) | (intro _ _; rfl) | (intro _ _ _; rfl))) (by first | rfl | decide | exact Or.inl rfl | exact Or.inr rfl | (intro _; rfl) | (intro _ _; rfl) | (intro _ _ _; rfl))) (by first | rfl | decide | exact Or.inl rfl | exact Or.inr rfl | (intro _; rfl) | (intro _ _; rfl) | (intro _ _ _; rfl))) (by first | rfl | decide | exact Or.inl rfl | exact Or.inr rfl | (intro _; rfl) | (intro _ _; rfl) | (intro _ _ _; rfl))) (by first | rfl | decide | exact Or.inl rfl | exact Or.inr rfl | (intro _; rfl) | (intro _ _; rfl) | (intro _ _ _; rfl))) (by first | rfl | decide | exact Or.inl rfl | exact Or.inr rfl | (intro _; rfl) | (intro _ _; rfl) | (intro _ _ _; rfl))) (by first | rfl | decide | exact Or.inl rfl | exact Or.inr rfl | (intro _; rfl) | (intro _ _; rfl) | (intro _ _ _; rfl)))) (@pe_op _ _ _ _ _ _ _ _ op_mod (pv 2) pe_int) (by exact (fun _ _ => rfl))) (by first | rfl | decide | exact Or.inl rfl | exact Or.inr rfl | (intro _; rfl) | (intro _ _; rfl) | (intro _ _ _; rfl)) (by first | rfl | decide | exact Or.inl rfl | exact Or.inr rfl | (intro _; rfl) | (intro _ _; rfl) | (intro _ _ _; rfl))) (@pss_cons _ _ _ _ _ (@ps_set _ _ (5) _ _ _ _ (by exact S.nd) (by rfl) (by first | exact Or.inl rfl | exact Or.inr rfl) (@pe_op _ _ _ _ _ _ _ _ op_mod (@pe_op _ _ _ _ _ _ _ _ op_pow (@pe_op _ _ _ _ _ _ _ _ op_add (@pe_op _ _ _ _ _ _ _ _ op_add (@pe_op _ _ _ _ _ _ _ _ op_add (@pe_op _ _ _ _ _ _ _ _ op_mod (pv 3) pe_int) (@pe_op _ _ _ _ _ _ _ _ op_mul (@pe_op _ _ _ _ _ _ _ _ op_mul pe_int (pv 2)) (pv 2))) (@pe_op _ _ _ _ _ _ _ _ op_mul pe_int (pv 2))) pe_int) pe_int) (pv 4)) (by first | rfl | decide | exact Or.inl rfl | exact Or.inr rfl | (intro _; rfl) | (intro _ _; rfl) | (intro _ _ _; rfl)) (by first | rfl | decide | exact Or.inl rfl | exact Or.inr rfl | (intro _; rfl) | (intro _ _; rfl) | (intro _ _ _; rfl))) (@pss_cons _ _ _ _ _ (@ps_set _ _ (5) _ _ _ _ (by exact S.nd) (by rfl) (by first | exact Or.inl rfl | exact Or.inr rfl) (@pe_op _ _ _ _ _ _ _ _ op_mod (@pe_op _ _ _ _ _ _ _ _ op_pow (@pe_op _ _ _ _ _ _ _ _ op_add (@pe_op _ _ _ _ _ _ _ _ op_add (pv 5) (@pe_op _ _ _ _ _ _ _ _ op_mul pe_int (pv 2))) pe_int) pe_int) pe_int) (by first | rfl | decide | exact Or.inl rfl | exact Or.inr rfl | (intro _; rfl) | (intro _ _; rfl) | (intro _ _ _; rfl)) (by first | rfl | decide | exact Or.inl rfl | exact Or.inr rfl | (intro _; rfl) | (intro _ _; rfl) | (intro _ _ _; rfl))) (@pss_one _ _ _ (@ps_ret _ _ _ _ (@pe_op _ _ _ _ _ _ _ _ op_mod (@pe_op _ _ _ _ _ _ _ _ op_fdiv (@pe_op _ _ _ _ _ _ _ _ op_mod (@pe_op _ _ _ _ _ _ _ _ op_mul (pv 5) pe_int) pe_int) pe_int) (pv 1))))))))))))), ?_⟩
  have gl := get_left hp
  refine ⟨_, rfl, p, _, rfl, gl, _, _, rfl, rfl, _, rfl, ?_⟩
  refine ite2 (fun _ => ?_) (fun _ => ?_)
  · refine ⟨_, rfl, p, _, rfl, gl, _, rfl, _, _, rfl, rfl, hm, ?_⟩
    refine ⟨_, rfl, p, _, rfl, gl, _, rfl, _, _, rfl, rfl, ⟨hm, hm2⟩, _, rfl, p, _, rfl, dput_left hp, ?_⟩
    refine ⟨_, rfl, ?_⟩
    exact k _ _ (Int.emod_nonneg _ (by omega)) (Int.emod_lt_of_pos _ hm) ⟨c, ns, a, _, upd_same, by rw [upd_ne hcp]; exact hc, ha0, by omega⟩ (SameX.upd hp)
  refine ⟨_, rfl, p, _, rfl, get_at hp, ?_⟩
  refine ⟨_, rfl, _, _, rfl, rfl, _, rfl, p, _, rfl, dput_at hp, ?_⟩
  have hp1 : (upd H p (.dK (penL c (a + 1) l))) p = some (.dK (penL c (a + 1) l)) := upd_same
  have hc1 : (upd H p (.dK (penL c (a + 1) l))) c = some (.lst (ns.map V.int)) := by rw [upd_ne hcp]; exact hc
  have x1 : SameX p H (upd H p (.dK (penL c (a + 1) l))) := SameX.upd hp
  have gc := get_cells hp1
  obtain ⟨pr, pr0, pr1, hpr⟩ := prime_at a
  obtain ⟨sq0, sq1⟩ := sq_bound ha0 (show a ≤ 100000 by omega)
  refine ⟨_, rfl, _, _, rfl, rfl, .inl ⟨by decide, by decide⟩, _, _, rfl, rfl, ?_⟩
  refine ⟨_, rfl, p, _, rfl, gc, c, _, rfl, .inl (SqL.of hc1), _, _, rfl, rfl, _, rfl, ?_⟩
  refine ite2 (fun c0 => ?_) (fun c0 => ?_)
  · have hl : 0 < ns.length := by
      have : (0 : Int) < (((ns.map V.int).length : Nat) : Int) := of_decide_eq_true c0
      rw [List.length_map] at this
      omega
    obtain ⟨z, hz⟩ := cell_at (ns := ns) a hl
    refine ⟨_, rfl, p, _, rfl, gc, _, rfl, _, rfl, p, _, rfl, gc, c, _, rfl, .inl (SqL.of hc1), _, _, rfl, rfl, (by rw [List.length_map]; omega), c, _, _, _, rfl, rfl, SqL.of hc1, hz, ?_⟩
    refine ⟨_, rfl, _, rfl, p, _, rfl, gc, c, _, rfl, .inl (SqL.of hc1), _, _, rfl, rfl, _, rfl, ?_⟩
    refine ite2 (fun c1 => ?_) (fun c1 => iteF ?_)
    · refine ⟨_, rfl, _, rfl, _, _, rfl, rfl, ⟨by decide, by decide, by decide⟩, _, _, rfl, rfl, _, rfl, ?_⟩
      refine ite2 (fun c2 => ?_) (fun c2 => ?_)
      · refine ⟨_, rfl, _, rfl, _, rfl, _, _, rfl, rfl, ⟨hm, hm2⟩, _, rfl, p, _, rfl, dput_left hp1, ?_⟩
        refine ⟨_, rfl, _, rfl, _, rfl, _, _, rfl, rfl, hm, ?_⟩
        exact k _ _ (Int.emod_nonneg _ (by omega)) (Int.emod_lt_of_pos _ hm) ⟨c, ns, a + 1, _, upd_same, by rw [upd_ne hcp]; exact hc1, by omega, by omega⟩ (x1.trans (SameX.upd hp1))
      · exact draw_tail hm pr0 pr1 hpr ha0 (show a ≤ 100000 by omega) sq0 sq1 fun r t ht hr0 hrm => k _ _ hr0 hrm ⟨c, ns, a + 1, l, (same_new ht _) _ _ hp1, (same_new ht _) _ _ hc1, by omega, by omega⟩ (x1.trans (Same.x (same_new ht _)))
    · exact draw_tail hm pr0 pr1 hpr ha0 (show a ≤ 100000 by omega) sq0 sq1 fun r t ht hr0 hrm => k _ _ hr0 hrm ⟨c, ns, a + 1, l, (same_new ht _) _ _ hp1, (same_new ht _) _ _ hc1, by omega, by omega⟩ (x1.trans (Same.x (same_new ht _)))
  · refine ⟨_, rfl, _, rfl, p, _, rfl, gc, c, _, rfl, .inl (SqL.of hc1), _, _, rfl, rfl, _, rfl, ?_⟩
    refine ite2 (fun c1 => ?_) (fun c1 => iteF ?_)
    · exfalso
      have e1 : ¬ (0 : Int) < (((ns.map V.int).length : Nat) : Int) := by simpa using c0
      have e2 : a < (((ns.map V.int).length : Nat) : Int) := of_decide_eq_true c1
      omega
    · exact draw_tail hm pr0 pr1 hpr ha0 (show a ≤ 100000 by omega) sq0 sq1 fun r t ht hr0 hrm => k _ _ hr0 hrm ⟨c, ns, a + 1, l, (same_new ht _) _ _ hp1, (same_new ht _) _ _ hc1, by omega, by omega⟩ (x1.trans (Same.x (same_new ht _)))

theorem ok_lwhole (T : Txt mg) (F : FunAt K mg "_law_is_whole" ["_law_thing"] s_l_is_whole) : Cal P w K mg base "_law_is_whole" ["_law_thing"] 1 spWhole := by
  have S := sc_l_is_whole
  refine F.cal sc_l_is_whole (fun vs H Q E h => ?_) (fun f cdv A outer s H vs Q E hr h => ?_)
  · obtain ⟨a, rfl, _⟩ := h; rfl
  obtain ⟨a, rfl, k⟩ := h
  refine ⟨_, (@pss_one _ _ _ (@ps_ret _ _ _ _ (@pe_and _ _ _ _ _ _ _ (@pe_callB _ _ _ _ _ _ _ _ _ call_isi (by rfl) (by exact T.z_isinstance) (by exact bt_isinstance) (@pa_consN _ _ _ _ _ (pv 0) (@pa_consN _ _ _ _ _ (@pe_bltn _ _ (.ty "int") _ _ (by rfl) (by exact T.z_int) (by exact bt_int) (by rfl) (by first | rfl | decide | exact Or.inl rfl | exact Or.inr rfl | (intro _; rfl) | (intro _ _; rfl) | (intro _ _ _; rfl)) (by first | rfl | decide | exact Or.inl rfl | exact Or.inr rfl | (intro _; rfl) | (intro _ _; rfl) | (intro _ _ _; rfl))) pa_nil (by first | rfl | decide | exact Or.inl rfl | exact Or.inr rfl | (intro _; rfl) | (intro _ _; rfl) | (intro _ _ _; rfl))) (by first | rfl | decide | exact Or.inl rfl | exact Or.inr rfl | (intro _; rfl) | (intro _ _; rfl) | (intro _ _ _; rfl))) (by first | rfl | decide | exact Or.inl rfl | exact Or.inr rfl | (intro _; rfl) | (intro _ _; rfl) | (intro _ _ _; rfl)) (by first | rfl | decide | exact Or.inl rfl | exact Or.inr rfl | (intro _; rfl) | (intro _ _; rfl) | (intro _ _ _; rfl)) (by first | rfl | decide | exact Or.inl rfl | exact Or.inr rfl | (intro _; rfl) | (intro _ _; rfl) | (intro _ _ _; rfl)) (by first | rfl | decide | exact Or.inl rfl | exact Or.inr rfl | (intro _; rfl) | (intro _ _; rfl) | (intro _ _ _; rfl))) (@pe_one _ _ _ _ _ (@pe_not _ _ _ _ (@pe_callB _ _ _ _ _ _ _ _ _ call_isi (by rfl) (by exact T.z_isinstance) (by exact bt_isinstance) (@pa_consN _ _ _ _ _ (pv 0) (@pa_consN _ _ _ _ _ (@pe_bltn _ _ (.ty "bool") _ _ (by rfl) (by exact T.z_bool) (by exact bt_bool) (by rfl) (by first | rfl | decide | exact Or.inl rfl | exact Or.inr rfl | (intro _; rfl) | (intro _ _; rfl) | (intro _ _ _; rfl)) (by first | rfl | decide | exact Or.inl rfl | exact Or.inr rfl | (intro _; rfl) | (intro _ _; rfl) | (intro _ _ _; rfl))) pa_nil (by first | rfl | decide | exact Or.inl rfl | exact Or.inr rfl | (intro _; rfl) | (intro _ _; rfl) | (intro _ _ _; rfl))) (by first | rfl | decide | exact Or.inl rfl | exact Or.inr rfl | (intro _; rfl) | (intro _ _; rfl) | (intro _ _ _; rfl))) (by first | rfl | decide | exact Or.inl rfl | exact Or.inr rfl | (intro _; rfl) | (intro _ _; rfl) | (intro _ _ _; rfl)) (by first | rfl | decide | exact Or.inl rfl | exact Or.inr rfl | (intro _; rfl) | (intro _ _; rfl) | (intro _ _ _; rfl)) (by first | rfl | decide | exact Or.inl rfl | exact Or.inr rfl | (intro _; rfl) | (intro _ _; rfl) | (intro _ _ _; rfl)) (by first | rfl | decide | exact Or.inl rfl | exact Or.inr rfl | (intro _; rfl) | (intro _ _; rfl) | (intro _ _ _; rfl)))))))), ?_⟩
  refine ⟨_, rfl, _, _, _, _, rfl, .int a, rfl, _, rfl, iteT ?_⟩
  exact ⟨_, rfl, _, _, _, _, rfl, .int a, rfl, _, rfl, k⟩
theorem getD_mem0 {ns : List Int} {i : Nat} (h : i < ns.length) : ns.getD i 0 ∈ ns := by rw [getD_of h]; exact List.getElem_mem h
theorem rep1 (x : Int) : ∀ k : Nat, (List.replicate k [V.int x]).flatten = iv (List.replicate k x)
  | 0 => rfl
  | k + 1 => by rw [List.replicate_succ, List.flatten_cons, rep1 x k, List.replicate_succ]; rfl
theorem op_repS {X : Cx} : OpR X (binaryOp .Mult) (fun x y H Q => ∃ l k xs, x = .ref l ∧ y = .int k ∧ H l = some (.tup xs) ∧ xs ≠ [] ∧ 0 ≤ k ∧ k ≤ 1000 ∧ xs.length ≤ 1000 ∧ ∀ c H', Same H H' → H' c = some (.tup (List.replicate k.toNat xs).flatten) → Q (.ref c) H') := by
  intro pins s σ H x y v u Q I rx ry h
  obtain ⟨l, k, xs, e1, e2, hl, hne, k0, k1, hx, q⟩ := h
  refine op_repT pins s σ H x y v u Q I rx ry ⟨l, k, xs, e1, e2, hl, hne, k0, k1, hx, fun e => ?_, fun _ p hp => ?_⟩
  · subst e; exact q l H (Same.refl _) (by simpa using hl)
  · exact q p _ (same_new hp _) upd_same
def spStand : Sp := fun vs H Q _ => ∃ (p : Addr) (n most : Int) (m : Nat), vs = [.ref p, .int n, .int most] ∧ Pen H p m ∧ m < 90000 ∧ 1 ≤ n ∧ n ≤ 6 ∧ 0 ≤ most ∧ most ≤ 100 ∧
  ∀ (t : Addr) (ns : List Int) (H' : Hp), H' t = some (.tup (iv ns)) → ns.length = n.toNat → (∀ x ∈ ns, 0 ≤ x ∧ x ≤ 100) → Pen H' p (m + 7) → SameX p H H' → Q (.ref t) H'
theorem ok_stand (T : Txt2 mg) (C_l_draw : Cal P w K mg base "_law_draw" ["_law_pen_here", "_law_many"] 1 spDraw) (F : FunAt K mg "_law_stand" ["_law_pen_here", "_law_n", "_law_most"] s_l_stand) : Cal P w K mg base "_law_stand" ["_law_pen_here", "_law_n", "_law_most"] 2 spStand := by
  have S := sc_l_stand
  refine F.cal sc_l_stand (fun vs H Q E h => ?_) (fun f cdv A outer s H vs Q E hr h => ?_)
  · obtain ⟨p, n, mo, m, rfl, _⟩ := h; rfl
  obtain ⟨p, n, mo, m, rfl, hp, hm, n1, n2, m0, m1, k⟩ := h
  refine ⟨_, (@pss_cons _ _ _ _ _ (@ps_set _ _ (3) _ _ _ _ (by exact S.nd) (by rfl) (by first | exact Or.inl rfl | exact Or.inr rfl) (@cc _ _ _ _ _ _ _ _ _ _ (by exact C_l_draw) (by exact (hr.mono (by decide))) (@pa_consN _ _ _ _ _ (pv 0) (@pa_consN _ _ _ _ _ pe_int pa_nil (by first | rfl | decide | exact Or.inl rfl | exact Or.inr rfl | (intro _; rfl) | (intro _ _; rfl) | (intro _ _ _; rfl))) (by first | rfl | decide | exact Or.inl rfl | exact Or.inr rfl | (intro _; rfl) | (intro _ _; rfl) | (intro _ _ _; rfl))) (by first | rfl | decide | exact Or.inl rfl | exact Or.inr rfl | (intro _; rfl) | (intro _ _; rfl) | (intro _ _ _; rfl)) (by first | rfl | decide | exact Or.inl rfl | exact Or.inr rfl | (intro _; rfl) | (intro _ _; rfl) | (intro _ _ _; rfl)) (by first | rfl | decide | exact Or.inl rfl | exact Or.inr rfl | (intro _; rfl) | (intro _ _; rfl) | (intro _ _ _; rfl)) (by first | rfl | decide | exact Or.inl rfl | exact Or.inr rfl | (intro _; rfl) | (intro _ _; rfl) | (intro _ _ _; rfl))) (by first | rfl | decide | exact Or.inl rfl | exact Or.inr rfl | (intro _; rfl) | (intro _ _; rfl) | (intro _ _ _; rfl)) (by first | rfl | decide | exact Or.inl rfl | exact Or.inr rfl | (intro _; rfl) | (intro _ _; rfl) | (intro _ _ _; rfl))) (@pss_cons _ _ _ _ _ (@ps_comp _ _ _ _ _ _ _ _ _ _ _ _ _ _ _ (4) _ (by exact S.nd) (by rfl) (by first | exact Or.inl rfl | exact Or.inr rfl) (by rfl) (by exact (fun _ _ h => h)) (by decide +kernel) (by rfl) (by decide +kernel) (by exact hfr_of rfl) (by exact Sees.frees ["_law_box"] [("_law_pen_here", 0), ("_law_most", 2)] (fr_cons ⟨rfl, rfl⟩ (fr_cons ⟨rfl, rfl⟩ fr_nil))) (@pi_range1 _ _ _ _ _ _ (by rfl) (by exact T.z_range) (@pa_consN _ _ _ _ _ (pv 1) pa_nil (by first | rfl | decide | exact Or.inl rfl | exact Or.inr rfl | (intro _; rfl) | (intro _ _; rfl) | (intro _ _ _; rfl))) (by first | rfl | decide | exact Or.inl rfl | exact Or.inr rfl | (intro _; rfl) | (intro _ _; rfl) | (intro _ _ _; rfl))) (fun _ _ _ _ _ => @pg_name _ _ (0) _ (by exact (show (["_law_box", "_law_pen_here", "_law_most"] : List Str).Nodup by decide +kernel)) (by rfl) (by first | exact Or.inl rfl | exact Or.inr rfl) (by first | rfl | decide | exact Or.inl rfl | exact Or.inr rfl | (intro _; rfl) | (intro _ _; rfl) | (intro _ _ _; rfl))) (fun _ _ _ _ _ => pts_nil) (fun _ _ _ _ _ => (@cc _ _ _ _ _ _ _ _ _ _ (by exact C_l_draw) (by exact (hr.mono (by decide))) (@pa_consN _ _ _ _ _ (pv 1) (@pa_consN _ _ _ _ _ (@pe_op _ _ _ _ _ _ _ _ op_add (pv 2) pe_int) pa_nil (by first | rfl | decide | exact Or.inl rfl | exact Or.inr rfl | (intro _; rfl) | (intro _ _; rfl) | (intro _ _ _; rfl))) (by first | rfl | decide | exact Or.inl rfl | exact Or.inr rfl | (intro _; rfl) | (intro _ _; rfl) | (intro _ _ _; rfl))) (by first | rfl | decide | exact Or.inl rfl | exact Or.inr rfl | (intro _; rfl) | (intro _ _; rfl) | (intro _ _ _; rfl)) (by first | rfl | decide | exact Or.inl rfl | exact Or.inr rfl | (intro _; rfl) | (intro _ _; rfl) | (intro _ _ _; rfl)) (by first | rfl | decide | exact Or.inl rfl | exact Or.inr rfl | (intro _; rfl) | (intro _ _; rfl) | (intro _ _ _; rfl)) (by first | rfl | decide | exact Or.inl rfl | exact Or.inr rfl | (intro _; rfl) | (intro _ _; rfl) | (intro _ _ _; rfl)))) (by first | rfl | decide | exact Or.inl rfl | exact Or.inr rfl | (intro _; rfl) | (intro _ _; rfl) | (intro _ _ _; rfl)) (by first | rfl | decide | exact Or.inl rfl | exact Or.inr rfl | (intro _; rfl) | (intro _ _; rfl) | (intro _ _ _; rfl)) (by first | rfl | decide | exact Or.inl rfl | exact Or.inr rfl | (intro _; rfl) | (intro _ _; rfl) | (intro _ _ _; rfl))) (@pss_cons _ _ _ _ _ (@ps_if _ _ _ _ _ _ _ _ (@pt_cmpR _ _ _ _ _ _ _ _ op_eq (pv 3) pe_int (by exact (nomark _))) (@pss_one _ _ _ (@ps_ret _ _ _ _ (@pe_op _ _ _ _ _ _ _ _ op_repS (@pe_tup _ _ _ _ _ (@pa_consN _ _ _ _ _ pe_int pa_nil (by first | rfl | decide | exact Or.inl rfl | exact Or.inr rfl | (intro _; rfl) | (intro _ _; rfl) | (intro _ _ _; rfl)))) (pv 1)))) pss_nil) (@pss_cons _ _ _ _ _ (@ps_if _ _ _ _ _ _ _ _ (@pt_cmpR _ _ _ _ _ _ _ _ op_eq (pv 3) pe_int (by exact (nomark _))) (@pss_one _ _ _ (@ps_ret _ _ _ _ (@pe_op _ _ _ _ _ _ _ _ op_repS (@pe_tup _ _ _ _ _ (@pa_consN _ _ _ _ _ (@pe_ix _ _ _ _ _ _ _ ix_list0 (pv 4) pe_int (by exact (fun _ _ => rfl))) pa_nil (by first | rfl | decide | exact Or.inl rfl | exact Or.inr rfl | (intro _; rfl) | (intro _ _; rfl) | (intro _ _ _; rfl)))) (pv 1)))) pss_nil) (@pss_cons _ _ _ _ _ (@ps_if _ _ _ _ _ _ _ _ (@pt_cmpR _ _ _ _ _ _ _ _ op_eq (pv 3) pe_int (by exact (nomark _))) (@pss_one _ _ _ (@ps_ret _ _ _ _ (@pe_callTy _ _ _ _ _ _ _ _ _ call_tuple_of (by rfl) (by exact T.z_tuple) (by exact bt_tuple) (@pa_consN _ _ _ _ _ (@pe_comp0 _ _ _ _ _ _ _ _ _ _ _ (["_law_number"]) (fun _ => [none]) (by rfl) (by exact (fun _ _ h => h)) (by decide +kernel) (by rfl) (by decide +kernel) (by decide +kernel) (by exact Sees.none1) (@pi_list _ _ _ _ (pv 4)) (fun _ _ _ _ _ => @pg_name _ _ (0) _ (by exact (show (["_law_number"] : List Str).Nodup by decide +kernel)) (by rfl) (by first | exact Or.inl rfl | exact Or.inr rfl) (by first | rfl | decide | exact Or.inl rfl | exact Or.inr rfl | (intro _; rfl) | (intro _ _; rfl) | (intro _ _ _; rfl))) (fun _ _ _ _ _ => pts_nil) (fun _ _ _ _ _ => (@pe_op _ _ _ _ _ _ _ _ op_mod (pv 0) pe_int)) (by first | rfl | decide | exact Or.inl rfl | exact Or.inr rfl | (intro _; rfl) | (intro _ _; rfl) | (intro _ _ _; rfl))) pa_nil (by first | rfl | decide | exact Or.inl rfl | exact Or.inr rfl | (intro _; rfl) | (intro _ _; rfl) | (intro _ _ _; rfl))) (by first | rfl | decide | exact Or.inl rfl | exact Or.inr rfl | (intro _; rfl) | (intro _ _; rfl) | (intro _ _ _; rfl)) (by first | rfl | decide | exact Or.inl rfl | exact Or.inr rfl | (intro _; rfl) | (intro _ _; rfl) | (intro _ _ _; rfl)) (by first | rfl | decide | exact Or.inl rfl | exact Or.inr rfl | (intro _; rfl) | (intro _ _; rfl) | (intro _ _ _; rfl)) (by first | rfl | decide | exact Or.inl rfl | exact Or.inr rfl | (intro _; rfl) | (intro _ _; rfl) | (intro _ _ _; rfl))))) pss_nil) (@pss_one _ _ _ (@ps_ret _ _ _ _ (@pe_callTy _ _ _ _ _ _ _ _ _ call_tuple_of (by rfl) (by exact T.z_tuple) (by exact bt_tuple) (@pa_consN _ _ _ _ _ (pv 4) pa_nil (by first | rfl | decide | exact Or.inl rfl | exact Or.inr rfl | (intro _; rfl) | (intro _ _; rfl) | (intro _ _ _; rfl))) (by first | rfl | decide | exact Or.inl rfl | exact Or.inr rfl | (intro _; rfl) | (intro _ _; rfl) | (intro _ _ _; rfl)) (by first | rfl | decide | exact Or.inl rfl | exact Or.inr rfl | (intro _; rfl) | (intro _ _; rfl) | (intro _ _ _; rfl)) (by first | rfl | decide | exact Or.inl rfl | exact Or.inr rfl | (intro _; rfl) | (intro _ _; rfl) | (intro _ _ _; rfl)) (by first | rfl | decide | exact Or.inl rfl | exact Or.inr rfl | (intro _; rfl) | (intro _ _; rfl) | (intro _ _ _; rfl)))))))))), ?_⟩
  refine ⟨_, rfl, p, _, m, rfl, hp, by omega, by decide, by decide, fun d1 H1 d10 d11 p1 x1 => ?_⟩
  refine ⟨_, rfl, n, rfl, by omega, by omega, comp_rng (n := n.toNat) (lo := 0) (fs := [some (.ref p), some (.int mo)]) (fun acc i ys H' => Pen H' p (m + 1 + i) ∧ SameX p H1 H' ∧ ∃ bs : List Int, ys = iv bs ∧ ∀ b ∈ bs, 0 ≤ b ∧ b ≤ 100) (by omega) ?_ ?_ ?_⟩
  · intro acc hacc
    exact ⟨p1.same (same_new hacc _), (same_new hacc _).x, [], rfl, by simp⟩
  · rintro acc i ys H' hacc hi hl ⟨p', x', bs, rfl, hb⟩ hacc' Q' hQ
    refine ⟨_, rfl, _, rfl, _, _, rfl, rfl, p, _, _, rfl, p', by omega, by omega, by omega, fun r H2 r0 r1 p2 x2 => ?_⟩
    obtain ⟨u1, u2⟩ := penX_upd hacc p1 (x'.trans x2) p2 (.lst (iv bs ++ [.int r]))
    refine hQ _ H2 (p'.keep x2 hacc') ⟨u1, u2, bs ++ [r], by simp, fun b hbm => ?_⟩
    rcases List.mem_append.mp hbm with q | q
    · exact hb b q
    · have : b = r := by simpa using q
      omega
  rintro l ys H2 hl2 ⟨p2, x2, bs, rfl, hb⟩ hl2' hlen
  have hbn : bs.length = n.toNat := by simpa using hlen
  have x02 := x1.trans x2
  have fin : ∀ (t : Addr) (ns : List Int) (H' : Hp), H' t = some (.tup (iv ns)) → ns.length = n.toNat → (∀ x ∈ ns, 0 ≤ x ∧ x ≤ 100) → Same H2 H' → Q (.ref t) H' := fun t ns H' h1 h2 h3 s => k t ns H' h1 h2 h3 ((p2.same s).mono (by omega)) (x02.trans s.x)
  clear k
  refine ⟨_, rfl, rfl, _, rfl, ?_⟩
  refine ite2 (fun c => ?_) (fun c => ?_)
  · refine ⟨lz 1 rfl, fun t ht => ⟨_, rfl, t, n, _, rfl, rfl, upd_same, by simp, by omega, by omega, by simp, fun c' H' s' hc' => ?_⟩⟩
    rw [rep1] at hc'
    exact fin c' _ H' hc' (by simp) (fun x hx => by rw [(List.mem_replicate.mp hx).2]; decide) ((same_new ht _).trans s')
  refine ⟨_, rfl, rfl, _, rfl, ?_⟩
  refine ite2 (fun c => ?_) (fun c => ?_)
  · have h0 : 0 < bs.length := by omega
    refine ⟨_, rfl, l, _, _, _, rfl, rfl, hl2', iv_atI h0, lz 1 rfl, fun t ht => ⟨_, rfl, t, n, _, rfl, rfl, upd_same, by simp, by omega, by omega, by simp, fun c' H' s' hc' => ?_⟩⟩
    rw [rep1] at hc'
    exact fin c' _ H' hc' (by simp) (fun x hx => by rw [(List.mem_replicate.mp hx).2]; exact hb _ (getD_mem0 h0)) ((same_new ht _).trans s')
  refine ⟨_, rfl, rfl, _, rfl, ?_⟩
  refine ite2 (fun c => ?_) (fun c => ?_)
  · refine ⟨_, rfl, l, rfl, ⟨_, SqL.of hl2'⟩, comp_lst (xs := iv bs) (fs := []) (fun acc i ys H' => Same H2 H' ∧ ∃ cs : List Int, ys = iv cs ∧ ∀ b ∈ cs, 0 ≤ b ∧ b ≤ 100) (by simp; omega) ?_ ?_ ?_ ?_⟩
    · intro acc hacc
      exact ⟨same_new hacc _, [], rfl, by simp⟩
    · rintro acc i ys H' hacc ⟨s', _⟩
      exact s' _ _ hl2'
    · rintro acc i ys H' x hacc hx hl ⟨s', cs, rfl, hc⟩ hacc' Q' hQ
      obtain ⟨y, hy, rfl⟩ := iv_at hx
      refine ⟨_, rfl, _, _, rfl, rfl, (show (0 : Int) < 3 by decide), hQ _ H' hacc' ⟨same_updN hacc s' _, cs ++ [y % 3], by simp, fun b hbm => ?_⟩⟩
      rcases List.mem_append.mp hbm with q | q
      · exact hc b q
      · have : b = y % 3 := by simpa using q
        omega
    · rintro acc ys H' hacc ⟨s', cs, rfl, hc⟩ hacc' hlen'
      exact ⟨acc, _, rfl, .inl ⟨SqL.of hacc', fun t ht => fin t cs _ upd_same (by simpa [hbn] using hlen') hc (s'.trans (same_new ht _))⟩⟩
  · exact ⟨_, rfl, l, _, rfl, .inl ⟨SqL.of hl2', fun t ht => fin t bs _ upd_same hbn hb (same_new ht _)⟩⟩
end
end My

set_option Elab.async false
set_option linter.all false
set_option maxRecDepth 100000
set_option maxHeartbeats 4000000
namespace My
open PySem L2 MA
/-- the emptiest box of a draw, the first of those -/
def emF (ns ds : List Int) : Int := (ds.find? fun b => ds.all fun c => decide (ns.getD b.toNat 0 ≤ ns.getD c.toNat 0)).getD 0
theorem emF_of {ns ds : List Int} {i : Nat} (hi : i < ds.length) (h : ∀ j (hj : j < ds.length), ns.getD ds[i].toNat 0 ≤ ns.getD ds[j].toNat 0 ∧ (j < i → ns.getD ds[i].toNat 0 < ns.getD ds[j].toNat 0)) : emF ns ds = ds[i] := by
  have e : (ds.find? fun b => ds.all fun c => decide (ns.getD b.toNat 0 ≤ ns.getD c.toNat 0)) = some ds[i] := by
    rw [List.find?_eq_some_iff_getElem]
    refine ⟨?_, i, hi, rfl, fun j hj => ?_⟩
    · rw [List.all_eq_true]
      intro c hc
      obtain ⟨j, hj, rfl⟩ := List.mem_iff_getElem.mp hc
      exact decide_eq_true (h j hj).1
    · have lt := (h j (by omega)).2 hj
      rw [Bool.not_eq_true', ← Bool.not_eq_true, List.all_eq_true]
      intro z
      have := of_decide_eq_true (z ds[i] (List.getElem_mem hi))
      omega
  unfold emF
  rw [e]
  rfl
/-- .. and it is one of the draw, and least -/
theorem emF_mem {ns ds : List Int} (h : ds ≠ []) : ∃ (i : Nat) (hi : i < ds.length), emF ns ds = ds[i] ∧ ∀ j (hj : j < ds.length), ns.getD ds[i].toNat 0 ≤ ns.getD ds[j].toNat 0 ∧ (j < i → ns.getD ds[i].toNat 0 < ns.getD ds[j].toNat 0) := by
  have key : ∀ (n : Nat), 0 < n → n ≤ ds.length → ∃ (i : Nat) (hi : i < ds.length), i < n ∧ ∀ j (hj : j < ds.length), j < n → ns.getD ds[i].toNat 0 ≤ ns.getD ds[j].toNat 0 ∧ (j < i → ns.getD ds[i].toNat 0 < ns.getD ds[j].toNat 0) := by
    intro n
    induction n with
    | zero => intro z; omega
    | succ n ih =>
      intro _ hn
      cases n with
      | zero => exact ⟨0, by omega, by omega, fun j hj hj1 => by obtain rfl : j = 0 := by omega
                                                                 exact ⟨Int.le_refl _, fun z => by omega⟩⟩
      | succ n =>
        obtain ⟨i, hi, hin, hb⟩ := ih (by omega) (by omega)
        by_cases c : ns.getD ds[n + 1].toNat 0 < ns.getD ds[i].toNat 0
        · refine ⟨n + 1, by omega, by omega, fun j hj hj1 => ?_⟩
          by_cases e : j = n + 1
          · subst e; exact ⟨Int.le_refl _, fun z => by omega⟩
          · have := (hb j hj (by omega)).1
            exact ⟨by omega, fun _ => by omega⟩
        · refine ⟨i, hi, by omega, fun j hj hj1 => ?_⟩
          by_cases e : j = n + 1
          · subst e; exact ⟨by omega, fun z => by omega⟩
          · exact hb j hj (by omega)
  have hp : 0 < ds.length := List.length_pos_iff.mpr h
  obtain ⟨i, hi, _, hb⟩ := key ds.length hp (Nat.le_refl _)
  exact ⟨i, hi, emF_of hi fun j hj => hb j hj hj, fun j hj => hb j hj hj⟩
def inc (ns : List Int) (b : Int) : List Int := ns.set b.toNat (ns.getD b.toNat 0 + 1)
def stepF (p : List Int × List Int) (ds : List Int) : List Int × List Int := (inc p.1 (emF p.1 ds), p.2 ++ [emF p.1 ds])
def byF (ns : List Int) (dss : List (List Int)) : List Int × List Int := dss.foldl stepF (ns, [])
theorem byF_snoc (ns : List Int) (a : List (List Int)) (d : List Int) : byF ns (a ++ [d]) = stepF (byF ns a) d := by unfold byF; rw [List.foldl_append]; rfl
theorem byF_take (ns : List Int) {dss : List (List Int)} {i : Nat} (h : i < dss.length) : byF ns (dss.take (i + 1)) = stepF (byF ns (dss.take i)) dss[i] := by
  rw [List.take_add_one, List.getElem?_eq_getElem h]
  exact byF_snoc _ _ _
theorem byF_len (ns : List Int) (dss : List (List Int)) : (byF ns dss).1.length = ns.length ∧ (byF ns dss).2.length = dss.length := by
  have key : ∀ (dss : List (List Int)) (p : List Int × List Int), (dss.foldl stepF p).1.length = p.1.length ∧ (dss.foldl stepF p).2.length = p.2.length + dss.length := by
    intro dss
    induction dss with
    | nil => intro p; simp
    | cons d r ih => intro p; rw [List.foldl_cons]; have := ih (stepF p d); simp [stepF, inc] at this ⊢; omega
  have := key dss (ns, [])
  simpa [byF] using this
/-- told draws -/
inductive Drs (H : Hp) : List V → List (List Int) → Prop
  | nil : Drs H [] []
  | cons {t : Addr} {ds : List Int} {xs : List V} {dss : List (List Int)} : H t = some (.tup (iv ds)) → Drs H xs dss → Drs H (.ref t :: xs) (ds :: dss)
theorem Drs.mono {H H' : Hp} (s : ∀ a xs, H a = some (.tup xs) → H' a = some (.tup xs)) {xs : List V} {dss : List (List Int)} (h : Drs H xs dss) : Drs H' xs dss := by
  induction h with
  | nil => exact .nil
  | cons e _ ih => exact .cons (s _ _ e) ih
theorem Drs.same {H H' : Hp} (s : Same H H') {xs : List V} {dss : List (List Int)} (h : Drs H xs dss) : Drs H' xs dss := h.mono fun a xs e => s _ _ e
theorem Drs.len {H : Hp} {xs : List V} {dss : List (List Int)} (h : Drs H xs dss) : xs.length = dss.length := by
  induction h with
  | nil => rfl
  | cons _ _ ih => simp [ih]
theorem Drs.get {H : Hp} {xs : List V} {dss : List (List Int)} (h : Drs H xs dss) {i : Nat} {v : V} (hv : xs[i]? = some v) : ∃ t ds, v = .ref t ∧ dss[i]? = some ds ∧ H t = some (.tup (iv ds)) := by
  induction h generalizing i with
  | nil => simp at hv
  | @cons t ds xs dss e _ ih =>
    cases i with
    | zero => exact ⟨t, ds, by simpa using hv.symm, rfl, e⟩
    | succ i => exact ih (by simpa using hv)
theorem Drs.app {H : Hp} {xs ys : List V} {a b : List (List Int)} (h : Drs H xs a) (g : Drs H ys b) : Drs H (xs ++ ys) (a ++ b) := by
  induction h with
  | nil => exact g
  | cons e _ ih => exact .cons e ih
theorem Drs.take {H : Hp} {xs : List V} {dss : List (List Int)} (h : Drs H xs dss) (n : Nat) : Drs H (xs.take n) (dss.take n) := by
  induction h generalizing n with
  | nil => simp; exact .nil
  | cons e _ ih =>
    cases n with
    | zero => exact .nil
    | succ n => exact .cons e (ih n)
theorem Drs.drop {H : Hp} {xs : List V} {dss : List (List Int)} (h : Drs H xs dss) (n : Nat) : Drs H (xs.drop n) (dss.drop n) := by
  induction h generalizing n with
  | nil => simp; exact .nil
  | cons e r ih =>
    cases n with
    | zero => exact .cons e r
    | succ n => exact ih n
/-- draws of N boxes -/
def OkD (N : Nat) (dss : List (List Int)) : Prop := ∀ ds ∈ dss, ds ≠ [] ∧ ds.length ≤ 4 ∧ ∀ b ∈ ds, 0 ≤ b ∧ b < N
theorem OkD.take {N : Nat} {dss : List (List Int)} (h : OkD N dss) (n : Nat) : OkD N (dss.take n) := fun d hd => h d (List.mem_of_mem_take hd)
section
variable {P : Program} {w : World} {K : PySem.W.Frag} {mg : Str → Option Value} {base : Heap}
def spEm (T : Addr) (q : Str) : Sp := fun vs H Q _ => ∃ (l t : Addr) (ns ds : List Int), vs = [.ref l, .ref t] ∧ H l = some (.lst (iv ns)) ∧ H t = some (.tup (iv ds)) ∧ ds ≠ [] ∧ (∀ b ∈ ds, 0 ≤ b ∧ b < ns.length) ∧ H T = some (.tab q) ∧ ∀ H', Same H H' → Q (.int (emF ns ds)) H'
theorem ok_em {c D : Addr} (T : Txt2 mg) (kb : K.In base) (L : LamFor mg base "emptiest_of" c D) (F : FunAt K mg "emptiest_of" ["numbers", "draw"] s_emptiest_of) : Cal P w K mg base "emptiest_of" ["numbers", "draw"] 3 (spEm D (qLam "emptiest_of")) := by
  have S := sc_emptiest_of
  have LB := L.lb
  refine F.calL kb L sc_emptiest_of (fun vs H Q E h => ?_) (fun f A outer s H vs Q E hr h => ?_)
  · obtain ⟨l, t, ns, ds, rfl, _⟩ := h; rfl
  obtain ⟨l, t, ns, ds, rfl, hl, ht, hne, hin, hT, k⟩ := h
  refine ⟨_, (@pss_one _ _ _ (@ps_ret _ _ _ _ (@pe_minKey _ false (by exact 0) (by exact (Str.ofString "box")) _ _ _ _ _ _ _ _ _ _ _ _ _ _ _ (by exact (hr.mono (by decide))) (by rfl) (by exact LB) (by rfl) (by rfl) (by exact (fun _ => rfl)) (by rfl) (by rfl) (by rfl) (by rfl) (by decide +kernel) (by rfl) (by exact hfr_of rfl) (by exact Sees.frees [] [("numbers", 0)] (fr_cons ⟨rfl, rfl⟩ fr_nil)) (by exact (fun _ _ _ _ _ => rfl)) (by rfl) (by exact T.z_min) (@pa_consN _ _ _ _ _ (pv 1) pa_nil (by first | rfl | decide | exact Or.inl rfl | exact Or.inr rfl | (intro _; rfl) | (intro _ _; rfl) | (intro _ _ _; rfl))) (fun _ _ _ _ _ _ _ _ hrl => (@pe_ix _ _ _ _ _ _ _ ix_list0 (pv 1) (pv 0) (by exact (fun _ _ => rfl)))) (by first | rfl | decide | exact Or.inl rfl | exact Or.inr rfl | (intro _; rfl) | (intro _ _; rfl) | (intro _ _ _; rfl)) (by first | rfl | decide | exact Or.inl rfl | exact Or.inr rfl | (intro _; rfl) | (intro _ _; rfl) | (intro _ _ _; rfl))))), ?_⟩
  refine ⟨_, rfl, t, iv ds, rfl, SqB.t ht, by simpa using hne, hT, fun H2 s2 => ⟨fun i => ns.getD (ds.getD i 0).toNat 0, fun i v hv => ?_, fun i v hv hb => ?_⟩⟩
  · obtain ⟨b, hb, rfl⟩ := iv_at hv
    obtain ⟨hi, e⟩ := List.getElem?_eq_some_iff.mp hb
    have hr := hin b (List.mem_of_getElem? hb)
    have hlt : b.toNat < ns.length := by omega
    refine ⟨_, rfl, _, rfl, l, iv ns, b, .int (ns.getD b.toNat 0), rfl, rfl, s2 _ _ hl, ?_, ?_, rfl⟩
    · rw [show b = (b.toNat : Int) by omega]
      exact iv_atI hlt
    · dsimp only
      rw [getD_of hi, e]
  · obtain ⟨b, hb', rfl⟩ := iv_at hv
    obtain ⟨hi, e⟩ := List.getElem?_eq_some_iff.mp hb'
    have := k H2 s2
    rw [emF_of (ns := ns) hi fun j hj => ?_, e] at this
    · exact this
    · have hh := hb j (by simpa using hj)
      dsimp only at hh
      rw [getD_of hi, getD_of hj] at hh
      exact hh
end
end My

set_option Elab.async false
set_option linter.all false
set_option maxRecDepth 100000
set_option maxHeartbeats 4000000
namespace My
open PySem L2 MA
theorem em_in {N : Nat} {dss : List (List Int)} (h : OkD N dss) {i : Nat} (hi : i < dss.length) (ns : List Int) : 0 ≤ emF ns dss[i] ∧ emF ns dss[i] < N := by
  obtain ⟨h1, h2, h3⟩ := h dss[i] (List.getElem_mem hi)
  obtain ⟨j, hj, e, _⟩ := emF_mem (ns := ns) h1
  rw [e]
  exact h3 _ (List.getElem_mem hj)
section
variable {P : Program} {w : World} {K : PySem.W.Frag} {mg : Str → Option Value} {base : Heap}
def spBy (T : Addr) (q : Str) : Sp := fun vs H Q _ => ∃ (a b : Addr) (ns : List Int) (xs : List V) (dss : List (List Int)), vs = [.ref a, .ref b] ∧ H a = some (.tup (iv ns)) ∧ H b = some (.lst xs) ∧ Drs H xs dss ∧ OkD ns.length dss ∧ xs.length ≤ 1000 ∧ H T = some (.tab q) ∧
  ∀ (r t l : Addr) (H' : Hp), Same H H' → H' r = some (.tup [.ref t, .ref l]) → H' t = some (.tup (iv (byF ns dss).1)) → H' l = some (.lst (iv (byF ns dss).2)) → H l = none → Q (.ref r) H'
theorem ok_by {D : Addr} (T : Txt2 mg) (C_emptiest_of : Cal P w K mg base "emptiest_of" ["numbers", "draw"] 3 (spEm D (qLam "emptiest_of"))) (F : FunAt K mg "by_draws" ["stand", "draws"] s_by_draws) : Cal P w K mg base "by_draws" ["stand", "draws"] 4 (spBy D (qLam "emptiest_of")) := by
  have S := sc_by_draws
  refine F.cal sc_by_draws (fun vs H Q E h => ?_) (fun f cdv A outer s H vs Q E hr h => ?_)
  · obtain ⟨a, b, ns, xs, dss, rfl, _⟩ := h; rfl
  obtain ⟨a, b, ns, xs, dss, rfl, ha, hb, dr, od, h1000, hT, k⟩ := h
  have dl := dr.len
  refine ⟨_, (@pss_cons _ _ _ _ _ (@ps_par _ _ (3) (4) _ _ _ _ _ _ _ _ _ _ _ (by rfl) (by exact S.nd) (by rfl) (by rfl) (by decide) (by rfl) (by rfl) (@pa_consN _ _ _ _ _ (@pe_callTy _ _ _ _ _ _ _ _ _ call_list_of (by rfl) (by exact T.z_list) (by exact bt_list) (@pa_consN _ _ _ _ _ (pv 0) pa_nil (by first | rfl | decide | exact Or.inl rfl | exact Or.inr rfl | (intro _; rfl) | (intro _ _; rfl) | (intro _ _ _; rfl))) (by first | rfl | decide | exact Or.inl rfl | exact Or.inr rfl | (intro _; rfl) | (intro _ _; rfl) | (intro _ _ _; rfl)) (by first | rfl | decide | exact Or.inl rfl | exact Or.inr rfl | (intro _; rfl) | (intro _ _; rfl) | (intro _ _ _; rfl)) (by first | rfl | decide | exact Or.inl rfl | exact Or.inr rfl | (intro _; rfl) | (intro _ _; rfl) | (intro _ _ _; rfl)) (by first | rfl | decide | exact Or.inl rfl | exact Or.inr rfl | (intro _; rfl) | (intro _ _; rfl) | (intro _ _ _; rfl))) (@pa_consN _ _ _ _ _ (@pe_lst _ _ _ _ pa_nil) pa_nil (by first | rfl | decide | exact Or.inl rfl | exact Or.inr rfl | (intro _; rfl) | (intro _ _; rfl) | (intro _ _ _; rfl))) (by first | rfl | decide | exact Or.inl rfl | exact Or.inr rfl | (intro _; rfl) | (intro _ _; rfl) | (intro _ _ _; rfl))) (by rfl) (by first | rfl | decide | exact Or.inl rfl | exact Or.inr rfl | (intro _; rfl) | (intro _ _; rfl) | (intro _ _ _; rfl))) (@pss_cons _ _ _ _ _ (@ps_for _ _ _ _ _ _ _ _ (by exact PassesOwn.never) (by rfl) (@pi_list _ _ _ _ (pv 1)) (@pg_name _ _ (2) _ (by exact S.nd) (by rfl) (by first | exact Or.inl rfl | exact Or.inr rfl) (by first | rfl | decide | exact Or.inl rfl | exact Or.inr rfl | (intro _; rfl) | (intro _ _; rfl) | (intro _ _ _; rfl))) (@pss_cons _ _ _ _ _ (@ps_set _ _ (5) _ _ _ _ (by exact S.nd) (by rfl) (by first | exact Or.inl rfl | exact Or.inr rfl) (@cc _ _ _ _ _ _ _ _ _ _ (by exact C_emptiest_of) (by exact (hr.mono (by decide))) (@pa_consN _ _ _ _ _ (pv 3) (@pa_consN _ _ _ _ _ (pv 2) pa_nil (by first | rfl | decide | exact Or.inl rfl | exact Or.inr rfl | (intro _; rfl) | (intro _ _; rfl) | (intro _ _ _; rfl))) (by first | rfl | decide | exact Or.inl rfl | exact Or.inr rfl | (intro _; rfl) | (intro _ _; rfl) | (intro _ _ _; rfl))) (by first | rfl | decide | exact Or.inl rfl | exact Or.inr rfl | (intro _; rfl) | (intro _ _; rfl) | (intro _ _ _; rfl)) (by first | rfl | decide | exact Or.inl rfl | exact Or.inr rfl | (intro _; rfl) | (intro _ _; rfl) | (intro _ _ _; rfl)) (by first | rfl | decide | exact Or.inl rfl | exact Or.inr rfl | (intro _; rfl) | (intro _ _; rfl) | (intro _ _ _; rfl)) (by first | rfl | decide | exact Or.inl rfl | exact Or.inr rfl | (intro _; rfl) | (intro _ _; rfl) | (intro _ _ _; rfl))) (by first | rfl | decide | exact Or.inl rfl | exact Or.inr rfl | (intro _; rfl) | (intro _ _; rfl) | (intro _ _ _; rfl)) (by first | rfl | decide | exact Or.inl rfl | exact Or.inr rfl | (intro _; rfl) | (intro _ _; rfl) | (intro _ _ _; rfl))) (@pss_cons _ _ _ _ _ (@ps_augS _ _ _ _ _ _ _ _ _ _ _ _ _ (pv 3) (pv 5) get_list pe_int ip_add set_list (by first | rfl | decide | exact Or.inl rfl | exact Or.inr rfl | (intro _; rfl) | (intro _ _; rfl) | (intro _ _ _; rfl))) (@pss_one _ _ _ (@ps_expr _ _ _ _ (@pe_bm _ _ _ _ _ _ _ _ _ _ _ _ (by exact PySem.F.plainAttrs_list) (by exact PySem.F.slot_list_append) (by exact PySem.F.type_list_append) mt_append (pv 4) (@pa_consN _ _ _ _ _ (pv 5) pa_nil (by first | rfl | decide | exact Or.inl rfl | exact Or.inr rfl | (intro _; rfl) | (intro _ _; rfl) | (intro _ _ _; rfl))) (by first | rfl | decide | exact Or.inl rfl | exact Or.inr rfl | (intro _; rfl) | (intro _ _; rfl) | (intro _ _ _; rfl)) (by first | rfl | decide | exact Or.inl rfl | exact Or.inr rfl | (intro _; rfl) | (intro _ _; rfl) | (intro _ _ _; rfl)) (by first | rfl | decide | exact Or.inl rfl | exact Or.inr rfl | (intro _; rfl) | (intro _ _; rfl) | (intro _ _ _; rfl)) (by first | rfl | decide | exact Or.inl rfl | exact Or.inr rfl | (intro _; rfl) | (intro _ _; rfl) | (intro _ _ _; rfl)) (by first | rfl | decide | exact Or.inl rfl | exact Or.inr rfl | (intro _; rfl) | (intro _ _; rfl) | (intro _ _ _; rfl))) (by first | rfl | decide | exact Or.inl rfl | exact Or.inr rfl | (intro _; rfl) | (intro _ _; rfl) | (intro _ _ _; rfl)))))) (by first | rfl | decide | exact Or.inl rfl | exact Or.inr rfl | (intro _; rfl) | (intro _ _; rfl) | (intro _ _ _; rfl))) (@pss_one _ _ _ (@ps_ret _ _ _ _ (@pe_tup _ _ _ _ _ (@pa_consN _ _ _ _ _ (@pe_callTy _ _ _ _ _ _ _ _ _ call_tuple_of (by rfl) (by exact T.z_tuple) (by exact bt_tuple) (@pa_consN _ _ _ _ _ (pv 3) pa_nil (by first | rfl | decide | exact Or.inl rfl | exact Or.inr rfl | (intro _; rfl) | (intro _ _; rfl) | (intro _ _ _; rfl))) (by first | rfl | decide | exact Or.inl rfl | exact Or.inr rfl | (intro _; rfl) | (intro _ _; rfl) | (intro _ _ _; rfl)) (by first | rfl | decide | exact Or.inl rfl | exact Or.inr rfl | (intro _; rfl) | (intro _ _; rfl) | (intro _ _ _; rfl)) (by first | rfl | decide | exact Or.inl rfl | exact Or.inr rfl | (intro _; rfl) | (intro _ _; rfl) | (intro _ _ _; rfl)) (by first | rfl | decide | exact Or.inl rfl | exact Or.inr rfl | (intro _; rfl) | (intro _ _; rfl) | (intro _ _ _; rfl))) (@pa_consN _ _ _ _ _ (pv 4) pa_nil (by first | rfl | decide | exact Or.inl rfl | exact Or.inr rfl | (intro _; rfl) | (intro _ _; rfl) | (intro _ _ _; rfl))) (by first | rfl | decide | exact Or.inl rfl | exact Or.inr rfl | (intro _; rfl) | (intro _ _; rfl) | (intro _ _ _; rfl)))))))), ?_⟩
  refine ⟨_, rfl, a, _, rfl, .inr (SqT.of ha), fun l1 hl1 => ⟨(by show 0 ≤ sizeLine; exact Nat.zero_le _), fun l2 hl2 => ⟨_, _, rfl, ?_⟩⟩⟩
  have s1 := same_new hl1 (.lst (iv ns))
  have s2 := s1.trans (same_new hl2 (.lst []))
  have l12 : l1 ≠ l2 := fun z => by rw [← z, upd_same] at hl2; cases hl2
  have h1 : (upd (upd H l1 (.lst (iv ns))) l2 (.lst [])) l1 = some (.lst (iv ns)) := by rw [upd_ne l12, upd_same]
  have h2 : (upd (upd H l1 (.lst (iv ns))) l2 (.lst [])) l2 = some (.lst []) := upd_same
  have hl20 : H l2 = none := by rw [upd_ne (Ne.symm l12)] at hl2; exact hl2
  generalize upd (upd H l1 (.lst (iv ns))) l2 (.lst []) = H1 at s2 h1 h2
  clear s1 hl2
  refine ⟨_, rfl, b, rfl, ⟨_, SqL.of (s2 _ _ hb)⟩, for_list (xs := xs) (fun i σ H' => (∃ o2 o5, σ = [some (.ref a), some (.ref b), o2, some (.ref l1), some (.ref l2), o5]) ∧ Same H H' ∧ H' l1 = some (.lst (iv (byF ns (dss.take i)).1)) ∧ H' l2 = some (.lst (iv (byF ns (dss.take i)).2))) ⟨⟨_, _, rfl⟩, s2, h1, h2⟩ (fun i σ H' _ h => SqL.of (h.2.1 _ _ hb)) ?_ ?_⟩
  · rintro i v σ H2 hv ⟨⟨o2, o5, rfl⟩, s', g1, g2⟩
    obtain ⟨t, ds, rfl, hd, ht⟩ := dr.get hv
    obtain ⟨hi, ed⟩ := List.getElem?_eq_some_iff.mp hd
    have bl := byF_len ns (dss.take i)
    have ei := em_in od hi (byF ns (dss.take i)).1
    obtain ⟨d1, d2, d3⟩ := od ds (List.mem_of_getElem? hd)
    refine ⟨_, rfl, _, rfl, l1, t, _, ds, rfl, g1, s' _ _ ht, d1, (by rw [bl.1]; exact d3), s' _ _ hT, fun H3 s3 => ?_⟩
    have tk := byF_take ns hi
    rw [ed] at tk ei
    generalize hb' : emF (byF ns (dss.take i)).1 ds = bx at tk ei
    obtain ⟨B, rfl⟩ : ∃ B : Nat, bx = (B : Int) := ⟨bx.toNat, by omega⟩
    have hB : B < (byF ns (dss.take i)).1.length := by rw [bl.1]; omega
    refine ⟨_, rfl, _, rfl, l1, _, (B : Int), _, rfl, rfl, by omega, s3 _ _ g1, iv_atI hB, _, 1, rfl, rfl, l1, _, (B : Int), B, rfl, rfl, s3 _ _ g1, ixN_nat (by simpa using hB), ?_⟩
    rw [iv_set]
    have g2' := s3 _ _ g2
    have s4 := same_updN hl1 (s'.trans s3) (.lst (iv ((byF ns (dss.take i)).1.set B ((byF ns (dss.take i)).1.getD B 0 + 1))))
    have e1 : (upd H3 l1 (.lst (iv ((byF ns (dss.take i)).1.set B ((byF ns (dss.take i)).1.getD B 0 + 1))))) l1 = _ := upd_same
    have e2 : (upd H3 l1 (.lst (iv ((byF ns (dss.take i)).1.set B ((byF ns (dss.take i)).1.getD B 0 + 1))))) l2 = some (.lst (iv (byF ns (dss.take i)).2)) := by rw [upd_ne (Ne.symm l12)]; exact g2'
    generalize upd H3 l1 (.lst (iv ((byF ns (dss.take i)).1.set B ((byF ns (dss.take i)).1.getD B 0 + 1)))) = H4 at s4 e1 e2
    refine ⟨_, rfl, .inl ⟨rfl, _, SqL.of e2⟩, _, rfl, l2, _, .int (B : Int), rfl, rfl, e2, (by rw [sizeLine_eq]; simp [bl.2]; omega), ?_⟩
    refine ⟨⟨_, _, rfl⟩, same_updN hl20 s4 _, ?_, ?_⟩
    · rw [upd_ne l12, e1, tk]
      unfold stepF inc
      rw [hb']
      rfl
    · rw [upd_same, tk]
      unfold stepF
      rw [hb']
      simp
  · rintro σ H2 ⟨⟨o2, o5, rfl⟩, s', g1, g2⟩
    rw [dl, List.take_length] at g1 g2
    refine ⟨_, rfl, l1, _, rfl, .inl ⟨SqL.of g1, fun t ht => ?_⟩⟩
    have s3 := same_new ht (.tup (iv (byF ns dss).1))
    refine ⟨_, rfl, (by show 2 ≤ sizeLine; decide), fun r hr => ?_⟩
    have s4 := s3.trans (same_new hr (.tup [.ref t, .ref l2]))
    refine k r t l2 _ (s'.trans s4) upd_same ?_ (s4 _ _ g2) hl20
    exact same_new hr _ _ _ upd_same
end
end My

set_option Elab.async false
set_option linter.all false
set_option maxRecDepth 100000
set_option maxHeartbeats 4000000
namespace My
open PySem L2 MA
theorem pick5 {a b c d e i : Int} {P : Int → Prop} (h0 : 0 ≤ i) (h1 : i < 5) (ha : P a) (hb : P b) (hc : P c) (hd : P d) (he : P e) : ∃ z, P z ∧ atI ([.int a, .int b, .int c, .int d, .int e] : List V) i = some (.int z) := by
  rcases (show i = 0 ∨ i = 1 ∨ i = 2 ∨ i = 3 ∨ i = 4 by omega) with rfl | rfl | rfl | rfl | rfl
  · exact ⟨a, ha, rfl⟩
  · exact ⟨b, hb, rfl⟩
  · exact ⟨c, hc, rfl⟩
  · exact ⟨d, hd, rfl⟩
  · exact ⟨e, he, rfl⟩
theorem joinA {C R : Addr → Hp → Prop} {G : Prop} (main : (∀ a h, C a h → R a h) → G) (key : ∀ a h, C a h → R a h) : G := main key
theorem rep_iv (k : Nat) (bs : List Int) : (List.replicate k (iv bs)).flatten = iv (List.replicate k bs).flatten := by
  induction k with
  | zero => rfl
  | succ k ih => rw [List.replicate_succ, List.flatten_cons, ih, List.replicate_succ, List.flatten_cons]; simp
section
variable {P : Program} {w : World} {K : PySem.W.Frag} {mg : Str → Option Value} {base : Heap}
def spDraws : Sp := fun vs H Q _ => ∃ (p : Addr) (n most : Int) (m : Nat), vs = [.ref p, .int n, .int most] ∧ Pen H p m ∧ m < 60000 ∧ 1 ≤ n ∧ n ≤ 6 ∧ 2 ≤ most ∧ most ≤ 60 ∧
  ∀ (l : Addr) (xs : List V) (dss : List (List Int)) (H' : Hp), H' l = some (.lst xs) → Drs H' xs dss → OkD n.toNat dss → xs.length ≤ 60 → Pen H' p (m + 250) → SameX p H H' → Q (.ref l) H'
theorem ok_draws (T : Txt2 mg) (C_l_draw : Cal P w K mg base "_law_draw" ["_law_pen_here", "_law_many"] 1 spDraw) (F : FunAt K mg "_law_draws" ["_law_pen_here", "_law_n", "_law_most"] s_l_draws) : Cal P w K mg base "_law_draws" ["_law_pen_here", "_law_n", "_law_most"] 2 spDraws := by
  have S := sc_l_draws
  refine F.cal sc_l_draws (fun vs H Q E h => ?_) (fun f cdv A outer s H vs Q E hr h => ?_)
  · obtain ⟨p, n, mo, m, rfl, _⟩ := h; rfl
  obtain ⟨p, n, mo, m, rfl, pen, hm, n1, n6, mo2, mo60, k⟩ := h
  refine ⟨_, (@pss_cons _ _ _ _ _ (@ps_set _ _ (3) _ _ _ _ (by exact S.nd) (by rfl) (by first | exact Or.inl rfl | exact Or.inr rfl) (@cc _ _ _ _ _ _ _ _ _ _ (by exact C_l_draw) (by exact (hr.mono (by decide))) (@pa_consN _ _ _ _ _ (pv 0) (@pa_consN _ _ _ _ _ pe_int pa_nil (by first | rfl | decide | exact Or.inl rfl | exact Or.inr rfl | (intro _; rfl) | (intro _ _; rfl) | (intro _ _ _; rfl))) (by first | rfl | decide | exact Or.inl rfl | exact Or.inr rfl | (intro _; rfl) | (intro _ _; rfl) | (intro _ _ _; rfl))) (by first | rfl | decide | exact Or.inl rfl | exact Or.inr rfl | (intro _; rfl) | (intro _ _; rfl) | (intro _ _ _; rfl)) (by first | rfl | decide | exact Or.inl rfl | exact Or.inr rfl | (intro _; rfl) | (intro _ _; rfl) | (intro _ _ _; rfl)) (by first | rfl | decide | exact Or.inl rfl | exact Or.inr rfl | (intro _; rfl) | (intro _ _; rfl) | (intro _ _ _; rfl)) (by first | rfl | decide | exact Or.inl rfl | exact Or.inr rfl | (intro _; rfl) | (intro _ _; rfl) | (intro _ _ _; rfl))) (by first | rfl | decide | exact Or.inl rfl | exact Or.inr rfl | (intro _; rfl) | (intro _ _; rfl) | (intro _ _ _; rfl)) (by first | rfl | decide | exact Or.inl rfl | exact Or.inr rfl | (intro _; rfl) | (intro _ _; rfl) | (intro _ _ _; rfl))) (@pss_cons _ _ _ _ _ (@ps_set _ _ (4) _ _ _ _ (by exact S.nd) (by rfl) (by first | exact Or.inl rfl | exact Or.inr rfl) (@cc _ _ _ _ _ _ _ _ _ _ (by exact C_l_draw) (by exact (hr.mono (by decide))) (@pa_consN _ _ _ _ _ (pv 0) (@pa_consN _ _ _ _ _ pe_int pa_nil (by first | rfl | decide | exact Or.inl rfl | exact Or.inr rfl | (intro _; rfl) | (intro _ _; rfl) | (intro _ _ _; rfl))) (by first | rfl | decide | exact Or.inl rfl | exact Or.inr rfl | (intro _; rfl) | (intro _ _; rfl) | (intro _ _ _; rfl))) (by first | rfl | decide | exact Or.inl rfl | exact Or.inr rfl | (intro _; rfl) | (intro _ _; rfl) | (intro _ _ _; rfl)) (by first | rfl | decide | exact Or.inl rfl | exact Or.inr rfl | (intro _; rfl) | (intro _ _; rfl) | (intro _ _ _; rfl)) (by first | rfl | decide | exact Or.inl rfl | exact Or.inr rfl | (intro _; rfl) | (intro _ _; rfl) | (intro _ _ _; rfl)) (by first | rfl | decide | exact Or.inl rfl | exact Or.inr rfl | (intro _; rfl) | (intro _ _; rfl) | (intro _ _ _; rfl))) (by first | rfl | decide | exact Or.inl rfl | exact Or.inr rfl | (intro _; rfl) | (intro _ _; rfl) | (intro _ _ _; rfl)) (by first | rfl | decide | exact Or.inl rfl | exact Or.inr rfl | (intro _; rfl) | (intro _ _; rfl) | (intro _ _ _; rfl))) (@pss_cons _ _ _ _ _ (@ps_set _ _ (5) _ _ _ _ (by exact S.nd) (by rfl) (by first | exact Or.inl rfl | exact Or.inr rfl) (@pe_ix _ _ _ _ _ _ _ ix_list0 (@pe_lst _ _ _ _ (@pa_consN _ _ _ _ _ pe_int (@pa_consN _ _ _ _ _ pe_int (@pa_consN _ _ _ _ _ pe_int (@pa_consN _ _ _ _ _ (pv 2) (@pa_consN _ _ _ _ _ (@cc _ _ _ _ _ _ _ _ _ _ (by exact C_l_draw) (by exact (hr.mono (by decide))) (@pa_consN _ _ _ _ _ (pv 0) (@pa_consN _ _ _ _ _ (@pe_op _ _ _ _ _ _ _ _ op_add (pv 2) pe_int) pa_nil (by first | rfl | decide | exact Or.inl rfl | exact Or.inr rfl | (intro _; rfl) | (intro _ _; rfl) | (intro _ _ _; rfl))) (by first | rfl | decide | exact Or.inl rfl | exact Or.inr rfl | (intro _; rfl) | (intro _ _; rfl) | (intro _ _ _; rfl))) (by first | rfl | decide | exact Or.inl rfl | exact Or.inr rfl | (intro _; rfl) | (intro _ _; rfl) | (intro _ _ _; rfl)) (by first | rfl | decide | exact Or.inl rfl | exact Or.inr rfl | (intro _; rfl) | (intro _ _; rfl) | (intro _ _ _; rfl)) (by first | rfl | decide | exact Or.inl rfl | exact Or.inr rfl | (intro _; rfl) | (intro _ _; rfl) | (intro _ _ _; rfl)) (by first | rfl | decide | exact Or.inl rfl | exact Or.inr rfl | (intro _; rfl) | (intro _ _; rfl) | (intro _ _ _; rfl))) pa_nil (by first | rfl | decide | exact Or.inl rfl | exact Or.inr rfl | (intro _; rfl) | (intro _ _; rfl) | (intro _ _ _; rfl))) (by first | rfl | decide | exact Or.inl rfl | exact Or.inr rfl | (intro _; rfl) | (intro _ _; rfl) | (intro _ _ _; rfl))) (by first | rfl | decide | exact Or.inl rfl | exact Or.inr rfl | (intro _; rfl) | (intro _ _; rfl) | (intro _ _ _; rfl))) (by first | rfl | decide | exact Or.inl rfl | exact Or.inr rfl | (intro _; rfl) | (intro _ _; rfl) | (intro _ _ _; rfl))) (by first | rfl | decide | exact Or.inl rfl | exact Or.inr rfl | (intro _; rfl) | (intro _ _; rfl) | (intro _ _ _; rfl)))) (pv 3) (by exact (fun _ _ => rfl))) (by first | rfl | decide | exact Or.inl rfl | exact Or.inr rfl | (intro _; rfl) | (intro _ _; rfl) | (intro _ _ _; rfl)) (by first | rfl | decide | exact Or.inl rfl | exact Or.inr rfl | (intro _; rfl) | (intro _ _; rfl) | (intro _ _ _; rfl))) (@pss_cons _ _ _ _ _ (@ps_set _ _ (6) _ _ _ _ (by exact S.nd) (by rfl) (by first | exact Or.inl rfl | exact Or.inr rfl) (@pe_lst _ _ _ _ pa_nil) (by first | rfl | decide | exact Or.inl rfl | exact Or.inr rfl | (intro _; rfl) | (intro _ _; rfl) | (intro _ _ _; rfl)) (by first | rfl | decide | exact Or.inl rfl | exact Or.inr rfl | (intro _; rfl) | (intro _ _; rfl) | (intro _ _ _; rfl))) (@pss_cons _ _ _ _ _ (@ps_for _ _ _ _ _ _ _ _ (by exact PassesOwn.never) (by rfl) (@pi_range1 _ _ _ _ _ _ (by rfl) (by exact T.z_range) (@pa_consN _ _ _ _ _ (pv 5) pa_nil (by first | rfl | decide | exact Or.inl rfl | exact Or.inr rfl | (intro _; rfl) | (intro _ _; rfl) | (intro _ _ _; rfl))) (by first | rfl | decide | exact Or.inl rfl | exact Or.inr rfl | (intro _; rfl) | (intro _ _; rfl) | (intro _ _ _; rfl))) (@pg_name _ _ (7) _ (by exact S.nd) (by rfl) (by first | exact Or.inl rfl | exact Or.inr rfl) (by first | rfl | decide | exact Or.inl rfl | exact Or.inr rfl | (intro _; rfl) | (intro _ _; rfl) | (intro _ _ _; rfl))) (@pss_cons _ _ _ _ _ (@ps_comp _ _ _ _ _ _ _ _ _ _ _ _ _ _ _ (8) _ (by exact S.nd) (by rfl) (by first | exact Or.inl rfl | exact Or.inr rfl) (by rfl) (by exact (fun _ _ h => h)) (by decide +kernel) (by rfl) (by decide +kernel) (by exact hfr_of rfl) (by exact Sees.frees ["_law_j"] [("_law_pen_here", 0), ("_law_n", 1)] (fr_cons ⟨rfl, rfl⟩ (fr_cons ⟨rfl, rfl⟩ fr_nil))) (@pi_range1 _ _ _ _ _ _ (by rfl) (by exact T.z_range) (@pa_consN _ _ _ _ _ (@pe_op _ _ _ _ _ _ _ _ op_add pe_int (@cc _ _ _ _ _ _ _ _ _ _ (by exact C_l_draw) (by exact (hr.mono (by decide))) (@pa_consN _ _ _ _ _ (pv 0) (@pa_consN _ _ _ _ _ pe_int pa_nil (by first | rfl | decide | exact Or.inl rfl | exact Or.inr rfl | (intro _; rfl) | (intro _ _; rfl) | (intro _ _ _; rfl))) (by first | rfl | decide | exact Or.inl rfl | exact Or.inr rfl | (intro _; rfl) | (intro _ _; rfl) | (intro _ _ _; rfl))) (by first | rfl | decide | exact Or.inl rfl | exact Or.inr rfl | (intro _; rfl) | (intro _ _; rfl) | (intro _ _ _; rfl)) (by first | rfl | decide | exact Or.inl rfl | exact Or.inr rfl | (intro _; rfl) | (intro _ _; rfl) | (intro _ _ _; rfl)) (by first | rfl | decide | exact Or.inl rfl | exact Or.inr rfl | (intro _; rfl) | (intro _ _; rfl) | (intro _ _ _; rfl)) (by first | rfl | decide | exact Or.inl rfl | exact Or.inr rfl | (intro _; rfl) | (intro _ _; rfl) | (intro _ _ _; rfl)))) pa_nil (by first | rfl | decide | exact Or.inl rfl | exact Or.inr rfl | (intro _; rfl) | (intro _ _; rfl) | (intro _ _ _; rfl))) (by first | rfl | decide | exact Or.inl rfl | exact Or.inr rfl | (intro _; rfl) | (intro _ _; rfl) | (intro _ _ _; rfl))) (fun _ _ _ _ _ => @pg_name _ _ (0) _ (by exact (show (["_law_j", "_law_pen_here", "_law_n"] : List Str).Nodup by decide +kernel)) (by rfl) (by first | exact Or.inl rfl | exact Or.inr rfl) (by first | rfl | decide | exact Or.inl rfl | exact Or.inr rfl | (intro _; rfl) | (intro _ _; rfl) | (intro _ _ _; rfl))) (fun _ _ _ _ _ => pts_nil) (fun _ _ _ _ _ => (@cc _ _ _ _ _ _ _ _ _ _ (by exact C_l_draw) (by exact (hr.mono (by decide))) (@pa_consN _ _ _ _ _ (pv 1) (@pa_consN _ _ _ _ _ (pv 2) pa_nil (by first | rfl | decide | exact Or.inl rfl | exact Or.inr rfl | (intro _; rfl) | (intro _ _; rfl) | (intro _ _ _; rfl))) (by first | rfl | decide | exact Or.inl rfl | exact Or.inr rfl | (intro _; rfl) | (intro _ _; rfl) | (intro _ _ _; rfl))) (by first | rfl | decide | exact Or.inl rfl | exact Or.inr rfl | (intro _; rfl) | (intro _ _; rfl) | (intro _ _ _; rfl)) (by first | rfl | decide | exact Or.inl rfl | exact Or.inr rfl | (intro _; rfl) | (intro _ _; rfl) | (intro _ _ _; rfl)) (by first | rfl | decide | exact Or.inl rfl | exact Or.inr rfl | (intro _; rfl) | (intro _ _; rfl) | (intro _ _ _; rfl)) (by first | rfl | decide | exact Or.inl rfl | exact Or.inr rfl | (intro _; rfl) | (intro _ _; rfl) | (intro _ _ _; rfl)))) (by first | rfl | decide | exact Or.inl rfl | exact Or.inr rfl | (intro _; rfl) | (intro _ _; rfl) | (intro _ _ _; rfl)) (by first | rfl | decide | exact Or.inl rfl | exact Or.inr rfl | (intro _; rfl) | (intro _ _; rfl) | (intro _ _ _; rfl)) (by first | rfl | decide | exact Or.inl rfl | exact Or.inr rfl | (intro _; rfl) | (intro _ _; rfl) | (intro _ _ _; rfl))) (@pss_cons _ _ _ _ _ (@ps_if _ _ _ _ _ _ _ _ (@pt_cmpR _ _ _ _ _ _ _ _ op_lt (pv 4) pe_int (by exact (nomark _))) (@pss_one _ _ _ (@ps_set _ _ (8) _ _ _ _ (by exact S.nd) (by rfl) (by first | exact Or.inl rfl | exact Or.inr rfl) (@pe_slice _ _ _ _ _ _ _ _ _ _ sl_list0 (@pe_op _ _ _ _ _ _ _ _ op_rep (pv 8) pe_int) po_none (@po_some _ _ _ (@pe_op _ _ _ _ _ _ _ _ op_add (pv 4) pe_int))) (by first | rfl | decide | exact Or.inl rfl | exact Or.inr rfl | (intro _; rfl) | (intro _ _; rfl) | (intro _ _ _; rfl)) (by first | rfl | decide | exact Or.inl rfl | exact Or.inr rfl | (intro _; rfl) | (intro _ _; rfl) | (intro _ _ _; rfl)))) pss_nil) (@pss_one _ _ _ (@ps_expr _ _ _ _ (@pe_bm _ _ _ _ _ _ _ _ _ _ _ _ (by exact PySem.F.plainAttrs_list) (by exact PySem.F.slot_list_append) (by exact PySem.F.type_list_append) mt_append (pv 6) (@pa_consN _ _ _ _ _ (@pe_callTy _ _ _ _ _ _ _ _ _ call_tuple_of (by rfl) (by exact T.z_tuple) (by exact bt_tuple) (@pa_consN _ _ _ _ _ (pv 8) pa_nil (by first | rfl | decide | exact Or.inl rfl | exact Or.inr rfl | (intro _; rfl) | (intro _ _; rfl) | (intro _ _ _; rfl))) (by first | rfl | decide | exact Or.inl rfl | exact Or.inr rfl | (intro _; rfl) | (intro _ _; rfl) | (intro _ _ _; rfl)) (by first | rfl | decide | exact Or.inl rfl | exact Or.inr rfl | (intro _; rfl) | (intro _ _; rfl) | (intro _ _ _; rfl)) (by first | rfl | decide | exact Or.inl rfl | exact Or.inr rfl | (intro _; rfl) | (intro _ _; rfl) | (intro _ _ _; rfl)) (by first | rfl | decide | exact Or.inl rfl | exact Or.inr rfl | (intro _; rfl) | (intro _ _; rfl) | (intro _ _ _; rfl))) pa_nil (by first | rfl | decide | exact Or.inl rfl | exact Or.inr rfl | (intro _; rfl) | (intro _ _; rfl) | (intro _ _ _; rfl))) (by first | rfl | decide | exact Or.inl rfl | exact Or.inr rfl | (intro _; rfl) | (intro _ _; rfl) | (intro _ _ _; rfl)) (by first | rfl | decide | exact Or.inl rfl | exact Or.inr rfl | (intro _; rfl) | (intro _ _; rfl) | (intro _ _ _; rfl)) (by first | rfl | decide | exact Or.inl rfl | exact Or.inr rfl | (intro _; rfl) | (intro _ _; rfl) | (intro _ _ _; rfl)) (by first | rfl | decide | exact Or.inl rfl | exact Or.inr rfl | (intro _; rfl) | (intro _ _; rfl) | (intro _ _ _; rfl)) (by first | rfl | decide | exact Or.inl rfl | exact Or.inr rfl | (intro _; rfl) | (intro _ _; rfl) | (intro _ _ _; rfl))) (by first | rfl | decide | exact Or.inl rfl | exact Or.inr rfl | (intro _; rfl) | (intro _ _; rfl) | (intro _ _ _; rfl)))))) (by first | rfl | decide | exact Or.inl rfl | exact Or.inr rfl | (intro _; rfl) | (intro _ _; rfl) | (intro _ _ _; rfl))) (@pss_one _ _ _ (@ps_ret _ _ _ _ (pv 6)))))))), ?_⟩
  refine ⟨_, rfl, p, _, m, rfl, pen, by omega, by decide, by decide, fun d1 H1 d10 d11 p1 x1 => ?_⟩
  refine ⟨_, rfl, p, _, _, rfl, p1, by omega, by decide, by decide, fun d2 H2 d20 d21 p2 x2 => ?_⟩
  obtain ⟨D, rfl⟩ : ∃ D : Nat, d2 = (D : Int) := ⟨d2.toNat, by omega⟩
  refine ⟨_, rfl, _, rfl, _, rfl, _, _, rfl, rfl, p, _, _, rfl, p2, by omega, by omega, by omega, fun d3 H3 d30 d31 p3 x3 => ⟨lz 5 rfl, fun t ht => ?_⟩⟩
  have st := same_new ht (.lst [.int 0, .int 1, .int 2, .int mo, .int d3])
  obtain ⟨N, ⟨N0, N1⟩, hN⟩ := pick5 (a := 0) (b := 1) (c := 2) (d := mo) (e := d3) (P := fun z => 0 ≤ z ∧ z ≤ 60) d10 d11 ⟨by decide, by decide⟩ ⟨by decide, by decide⟩ ⟨by decide, by decide⟩ ⟨by omega, by omega⟩ ⟨by omega, by omega⟩
  refine ⟨_, rfl, t, _, _, _, rfl, rfl, upd_same, hN, ?_⟩
  have p3' := p3.same st
  have x03 := ((x1.trans x2).trans x3).trans st.x
  generalize upd H3 t (.lst [.int 0, .int 1, .int 2, .int mo, .int d3]) = H4 at p3' x03
  clear st ht hN
  refine ⟨lz 0 rfl, fun l hl => ?_⟩
  refine ⟨_, rfl, N, rfl, by omega, by omega, for_range (n := N.toNat) (fun i σ H' => Pen H' p (m + 3 + 4 * i) ∧ SameX p H4 H' ∧ (∃ xs dss, H' l = some (.lst xs) ∧ Drs H' xs dss ∧ OkD n.toNat dss ∧ xs.length = i) ∧ ∃ o7 o8, σ = [some (.ref p), some (.int n), some (.int mo), some (.int d1), some (.int (D : Int)), some (.int N), some (.ref l), o7, o8]) ?_ ?_ ?_⟩
  · exact ⟨p3'.same (same_new hl _), (same_new hl _).x, ⟨[], [], upd_same, .nil, fun d hd => by simp at hd, rfl⟩, _, _, rfl⟩
  · rintro i σ H5 hi ⟨p5, x5, ⟨xs, dss, hl5, dr, od, hxl⟩, o7, o8, rfl⟩
    apply joinA (C := fun c H' => ∃ bs : List Int, H' c = some (.lst (iv bs)) ∧ bs ≠ [] ∧ bs.length ≤ 4 ∧ (∀ b ∈ bs, 0 ≤ b ∧ b < n.toNat) ∧ Pen H' p (m + 3 + 4 * i + 4) ∧ SameX p H5 H')
    case main =>
      intro key
      refine ⟨_, rfl, p, _, _, rfl, p5, by omega, by decide, by decide, fun e H6 e0 e1 p6 x6 => ?_⟩
      refine ⟨_, _, rfl, rfl, _, rfl, by omega, by omega, comp_rng (n := (1 + e).toNat) (lo := 0) (fs := [some (.ref p), some (.int n)]) (fun acc j ys H' => Pen H' p (m + 3 + 4 * i + 1 + j) ∧ SameX p H6 H' ∧ ∃ bs : List Int, ys = iv bs ∧ ∀ b ∈ bs, 0 ≤ b ∧ b < n.toNat) (by omega) ?_ ?_ ?_⟩
      · exact fun acc hacc => ⟨p6.same (same_new hacc _), (same_new hacc _).x, [], rfl, by simp⟩
      · rintro acc j ys H' hacc hj hl' ⟨p', x', bs, rfl, hb⟩ hacc' Q' hQ
        refine ⟨_, rfl, _, rfl, p, _, _, rfl, p', by omega, by omega, by omega, fun r H2 r0 r1 p2 x2 => ?_⟩
        obtain ⟨u1, u2⟩ := penX_upd hacc p6 (x'.trans x2) p2 (.lst (iv bs ++ [.int r]))
        refine hQ _ H2 (p'.keep x2 hacc') ⟨u1, u2, bs ++ [r], by simp, fun b hbm => ?_⟩
        rcases List.mem_append.mp hbm with q | q
        · exact hb b q
        · have : b = r := by simpa using q
          omega
      rintro lb ys H7 hlb0 ⟨p7, x7, bs, rfl, hb⟩ hlb hlen
      have hbn : bs.length = (1 + e).toNat := by simpa using hlen
      have x57 := x6.trans x7
      refine ⟨_, rfl, _, _, rfl, rfl, _, rfl, ?_⟩
      refine ite2 (fun c => ?tt) (fun c => ?ff)
      case ff => exact key lb H7 ⟨bs, hlb, List.ne_nil_of_length_pos (by omega), by omega, hb, p7.mono (by omega), x57⟩
      case tt =>
        have c' : (D : Int) < 2 := of_decide_eq_true c
        refine ⟨_, rfl, lb, 3, _, rfl, rfl, hlb, by decide, by decide, (by rw [sizeLine_eq]; simp; omega), fun q hq => ?_⟩
        have sq := same_new hq (.lst (List.replicate (3 : Int).toNat (iv bs)).flatten)
        refine ⟨_, rfl, _, _, rfl, rfl, _, rfl, q, _, rfl, upd_same, fun q2 hq2 => ?_⟩
        have sq2 := sq.trans (same_new hq2 (.lst (cutV (List.replicate (3 : Int).toNat (iv bs)).flatten none (some ((D : Int) + 1)))))
        refine key q2 _ ⟨((List.replicate 3 bs).flatten).take (D + 1), ?_, ?_, ?_, ?_, (p7.same sq2).mono (by omega), x57.trans sq2.x⟩
        · rw [upd_same, show ((D : Int) + 1) = ((D + 1 : Nat) : Int) by omega, cut_take (by rw [len_rep]; simp; omega), show (3 : Int).toNat = 3 from rfl, rep_iv, ← List.map_take]
        · refine List.ne_nil_of_length_pos ?_
          rw [List.length_take, len_rep]
          omega
        · rw [List.length_take]
          omega
        · intro b hb'
          have := List.mem_of_mem_take hb'
          obtain ⟨z, hz, hbz⟩ := List.mem_flatten.mp this
          rw [List.eq_of_mem_replicate hz] at hbz
          exact hb b hbz
    rintro lb H8 ⟨bs, hlb, bne, b4, hb, p8, x8⟩
    have hl8 := p5.keep x8 hl5
    have dr8 : Drs H8 xs dss := dr.mono fun a xs e => p5.keep x8 e
    refine ⟨_, rfl, .inl ⟨rfl, _, SqL.of hl8⟩, _, rfl, lb, _, rfl, .inl ⟨SqL.of hlb, fun t ht => ?_⟩⟩
    have s9 := same_new ht (.tup (iv bs))
    have ht9 : (upd H8 t (.tup (iv bs))) t = some (.tup (iv bs)) := upd_same
    have hl9 := s9 _ _ hl8
    have dr9 := dr8.same s9
    have p9 := p8.same s9
    have x9 := (x5.trans x8).trans s9.x
    generalize upd H8 t (.tup (iv bs)) = H9 at s9 ht9 hl9 dr9 p9 x9
    refine ⟨l, xs, .ref t, rfl, rfl, hl9, (by rw [sizeLine_eq]; omega), ?_⟩
    obtain ⟨u1, u2⟩ := penX_upd hl p3' x9 p9 (.lst (xs ++ [.ref t]))
    have up : ∀ a ys, H9 a = some (.tup ys) → (upd H9 l (.lst (xs ++ [.ref t]))) a = some (.tup ys) := fun a ys e => by rw [upd_ne (ne_of e hl9 (by intro z; cases z))]; exact e
    refine ⟨u1.mono (by omega), u2, ⟨xs ++ [.ref t], dss ++ [bs], upd_same, (dr9.mono up).app (.cons (up _ _ ht9) .nil), fun d hd => ?_, by simp; omega⟩, _, _, rfl⟩
    rcases List.mem_append.mp hd with z | z
    · exact od d z
    · rw [List.mem_singleton.mp z]
      exact ⟨bne, b4, hb⟩
  · rintro σ H5 ⟨p5, x5, ⟨xs, dss, hl5, dr, od, hxl⟩, o7, o8, rfl⟩
    exact ⟨_, rfl, k l xs dss H5 hl5 dr od (by omega) (p5.mono (by omega)) (x03.trans x5)⟩
end
end My

set_option Elab.async false
set_option linter.all false
set_option maxRecDepth 100000
set_option maxHeartbeats 4000000
namespace My
open PySem L2 MA
def swapF (dss : List (List Int)) (k : Nat) : List (List Int) := dss.take k ++ [dss.getD (k + 1) [], dss.getD k []] ++ dss.drop (k + 2)
def omP (ns : List Int) (dss : List (List Int)) (k : Nat) : Bool := !decide ((byF ns (swapF dss k)).1 = (byF ns dss).1)
def omF (ns : List Int) (dss : List (List Int)) : Option Nat := (List.range (dss.length - 1)).find? (omP ns dss)
def optV : Option Nat → V
  | none => .non
  | some k => .int (k : Int)
theorem om_at {ns : List Int} {dss : List (List Int)} {k : Nat} (hk : k < dss.length - 1) (h : omP ns dss k = true) (hb : ∀ j, j < k → omP ns dss j = false) : omF ns dss = some k := by
  unfold omF
  rw [List.find?_range_eq_some]
  exact ⟨h, List.mem_range.mpr hk, fun j hj => by rw [hb j hj]; rfl⟩
theorem om_no {ns : List Int} {dss : List (List Int)} (hb : ∀ j, j < dss.length - 1 → omP ns dss j = false) : omF ns dss = none := by
  unfold omF
  rw [List.find?_range_eq_none]
  exact fun j hj => by rw [hb j hj]; rfl
theorem OkD.swap {N : Nat} {dss : List (List Int)} (h : OkD N dss) {k : Nat} (hk : k + 1 < dss.length) : OkD N (swapF dss k) := by
  intro d hd
  unfold swapF at hd
  rw [List.mem_append, List.mem_append] at hd
  have g : ∀ i, i < dss.length → dss.getD i [] ∈ dss := fun i hi => by rw [getD_of hi]; exact List.getElem_mem hi
  rcases hd with (z | z) | z
  · exact h d (List.mem_of_mem_take z)
  · rcases List.mem_cons.mp z with rfl | z
    · exact h _ (g _ (by omega))
    · rw [List.mem_singleton.mp z]; exact h _ (g _ (by omega))
  · exact h d (List.mem_of_mem_drop z)
theorem Drs.atD {H : Hp} {xs : List V} {dss : List (List Int)} (h : Drs H xs dss) {i : Nat} (hi : i < xs.length) : ∃ t, xs[i]? = some (.ref t) ∧ H t = some (.tup (iv (dss.getD i []))) := by
  obtain ⟨t, ds, e1, e2, e3⟩ := h.get (List.getElem?_eq_getElem hi)
  refine ⟨t, by rw [List.getElem?_eq_getElem hi, e1], ?_⟩
  rw [List.getD_eq_getElem?_getD, e2]
  exact e3
section
variable {P : Program} {w : World} {K : PySem.W.Frag} {mg : Str → Option Value} {base : Heap}
def spOm (T : Addr) (q : Str) : Sp := fun vs H Q _ => ∃ (a b : Addr) (ns : List Int) (xs : List V) (dss : List (List Int)), vs = [.ref a, .ref b] ∧ H a = some (.tup (iv ns)) ∧ H b = some (.lst xs) ∧ Drs H xs dss ∧ OkD ns.length dss ∧ xs.length ≤ 500 ∧ H T = some (.tab q) ∧ ∀ H', Same H H' → Q (optV (omF ns dss)) H'
theorem ok_om {D : Addr} (T : Txt2 mg) (C_by_draws : Cal P w K mg base "by_draws" ["stand", "draws"] 4 (spBy D (qLam "emptiest_of"))) (F : FunAt K mg "order_matters" ["stand", "draws"] s_order_matters) : Cal P w K mg base "order_matters" ["stand", "draws"] 5 (spOm D (qLam "emptiest_of")) := by
  have S := sc_order_matters
  refine F.cal sc_order_matters (fun vs H Q E h => ?_) (fun f cdv A outer s H vs Q E hr h => ?_)
  · obtain ⟨a, b, ns, xs, dss, rfl, _⟩ := h; rfl
  obtain ⟨a, b, ns, xs, dss, rfl, ha, hb, dr, od, h500, hT, k⟩ := h
  have hu := hr.units0
  have dl := dr.len
  refine ⟨_, (@pss_cons _ _ _ _ _ (@ps_set _ _ (2) _ _ _ _ (by exact S.nd) (by rfl) (by first | exact Or.inl rfl | exact Or.inr rfl) (@pe_ix _ _ _ _ _ _ _ ix_tup (@cc _ _ _ _ _ _ _ _ _ _ (by exact C_by_draws) (by exact (hr.mono (by decide))) (@pa_consN _ _ _ _ _ (pv 0) (@pa_consN _ _ _ _ _ (pv 1) pa_nil (by first | rfl | decide | exact Or.inl rfl | exact Or.inr rfl | (intro _; rfl) | (intro _ _; rfl) | (intro _ _ _; rfl))) (by first | rfl | decide | exact Or.inl rfl | exact Or.inr rfl | (intro _; rfl) | (intro _ _; rfl) | (intro _ _ _; rfl))) (by first | rfl | decide | exact Or.inl rfl | exact Or.inr rfl | (intro _; rfl) | (intro _ _; rfl) | (intro _ _ _; rfl)) (by first | rfl | decide | exact Or.inl rfl | exact Or.inr rfl | (intro _; rfl) | (intro _ _; rfl) | (intro _ _ _; rfl)) (by first | rfl | decide | exact Or.inl rfl | exact Or.inr rfl | (intro _; rfl) | (intro _ _; rfl) | (intro _ _ _; rfl)) (by first | rfl | decide | exact Or.inl rfl | exact Or.inr rfl | (intro _; rfl) | (intro _ _; rfl) | (intro _ _ _; rfl))) pe_int (by exact (fun _ _ => rfl))) (by first | rfl | decide | exact Or.inl rfl | exact Or.inr rfl | (intro _; rfl) | (intro _ _; rfl) | (intro _ _ _; rfl)) (by first | rfl | decide | exact Or.inl rfl | exact Or.inr rfl | (intro _; rfl) | (intro _ _; rfl) | (intro _ _ _; rfl))) (@pss_cons _ _ _ _ _ (@ps_for _ _ _ _ _ _ _ _ (by exact PassesOwn.never) (by rfl) (@pi_range1 _ _ _ _ _ _ (by rfl) (by exact T.z_range) (@pa_consN _ _ _ _ _ (@pe_op _ _ _ _ _ _ _ _ op_sub (@pe_callB _ _ _ _ _ _ _ _ _ call_len_seq (by rfl) (by exact T.z_len) (by exact bt_len) (@pa_consN _ _ _ _ _ (pv 1) pa_nil (by first | rfl | decide | exact Or.inl rfl | exact Or.inr rfl | (intro _; rfl) | (intro _ _; rfl) | (intro _ _ _; rfl))) (by first | rfl | decide | exact Or.inl rfl | exact Or.inr rfl | (intro _; rfl) | (intro _ _; rfl) | (intro _ _ _; rfl)) (by first | rfl | decide | exact Or.inl rfl | exact Or.inr rfl | (intro _; rfl) | (intro _ _; rfl) | (intro _ _ _; rfl)) (by first | rfl | decide | exact Or.inl rfl | exact Or.inr rfl | (intro _; rfl) | (intro _ _; rfl) | (intro _ _ _; rfl)) (by first | rfl | decide | exact Or.inl rfl | exact Or.inr rfl | (intro _; rfl) | (intro _ _; rfl) | (intro _ _ _; rfl))) pe_int) pa_nil (by first | rfl | decide | exact Or.inl rfl | exact Or.inr rfl | (intro _; rfl) | (intro _ _; rfl) | (intro _ _ _; rfl))) (by first | rfl | decide | exact Or.inl rfl | exact Or.inr rfl | (intro _; rfl) | (intro _ _; rfl) | (intro _ _ _; rfl))) (@pg_name _ _ (3) _ (by exact S.nd) (by rfl) (by first | exact Or.inl rfl | exact Or.inr rfl) (by first | rfl | decide | exact Or.inl rfl | exact Or.inr rfl | (intro _; rfl) | (intro _ _; rfl) | (intro _ _ _; rfl))) (@pss_cons _ _ _ _ _ (@ps_set _ _ (4) _ _ _ _ (by exact S.nd) (by rfl) (by first | exact Or.inl rfl | exact Or.inr rfl) (@pe_op _ _ _ _ _ _ _ _ op_cat (@pe_op _ _ _ _ _ _ _ _ op_cat (@pe_slice _ _ _ _ _ _ _ _ _ _ sl_list (pv 1) po_none (@po_some _ _ _ (pv 3))) (@pe_lst _ _ _ _ (@pa_consN _ _ _ _ _ (@pe_ix _ _ _ _ _ _ _ ix_list (pv 1) (@pe_op _ _ _ _ _ _ _ _ op_add (pv 3) pe_int) (by exact (fun _ _ => rfl))) (@pa_consN _ _ _ _ _ (@pe_ix _ _ _ _ _ _ _ ix_list (pv 1) (pv 3) (by exact (fun _ _ => rfl))) pa_nil (by first | rfl | decide | exact Or.inl rfl | exact Or.inr rfl | (intro _; rfl) | (intro _ _; rfl) | (intro _ _ _; rfl))) (by first | rfl | decide | exact Or.inl rfl | exact Or.inr rfl | (intro _; rfl) | (intro _ _; rfl) | (intro _ _ _; rfl))))) (@pe_slice _ _ _ _ _ _ _ _ _ _ sl_list (pv 1) (@po_some _ _ _ (@pe_op _ _ _ _ _ _ _ _ op_add (pv 3) pe_int)) po_none)) (by first | rfl | decide | exact Or.inl rfl | exact Or.inr rfl | (intro _; rfl) | (intro _ _; rfl) | (intro _ _ _; rfl)) (by first | rfl | decide | exact Or.inl rfl | exact Or.inr rfl | (intro _; rfl) | (intro _ _; rfl) | (intro _ _ _; rfl))) (@pss_one _ _ _ (@ps_if _ _ _ _ _ _ _ _ (@pt_cmpR _ _ _ _ _ _ _ _ (op_neI hu) (@pe_ix _ _ _ _ _ _ _ ix_tup (@cc _ _ _ _ _ _ _ _ _ _ (by exact C_by_draws) (by exact (hr.mono (by decide))) (@pa_consN _ _ _ _ _ (pv 0) (@pa_consN _ _ _ _ _ (pv 4) pa_nil (by first | rfl | decide | exact Or.inl rfl | exact Or.inr rfl | (intro _; rfl) | (intro _ _; rfl) | (intro _ _ _; rfl))) (by first | rfl | decide | exact Or.inl rfl | exact Or.inr rfl | (intro _; rfl) | (intro _ _; rfl) | (intro _ _ _; rfl))) (by first | rfl | decide | exact Or.inl rfl | exact Or.inr rfl | (intro _; rfl) | (intro _ _; rfl) | (intro _ _ _; rfl)) (by first | rfl | decide | exact Or.inl rfl | exact Or.inr rfl | (intro _; rfl) | (intro _ _; rfl) | (intro _ _ _; rfl)) (by first | rfl | decide | exact Or.inl rfl | exact Or.inr rfl | (intro _; rfl) | (intro _ _; rfl) | (intro _ _ _; rfl)) (by first | rfl | decide | exact Or.inl rfl | exact Or.inr rfl | (intro _; rfl) | (intro _ _; rfl) | (intro _ _ _; rfl))) pe_int (by exact (fun _ _ => rfl))) (pv 2) (by exact (nomark _))) (@pss_one _ _ _ (@ps_ret _ _ _ _ (pv 3))) pss_nil))) (by first | rfl | decide | exact Or.inl rfl | exact Or.inr rfl | (intro _; rfl) | (intro _ _; rfl) | (intro _ _ _; rfl))) (@pss_one _ _ _ (@ps_ret _ _ _ _ pe_non)))), ?_⟩
  refine ⟨_, rfl, _, rfl, a, b, ns, xs, dss, rfl, ha, hb, dr, od, by omega, hT, fun r t l H1 s1 hr1 ht1 hl1 _ => ?_⟩
  refine ⟨r, _, _, _, rfl, rfl, SqT.of hr1, rfl, ?_⟩
  refine ⟨_, rfl, b, _, rfl, .inl (SqL.of (s1 _ _ hb)), _, _, rfl, rfl, _, rfl, by omega, by omega, for_range (n := ((xs.length : Nat) - 1 : Int).toNat) (fun i σ H' => (∃ o3 o4, σ = [some (.ref a), some (.ref b), some (.ref t), o3, o4]) ∧ Same H1 H' ∧ ∀ j, j < i → omP ns dss j = false) ⟨⟨_, _, rfl⟩, Same.refl _, fun j hj => by omega⟩ ?_ ?_⟩
  · rintro i σ H2 hi ⟨⟨o3, o4, rfl⟩, s2, hno⟩
    have s12 := s1.trans s2
    rw [Int.zero_add]
    have hi2 : i + 1 < xs.length := by omega
    have hb2 := s12 _ _ hb
    refine ⟨_, rfl, _, rfl, _, rfl, b, _, rfl, SqL.of hb2, fun q1 hq1 => ?_⟩
    rw [cut_take (show i ≤ xs.length by omega)]
    have s3 := same_new hq1 (.lst (xs.take i))
    have e3 : (upd H2 q1 (.lst (xs.take i))) q1 = _ := upd_same
    generalize upd H2 q1 (.lst (xs.take i)) = H3 at s3 e3
    have s13 := s12.trans s3
    obtain ⟨ta, hta, gta⟩ := dr.atD (i := i) (by omega)
    obtain ⟨tb, htb, gtb⟩ := dr.atD (i := i + 1) (by omega)
    refine ⟨_, rfl, _, rfl, _, _, rfl, rfl, b, _, _, _, rfl, rfl, SqL.of (s13 _ _ hb), atI_nat htb, _, rfl, _, rfl, b, _, _, _, rfl, rfl, SqL.of (s13 _ _ hb), atI_nat hta, lz 2 rfl, fun q2 hq2 => ?_⟩
    have s4 := same_new hq2 (.lst [.ref tb, .ref ta])
    have e4 : (upd H3 q2 (.lst [.ref tb, .ref ta])) q2 = _ := upd_same
    have e34 := s4 _ _ e3
    have s14 := s13.trans s4
    generalize upd H3 q2 (.lst [.ref tb, .ref ta]) = H4 at s4 e4 e34 s14
    refine ⟨q1, q2, _, _, rfl, rfl, e34, e4, (by rw [sizeLine_eq]; simp; omega), fun q3 hq3 => ?_⟩
    have s5 := same_new hq3 (.lst (xs.take i ++ [.ref tb, .ref ta]))
    have e5 : (upd H4 q3 (.lst (xs.take i ++ [.ref tb, .ref ta]))) q3 = _ := upd_same
    have s15 := s14.trans s5
    generalize upd H4 q3 (.lst (xs.take i ++ [.ref tb, .ref ta])) = H5 at s5 e5 s15
    refine ⟨_, rfl, _, rfl, _, _, rfl, rfl, _, rfl, b, _, rfl, SqL.of (s15 _ _ hb), fun q4 hq4 => ?_⟩
    have ed : cutV xs (some ((i : Int) + 2)) none = xs.drop (i + 2) := by
      rw [show ((i : Int) + 2) = ((i + 2 : Nat) : Int) by omega]
      exact cut_drop (by omega)
    rw [ed]
    have s6 := same_new hq4 (.lst (xs.drop (i + 2)))
    have e6 : (upd H5 q4 (.lst (xs.drop (i + 2)))) q4 = _ := upd_same
    have e56 := s6 _ _ e5
    have s16 := s15.trans s6
    generalize upd H5 q4 (.lst (xs.drop (i + 2))) = H6 at s6 e6 e56 s16
    refine ⟨q3, q4, _, _, rfl, rfl, e56, e6, (by rw [sizeLine_eq]; simp; omega), fun q5 hq5 => ?_⟩
    have s7 := same_new hq5 (.lst (xs.take i ++ [.ref tb, .ref ta] ++ xs.drop (i + 2)))
    have e7 : (upd H6 q5 (.lst (xs.take i ++ [.ref tb, .ref ta] ++ xs.drop (i + 2)))) q5 = _ := upd_same
    have s17 := s16.trans s7
    generalize upd H6 q5 (.lst (xs.take i ++ [.ref tb, .ref ta] ++ xs.drop (i + 2))) = H7 at s7 e7 s17
    have dr7 := dr.same s17
    have drs : Drs H7 (xs.take i ++ [.ref tb, .ref ta] ++ xs.drop (i + 2)) (swapF dss i) := ((dr7.take i).app (.cons (s17 _ _ gtb) (.cons (s17 _ _ gta) .nil))).app (dr7.drop (i + 2))
    refine ⟨_, rfl, _, rfl, a, q5, ns, _, swapF dss i, rfl, s17 _ _ ha, e7, drs, od.swap (by omega), (by simp; omega), s17 _ _ hT, fun r8 t8 l8 H8 s8 hr8 ht8 hl8 _ => ?_⟩
    refine ⟨r8, _, _, _, rfl, rfl, SqT.of hr8, rfl, ?_⟩
    have s38 := (((((s3.trans s4).trans s5).trans s6).trans s7).trans s8)
    have t8' : H8 t = some (.tup (iv (byF ns dss).1)) := (s2.trans s38) _ _ ht1
    refine ⟨_, rfl, t8, t, _, _, rfl, rfl, ht8, t8', _, rfl, ?_⟩
    by_cases e : (byF ns (swapF dss i)).1 = (byF ns dss).1
    · rw [decide_eq_true e]
      refine iteF ⟨⟨_, _, rfl⟩, s2.trans s38, fun j hj => ?_⟩
      by_cases ej : j = i
      · subst ej
        unfold omP
        rw [decide_eq_true e]
        rfl
      · exact hno j (by omega)
    · rw [decide_eq_false e]
      refine iteT ⟨_, rfl, ?_⟩
      have eo : omF ns dss = some i := om_at (by omega) (by unfold omP; rw [decide_eq_false e]; rfl) hno
      rw [eo] at k
      exact k _ (s17.trans s8)
  · rintro σ H2 ⟨⟨o3, o4, rfl⟩, s2, hno⟩
    have e : omF ns dss = none := om_no fun j hj => hno j (by omega)
    rw [e] at k
    exact k _ (s1.trans s2)
end
end My

set_option Elab.async false
set_option linter.all false
set_option maxRecDepth 100000
set_option maxHeartbeats 4000000
namespace My
open PySem L2 MA
theorem list_iff {xs ys : List Int} : PyData.list (xs.map PyData.int) = PyData.list (ys.map PyData.int) ↔ xs = ys := by
  constructor
  · intro h
    have := PyData.list.inj h
    exact (List.map_inj_right fun a b e => PyData.int.inj e).mp this
  · rintro rfl
    rfl
theorem cmp_ints (n : Nat) (xs ys : List Int) : ∀ p ∈ (xs.map PyData.int).zip (ys.map PyData.int), cmpN n p.1 p.2 := by
  intro p hp
  obtain ⟨a, _, ha⟩ := List.mem_map.mp (List.of_mem_zip (a := p.1) (b := p.2) hp).1
  obtain ⟨b, _, hb⟩ := List.mem_map.mp (List.of_mem_zip (a := p.1) (b := p.2) hp).2
  rw [← ha, ← hb]
  cases n <;> exact trivial
section
variable {P : Program} {w : World} {K : PySem.W.Frag} {mg : Str → Option Value} {base : Heap}
def spBehind : Sp := fun vs H Q _ => ∃ (a b : Addr) (ns : List Int) (xs : List V) (dss : List (List Int)), vs = [.ref a, .ref b] ∧ H a = some (.tup (iv ns)) ∧ H b = some (.lst xs) ∧ Drs H xs dss ∧ OkD ns.length dss ∧
  ∀ (l : Addr) (H' : Hp), Same H H' → H' l = some (.lst (iv (byF ns dss).1)) → Q (.ref l) H'
theorem ok_behind (T : Txt2 mg) (F : FunAt K mg "_law_behind" ["_law_stand_here", "_law_draws_here"] s_l_behind) : Cal P w K mg base "_law_behind" ["_law_stand_here", "_law_draws_here"] 1 spBehind := by
  have S := sc_l_behind
  refine F.cal sc_l_behind (fun vs H Q E h => ?_) (fun f cdv A outer s H vs Q E hr h => ?_)
  · obtain ⟨a, b, ns, xs, dss, rfl, _⟩ := h; rfl
  obtain ⟨a, b, ns, xs, dss, rfl, ha, hb, dr, od, k⟩ := h
  have dl := dr.len
  refine ⟨_, (@pss_cons _ _ _ _ _ (@ps_set _ _ (2) _ _ _ _ (by exact S.nd) (by rfl) (by first | exact Or.inl rfl | exact Or.inr rfl) (@pe_callTy _ _ _ _ _ _ _ _ _ call_list_of (by rfl) (by exact T.z_list) (by exact bt_list) (@pa_consN _ _ _ _ _ (pv 0) pa_nil (by first | rfl | decide | exact Or.inl rfl | exact Or.inr rfl | (intro _; rfl) | (intro _ _; rfl) | (intro _ _ _; rfl))) (by first | rfl | decide | exact Or.inl rfl | exact Or.inr rfl | (intro _; rfl) | (intro _ _; rfl) | (intro _ _ _; rfl)) (by first | rfl | decide | exact Or.inl rfl | exact Or.inr rfl | (intro _; rfl) | (intro _ _; rfl) | (intro _ _ _; rfl)) (by first | rfl | decide | exact Or.inl rfl | exact Or.inr rfl | (intro _; rfl) | (intro _ _; rfl) | (intro _ _ _; rfl)) (by first | rfl | decide | exact Or.inl rfl | exact Or.inr rfl | (intro _; rfl) | (intro _ _; rfl) | (intro _ _ _; rfl))) (by first | rfl | decide | exact Or.inl rfl | exact Or.inr rfl | (intro _; rfl) | (intro _ _; rfl) | (intro _ _ _; rfl)) (by first | rfl | decide | exact Or.inl rfl | exact Or.inr rfl | (intro _; rfl) | (intro _ _; rfl) | (intro _ _ _; rfl))) (@pss_cons _ _ _ _ _ (@ps_for _ _ _ _ _ _ _ _ (by exact PassesOwn.never) (by rfl) (@pi_list _ _ _ _ (pv 1)) (@pg_name _ _ (3) _ (by exact S.nd) (by rfl) (by first | exact Or.inl rfl | exact Or.inr rfl) (by first | rfl | decide | exact Or.inl rfl | exact Or.inr rfl | (intro _; rfl) | (intro _ _; rfl) | (intro _ _ _; rfl))) (@pss_cons _ _ _ _ _ (@ps_set _ _ (4) _ _ _ _ (by exact S.nd) (by rfl) (by first | exact Or.inl rfl | exact Or.inr rfl) (@pe_callB _ _ _ _ _ _ _ _ _ (call_minB true (by rfl)) (by rfl) (by exact T.z_min) (by exact bt_min) (@pa_consN _ _ _ _ _ (@pe_comp _ _ _ _ _ _ _ _ _ _ _ _ _ (by rfl) (by exact (fun _ _ h => h)) (by decide +kernel) (by rfl) (by decide +kernel) (by exact hfr_of rfl) (by exact Sees.frees ["_law_box"] [("_law_numbers", 2)] (fr_cons ⟨rfl, rfl⟩ fr_nil)) (@pi_tup _ _ _ _ (pv 3)) (fun _ _ _ _ _ => @pg_name _ _ (0) _ (by exact (show (["_law_box", "_law_numbers"] : List Str).Nodup by decide +kernel)) (by rfl) (by first | exact Or.inl rfl | exact Or.inr rfl) (by first | rfl | decide | exact Or.inl rfl | exact Or.inr rfl | (intro _; rfl) | (intro _ _; rfl) | (intro _ _ _; rfl))) (fun _ _ _ _ _ => pts_nil) (fun _ _ _ _ _ => (@pe_ix _ _ _ _ _ _ _ ix_list0 (pv 1) (pv 0) (by exact (fun _ _ => rfl)))) (by first | rfl | decide | exact Or.inl rfl | exact Or.inr rfl | (intro _; rfl) | (intro _ _; rfl) | (intro _ _ _; rfl))) pa_nil (by first | rfl | decide | exact Or.inl rfl | exact Or.inr rfl | (intro _; rfl) | (intro _ _; rfl) | (intro _ _ _; rfl))) (by first | rfl | decide | exact Or.inl rfl | exact Or.inr rfl | (intro _; rfl) | (intro _ _; rfl) | (intro _ _ _; rfl)) (by first | rfl | decide | exact Or.inl rfl | exact Or.inr rfl | (intro _; rfl) | (intro _ _; rfl) | (intro _ _ _; rfl)) (by first | rfl | decide | exact Or.inl rfl | exact Or.inr rfl | (intro _; rfl) | (intro _ _; rfl) | (intro _ _ _; rfl)) (by first | rfl | decide | exact Or.inl rfl | exact Or.inr rfl | (intro _; rfl) | (intro _ _; rfl) | (intro _ _ _; rfl))) (by first | rfl | decide | exact Or.inl rfl | exact Or.inr rfl | (intro _; rfl) | (intro _ _; rfl) | (intro _ _ _; rfl)) (by first | rfl | decide | exact Or.inl rfl | exact Or.inr rfl | (intro _; rfl) | (intro _ _; rfl) | (intro _ _ _; rfl))) (@pss_cons _ _ _ _ _ (@ps_set _ _ (5) _ _ _ _ (by exact S.nd) (by rfl) (by first | exact Or.inl rfl | exact Or.inr rfl) (@pe_ix _ _ _ _ _ _ _ ix_list0 (@pe_comp _ _ _ _ _ _ _ _ _ _ _ _ _ (by rfl) (by exact (fun _ _ h => h)) (by decide +kernel) (by rfl) (by decide +kernel) (by exact hfr_of rfl) (by exact Sees.frees ["_law_one"] [("_law_least", 4), ("_law_numbers", 2)] (fr_cons ⟨rfl, rfl⟩ (fr_cons ⟨rfl, rfl⟩ fr_nil))) (@pi_tup _ _ _ _ (pv 3)) (fun _ _ _ _ _ => @pg_name _ _ (0) _ (by exact (show (["_law_one", "_law_least", "_law_numbers"] : List Str).Nodup by decide +kernel)) (by rfl) (by first | exact Or.inl rfl | exact Or.inr rfl) (by first | rfl | decide | exact Or.inl rfl | exact Or.inr rfl | (intro _; rfl) | (intro _ _; rfl) | (intro _ _ _; rfl))) (fun _ _ _ _ _ => (@pts_one _ _ _ (@pt_cmpR _ _ _ _ _ _ _ _ op_eq (@pe_ix _ _ _ _ _ _ _ ix_list0 (pv 2) (pv 0) (by exact (fun _ _ => rfl))) (pv 1) (by exact (nomark _))))) (fun _ _ _ _ _ => (pv 0)) (by first | rfl | decide | exact Or.inl rfl | exact Or.inr rfl | (intro _; rfl) | (intro _ _; rfl) | (intro _ _ _; rfl))) pe_int (by exact (fun _ _ => rfl))) (by first | rfl | decide | exact Or.inl rfl | exact Or.inr rfl | (intro _; rfl) | (intro _ _; rfl) | (intro _ _ _; rfl)) (by first | rfl | decide | exact Or.inl rfl | exact Or.inr rfl | (intro _; rfl) | (intro _ _; rfl) | (intro _ _ _; rfl))) (@pss_one _ _ _ (@ps_asg _ _ _ _ _ _ (@pe_op _ _ _ _ _ _ _ _ op_add (@pe_ix _ _ _ _ _ _ _ ix_list0 (pv 2) (pv 5) (by exact (fun _ _ => rfl))) pe_int) (@pg_sub _ _ _ _ _ _ _ (pv 2) (pv 5) set_list (by first | rfl | decide | exact Or.inl rfl | exact Or.inr rfl | (intro _; rfl) | (intro _ _; rfl) | (intro _ _ _; rfl))) (by first | rfl | decide | exact Or.inl rfl | exact Or.inr rfl | (intro _; rfl) | (intro _ _; rfl) | (intro _ _ _; rfl)) (by first | rfl | decide | exact Or.inl rfl | exact Or.inr rfl | (intro _; rfl) | (intro _ _; rfl) | (intro _ _ _; rfl)) (by first | rfl | decide | exact Or.inl rfl | exact Or.inr rfl | (intro _; rfl) | (intro _ _; rfl) | (intro _ _ _; rfl)))))) (by first | rfl | decide | exact Or.inl rfl | exact Or.inr rfl | (intro _; rfl) | (intro _ _; rfl) | (intro _ _ _; rfl))) (@pss_one _ _ _ (@ps_ret _ _ _ _ (pv 2))))), ?_⟩
  refine ⟨_, rfl, a, _, rfl, .inr (SqT.of ha), fun l1 hl1 => ?_⟩
  have s1 := same_new hl1 (.lst (iv ns))
  have h1 : (upd H l1 (.lst (iv ns))) l1 = some (.lst (iv ns)) := upd_same
  generalize upd H l1 (.lst (iv ns)) = H1 at s1 h1
  refine ⟨_, rfl, b, rfl, ⟨_, SqL.of (s1 _ _ hb)⟩, for_list (xs := xs) (fun i σ H' => (∃ o3 o4 o5, σ = [some (.ref a), some (.ref b), some (.ref l1), o3, o4, o5]) ∧ Same H H' ∧ H' l1 = some (.lst (iv (byF ns (dss.take i)).1))) ⟨⟨_, _, _, rfl⟩, s1, h1⟩ (fun i σ H' _ h => SqL.of (h.2.1 _ _ hb)) ?_ ?_⟩
  · rintro i v σ H2 hv ⟨⟨o3, o4, o5, rfl⟩, s2, g1⟩
    obtain ⟨t, ds, rfl, hd, ht⟩ := dr.get hv
    obtain ⟨hi, ed⟩ := List.getElem?_eq_some_iff.mp hd
    have bl := byF_len ns (dss.take i)
    have ei := em_in od hi (byF ns (dss.take i)).1
    obtain ⟨d1, d2, d3⟩ := od ds (List.mem_of_getElem? hd)
    have tk := byF_take ns hi
    rw [ed] at tk ei
    have ht2 := s2 _ _ ht
    generalize hms : (byF ns (dss.take i)).1 = ms at g1 tk ei
    have mll : ms.length = ns.length := by rw [← hms]; exact bl.1
    obtain ⟨j0, hj0, em, hbest⟩ := emF_mem (ns := ms) d1
    have cnt : ∀ b ∈ ds, b.toNat < ms.length ∧ 0 ≤ b := fun b hb => by have := d3 b hb; omega
    refine ⟨_, rfl, t, rfl, ⟨_, SqT.of ht2⟩, comp_tp (xs := iv ds) (fs := [some (.ref l1)]) (fun acc j ys H' => Same H2 H' ∧ ys = iv ((ds.map fun b => ms.getD b.toNat 0).take j)) (by simp; omega) (fun q hq => ⟨same_new hq _, rfl⟩) (fun q j ys H' _ h => h.1 _ _ ht2) ?_ ?_⟩
    · rintro acc j ys H' x hacc hx hlen ⟨s', rfl⟩ hacc' Q' hQ
      obtain ⟨b', hb', rfl⟩ := iv_at hx
      have hc := cnt b' (List.mem_of_getElem? hb')
      refine ⟨_, rfl, _, rfl, l1, iv ms, b', .int (ms.getD b'.toNat 0), rfl, rfl, s' _ _ g1, ?_, ?_⟩
      · rw [show b' = (b'.toNat : Int) by omega]
        exact iv_atI hc.1
      · refine hQ _ H' hacc' ⟨same_updN hacc s' _, ?_⟩
        rw [List.take_add_one, List.getElem?_map, hb', iv_app]
        rfl
    rintro lc ys H3 hlc0 ⟨s3, rfl⟩ hlc hlen
    rw [List.take_of_length_le (by simp)] at hlc
    have ne : (ds.map fun b => ms.getD b.toNat 0) ≠ [] := by simpa using d1
    refine ⟨lc, _, rfl, SqB.l hlc, ne, fun M hM hall => ?_⟩
    have eM : M = ms.getD ds[j0].toNat 0 := by
      obtain ⟨b', hb', e'⟩ := List.mem_map.mp hM
      obtain ⟨j, hj, rfl⟩ := List.mem_iff_getElem.mp hb'
      have q1 := hall _ (List.mem_map.mpr ⟨ds[j0], List.getElem_mem hj0, rfl⟩)
      have q2 := (hbest j hj).1
      omega
    have ht3 := s3 _ _ ht2
    have g3 := s3 _ _ g1
    refine ⟨_, rfl, t, rfl, ⟨_, SqT.of ht3⟩, comp_tpT (xs := iv ds) (fs := [some (.int M), some (.ref l1)]) (fun acc j ys H' => Same H3 H' ∧ ys = iv ((ds.take j).filter fun b => decide (ms.getD b.toNat 0 = M))) (by simp; omega) (fun q hq => ⟨same_new hq _, rfl⟩) (fun q j ys H' _ h => h.1 _ _ ht3) ?_ ?_⟩
    · rintro acc j ys H' x hacc hx hlen ⟨s', rfl⟩ hacc' Qf Q' hF hQ
      obtain ⟨b', hb', rfl⟩ := iv_at hx
      have hc := cnt b' (List.mem_of_getElem? hb')
      have et : ds.take (j + 1) = ds.take j ++ [b'] := by rw [List.take_add_one, hb']; rfl
      refine ⟨_, rfl, _, rfl, l1, iv ms, b', .int (ms.getD b'.toNat 0), rfl, rfl, s' _ _ g3, ?_, ?_⟩
      · rw [show b' = (b'.toNat : Int) by omega]
        exact iv_atI hc.1
      refine ⟨_, rfl, rfl, _, rfl, ?_⟩
      by_cases e : ms.getD b'.toNat 0 = M
      · rw [e, decide_eq_true rfl]
        show tVar 0 _ H' Q'
        refine ⟨_, rfl, hQ _ H' hacc' ⟨same_updN hacc s' _, ?_⟩⟩
        rw [et, List.filter_append, List.filter_cons, if_pos (decide_eq_true e)]
        simp
      · rw [decide_eq_false fun z => e (V.int.inj z)]
        show Qf H'
        refine hF H' hacc' ⟨s', ?_⟩
        rw [et, List.filter_append, List.filter_cons, if_neg (by simpa using e)]
        simp
    rintro lf ys H4 hlf0 ⟨s4, rfl⟩ hlf
    rw [List.take_of_length_le (by simp)] at hlf
    have hf : (ds.filter fun b => decide (ms.getD b.toNat 0 = M))[0]? = some ds[j0] := by
      rw [← List.head?_eq_getElem?, List.head?_filter, List.find?_eq_some_iff_getElem]
      refine ⟨decide_eq_true eM.symm, j0, hj0, rfl, fun j hj => ?_⟩
      have := (hbest j (by omega)).2 hj
      rw [Bool.not_eq_true', decide_eq_false_iff_not]
      omega
    refine ⟨lf, _, _, .int ds[j0], rfl, rfl, hlf, atI_iv (j := 0) hf, ?_⟩
    rw [em] at ei
    have hb0 := cnt ds[j0] (List.getElem_mem hj0)
    rw [show stepF (byF ns (dss.take i)) ds = (inc ms (emF ms ds), (byF ns (dss.take i)).2 ++ [emF ms ds]) by unfold stepF; rw [hms], em] at tk
    generalize ds[j0] = bx at tk ei hb0
    obtain ⟨B, rfl⟩ : ∃ B : Nat, bx = (B : Int) := ⟨bx.toNat, by omega⟩
    have hB : B < ms.length := by have := hb0.1; simpa using this
    have g4 := s4 _ _ g3
    refine ⟨_, rfl, _, rfl, l1, _, _, _, rfl, rfl, g4, iv_atI hB, _, _, rfl, rfl, _, rfl, _, rfl, l1, _, (B : Int), B, rfl, rfl, g4, ixN_nat (by simpa using hB), ?_⟩
    rw [iv_set]
    refine ⟨⟨_, _, _, rfl⟩, same_updN hl1 ((s2.trans s3).trans s4) _, ?_⟩
    rw [upd_same, tk]
    rfl
  · rintro σ H2 ⟨⟨o3, o4, o5, rfl⟩, s2, g1⟩
    rw [dl, List.take_length] at g1
    exact ⟨_, rfl, k l1 H2 s2 g1⟩
end
end My

set_option Elab.async false
set_option linter.all false
set_option maxRecDepth 100000
set_option maxHeartbeats 4000000
namespace My
open PySem L2 MA
section
variable {P : Program} {w : World} {K : PySem.W.Frag} {mg : Str → Option Value} {base : Heap}
def spDue : Sp := fun vs H Q _ => ∃ (a b : Addr) (ns : List Int) (xs : List V) (dss : List (List Int)), vs = [.ref a, .ref b] ∧ H a = some (.tup (iv ns)) ∧ H b = some (.lst xs) ∧ Drs H xs dss ∧ OkD ns.length dss ∧ xs.length ≤ 500 ∧ ∀ H', Same H H' → Q (optV (omF ns dss)) H'
theorem ok_due (T : Txt2 mg) (C_l_behind : Cal P w K mg base "_law_behind" ["_law_stand_here", "_law_draws_here"] 1 spBehind) (F : FunAt K mg "_law_due" ["_law_stand_here", "_law_draws_here"] s_l_due) : Cal P w K mg base "_law_due" ["_law_stand_here", "_law_draws_here"] 2 spDue := by
  have S := sc_l_due
  refine F.cal sc_l_due (fun vs H Q E h => ?_) (fun f cdv A outer s H vs Q E hr h => ?_)
  · obtain ⟨a, b, ns, xs, dss, rfl, _⟩ := h; rfl
  obtain ⟨a, b, ns, xs, dss, rfl, ha, hb, dr, od, h500, k⟩ := h
  have hu1 : (A.deeper (PyProof.Rows.envOfC "_law_due" (defScope s_l_due) s.heap.objs.size f cdv)).units + (0 + 1) < cLine := by have := hr.un; omega
  have dl := dr.len
  refine ⟨_, (@pss_cons _ _ _ _ _ (@ps_set _ _ (2) _ _ _ _ (by exact S.nd) (by rfl) (by first | exact Or.inl rfl | exact Or.inr rfl) (@cc _ _ _ _ _ _ _ _ _ _ (by exact C_l_behind) (by exact (hr.mono (by decide))) (@pa_consN _ _ _ _ _ (pv 0) (@pa_consN _ _ _ _ _ (pv 1) pa_nil (by first | rfl | decide | exact Or.inl rfl | exact Or.inr rfl | (intro _; rfl) | (intro _ _; rfl) | (intro _ _ _; rfl))) (by first | rfl | decide | exact Or.inl rfl | exact Or.inr rfl | (intro _; rfl) | (intro _ _; rfl) | (intro _ _ _; rfl))) (by first | rfl | decide | exact Or.inl rfl | exact Or.inr rfl | (intro _; rfl) | (intro _ _; rfl) | (intro _ _ _; rfl)) (by first | rfl | decide | exact Or.inl rfl | exact Or.inr rfl | (intro _; rfl) | (intro _ _; rfl) | (intro _ _ _; rfl)) (by first | rfl | decide | exact Or.inl rfl | exact Or.inr rfl | (intro _; rfl) | (intro _ _; rfl) | (intro _ _ _; rfl)) (by first | rfl | decide | exact Or.inl rfl | exact Or.inr rfl | (intro _; rfl) | (intro _ _; rfl) | (intro _ _ _; rfl))) (by first | rfl | decide | exact Or.inl rfl | exact Or.inr rfl | (intro _; rfl) | (intro _ _; rfl) | (intro _ _ _; rfl)) (by first | rfl | decide | exact Or.inl rfl | exact Or.inr rfl | (intro _; rfl) | (intro _ _; rfl) | (intro _ _ _; rfl))) (@pss_cons _ _ _ _ _ (@ps_for _ _ _ _ _ _ _ _ (by exact PassesOwn.never) (by rfl) (@pi_range1 _ _ _ _ _ _ (by rfl) (by exact T.z_range) (@pa_consN _ _ _ _ _ (@pe_op _ _ _ _ _ _ _ _ op_sub (@pe_callB _ _ _ _ _ _ _ _ _ call_len_seq (by rfl) (by exact T.z_len) (by exact bt_len) (@pa_consN _ _ _ _ _ (pv 1) pa_nil (by first | rfl | decide | exact Or.inl rfl | exact Or.inr rfl | (intro _; rfl) | (intro _ _; rfl) | (intro _ _ _; rfl))) (by first | rfl | decide | exact Or.inl rfl | exact Or.inr rfl | (intro _; rfl) | (intro _ _; rfl) | (intro _ _ _; rfl)) (by first | rfl | decide | exact Or.inl rfl | exact Or.inr rfl | (intro _; rfl) | (intro _ _; rfl) | (intro _ _ _; rfl)) (by first | rfl | decide | exact Or.inl rfl | exact Or.inr rfl | (intro _; rfl) | (intro _ _; rfl) | (intro _ _ _; rfl)) (by first | rfl | decide | exact Or.inl rfl | exact Or.inr rfl | (intro _; rfl) | (intro _ _; rfl) | (intro _ _ _; rfl))) pe_int) pa_nil (by first | rfl | decide | exact Or.inl rfl | exact Or.inr rfl | (intro _; rfl) | (intro _ _; rfl) | (intro _ _ _; rfl))) (by first | rfl | decide | exact Or.inl rfl | exact Or.inr rfl | (intro _; rfl) | (intro _ _; rfl) | (intro _ _ _; rfl))) (@pg_name _ _ (3) _ (by exact S.nd) (by rfl) (by first | exact Or.inl rfl | exact Or.inr rfl) (by first | rfl | decide | exact Or.inl rfl | exact Or.inr rfl | (intro _; rfl) | (intro _ _; rfl) | (intro _ _ _; rfl))) (@pss_cons _ _ _ _ _ (@ps_set _ _ (4) _ _ _ _ (by exact S.nd) (by rfl) (by first | exact Or.inl rfl | exact Or.inr rfl) (@pe_op _ _ _ _ _ _ _ _ op_cat (@pe_op _ _ _ _ _ _ _ _ op_cat (@pe_slice _ _ _ _ _ _ _ _ _ _ sl_list (pv 1) po_none (@po_some _ _ _ (pv 3))) (@pe_lst _ _ _ _ (@pa_consN _ _ _ _ _ (@pe_ix _ _ _ _ _ _ _ ix_list (pv 1) (@pe_op _ _ _ _ _ _ _ _ op_add (pv 3) pe_int) (by exact (fun _ _ => rfl))) (@pa_consN _ _ _ _ _ (@pe_ix _ _ _ _ _ _ _ ix_list (pv 1) (pv 3) (by exact (fun _ _ => rfl))) pa_nil (by first | rfl | decide | exact Or.inl rfl | exact Or.inr rfl | (intro _; rfl) | (intro _ _; rfl) | (intro _ _ _; rfl))) (by first | rfl | decide | exact Or.inl rfl | exact Or.inr rfl | (intro _; rfl) | (intro _ _; rfl) | (intro _ _ _; rfl))))) (@pe_slice _ _ _ _ _ _ _ _ _ _ sl_list (pv 1) (@po_some _ _ _ (@pe_op _ _ _ _ _ _ _ _ op_add (pv 3) pe_int)) po_none)) (by first | rfl | decide | exact Or.inl rfl | exact Or.inr rfl | (intro _; rfl) | (intro _ _; rfl) | (intro _ _ _; rfl)) (by first | rfl | decide | exact Or.inl rfl | exact Or.inr rfl | (intro _; rfl) | (intro _ _; rfl) | (intro _ _ _; rfl))) (@pss_one _ _ _ (@ps_if _ _ _ _ _ _ _ _ (@pt_cmpR _ _ _ _ _ _ _ _ (op_neD 0 hu1) (@cc _ _ _ _ _ _ _ _ _ _ (by exact C_l_behind) (by exact (hr.mono (by decide))) (@pa_consN _ _ _ _ _ (pv 0) (@pa_consN _ _ _ _ _ (pv 4) pa_nil (by first | rfl | decide | exact Or.inl rfl | exact Or.inr rfl | (intro _; rfl) | (intro _ _; rfl) | (intro _ _ _; rfl))) (by first | rfl | decide | exact Or.inl rfl | exact Or.inr rfl | (intro _; rfl) | (intro _ _; rfl) | (intro _ _ _; rfl))) (by first | rfl | decide | exact Or.inl rfl | exact Or.inr rfl | (intro _; rfl) | (intro _ _; rfl) | (intro _ _ _; rfl)) (by first | rfl | decide | exact Or.inl rfl | exact Or.inr rfl | (intro _; rfl) | (intro _ _; rfl) | (intro _ _ _; rfl)) (by first | rfl | decide | exact Or.inl rfl | exact Or.inr rfl | (intro _; rfl) | (intro _ _; rfl) | (intro _ _ _; rfl)) (by first | rfl | decide | exact Or.inl rfl | exact Or.inr rfl | (intro _; rfl) | (intro _ _; rfl) | (intro _ _ _; rfl))) (pv 2) (by exact (nomark _))) (@pss_one _ _ _ (@ps_ret _ _ _ _ (pv 3))) pss_nil))) (by first | rfl | decide | exact Or.inl rfl | exact Or.inr rfl | (intro _; rfl) | (intro _ _; rfl) | (intro _ _ _; rfl))) (@pss_one _ _ _ (@ps_ret _ _ _ _ pe_non)))), ?_⟩
  refine ⟨_, rfl, _, rfl, a, b, ns, xs, dss, rfl, ha, hb, dr, od, fun t H1 s1 ht1 => ?_⟩
  refine ⟨_, rfl, b, _, rfl, .inl (SqL.of (s1 _ _ hb)), _, _, rfl, rfl, _, rfl, by omega, by omega, for_range (n := ((xs.length : Nat) - 1 : Int).toNat) (fun i σ H' => (∃ o3 o4, σ = [some (.ref a), some (.ref b), some (.ref t), o3, o4]) ∧ Same H1 H' ∧ ∀ j, j < i → omP ns dss j = false) ⟨⟨_, _, rfl⟩, Same.refl _, fun j hj => by omega⟩ ?_ ?_⟩
  · rintro i σ H2 hi ⟨⟨o3, o4, rfl⟩, s2, hno⟩
    have s12 := s1.trans s2
    rw [Int.zero_add]
    have hi2 : i + 1 < xs.length := by omega
    have hb2 := s12 _ _ hb
    refine ⟨_, rfl, _, rfl, _, rfl, b, _, rfl, SqL.of hb2, fun q1 hq1 => ?_⟩
    rw [cut_take (show i ≤ xs.length by omega)]
    have s3 := same_new hq1 (.lst (xs.take i))
    have e3 : (upd H2 q1 (.lst (xs.take i))) q1 = _ := upd_same
    generalize upd H2 q1 (.lst (xs.take i)) = H3 at s3 e3
    have s13 := s12.trans s3
    obtain ⟨ta, hta, gta⟩ := dr.atD (i := i) (by omega)
    obtain ⟨tb, htb, gtb⟩ := dr.atD (i := i + 1) (by omega)
    refine ⟨_, rfl, _, rfl, _, _, rfl, rfl, b, _, _, _, rfl, rfl, SqL.of (s13 _ _ hb), atI_nat htb, _, rfl, _, rfl, b, _, _, _, rfl, rfl, SqL.of (s13 _ _ hb), atI_nat hta, lz 2 rfl, fun q2 hq2 => ?_⟩
    have s4 := same_new hq2 (.lst [.ref tb, .ref ta])
    have e4 : (upd H3 q2 (.lst [.ref tb, .ref ta])) q2 = _ := upd_same
    have e34 := s4 _ _ e3
    have s14 := s13.trans s4
    generalize upd H3 q2 (.lst [.ref tb, .ref ta]) = H4 at s4 e4 e34 s14
    refine ⟨q1, q2, _, _, rfl, rfl, e34, e4, (by rw [sizeLine_eq]; simp; omega), fun q3 hq3 => ?_⟩
    have s5 := same_new hq3 (.lst (xs.take i ++ [.ref tb, .ref ta]))
    have e5 : (upd H4 q3 (.lst (xs.take i ++ [.ref tb, .ref ta]))) q3 = _ := upd_same
    have s15 := s14.trans s5
    generalize upd H4 q3 (.lst (xs.take i ++ [.ref tb, .ref ta])) = H5 at s5 e5 s15
    refine ⟨_, rfl, _, rfl, _, _, rfl, rfl, _, rfl, b, _, rfl, SqL.of (s15 _ _ hb), fun q4 hq4 => ?_⟩
    have ed : cutV xs (some ((i : Int) + 2)) none = xs.drop (i + 2) := by
      rw [show ((i : Int) + 2) = ((i + 2 : Nat) : Int) by omega]
      exact cut_drop (by omega)
    rw [ed]
    have s6 := same_new hq4 (.lst (xs.drop (i + 2)))
    have e6 : (upd H5 q4 (.lst (xs.drop (i + 2)))) q4 = _ := upd_same
    have e56 := s6 _ _ e5
    have s16 := s15.trans s6
    generalize upd H5 q4 (.lst (xs.drop (i + 2))) = H6 at s6 e6 e56 s16
    refine ⟨q3, q4, _, _, rfl, rfl, e56, e6, (by rw [sizeLine_eq]; simp; omega), fun q5 hq5 => ?_⟩
    have s7 := same_new hq5 (.lst (xs.take i ++ [.ref tb, .ref ta] ++ xs.drop (i + 2)))
    have e7 : (upd H6 q5 (.lst (xs.take i ++ [.ref tb, .ref ta] ++ xs.drop (i + 2)))) q5 = _ := upd_same
    have s17 := s16.trans s7
    generalize upd H6 q5 (.lst (xs.take i ++ [.ref tb, .ref ta] ++ xs.drop (i + 2))) = H7 at s7 e7 s17
    have dr7 := dr.same s17
    have drs : Drs H7 (xs.take i ++ [.ref tb, .ref ta] ++ xs.drop (i + 2)) (swapF dss i) := ((dr7.take i).app (.cons (s17 _ _ gtb) (.cons (s17 _ _ gta) .nil))).app (dr7.drop (i + 2))
    refine ⟨_, rfl, _, rfl, a, q5, ns, _, swapF dss i, rfl, s17 _ _ ha, e7, drs, od.swap (by omega), fun t8 H8 s8 ht8 => ?_⟩
    have s38 := (((((s3.trans s4).trans s5).trans s6).trans s7).trans s8)
    have t8' : H8 t = some (.lst (iv (byF ns dss).1)) := (s2.trans s38) _ _ ht1
    refine ⟨_, rfl, _, _, .lst ht8 (data_ints _ _), .lst t8' (data_ints _ _), cmp_ints 0 _ _, fun bb hbb => ⟨_, rfl, ?_⟩⟩
    rw [Ne, list_iff] at hbb
    by_cases e : (byF ns (swapF dss i)).1 = (byF ns dss).1
    · obtain rfl : bb = false := by cases bb with
        | false => rfl
        | true => exact absurd e (hbb.mp rfl)
      refine iteF ⟨⟨_, _, rfl⟩, s2.trans s38, fun j hj => ?_⟩
      by_cases ej : j = i
      · subst ej
        unfold omP
        rw [decide_eq_true e]
        rfl
      · exact hno j (by omega)
    · obtain rfl : bb = true := hbb.mpr e
      refine iteT ⟨_, rfl, ?_⟩
      have eo : omF ns dss = some i := om_at (by omega) (by unfold omP; rw [decide_eq_false e]; rfl) hno
      rw [eo] at k
      exact k _ (s17.trans s8)
  · rintro σ H2 ⟨⟨o3, o4, rfl⟩, s2, hno⟩
    have e : omF ns dss = none := om_no fun j hj => hno j (by omega)
    rw [e] at k
    exact k _ (s1.trans s2)
theorem Drs.rep {H : Hp} {t : Addr} {ds : List Int} (h : H t = some (.tup (iv ds))) : ∀ k : Nat, Drs H (List.replicate k [V.ref t]).flatten (List.replicate k ds)
  | 0 => .nil
  | k + 1 => by rw [List.replicate_succ, List.flatten_cons, List.replicate_succ]; exact .cons h (Drs.rep h k)
def spLate : Sp := fun vs H Q _ => ∃ (p : Addr) (n : Int) (m : Nat), vs = [.ref p, .int n] ∧ Pen H p m ∧ m < 60000 ∧ 1 ≤ n ∧ n ≤ 6 ∧
  ∀ (l : Addr) (xs : List V) (dss : List (List Int)) (H' : Hp), H' l = some (.lst xs) → Drs H' xs dss → OkD n.toNat dss → xs.length ≤ 60 → Pen H' p (m + 5) → SameX p H H' → Q (.ref l) H'
theorem ok_late (T : Txt2 mg) (C_l_draw : Cal P w K mg base "_law_draw" ["_law_pen_here", "_law_many"] 1 spDraw) (F : FunAt K mg "_law_late" ["_law_pen_here", "_law_n"] s_l_late) : Cal P w K mg base "_law_late" ["_law_pen_here", "_law_n"] 2 spLate := by
  have S := sc_l_late
  refine F.cal sc_l_late (fun vs H Q E h => ?_) (fun f cdv A outer s H vs Q E hr h => ?_)
  · obtain ⟨p, n, m, rfl, _⟩ := h; rfl
  obtain ⟨p, n, m, rfl, pen, hm, n1, n6, k⟩ := h
  refine ⟨_, (@pss_cons _ _ _ _ _ (@ps_set _ _ (2) _ _ _ _ (by exact S.nd) (by rfl) (by first | exact Or.inl rfl | exact Or.inr rfl) (@cc _ _ _ _ _ _ _ _ _ _ (by exact C_l_draw) (by exact (hr.mono (by decide))) (@pa_consN _ _ _ _ _ (pv 0) (@pa_consN _ _ _ _ _ (pv 1) pa_nil (by first | rfl | decide | exact Or.inl rfl | exact Or.inr rfl | (intro _; rfl) | (intro _ _; rfl) | (intro _ _ _; rfl))) (by first | rfl | decide | exact Or.inl rfl | exact Or.inr rfl | (intro _; rfl) | (intro _ _; rfl) | (intro _ _ _; rfl))) (by first | rfl | decide | exact Or.inl rfl | exact Or.inr rfl | (intro _; rfl) | (intro _ _; rfl) | (intro _ _ _; rfl)) (by first | rfl | decide | exact Or.inl rfl | exact Or.inr rfl | (intro _; rfl) | (intro _ _; rfl) | (intro _ _ _; rfl)) (by first | rfl | decide | exact Or.inl rfl | exact Or.inr rfl | (intro _; rfl) | (intro _ _; rfl) | (intro _ _ _; rfl)) (by first | rfl | decide | exact Or.inl rfl | exact Or.inr rfl | (intro _; rfl) | (intro _ _; rfl) | (intro _ _ _; rfl))) (by first | rfl | decide | exact Or.inl rfl | exact Or.inr rfl | (intro _; rfl) | (intro _ _; rfl) | (intro _ _ _; rfl)) (by first | rfl | decide | exact Or.inl rfl | exact Or.inr rfl | (intro _; rfl) | (intro _ _; rfl) | (intro _ _ _; rfl))) (@pss_cons _ _ _ _ _ (@ps_set _ _ (3) _ _ _ _ (by exact S.nd) (by rfl) (by first | exact Or.inl rfl | exact Or.inr rfl) (@cc _ _ _ _ _ _ _ _ _ _ (by exact C_l_draw) (by exact (hr.mono (by decide))) (@pa_consN _ _ _ _ _ (pv 0) (@pa_consN _ _ _ _ _ (pv 1) pa_nil (by first | rfl | decide | exact Or.inl rfl | exact Or.inr rfl | (intro _; rfl) | (intro _ _; rfl) | (intro _ _ _; rfl))) (by first | rfl | decide | exact Or.inl rfl | exact Or.inr rfl | (intro _; rfl) | (intro _ _; rfl) | (intro _ _ _; rfl))) (by first | rfl | decide | exact Or.inl rfl | exact Or.inr rfl | (intro _; rfl) | (intro _ _; rfl) | (intro _ _ _; rfl)) (by first | rfl | decide | exact Or.inl rfl | exact Or.inr rfl | (intro _; rfl) | (intro _ _; rfl) | (intro _ _ _; rfl)) (by first | rfl | decide | exact Or.inl rfl | exact Or.inr rfl | (intro _; rfl) | (intro _ _; rfl) | (intro _ _ _; rfl)) (by first | rfl | decide | exact Or.inl rfl | exact Or.inr rfl | (intro _; rfl) | (intro _ _; rfl) | (intro _ _ _; rfl))) (by first | rfl | decide | exact Or.inl rfl | exact Or.inr rfl | (intro _; rfl) | (intro _ _; rfl) | (intro _ _ _; rfl)) (by first | rfl | decide | exact Or.inl rfl | exact Or.inr rfl | (intro _; rfl) | (intro _ _; rfl) | (intro _ _ _; rfl))) (@pss_cons _ _ _ _ _ (@ps_set _ _ (4) _ _ _ _ (by exact S.nd) (by rfl) (by first | exact Or.inl rfl | exact Or.inr rfl) (@cc _ _ _ _ _ _ _ _ _ _ (by exact C_l_draw) (by exact (hr.mono (by decide))) (@pa_consN _ _ _ _ _ (pv 0) (@pa_consN _ _ _ _ _ pe_int pa_nil (by first | rfl | decide | exact Or.inl rfl | exact Or.inr rfl | (intro _; rfl) | (intro _ _; rfl) | (intro _ _ _; rfl))) (by first | rfl | decide | exact Or.inl rfl | exact Or.inr rfl | (intro _; rfl) | (intro _ _; rfl) | (intro _ _ _; rfl))) (by first | rfl | decide | exact Or.inl rfl | exact Or.inr rfl | (intro _; rfl) | (intro _ _; rfl) | (intro _ _ _; rfl)) (by first | rfl | decide | exact Or.inl rfl | exact Or.inr rfl | (intro _; rfl) | (intro _ _; rfl) | (intro _ _ _; rfl)) (by first | rfl | decide | exact Or.inl rfl | exact Or.inr rfl | (intro _; rfl) | (intro _ _; rfl) | (intro _ _ _; rfl)) (by first | rfl | decide | exact Or.inl rfl | exact Or.inr rfl | (intro _; rfl) | (intro _ _; rfl) | (intro _ _ _; rfl))) (by first | rfl | decide | exact Or.inl rfl | exact Or.inr rfl | (intro _; rfl) | (intro _ _; rfl) | (intro _ _ _; rfl)) (by first | rfl | decide | exact Or.inl rfl | exact Or.inr rfl | (intro _; rfl) | (intro _ _; rfl) | (intro _ _ _; rfl))) (@pss_cons _ _ _ _ _ (@ps_set _ _ (5) _ _ _ _ (by exact S.nd) (by rfl) (by first | exact Or.inl rfl | exact Or.inr rfl) (@pe_ix _ _ _ _ _ _ _ ix_list0 (@pe_lst _ _ _ _ (@pa_consN _ _ _ _ _ (@pe_tup _ _ _ _ _ (@pa_consN _ _ _ _ _ (pv 2) pa_nil (by first | rfl | decide | exact Or.inl rfl | exact Or.inr rfl | (intro _; rfl) | (intro _ _; rfl) | (intro _ _ _; rfl)))) (@pa_consN _ _ _ _ _ (@pe_tup _ _ _ _ _ (@pa_consN _ _ _ _ _ (pv 3) pa_nil (by first | rfl | decide | exact Or.inl rfl | exact Or.inr rfl | (intro _; rfl) | (intro _ _; rfl) | (intro _ _ _; rfl)))) pa_nil (by first | rfl | decide | exact Or.inl rfl | exact Or.inr rfl | (intro _; rfl) | (intro _ _; rfl) | (intro _ _ _; rfl))) (by first | rfl | decide | exact Or.inl rfl | exact Or.inr rfl | (intro _; rfl) | (intro _ _; rfl) | (intro _ _ _; rfl)))) (@cc _ _ _ _ _ _ _ _ _ _ (by exact C_l_draw) (by exact (hr.mono (by decide))) (@pa_consN _ _ _ _ _ (pv 0) (@pa_consN _ _ _ _ _ pe_int pa_nil (by first | rfl | decide | exact Or.inl rfl | exact Or.inr rfl | (intro _; rfl) | (intro _ _; rfl) | (intro _ _ _; rfl))) (by first | rfl | decide | exact Or.inl rfl | exact Or.inr rfl | (intro _; rfl) | (intro _ _; rfl) | (intro _ _ _; rfl))) (by first | rfl | decide | exact Or.inl rfl | exact Or.inr rfl | (intro _; rfl) | (intro _ _; rfl) | (intro _ _ _; rfl)) (by first | rfl | decide | exact Or.inl rfl | exact Or.inr rfl | (intro _; rfl) | (intro _ _; rfl) | (intro _ _ _; rfl)) (by first | rfl | decide | exact Or.inl rfl | exact Or.inr rfl | (intro _; rfl) | (intro _ _; rfl) | (intro _ _ _; rfl)) (by first | rfl | decide | exact Or.inl rfl | exact Or.inr rfl | (intro _; rfl) | (intro _ _; rfl) | (intro _ _ _; rfl))) (by exact (fun _ _ => rfl))) (by first | rfl | decide | exact Or.inl rfl | exact Or.inr rfl | (intro _; rfl) | (intro _ _; rfl) | (intro _ _ _; rfl)) (by first | rfl | decide | exact Or.inl rfl | exact Or.inr rfl | (intro _; rfl) | (intro _ _; rfl) | (intro _ _ _; rfl))) (@pss_one _ _ _ (@ps_ret _ _ _ _ (@pe_op _ _ _ _ _ _ _ _ op_cat (@pe_op _ _ _ _ _ _ _ _ op_cat (@pe_op _ _ _ _ _ _ _ _ op_rep (@pe_lst _ _ _ _ (@pa_consN _ _ _ _ _ (pv 5) pa_nil (by first | rfl | decide | exact Or.inl rfl | exact Or.inr rfl | (intro _; rfl) | (intro _ _; rfl) | (intro _ _ _; rfl)))) (pv 4)) (@pe_lst _ _ _ _ (@pa_consN _ _ _ _ _ (@pe_tup _ _ _ _ _ (@pa_consN _ _ _ _ _ (pv 2) (@pa_consN _ _ _ _ _ (pv 3) pa_nil (by first | rfl | decide | exact Or.inl rfl | exact Or.inr rfl | (intro _; rfl) | (intro _ _; rfl) | (intro _ _ _; rfl))) (by first | rfl | decide | exact Or.inl rfl | exact Or.inr rfl | (intro _; rfl) | (intro _ _; rfl) | (intro _ _ _; rfl)))) (@pa_consN _ _ _ _ _ (@pe_tup _ _ _ _ _ (@pa_consN _ _ _ _ _ (pv 2) pa_nil (by first | rfl | decide | exact Or.inl rfl | exact Or.inr rfl | (intro _; rfl) | (intro _ _; rfl) | (intro _ _ _; rfl)))) pa_nil (by first | rfl | decide | exact Or.inl rfl | exact Or.inr rfl | (intro _; rfl) | (intro _ _; rfl) | (intro _ _ _; rfl))) (by first | rfl | decide | exact Or.inl rfl | exact Or.inr rfl | (intro _; rfl) | (intro _ _; rfl) | (intro _ _ _; rfl))))) (@pe_op _ _ _ _ _ _ _ _ op_rep (@pe_lst _ _ _ _ (@pa_consN _ _ _ _ _ (@pe_tup _ _ _ _ _ (@pa_consN _ _ _ _ _ (pv 3) pa_nil (by first | rfl | decide | exact Or.inl rfl | exact Or.inr rfl | (intro _; rfl) | (intro _ _; rfl) | (intro _ _ _; rfl)))) pa_nil (by first | rfl | decide | exact Or.inl rfl | exact Or.inr rfl | (intro _; rfl) | (intro _ _; rfl) | (intro _ _ _; rfl)))) (@cc _ _ _ _ _ _ _ _ _ _ (by exact C_l_draw) (by exact (hr.mono (by decide))) (@pa_consN _ _ _ _ _ (pv 0) (@pa_consN _ _ _ _ _ pe_int pa_nil (by first | rfl | decide | exact Or.inl rfl | exact Or.inr rfl | (intro _; rfl) | (intro _ _; rfl) | (intro _ _ _; rfl))) (by first | rfl | decide | exact Or.inl rfl | exact Or.inr rfl | (intro _; rfl) | (intro _ _; rfl) | (intro _ _ _; rfl))) (by first | rfl | decide | exact Or.inl rfl | exact Or.inr rfl | (intro _; rfl) | (intro _ _; rfl) | (intro _ _ _; rfl)) (by first | rfl | decide | exact Or.inl rfl | exact Or.inr rfl | (intro _; rfl) | (intro _ _; rfl) | (intro _ _ _; rfl)) (by first | rfl | decide | exact Or.inl rfl | exact Or.inr rfl | (intro _; rfl) | (intro _ _; rfl) | (intro _ _ _; rfl)) (by first | rfl | decide | exact Or.inl rfl | exact Or.inr rfl | (intro _; rfl) | (intro _ _; rfl) | (intro _ _ _; rfl))))))))))), ?_⟩
  refine ⟨_, rfl, _, rfl, p, _, m, rfl, pen, by omega, by omega, by omega, fun d1 H1 d10 d11 p1 x1 => ?_⟩
  refine ⟨_, rfl, _, rfl, p, _, _, rfl, p1, by omega, by omega, by omega, fun d2 H2 d20 d21 p2 x2 => ?_⟩
  refine ⟨_, rfl, p, _, _, rfl, p2, by omega, by decide, by decide, fun d3 H3 d30 d31 p3 x3 => ?_⟩
  have x03 := (x1.trans x2).trans x3
  refine ⟨_, rfl, lz 1 rfl, fun t1 ht1 => ⟨_, rfl, lz 1 rfl, fun t2 ht2 => ⟨lz 2 rfl, fun q1 hq1 => ?_⟩⟩⟩
  have s1 := same_new ht1 (.tup [.int d1])
  have s2 := same_new ht2 (.tup [.int d2])
  have s3 := same_new hq1 (.lst [.ref t1, .ref t2])
  have s13 := (s1.trans s2).trans s3
  have e1 := s3 _ _ (s2 _ _ (upd_same (H := H3) (a := t1) (o := .tup [.int d1])))
  have e2 := s3 _ _ (upd_same (H := upd H3 t1 (.tup [.int d1])) (a := t2) (o := .tup [.int d2]))
  have e3 := upd_same (H := upd (upd H3 t1 (.tup [.int d1])) t2 (.tup [.int d2])) (a := q1) (o := .lst [.ref t1, .ref t2])
  generalize upd (upd (upd H3 t1 (.tup [.int d1])) t2 (.tup [.int d2])) q1 (.lst [.ref t1, .ref t2]) = H4 at s13 e1 e2 e3
  have p4 := p3.same s13
  refine ⟨_, rfl, p, _, _, rfl, p4, by omega, by decide, by decide, fun d4 H5 d40 d41 p5 x5 => ?_⟩
  have f1 := p4.keep x5 e1
  have f2 := p4.keep x5 e2
  have f3 := p4.keep x5 e3
  have x05 := (x03.trans s13.x).trans x5
  obtain ⟨tf, bf, hat, htf, hbf⟩ : ∃ (tf : Addr) (bf : Int), atI ([.ref t1, .ref t2] : List V) d4 = some (.ref tf) ∧ H5 tf = some (.tup (iv [bf])) ∧ 0 ≤ bf ∧ bf < n := by
    rcases (show d4 = 0 ∨ d4 = 1 by omega) with rfl | rfl
    · exact ⟨t1, d1, rfl, f1, d10, d11⟩
    · exact ⟨t2, d2, rfl, f2, d20, d21⟩
  refine ⟨q1, _, _, _, rfl, rfl, f3, hat, ?_⟩
  clear s1 s2 s3 ht2 hq1 e1 e2 e3 f1 f2 f3 ht1
  obtain ⟨M, rfl⟩ : ∃ M : Nat, d3 = (M : Int) := ⟨d3.toNat, by omega⟩
  refine ⟨_, rfl, lz 1 rfl, fun a1 ha1 => ⟨_, rfl, a1, (M : Int), _, rfl, rfl, upd_same, by omega, by omega, (by rw [sizeLine_eq]; simp; omega), fun a2 ha2 => ?_⟩⟩
  have r1 := (same_new ha1 (.lst [.ref tf])).trans (same_new ha2 (.lst (List.replicate (M : Int).toNat [V.ref tf]).flatten))
  have g1 := upd_same (H := upd H5 a1 (.lst [.ref tf])) (a := a2) (o := .lst (List.replicate (M : Int).toNat [V.ref tf]).flatten)
  generalize upd (upd H5 a1 (.lst [.ref tf])) a2 (.lst (List.replicate (M : Int).toNat [V.ref tf]).flatten) = G1 at r1 g1
  have dr1 := Drs.rep (r1 _ _ htf) M
  refine ⟨_, rfl, _, rfl, lz 2 rfl, fun t3 ht3 => ⟨_, rfl, lz 1 rfl, fun t4 ht4 => ⟨lz 2 rfl, fun a3 ha3 => ?_⟩⟩⟩
  have w1 := same_new ht3 (.tup [.int d1, .int d2])
  have w2 := same_new ht4 (.tup [.int d1])
  have w3 := same_new ha3 (.lst [.ref t3, .ref t4])
  have r2 := (w1.trans w2).trans w3
  have g2 := upd_same (H := upd (upd G1 t3 (.tup [.int d1, .int d2])) t4 (.tup [.int d1])) (a := a3) (o := .lst [.ref t3, .ref t4])
  have u3 := w3 _ _ (w2 _ _ (upd_same (H := G1) (a := t3) (o := .tup [.int d1, .int d2])))
  have u4 := w3 _ _ (upd_same (H := upd G1 t3 (.tup [.int d1, .int d2])) (a := t4) (o := .tup [.int d1]))
  generalize upd (upd (upd G1 t3 (.tup [.int d1, .int d2])) t4 (.tup [.int d1])) a3 (.lst [.ref t3, .ref t4]) = G2 at r2 g2 u3 u4
  have dr2 : Drs G2 ((List.replicate M [V.ref tf]).flatten ++ [.ref t3, .ref t4]) (List.replicate M [bf] ++ [[d1, d2], [d1]]) := (dr1.same r2).app (.cons u3 (.cons u4 .nil))
  refine ⟨a2, a3, _, _, rfl, rfl, r2 _ _ g1, g2, (by rw [sizeLine_eq, len_rep]; simp; omega), fun a4 ha4 => ?_⟩
  rw [show ((M : Nat) : Int).toNat = M by omega]
  have w4 := same_new ha4 (.lst ((List.replicate M [V.ref tf]).flatten ++ [.ref t3, .ref t4]))
  have g4 := upd_same (H := G2) (a := a4) (o := .lst ((List.replicate M [V.ref tf]).flatten ++ [.ref t3, .ref t4]))
  have r4 := (r1.trans r2).trans w4
  have dr4 := dr2.same w4
  generalize upd G2 a4 (.lst ((List.replicate M [V.ref tf]).flatten ++ [.ref t3, .ref t4])) = G4 at r4 g4 dr4
  refine ⟨_, rfl, lz 1 rfl, fun t5 ht5 => ⟨lz 1 rfl, fun a5 ha5 => ?_⟩⟩
  have w5 := same_new ht5 (.tup [.int d2])
  have w6 := same_new ha5 (.lst [.ref t5])
  have u5 := w6 _ _ (upd_same (H := G4) (a := t5) (o := .tup [.int d2]))
  have g5 := upd_same (H := upd G4 t5 (.tup [.int d2])) (a := a5) (o := .lst [.ref t5])
  have r5 := w5.trans w6
  generalize upd (upd G4 t5 (.tup [.int d2])) a5 (.lst [.ref t5]) = G5 at r5 g5 u5
  have pG5 := (p5.same r4).same r5
  refine ⟨_, rfl, p, _, _, rfl, pG5, by omega, by decide, by decide, fun d5 H6 d50 d51 p6 x6 => ?_⟩
  obtain ⟨N5, rfl⟩ : ∃ N5 : Nat, d5 = (N5 : Int) := ⟨d5.toNat, by omega⟩
  refine ⟨a5, (N5 : Int), _, rfl, rfl, pG5.keep x6 g5, by omega, by omega, (by rw [sizeLine_eq]; simp; omega), fun a6 ha6 => ?_⟩
  rw [show ((N5 : Nat) : Int).toNat = N5 by omega]
  have w7 := same_new ha6 (.lst (List.replicate N5 [V.ref t5]).flatten)
  have g7 := upd_same (H := H6) (a := a6) (o := .lst (List.replicate N5 [V.ref t5]).flatten)
  have dr7 : Drs (upd H6 a6 (.lst (List.replicate N5 [V.ref t5]).flatten)) ((List.replicate M [V.ref tf]).flatten ++ [.ref t3, .ref t4] ++ (List.replicate N5 [V.ref t5]).flatten) (List.replicate M [bf] ++ [[d1, d2], [d1]] ++ List.replicate N5 [d2]) :=
    (((dr4.same r5).mono fun a xs e => pG5.keep x6 e).same w7).app (Drs.rep (w7 _ _ (pG5.keep x6 u5)) N5)
  refine ⟨a4, a6, _, _, rfl, rfl, w7 _ _ (pG5.keep x6 (r5 _ _ g4)), g7, (by rw [sizeLine_eq]; simp [len_rep]; omega), fun a7 ha7 => ?_⟩
  have w8 := same_new ha7 (.lst ((List.replicate M [V.ref tf]).flatten ++ [.ref t3, .ref t4] ++ (List.replicate N5 [V.ref t5]).flatten))
  refine k a7 _ _ _ upd_same (dr7.same w8) (fun d hd => ?_) (by simp [len_rep]; omega) (((p6.same w7).same w8).mono (by omega)) ((((x05.trans r4.x).trans r5.x).trans x6).trans (w7.trans w8).x)
  have o1 : (d1 : Int) < n.toNat := by omega
  have o2 : (d2 : Int) < n.toNat := by omega
  have o3 : (bf : Int) < n.toNat := by omega
  rw [List.mem_append, List.mem_append] at hd
  rcases hd with (z | z) | z
  · rw [List.eq_of_mem_replicate z]
    exact ⟨by simp, by simp, fun b hb => by rw [List.mem_singleton.mp hb]; exact ⟨hbf.1, o3⟩⟩
  · rcases List.mem_cons.mp z with rfl | z
    · exact ⟨by simp, by simp, fun b hb => by
        rcases List.mem_cons.mp hb with rfl | hb
        · exact ⟨d10, o1⟩
        · rw [List.mem_singleton.mp hb]; exact ⟨d20, o2⟩⟩
    · rw [List.mem_singleton.mp z]
      exact ⟨by simp, by simp, fun b hb => by rw [List.mem_singleton.mp hb]; exact ⟨d10, o1⟩⟩
  · rw [List.eq_of_mem_replicate z]
    exact ⟨by simp, by simp, fun b hb => by rw [List.mem_singleton.mp hb]; exact ⟨d20, o2⟩⟩
end
end My

set_option Elab.async false
set_option linter.all false
set_option maxRecDepth 100000
set_option maxHeartbeats 4000000
namespace My
open PySem L2 MA
def drD (dss : List (List Int)) : List PyData := dss.map fun ds => .tuple (ds.map PyData.int)
theorem Drs.data {H : Hp} {xs : List V} {dss : List (List Int)} (h : Drs H xs dss) : DataL H xs (drD dss) := by
  induction h with
  | nil => exact .nil
  | cons e _ ih => exact .cons (.tup e (data_ints _ _)) ih
theorem noDict_i (ns : List Int) : PyData.hasDictAll (ns.map PyData.int) = false := by
  induction ns with
  | nil => rfl
  | cons a r ih => simp [PyData.hasDictAll, PyData.hasDict] at ih ⊢; exact ih
theorem noDict_dr (dss : List (List Int)) : PyData.hasDictAll (drD dss) = false := by
  induction dss with
  | nil => rfl
  | cons a r ih =>
    show PyData.hasDictAll (PyData.tuple (a.map PyData.int) :: drD r) = false
    simp [PyData.hasDictAll, PyData.hasDict, ih, noDict_i]
theorem good_dr {ns : List Int} {dss : List (List Int)} (h1 : ∀ x ∈ ns, I36 x) (l1 : ns.length ≤ 10) (h2 : ∀ ds ∈ dss, ds.length ≤ 4 ∧ ∀ b ∈ ds, I36 b) (l2 : dss.length ≤ 200) : Good (.tuple [.tuple (ns.map PyData.int), .list (drD dss)]) := by
  have r : Sm 2300 (.list (drD dss)) := sm_list (n := 10) (fun d hd => by
    obtain ⟨ds, hds, rfl⟩ := List.mem_map.mp hd
    obtain ⟨a, b⟩ := h2 ds hds
    exact sm_ints b (by decide) (by omega)) (noDict_dr dss) (by decide) (by unfold drD; rw [List.length_map]; omega)
  have t : Sm 5000 (.tuple [.tuple (ns.map PyData.int), .list (drD dss)]) := sm_tup (n := 2300) (by simpa using ⟨sm_ints h1 (by decide) (by omega), r⟩) (by simp [PyData.hasDictAll, PyData.hasDict, noDict_i, noDict_dr]) (by decide) (show 2 * (2300 + 1) ≤ 5000 by decide)
  refine t.good (by decide) ?_
  have key : PyData.depthAll (drD dss) ≤ 3 := by
    clear t r h2 l2
    induction dss with
    | nil => exact Nat.zero_le _
    | cons a r ih =>
      show max (PyData.depth (.tuple (a.map PyData.int))) (PyData.depthAll (drD r)) ≤ 3
      refine Nat.max_le.mpr ⟨?_, ih⟩
      simp [PyData.depth, depth_ints]
  simp [PyData.depth, PyData.depthAll, depth_ints]
  omega
/-- what stays in a round -/
structure Stay (st dl D : Addr) (ss : List Int) (xs : List V) (dss : List (List Int)) (q : Str) (H : Hp) : Prop where
  st : H st = some (.tup (iv ss))
  dl : H dl = some (.lst xs)
  dr : Drs H xs dss
  tb : H D = some (.tab q)
theorem Stay.same {st dl D : Addr} {ss : List Int} {xs : List V} {dss : List (List Int)} {q : Str} {H H' : Hp} (h : Stay st dl D ss xs dss q H) (s : Same H H') : Stay st dl D ss xs dss q H' := ⟨s _ _ h.st, s _ _ h.dl, h.dr.same s, s _ _ h.tb⟩
theorem Stay.keep {st dl D p : Addr} {ss : List Int} {xs : List V} {dss : List (List Int)} {q : Str} {H H' : Hp} {m : Nat} (h : Stay st dl D ss xs dss q H) (pen : Pen H p m) (x : SameX p H H') : Stay st dl D ss xs dss q H' := ⟨pen.keep x h.st, pen.keep x h.dl, h.dr.mono fun a xs e => pen.keep x e, pen.keep x h.tb⟩
theorem Stay.data {st dl D : Addr} {ss : List Int} {xs : List V} {dss : List (List Int)} {q : Str} {H : Hp} {a : Addr} (h : Stay st dl D ss xs dss q H) (e : H a = some (.tup [.ref st, .ref dl])) : DataV H (.ref a) (.tuple [.tuple (ss.map PyData.int), .list (drD dss)]) := .tup e (.cons (.tup h.st (data_ints _ _)) (.cons (.lst h.dl h.dr.data) .nil))
theorem OkD.app {N : Nat} {a b : List (List Int)} (h : OkD N a) (g : OkD N b) : OkD N (a ++ b) := fun d hd => (List.mem_append.mp hd).elim (h d) (g d)
section
variable {P : Program} {w : World} {K : PySem.W.Frag} {mg : Str → Option Value} {base : Heap}
theorem ok_law {D : Addr} (T : Txt2 mg) (C_order_matters : Cal P w K mg base "order_matters" ["stand", "draws"] 5 (spOm D (qLam "emptiest_of"))) (C_l_pen : Cal P w K mg base "_law_pen" ["_law_script"] 1 (spPen K)) (C_l_draw : Cal P w K mg base "_law_draw" ["_law_pen_here", "_law_many"] 1 spDraw)
    (C_l_is_whole : Cal P w K mg base "_law_is_whole" ["_law_thing"] 1 spWhole) (C_l_stand : Cal P w K mg base "_law_stand" ["_law_pen_here", "_law_n", "_law_most"] 2 spStand) (C_l_draws : Cal P w K mg base "_law_draws" ["_law_pen_here", "_law_n", "_law_most"] 2 spDraws) (C_l_due : Cal P w K mg base "_law_due" ["_law_stand_here", "_law_draws_here"] 2 spDue) (C_l_late : Cal P w K mg base "_law_late" ["_law_pen_here", "_law_n"] 2 spLate)
    {f : Addr} {fd : FuncData} (F : Fun K "law" "law" s_law f fd) : FnOk P w K mg base CX0 6 f fd ["_law_script"] (spLawT K D (qLam "emptiest_of")) := by
  have S := sc_law
  refine F.ok sc_law (fun vs H Q E h => ?_) (fun cdv A outer s H vs Q E hr h => ?_)
  · obtain ⟨a, ns, rfl, _⟩ := h; rfl
  obtain ⟨a, ns, rfl, hS, h63, hT, k⟩ := h
  refine ⟨_, (@pss_cons _ _ _ _ _ (@ps_set _ _ (1) _ _ _ _ (by exact S.nd) (by rfl) (by first | exact Or.inl rfl | exact Or.inr rfl) (@cc _ _ _ _ _ _ _ _ _ _ (by exact C_l_pen) (by exact (hr.mono (by decide))) (@pa_consN _ _ _ _ _ (pv 0) pa_nil (by first | rfl | decide | exact Or.inl rfl | exact Or.inr rfl | (intro _; rfl) | (intro _ _; rfl) | (intro _ _ _; rfl))) (by first | rfl | decide | exact Or.inl rfl | exact Or.inr rfl | (intro _; rfl) | (intro _ _; rfl) | (intro _ _ _; rfl)) (by first | rfl | decide | exact Or.inl rfl | exact Or.inr rfl | (intro _; rfl) | (intro _ _; rfl) | (intro _ _ _; rfl)) (by first | rfl | decide | exact Or.inl rfl | exact Or.inr rfl | (intro _; rfl) | (intro _ _; rfl) | (intro _ _ _; rfl)) (by first | rfl | decide | exact Or.inl rfl | exact Or.inr rfl | (intro _; rfl) | (intro _ _; rfl) | (intro _ _ _; rfl))) (by first | rfl | decide | exact Or.inl rfl | exact Or.inr rfl | (intro _; rfl) | (intro _ _; rfl) | (intro _ _ _; rfl)) (by first | rfl | decide | exact Or.inl rfl | exact Or.inr rfl | (intro _; rfl) | (intro _ _; rfl) | (intro _ _ _; rfl))) (@pss_cons _ _ _ _ _ (@ps_for _ _ _ _ _ _ _ _ (by exact PassesOwn.never) (by rfl) (@pi_range1 _ _ _ _ _ _ (by rfl) (by exact T.z_range) (@pa_consN _ _ _ _ _ pe_int pa_nil (by first | rfl | decide | exact Or.inl rfl | exact Or.inr rfl | (intro _; rfl) | (intro _ _; rfl) | (intro _ _ _; rfl))) (by first | rfl | decide | exact Or.inl rfl | exact Or.inr rfl | (intro _; rfl) | (intro _ _; rfl) | (intro _ _ _; rfl))) (@pg_name _ _ (2) _ (by exact S.nd) (by rfl) (by first | exact Or.inl rfl | exact Or.inr rfl) (by first | rfl | decide | exact Or.inl rfl | exact Or.inr rfl | (intro _; rfl) | (intro _ _; rfl) | (intro _ _ _; rfl))) (@pss_cons _ _ _ _ _ (@ps_set _ _ (3) _ _ _ _ (by exact S.nd) (by rfl) (by first | exact Or.inl rfl | exact Or.inr rfl) (@cc _ _ _ _ _ _ _ _ _ _ (by exact C_l_draw) (by exact (hr.mono (by decide))) (@pa_consN _ _ _ _ _ (pv 1) (@pa_consN _ _ _ _ _ pe_int pa_nil (by first | rfl | decide | exact Or.inl rfl | exact Or.inr rfl | (intro _; rfl) | (intro _ _; rfl) | (intro _ _ _; rfl))) (by first | rfl | decide | exact Or.inl rfl | exact Or.inr rfl | (intro _; rfl) | (intro _ _; rfl) | (intro _ _ _; rfl))) (by first | rfl | decide | exact Or.inl rfl | exact Or.inr rfl | (intro _; rfl) | (intro _ _; rfl) | (intro _ _ _; rfl)) (by first | rfl | decide | exact Or.inl rfl | exact Or.inr rfl | (intro _; rfl) | (intro _ _; rfl) | (intro _ _ _; rfl)) (by first | rfl | decide | exact Or.inl rfl | exact Or.inr rfl | (intro _; rfl) | (intro _ _; rfl) | (intro _ _ _; rfl)) (by first | rfl | decide | exact Or.inl rfl | exact Or.inr rfl | (intro _; rfl) | (intro _ _; rfl) | (intro _ _ _; rfl))) (by first | rfl | decide | exact Or.inl rfl | exact Or.inr rfl | (intro _; rfl) | (intro _ _; rfl) | (intro _ _ _; rfl)) (by first | rfl | decide | exact Or.inl rfl | exact Or.inr rfl | (intro _; rfl) | (intro _ _; rfl) | (intro _ _ _; rfl))) (@pss_cons _ _ _ _ _ (@ps_set _ _ (4) _ _ _ _ (by exact S.nd) (by rfl) (by first | exact Or.inl rfl | exact Or.inr rfl) (@pe_op _ _ _ _ _ _ _ _ op_add pe_int (@cc _ _ _ _ _ _ _ _ _ _ (by exact C_l_draw) (by exact (hr.mono (by decide))) (@pa_consN _ _ _ _ _ (pv 1) (@pa_consN _ _ _ _ _ pe_int pa_nil (by first | rfl | decide | exact Or.inl rfl | exact Or.inr rfl | (intro _; rfl) | (intro _ _; rfl) | (intro _ _ _; rfl))) (by first | rfl | decide | exact Or.inl rfl | exact Or.inr rfl | (intro _; rfl) | (intro _ _; rfl) | (intro _ _ _; rfl))) (by first | rfl | decide | exact Or.inl rfl | exact Or.inr rfl | (intro _; rfl) | (intro _ _; rfl) | (intro _ _ _; rfl)) (by first | rfl | decide | exact Or.inl rfl | exact Or.inr rfl | (intro _; rfl) | (intro _ _; rfl) | (intro _ _ _; rfl)) (by first | rfl | decide | exact Or.inl rfl | exact Or.inr rfl | (intro _; rfl) | (intro _ _; rfl) | (intro _ _ _; rfl)) (by first | rfl | decide | exact Or.inl rfl | exact Or.inr rfl | (intro _; rfl) | (intro _ _; rfl) | (intro _ _ _; rfl)))) (by first | rfl | decide | exact Or.inl rfl | exact Or.inr rfl | (intro _; rfl) | (intro _ _; rfl) | (intro _ _ _; rfl)) (by first | rfl | decide | exact Or.inl rfl | exact Or.inr rfl | (intro _; rfl) | (intro _ _; rfl) | (intro _ _ _; rfl))) (@pss_cons _ _ _ _ _ (@ps_set _ _ (5) _ _ _ _ (by exact S.nd) (by rfl) (by first | exact Or.inl rfl | exact Or.inr rfl) (@cc _ _ _ _ _ _ _ _ _ _ (by exact C_l_stand) (by exact (hr.mono (by decide))) (@pa_consN _ _ _ _ _ (pv 1) (@pa_consN _ _ _ _ _ (pv 4) (@pa_consN _ _ _ _ _ pe_int pa_nil (by first | rfl | decide | exact Or.inl rfl | exact Or.inr rfl | (intro _; rfl) | (intro _ _; rfl) | (intro _ _ _; rfl))) (by first | rfl | decide | exact Or.inl rfl | exact Or.inr rfl | (intro _; rfl) | (intro _ _; rfl) | (intro _ _ _; rfl))) (by first | rfl | decide | exact Or.inl rfl | exact Or.inr rfl | (intro _; rfl) | (intro _ _; rfl) | (intro _ _ _; rfl))) (by first | rfl | decide | exact Or.inl rfl | exact Or.inr rfl | (intro _; rfl) | (intro _ _; rfl) | (intro _ _ _; rfl)) (by first | rfl | decide | exact Or.inl rfl | exact Or.inr rfl | (intro _; rfl) | (intro _ _; rfl) | (intro _ _ _; rfl)) (by first | rfl | decide | exact Or.inl rfl | exact Or.inr rfl | (intro _; rfl) | (intro _ _; rfl) | (intro _ _ _; rfl)) (by first | rfl | decide | exact Or.inl rfl | exact Or.inr rfl | (intro _; rfl) | (intro _ _; rfl) | (intro _ _ _; rfl))) (by first | rfl | decide | exact Or.inl rfl | exact Or.inr rfl | (intro _; rfl) | (intro _ _; rfl) | (intro _ _ _; rfl)) (by first | rfl | decide | exact Or.inl rfl | exact Or.inr rfl | (intro _; rfl) | (intro _ _; rfl) | (intro _ _ _; rfl))) (@pss_cons _ _ _ _ _ (@ps_set _ _ (6) _ _ _ _ (by exact S.nd) (by rfl) (by first | exact Or.inl rfl | exact Or.inr rfl) (@cc _ _ _ _ _ _ _ _ _ _ (by exact C_l_draws) (by exact (hr.mono (by decide))) (@pa_consN _ _ _ _ _ (pv 1) (@pa_consN _ _ _ _ _ (pv 4) (@pa_consN _ _ _ _ _ (@pe_ix _ _ _ _ _ _ _ ix_list0 (@pe_lst _ _ _ _ (@pa_consN _ _ _ _ _ pe_int (@pa_consN _ _ _ _ _ pe_int pa_nil (by first | rfl | decide | exact Or.inl rfl | exact Or.inr rfl | (intro _; rfl) | (intro _ _; rfl) | (intro _ _ _; rfl))) (by first | rfl | decide | exact Or.inl rfl | exact Or.inr rfl | (intro _; rfl) | (intro _ _; rfl) | (intro _ _ _; rfl)))) (pv 3) (by exact (fun _ _ => rfl))) pa_nil (by first | rfl | decide | exact Or.inl rfl | exact Or.inr rfl | (intro _; rfl) | (intro _ _; rfl) | (intro _ _ _; rfl))) (by first | rfl | decide | exact Or.inl rfl | exact Or.inr rfl | (intro _; rfl) | (intro _ _; rfl) | (intro _ _ _; rfl))) (by first | rfl | decide | exact Or.inl rfl | exact Or.inr rfl | (intro _; rfl) | (intro _ _; rfl) | (intro _ _ _; rfl))) (by first | rfl | decide | exact Or.inl rfl | exact Or.inr rfl | (intro _; rfl) | (intro _ _; rfl) | (intro _ _ _; rfl)) (by first | rfl | decide | exact Or.inl rfl | exact Or.inr rfl | (intro _; rfl) | (intro _ _; rfl) | (intro _ _ _; rfl)) (by first | rfl | decide | exact Or.inl rfl | exact Or.inr rfl | (intro _; rfl) | (intro _ _; rfl) | (intro _ _ _; rfl)) (by first | rfl | decide | exact Or.inl rfl | exact Or.inr rfl | (intro _; rfl) | (intro _ _; rfl) | (intro _ _ _; rfl))) (by first | rfl | decide | exact Or.inl rfl | exact Or.inr rfl | (intro _; rfl) | (intro _ _; rfl) | (intro _ _ _; rfl)) (by first | rfl | decide | exact Or.inl rfl | exact Or.inr rfl | (intro _; rfl) | (intro _ _; rfl) | (intro _ _ _; rfl))) (@pss_cons _ _ _ _ _ (@ps_if _ _ _ _ _ _ _ _ (@pt_cmpR _ _ _ _ _ _ _ _ op_eq (pv 3) pe_int (by exact (nomark _))) (@pss_one _ _ _ (@ps_set _ _ (6) _ _ _ _ (by exact S.nd) (by rfl) (by first | exact Or.inl rfl | exact Or.inr rfl) (@pe_op _ _ _ _ _ _ _ _ op_cat (@cc _ _ _ _ _ _ _ _ _ _ (by exact C_l_late) (by exact (hr.mono (by decide))) (@pa_consN _ _ _ _ _ (pv 1) (@pa_consN _ _ _ _ _ (pv 4) pa_nil (by first | rfl | decide | exact Or.inl rfl | exact Or.inr rfl | (intro _; rfl) | (intro _ _; rfl) | (intro _ _ _; rfl))) (by first | rfl | decide | exact Or.inl rfl | exact Or.inr rfl | (intro _; rfl) | (intro _ _; rfl) | (intro _ _ _; rfl))) (by first | rfl | decide | exact Or.inl rfl | exact Or.inr rfl | (intro _; rfl) | (intro _ _; rfl) | (intro _ _ _; rfl)) (by first | rfl | decide | exact Or.inl rfl | exact Or.inr rfl | (intro _; rfl) | (intro _ _; rfl) | (intro _ _ _; rfl)) (by first | rfl | decide | exact Or.inl rfl | exact Or.inr rfl | (intro _; rfl) | (intro _ _; rfl) | (intro _ _ _; rfl)) (by first | rfl | decide | exact Or.inl rfl | exact Or.inr rfl | (intro _; rfl) | (intro _ _; rfl) | (intro _ _ _; rfl))) (@pe_slice _ _ _ _ _ _ _ _ _ _ sl_list (pv 6) po_none (@po_some _ _ _ (@cc _ _ _ _ _ _ _ _ _ _ (by exact C_l_draw) (by exact (hr.mono (by decide))) (@pa_consN _ _ _ _ _ (pv 1) (@pa_consN _ _ _ _ _ pe_int pa_nil (by first | rfl | decide | exact Or.inl rfl | exact Or.inr rfl | (intro _; rfl) | (intro _ _; rfl) | (intro _ _ _; rfl))) (by first | rfl | decide | exact Or.inl rfl | exact Or.inr rfl | (intro _; rfl) | (intro _ _; rfl) | (intro _ _ _; rfl))) (by first | rfl | decide | exact Or.inl rfl | exact Or.inr rfl | (intro _; rfl) | (intro _ _; rfl) | (intro _ _ _; rfl)) (by first | rfl | decide | exact Or.inl rfl | exact Or.inr rfl | (intro _; rfl) | (intro _ _; rfl) | (intro _ _ _; rfl)) (by first | rfl | decide | exact Or.inl rfl | exact Or.inr rfl | (intro _; rfl) | (intro _ _; rfl) | (intro _ _ _; rfl)) (by first | rfl | decide | exact Or.inl rfl | exact Or.inr rfl | (intro _; rfl) | (intro _ _; rfl) | (intro _ _ _; rfl)))))) (by first | rfl | decide | exact Or.inl rfl | exact Or.inr rfl | (intro _; rfl) | (intro _ _; rfl) | (intro _ _ _; rfl)) (by first | rfl | decide | exact Or.inl rfl | exact Or.inr rfl | (intro _; rfl) | (intro _ _; rfl) | (intro _ _ _; rfl)))) pss_nil) (@pss_cons _ _ _ _ _ (@ps_set _ _ (7) _ _ _ _ (by exact S.nd) (by rfl) (by first | exact Or.inl rfl | exact Or.inr rfl) (@pe_callB _ _ _ _ _ _ _ _ _ (call_repr hr) (by rfl) (by exact T.z_repr) (by exact bt_repr) (@pa_consN _ _ _ _ _ (@pe_tup _ _ _ _ _ (@pa_consN _ _ _ _ _ (pv 5) (@pa_consN _ _ _ _ _ (pv 6) pa_nil (by first | rfl | decide | exact Or.inl rfl | exact Or.inr rfl | (intro _; rfl) | (intro _ _; rfl) | (intro _ _ _; rfl))) (by first | rfl | decide | exact Or.inl rfl | exact Or.inr rfl | (intro _; rfl) | (intro _ _; rfl) | (intro _ _ _; rfl)))) pa_nil (by first | rfl | decide | exact Or.inl rfl | exact Or.inr rfl | (intro _; rfl) | (intro _ _; rfl) | (intro _ _ _; rfl))) (by first | rfl | decide | exact Or.inl rfl | exact Or.inr rfl | (intro _; rfl) | (intro _ _; rfl) | (intro _ _ _; rfl)) (by first | rfl | decide | exact Or.inl rfl | exact Or.inr rfl | (intro _; rfl) | (intro _ _; rfl) | (intro _ _ _; rfl)) (by first | rfl | decide | exact Or.inl rfl | exact Or.inr rfl | (intro _; rfl) | (intro _ _; rfl) | (intro _ _ _; rfl)) (by first | rfl | decide | exact Or.inl rfl | exact Or.inr rfl | (intro _; rfl) | (intro _ _; rfl) | (intro _ _ _; rfl))) (by first | rfl | decide | exact Or.inl rfl | exact Or.inr rfl | (intro _; rfl) | (intro _ _; rfl) | (intro _ _ _; rfl)) (by first | rfl | decide | exact Or.inl rfl | exact Or.inr rfl | (intro _; rfl) | (intro _ _; rfl) | (intro _ _ _; rfl))) (@pss_cons _ _ _ _ _ (@ps_set _ _ (8) _ _ _ _ (by exact S.nd) (by rfl) (by first | exact Or.inl rfl | exact Or.inr rfl) (@cc _ _ _ _ _ _ _ _ _ _ (by exact C_order_matters) (by exact (hr.mono (by decide))) (@pa_consN _ _ _ _ _ (pv 5) (@pa_consN _ _ _ _ _ (pv 6) pa_nil (by first | rfl | decide | exact Or.inl rfl | exact Or.inr rfl | (intro _; rfl) | (intro _ _; rfl) | (intro _ _ _; rfl))) (by first | rfl | decide | exact Or.inl rfl | exact Or.inr rfl | (intro _; rfl) | (intro _ _; rfl) | (intro _ _ _; rfl))) (by first | rfl | decide | exact Or.inl rfl | exact Or.inr rfl | (intro _; rfl) | (intro _ _; rfl) | (intro _ _ _; rfl)) (by first | rfl | decide | exact Or.inl rfl | exact Or.inr rfl | (intro _; rfl) | (intro _ _; rfl) | (intro _ _ _; rfl)) (by first | rfl | decide | exact Or.inl rfl | exact Or.inr rfl | (intro _; rfl) | (intro _ _; rfl) | (intro _ _ _; rfl)) (by first | rfl | decide | exact Or.inl rfl | exact Or.inr rfl | (intro _; rfl) | (intro _ _; rfl) | (intro _ _ _; rfl))) (by first | rfl | decide | exact Or.inl rfl | exact Or.inr rfl | (intro _; rfl) | (intro _ _; rfl) | (intro _ _ _; rfl)) (by first | rfl | decide | exact Or.inl rfl | exact Or.inr rfl | (intro _; rfl) | (intro _ _; rfl) | (intro _ _ _; rfl))) (@pss_cons _ _ _ _ _ (@ps_set _ _ (9) _ _ _ _ (by exact S.nd) (by rfl) (by first | exact Or.inl rfl | exact Or.inr rfl) (@cc _ _ _ _ _ _ _ _ _ _ (by exact C_l_due) (by exact (hr.mono (by decide))) (@pa_consN _ _ _ _ _ (pv 5) (@pa_consN _ _ _ _ _ (pv 6) pa_nil (by first | rfl | decide | exact Or.inl rfl | exact Or.inr rfl | (intro _; rfl) | (intro _ _; rfl) | (intro _ _ _; rfl))) (by first | rfl | decide | exact Or.inl rfl | exact Or.inr rfl | (intro _; rfl) | (intro _ _; rfl) | (intro _ _ _; rfl))) (by first | rfl | decide | exact Or.inl rfl | exact Or.inr rfl | (intro _; rfl) | (intro _ _; rfl) | (intro _ _ _; rfl)) (by first | rfl | decide | exact Or.inl rfl | exact Or.inr rfl | (intro _; rfl) | (intro _ _; rfl) | (intro _ _ _; rfl)) (by first | rfl | decide | exact Or.inl rfl | exact Or.inr rfl | (intro _; rfl) | (intro _ _; rfl) | (intro _ _ _; rfl)) (by first | rfl | decide | exact Or.inl rfl | exact Or.inr rfl | (intro _; rfl) | (intro _ _; rfl) | (intro _ _ _; rfl))) (by first | rfl | decide | exact Or.inl rfl | exact Or.inr rfl | (intro _; rfl) | (intro _ _; rfl) | (intro _ _ _; rfl)) (by first | rfl | decide | exact Or.inl rfl | exact Or.inr rfl | (intro _; rfl) | (intro _ _; rfl) | (intro _ _ _; rfl))) (@pss_one _ _ _ (@ps_if _ _ _ _ _ _ _ _ (@PW.pt _ _ _ (@pw_or _ _ _ _ _ _ _ (@pt_cmpR _ _ _ _ _ _ _ _ op_ne (pv 8) (pv 9) (by exact (nomark _))) (@pw_or _ _ _ _ _ _ _ (@PW.pt _ _ _ (@pw_and _ _ _ _ _ _ _ (@pt_cmpR _ _ _ _ _ _ _ _ op_notN (pv 9) pe_non (by exact (nomark _))) (@pw_and1 _ _ _ _ (@pt_not _ _ _ _ (@pt_val _ _ _ (@cc _ _ _ _ _ _ _ _ _ _ (by exact C_l_is_whole) (by exact (hr.mono (by decide))) (@pa_consN _ _ _ _ _ (pv 8) pa_nil (by first | rfl | decide | exact Or.inl rfl | exact Or.inr rfl | (intro _; rfl) | (intro _ _; rfl) | (intro _ _ _; rfl))) (by first | rfl | decide | exact Or.inl rfl | exact Or.inr rfl | (intro _; rfl) | (intro _ _; rfl) | (intro _ _ _; rfl)) (by first | rfl | decide | exact Or.inl rfl | exact Or.inr rfl | (intro _; rfl) | (intro _ _; rfl) | (intro _ _ _; rfl)) (by first | rfl | decide | exact Or.inl rfl | exact Or.inr rfl | (intro _; rfl) | (intro _ _; rfl) | (intro _ _ _; rfl)) (by first | rfl | decide | exact Or.inl rfl | exact Or.inr rfl | (intro _; rfl) | (intro _ _; rfl) | (intro _ _ _; rfl))) (by first | rfl | decide | exact Or.inl rfl | exact Or.inr rfl | (intro _; rfl) | (intro _ _; rfl) | (intro _ _ _; rfl))))))) (@pw_or1 _ _ _ _ (@pt_cmpR _ _ _ _ _ _ _ _ op_ne (@pe_callB _ _ _ _ _ _ _ _ _ (call_repr hr) (by rfl) (by exact T.z_repr) (by exact bt_repr) (@pa_consN _ _ _ _ _ (@pe_tup _ _ _ _ _ (@pa_consN _ _ _ _ _ (pv 5) (@pa_consN _ _ _ _ _ (pv 6) pa_nil (by first | rfl | decide | exact Or.inl rfl | exact Or.inr rfl | (intro _; rfl) | (intro _ _; rfl) | (intro _ _ _; rfl))) (by first | rfl | decide | exact Or.inl rfl | exact Or.inr rfl | (intro _; rfl) | (intro _ _; rfl) | (intro _ _ _; rfl)))) pa_nil (by first | rfl | decide | exact Or.inl rfl | exact Or.inr rfl | (intro _; rfl) | (intro _ _; rfl) | (intro _ _ _; rfl))) (by first | rfl | decide | exact Or.inl rfl | exact Or.inr rfl | (intro _; rfl) | (intro _ _; rfl) | (intro _ _ _; rfl)) (by first | rfl | decide | exact Or.inl rfl | exact Or.inr rfl | (intro _; rfl) | (intro _ _; rfl) | (intro _ _ _; rfl)) (by first | rfl | decide | exact Or.inl rfl | exact Or.inr rfl | (intro _; rfl) | (intro _ _; rfl) | (intro _ _ _; rfl)) (by first | rfl | decide | exact Or.inl rfl | exact Or.inr rfl | (intro _; rfl) | (intro _ _; rfl) | (intro _ _ _; rfl))) (pv 7) (by exact (nomark _))))))) (@pss_one _ _ _ (@ps_ret _ _ _ _ pe_bl)) pss_nil)))))))))) (by first | rfl | decide | exact Or.inl rfl | exact Or.inr rfl | (intro _; rfl) | (intro _ _; rfl) | (intro _ _ _; rfl))) (@pss_one _ _ _ (@ps_ret _ _ _ _ (@pe_and _ _ _ _ _ _ _ (@pe_cmpR _ _ _ _ _ _ _ _ op_eq (@cc _ _ _ _ _ _ _ _ _ _ (by exact C_order_matters) (by exact (hr.mono (by decide))) (@pa_consN _ _ _ _ _ (@pe_tup _ _ _ _ _ (@pa_consN _ _ _ _ _ pe_int (@pa_consN _ _ _ _ _ pe_int pa_nil (by first | rfl | decide | exact Or.inl rfl | exact Or.inr rfl | (intro _; rfl) | (intro _ _; rfl) | (intro _ _ _; rfl))) (by first | rfl | decide | exact Or.inl rfl | exact Or.inr rfl | (intro _; rfl) | (intro _ _; rfl) | (intro _ _ _; rfl)))) (@pa_consN _ _ _ _ _ (@pe_lst _ _ _ _ (@pa_consN _ _ _ _ _ (@pe_tup _ _ _ _ _ (@pa_consN _ _ _ _ _ pe_int (@pa_consN _ _ _ _ _ pe_int pa_nil (by first | rfl | decide | exact Or.inl rfl | exact Or.inr rfl | (intro _; rfl) | (intro _ _; rfl) | (intro _ _ _; rfl))) (by first | rfl | decide | exact Or.inl rfl | exact Or.inr rfl | (intro _; rfl) | (intro _ _; rfl) | (intro _ _ _; rfl)))) (@pa_consN _ _ _ _ _ (@pe_tup _ _ _ _ _ (@pa_consN _ _ _ _ _ pe_int pa_nil (by first | rfl | decide | exact Or.inl rfl | exact Or.inr rfl | (intro _; rfl) | (intro _ _; rfl) | (intro _ _ _; rfl)))) pa_nil (by first | rfl | decide | exact Or.inl rfl | exact Or.inr rfl | (intro _; rfl) | (intro _ _; rfl) | (intro _ _ _; rfl))) (by first | rfl | decide | exact Or.inl rfl | exact Or.inr rfl | (intro _; rfl) | (intro _ _; rfl) | (intro _ _ _; rfl)))) pa_nil (by first | rfl | decide | exact Or.inl rfl | exact Or.inr rfl | (intro _; rfl) | (intro _ _; rfl) | (intro _ _ _; rfl))) (by first | rfl | decide | exact Or.inl rfl | exact Or.inr rfl | (intro _; rfl) | (intro _ _; rfl) | (intro _ _ _; rfl))) (by first | rfl | decide | exact Or.inl rfl | exact Or.inr rfl | (intro _; rfl) | (intro _ _; rfl) | (intro _ _ _; rfl)) (by first | rfl | decide | exact Or.inl rfl | exact Or.inr rfl | (intro _; rfl) | (intro _ _; rfl) | (intro _ _ _; rfl)) (by first | rfl | decide | exact Or.inl rfl | exact Or.inr rfl | (intro _; rfl) | (intro _ _; rfl) | (intro _ _ _; rfl)) (by first | rfl | decide | exact Or.inl rfl | exact Or.inr rfl | (intro _; rfl) | (intro _ _; rfl) | (intro _ _ _; rfl))) pe_int (by exact (nomark _))) (@pe_one _ _ _ _ _ (@pe_cmpR _ _ _ _ _ _ _ _ op_isN (@cc _ _ _ _ _ _ _ _ _ _ (by exact C_order_matters) (by exact (hr.mono (by decide))) (@pa_consN _ _ _ _ _ (@pe_tup _ _ _ _ _ (@pa_consN _ _ _ _ _ pe_int pa_nil (by first | rfl | decide | exact Or.inl rfl | exact Or.inr rfl | (intro _; rfl) | (intro _ _; rfl) | (intro _ _ _; rfl)))) (@pa_consN _ _ _ _ _ (@pe_lst _ _ _ _ pa_nil) pa_nil (by first | rfl | decide | exact Or.inl rfl | exact Or.inr rfl | (intro _; rfl) | (intro _ _; rfl) | (intro _ _ _; rfl))) (by first | rfl | decide | exact Or.inl rfl | exact Or.inr rfl | (intro _; rfl) | (intro _ _; rfl) | (intro _ _ _; rfl))) (by first | rfl | decide | exact Or.inl rfl | exact Or.inr rfl | (intro _; rfl) | (intro _ _; rfl) | (intro _ _ _; rfl)) (by first | rfl | decide | exact Or.inl rfl | exact Or.inr rfl | (intro _; rfl) | (intro _ _; rfl) | (intro _ _ _; rfl)) (by first | rfl | decide | exact Or.inl rfl | exact Or.inr rfl | (intro _; rfl) | (intro _ _; rfl) | (intro _ _ _; rfl)) (by first | rfl | decide | exact Or.inl rfl | exact Or.inr rfl | (intro _; rfl) | (intro _ _; rfl) | (intro _ _ _; rfl))) pe_non (by exact (nomark _))))))))), ?_⟩
  refine ⟨_, rfl, a, ns, rfl, hS, fun p H0 s0 pen0 => ?_⟩
  refine ⟨3, rfl, by decide, by decide, for_range (n := 3) (fun i σ H2 => (∃ o2 o3 o4 o5 o6 o7 o8 o9, σ = [some (.ref a), some (.ref p), o2, o3, o4, o5, o6, o7, o8, o9]) ∧ Pen H2 p (280 * i) ∧ H2 D = some (.tab (qLam "emptiest_of"))) ⟨⟨_, _, _, _, _, _, _, _, rfl⟩, pen0, s0 _ _ hT⟩ ?_ ?_⟩
  · rintro i σ H1 hi ⟨⟨o2, o3, o4, o5, o6, o7, o8, o9, rfl⟩, pen, hD⟩
    refine ⟨_, rfl, p, _, _, rfl, pen, by omega, by decide, by decide, fun lt H2 lt0 lt1 p2 x2 => ?_⟩
    refine ⟨_, rfl, p, _, _, rfl, p2, by omega, by decide, by decide, fun d H3 d0 d1 p3 x3 => ⟨_, _, rfl, rfl, ?_⟩⟩
    refine ⟨_, rfl, _, rfl, p, 1 + d, 4, _, rfl, p3, by omega, by omega, by omega, by decide, by decide, fun st ss H4 hst hsl hsb p4 x4 => ?_⟩
    apply joinA (C := fun c H' => ∃ ys ess, Stay st c D ss ys ess (qLam "emptiest_of") H' ∧ OkD ss.length ess ∧ ys.length ≤ 120 ∧ Pen H' p (280 * i + 270))
    case main =>
      intro key
      refine ⟨_, rfl, _, rfl, lz 2 rfl, fun q0 hq0 => ?_⟩
      have s0' := same_new hq0 (.lst [.int 60, .int 24])
      have e0 := upd_same (H := H4) (a := q0) (o := .lst [.int 60, .int 24])
      have p4' := p4.same s0'
      have hst' := s0' _ _ hst
      generalize upd H4 q0 (.lst [.int 60, .int 24]) = H4' at s0' e0 p4' hst'
      obtain ⟨mo, hmo, mo1, mo2⟩ : ∃ mo : Int, atI ([.int 60, .int 24] : List V) lt = some (.int mo) ∧ 2 ≤ mo ∧ mo ≤ 60 := by
        rcases (show lt = 0 ∨ lt = 1 by omega) with rfl | rfl
        · exact ⟨60, rfl, by decide, by decide⟩
        · exact ⟨24, rfl, by decide, by decide⟩
      refine ⟨_, rfl, q0, _, _, _, rfl, rfl, e0, hmo, p, 1 + d, mo, _, rfl, p4', by omega, by omega, by omega, mo1, mo2, fun dl xs dss H5 hdl dr od hxl p5 x5 => ?_⟩
      have hst5 := p4'.keep x5 hst'
      have x15 := ((x2.trans x3).trans x4).trans (s0'.x.trans x5)
      have hD5 := pen.keep x15 hD
      have od' : OkD ss.length dss := by rw [hsl]; exact od
      have B5 : Stay st dl D ss xs dss (qLam "emptiest_of") H5 := ⟨hst5, hdl, dr, hD5⟩
      refine ⟨_, rfl, rfl, _, rfl, ite2 (fun c0 => ?tt) (fun c0 => ?ff)⟩
      case ff => exact key dl H5 ⟨xs, dss, B5, od', by omega, p5.mono (by omega)⟩
      case tt =>
        refine ⟨_, rfl, _, rfl, p, 1 + d, _, rfl, p5, by omega, by omega, by omega, fun l1 xs1 ds1 H6 hl1 dr1 od1 hx1 p6 x6 => ?_⟩
        have B6 := B5.keep p5 x6
        refine ⟨_, rfl, _, rfl, p, _, _, rfl, p6, by omega, by decide, by decide, fun c H7 c0' c1' p7 x7 => ?_⟩
        have B7 := B6.keep p6 x7
        obtain ⟨C, rfl⟩ : ∃ C : Nat, c = (C : Int) := ⟨c.toNat, by omega⟩
        refine ⟨_, rfl, dl, _, rfl, SqL.of B7.dl, fun q2 hq2 => ?_⟩
        obtain ⟨c', hc', hcut⟩ : ∃ c', c' ≤ 8 ∧ cutV xs none (some (C : Int)) = xs.take c' := by
          by_cases hC : C ≤ xs.length
          · exact ⟨C, by omega, cut_take hC⟩
          · refine ⟨C, by omega, ?_⟩
            unfold cutV
            rw [HT.sIx_nat, HT.sIx_none]
            simp
        rw [hcut]
        have s8 := same_new hq2 (.lst (xs.take c'))
        have e8 := upd_same (H := H7) (a := q2) (o := .lst (xs.take c'))
        have B8 := B7.same s8
        have l8 := s8 _ _ (p6.keep x7 hl1)
        have dr8 : Drs (upd H7 q2 (.lst (xs.take c'))) xs1 ds1 := (dr1.mono fun a xs e => p6.keep x7 e).same s8
        have p8 := p7.same s8
        generalize upd H7 q2 (.lst (xs.take c')) = H8 at s8 e8 B8 l8 dr8 p8
        refine ⟨l1, q2, _, _, rfl, rfl, l8, e8, (by rw [sizeLine_eq, List.length_take]; omega), fun q3 hq3 => ?_⟩
        have s9 := same_new hq3 (.lst (xs1 ++ xs.take c'))
        have B9 := B8.same s9
        exact key q3 _ ⟨xs1 ++ xs.take c', ds1 ++ dss.take c', ⟨B9.st, upd_same, (dr8.same s9).app (B9.dr.take c'), B9.tb⟩, OkD.app (by rw [hsl]; exact od1) (od'.take c'), (by rw [List.length_append, List.length_take]; omega), (p8.same s9).mono (by omega)⟩
    rintro dl2 H8 ⟨ys, ess, B8, od8, hy, p8⟩
    have dll := B8.dr.len
    have gd : Good (.tuple [.tuple (ss.map PyData.int), .list (drD ess)]) := good_dr (fun x hx => by have := hsb x hx; show x.natAbs < 1000000000000000000000000000000000000; omega) (by omega) (fun ds hds => ⟨(od8 ds hds).2.1, fun b hb => by have := (od8 ds hds).2.2 b hb; show b.natAbs < 1000000000000000000000000000000000000; omega⟩) (by omega)
    refine ⟨_, rfl, _, rfl, lz 2 rfl, fun q1 hq1 => ?_⟩
    have s9 := same_new hq1 (.tup [.ref st, .ref dl2])
    have B9 := B8.same s9
    refine ⟨_, _, rfl, B9.data upd_same, gd.sh, gd.ld, gd.dp, gd.ln, ?_⟩
    have p9 := p8.same s9
    generalize upd H8 q1 (.tup [.ref st, .ref dl2]) = H9 at s9 B9 p9
    refine ⟨_, rfl, _, rfl, st, dl2, ss, ys, ess, rfl, B9.st, B9.dl, B9.dr, od8, by omega, B9.tb, fun H10 s10 => ?_⟩
    have B10 := B9.same s10
    refine ⟨_, rfl, _, rfl, st, dl2, ss, ys, ess, rfl, B10.st, B10.dl, B10.dr, od8, by omega, fun H11 s11 => ?_⟩
    have B11 := B10.same s11
    have p11 := p9.same (s10.trans s11)
    have fin : ∀ (q : Addr), H11 q = none → ∀ H12, H12 = upd H11 q (.tup [.ref st, .ref dl2]) → Pen H12 p (280 * (i + 1)) ∧ H12 D = some (.tab (qLam "emptiest_of")) := fun q hq H12 e => by
      subst e
      exact ⟨(p11.same (same_new hq _)).mono (by omega), (B11.same (same_new hq _)).tb⟩
    cases omF ss ess with
    | none =>
      refine ⟨_, rfl, _, rfl, rfl, _, rfl, iteNS rfl ?_⟩
      refine ⟨_, rfl, rfl, _, rfl, iteF (iteF ?_)⟩
      refine ⟨_, rfl, _, rfl, lz 2 rfl, fun q7 hq7 => ?_⟩
      have s19 := same_new hq7 (.tup [.ref st, .ref dl2])
      refine ⟨_, _, rfl, (B11.same s19).data upd_same, gd.sh, gd.ld, gd.dp, gd.ln, _, rfl, rfl, _, rfl, iteNS rfl ?_⟩
      exact ⟨⟨_, _, _, _, _, _, _, _, rfl⟩, fin q7 hq7 _ rfl⟩
    | some kk =>
      refine ⟨_, rfl, _, rfl, rfl, _, rfl, ?_⟩
      rw [decide_eq_true rfl]
      refine iteF ?_
      refine ⟨_, rfl, rfl, _, rfl, iteT ?_⟩
      refine ⟨_, rfl, _, rfl, _, rfl, iteF ?_⟩
      refine ⟨_, rfl, _, rfl, lz 2 rfl, fun q7 hq7 => ?_⟩
      have s19 := same_new hq7 (.tup [.ref st, .ref dl2])
      refine ⟨_, _, rfl, (B11.same s19).data upd_same, gd.sh, gd.ld, gd.dp, gd.ln, _, rfl, rfl, _, rfl, iteNS rfl ?_⟩
      exact ⟨⟨_, _, _, _, _, _, _, _, rfl⟩, fin q7 hq7 _ rfl⟩
  · rintro σ H2 ⟨⟨o2, o3, o4, o5, o6, o7, o8, o9, rfl⟩, pen, hD⟩
    refine ⟨lz 2 rfl, fun t1 ht1 => ⟨lz 2 rfl, fun t2 ht2 => ⟨lz 1 rfl, fun t3 ht3 => ⟨lz 2 rfl, fun q1 hq1 => ?_⟩⟩⟩⟩
    have s1 := same_new ht1 (.tup [.int 0, .int 0])
    have s2 := same_new ht2 (.tup [.int 0, .int 1])
    have s3 := same_new ht3 (.tup [.int 0])
    have s4 := same_new hq1 (.lst [.ref t2, .ref t3])
    have s14 := ((s1.trans s2).trans s3).trans s4
    refine ⟨t1, q1, [0, 0], [.ref t2, .ref t3], [[0, 1], [0]], rfl, s4 _ _ (s3 _ _ (s2 _ _ upd_same)), upd_same, .cons (s4 _ _ (s3 _ _ upd_same)) (.cons (s4 _ _ upd_same) .nil), (fun d hd => ?_), by simp, s14 _ _ hD, fun H5 s5 => ?_⟩
    · simp only [List.mem_cons, List.not_mem_nil, or_false] at hd
      rcases hd with rfl | rfl <;> exact ⟨by simp, by simp, fun b hb => by simp at hb; show 0 ≤ b ∧ b < (2 : Int); omega⟩
    have e1 : omF [0, 0] [[0, 1], [0]] = some 0 := by decide +kernel
    rw [e1]
    refine ⟨rfl, _, rfl, iteT ?_⟩
    have hD5 := s5 _ _ (s14 _ _ hD)
    refine ⟨lz 1 rfl, fun t6 ht6 => ⟨lz 0 rfl, fun q6 hq6 => ?_⟩⟩
    have s6 := same_new ht6 (.tup [.int 0])
    have s7 := same_new hq6 (.lst [])
    refine ⟨t6, q6, [0], [], [], rfl, s7 _ _ upd_same, upd_same, .nil, (fun d hd => by simp at hd), by simp, (s6.trans s7) _ _ hD5, fun H8 s8 => ?_⟩
    have e2 : omF [0] [] = none := by decide +kernel
    rw [e2]
    exact ⟨rfl, k _ (s8 _ _ ((s6.trans s7) _ _ hD5))⟩
end
end My

set_option Elab.async false
set_option linter.all false
set_option maxRecDepth 100000
set_option maxHeartbeats 4000000
namespace My
open PySem L2 MA
structure Funs (K : PySem.W.Frag) (mg : Str → Option Value) : Prop where
  f_emptiest_of : FunAt K mg "emptiest_of" ["numbers", "draw"] s_emptiest_of
  f_by_draws : FunAt K mg "by_draws" ["stand", "draws"] s_by_draws
  f_order_matters : FunAt K mg "order_matters" ["stand", "draws"] s_order_matters
  f_l_pen : FunAt K mg "_law_pen" ["_law_script"] s_l_pen
  f_l_draw : FunAt K mg "_law_draw" ["_law_pen_here", "_law_many"] s_l_draw
  f_l_is_whole : FunAt K mg "_law_is_whole" ["_law_thing"] s_l_is_whole
  f_l_stand : FunAt K mg "_law_stand" ["_law_pen_here", "_law_n", "_law_most"] s_l_stand
  f_l_draws : FunAt K mg "_law_draws" ["_law_pen_here", "_law_n", "_law_most"] s_l_draws
  f_l_behind : FunAt K mg "_law_behind" ["_law_stand_here", "_law_draws_here"] s_l_behind
  f_l_due : FunAt K mg "_law_due" ["_law_stand_here", "_law_draws_here"] s_l_due
  f_l_late : FunAt K mg "_law_late" ["_law_pen_here", "_law_n"] s_l_late
theorem all_mk {l : PySem.W.OpenLaw} {w : World} {K : PySem.W.Frag} {h : Heap} {mg : Str → Option Value} {fa f3 : Addr} (X : K.In h) (G : h.Ns mainGlobals mg) (hfa : mg "law" = some (.ref fa))
    {od3 an3 : Option Addr} {sl3 : Array (Option Value)} {oc3 kV3 dc3 pm3 cd3 ct3 : Value} (T : Txt2 mg) (FA : Funs K mg)
    (a3 : PySem.W.nsIn K mainGlobals "law" = some (some (.ref f3))) (l3 : K.lookup f3 = some ⟨oc3, od3, .func (PySem.W.fnOf "law" "law" (defArgs s_law) (defBody s_law) (defScope s_law) .none kV3 dc3 pm3 an3 cd3 ct3), sl3⟩) (c3 : PySem.W.codeIn K cd3 "law" = true) (k3 : PySem.W.keepIn K (.ref f3) = true) :
    ∃ fd : FuncData, (∀ (s : Shared) (v : Value), BindsTo s fd ⟨[v], []⟩ [("_law_script", v)]) ∧ ∀ (cp : Str → Addr × Addr) (base : Heap), K.In base → base.Ns mainGlobals mg → (∀ y ∈ (["emptiest_of"] : List Str), LamFor mg base y (cp y).1 (cp y).2) → FnOk l.prog w K mg base CX0 6 fa fd ["_law_script"] (spLawT K (cp "emptiest_of").2 (qLam "emptiest_of")) := by
  have e := hfa.symm.trans (PySem.W.mg_of X G a3)
  cases e
  have F3 := fun_mk (st := s_law) l3 c3 k3
  refine ⟨PySem.W.fnOf "law" "law" (defArgs s_law) (defBody s_law) (defScope s_law) .none kV3 dc3 pm3 an3 cd3 ct3, fun s v => .of_eq rfl, fun cp base kb nb LF => ?_⟩
  have L0 := LF "emptiest_of" (by simp)
  have c_em := ok_em (P := l.prog) (w := w) (base := base) T kb L0 FA.f_emptiest_of
  have c_by := ok_by T c_em FA.f_by_draws
  have c_om := ok_om T c_by FA.f_order_matters
  have c_pen := ok_pen (P := l.prog) (w := w) (base := base) FA.f_l_pen
  have c_draw := ok_draw (P := l.prog) (w := w) (base := base) T.toTxt FA.f_l_draw
  have c_whole := ok_lwhole (P := l.prog) (w := w) (base := base) T.toTxt FA.f_l_is_whole
  have c_stand := ok_stand T c_draw FA.f_l_stand
  have c_draws := ok_draws T c_draw FA.f_l_draws
  have c_behind := ok_behind (P := l.prog) (w := w) (base := base) T FA.f_l_behind
  have c_due := ok_due T c_behind FA.f_l_due
  have c_late := ok_late T c_draw FA.f_l_late
  exact ok_law T c_om c_pen c_draw c_whole c_stand c_draws c_due c_late F3
theorem walk {l : PySem.W.OpenLaw} {q : Program} {loose : List Str} {XP : (Str → Option Value) → Heap → Prop} {YP : World → Heap → Prop} {d : PySem.DefRec} {K : Params → PySem.W.Frag} (hn : l.most = some 63) (hdf : d.params.defaults = [])
    (hY : ∀ (w : World) (h : Heap), YP w h → (K w.params).In h) (noT : ∀ p, PySem.W.noTabs (K p) = true) (hlam : ∀ y ∈ (["emptiest_of"] : List Str), ∃ e ∈ PyProof.Rows.recsOf q, e.name = y)
    (F : ∀ (w : World) (mg : Str → Option Value) (fa : Addr) (h : Heap), (K w.params).In h → h.Ns mainGlobals mg → mg d.name = some (.ref fa) →
      ∃ fd : FuncData, (∀ (s : Shared) (u : Value), BindsTo s fd ⟨[u], []⟩ [("_law_script", u)]) ∧ ∀ (cp : Str → Addr × Addr) (base : Heap), (K w.params).In base → base.Ns mainGlobals mg → (∀ y ∈ (["emptiest_of"] : List Str), LamFor mg base y (cp y).1 (cp y).2) → FnOk l.prog w (K w.params) mg base CX0 6 fa fd ["_law_script"] (spLawT (K w.params) (cp "emptiest_of").2 (qLam "emptiest_of"))) :
    PySem.W.WalkO q loose XP YP l.row.toRowW d [] (fun f vs => PySem.call f vs) :=
  L2.walk_ofT (n := 63) (k := 6) (x := "_law_script") (lams := ["emptiest_of"]) (sp := fun w cp => spLawT (K w.params) (cp "emptiest_of").2 (qLam "emptiest_of")) hn (by decide) hdf ⟨rfl, by decide, by decide, rfl⟩ noT hlam hY
    (fun _ _ _ _ _ _ _ y hy z hz _ => by simp at hy hz; rw [hy, hz]) F (fun _ cp H a ns hl hS hT => ⟨a, ns, rfl, hS, hl, hT "emptiest_of" (by simp), fun H' h' => ⟨rfl, fun y hy => by simp at hy; subst hy; exact h'⟩⟩)
theorem txt_mk {K : PySem.W.Frag} {h : Heap} {mg : Str → Option Value} (X : K.In h) (G : h.Ns mainGlobals mg)
    (z_abs : PySem.W.nsIn K mainGlobals "abs" = some none)
    (z_len : PySem.W.nsIn K mainGlobals "len" = some none)
    (z_isinstance : PySem.W.nsIn K mainGlobals "isinstance" = some none)
    (z_range : PySem.W.nsIn K mainGlobals "range" = some none)
    (z_int : PySem.W.nsIn K mainGlobals "int" = some none)
    (z_bool : PySem.W.nsIn K mainGlobals "bool" = some none)
    (z_tuple : PySem.W.nsIn K mainGlobals "tuple" = some none)
    (z_list : PySem.W.nsIn K mainGlobals "list" = some none)
    (z_all : PySem.W.nsIn K mainGlobals "all" = some none)
    (z_str : PySem.W.nsIn K mainGlobals "str" = some none)
    (z_repr : PySem.W.nsIn K mainGlobals "repr" = some none)
    (z_dict : PySem.W.nsIn K mainGlobals "dict" = some none)
    (z_sum : PySem.W.nsIn K mainGlobals "sum" = some none)
    (z_sorted : PySem.W.nsIn K mainGlobals "sorted" = some none)
    (z_max : PySem.W.nsIn K mainGlobals "max" = some none)
    (z_min : PySem.W.nsIn K mainGlobals "min" = some none)
    (z_any : PySem.W.nsIn K mainGlobals "any" = some none)
    (z_enumerate : PySem.W.nsIn K mainGlobals "enumerate" = some none)
    (z_zip : PySem.W.nsIn K mainGlobals "zip" = some none)
    (z_set : PySem.W.nsIn K mainGlobals "set" = some none)
    (z_reversed : PySem.W.nsIn K mainGlobals "reversed" = some none)
    (z_ValueError : PySem.W.nsIn K mainGlobals "ValueError" = some none)
    : Txt2 mg := ⟨⟨PySem.W.mg_none_of X G z_abs, PySem.W.mg_none_of X G z_len, PySem.W.mg_none_of X G z_isinstance, PySem.W.mg_none_of X G z_range, PySem.W.mg_none_of X G z_int, PySem.W.mg_none_of X G z_bool, PySem.W.mg_none_of X G z_tuple, PySem.W.mg_none_of X G z_list, PySem.W.mg_none_of X G z_all⟩, PySem.W.mg_none_of X G z_str, PySem.W.mg_none_of X G z_repr, PySem.W.mg_none_of X G z_dict, PySem.W.mg_none_of X G z_sum, PySem.W.mg_none_of X G z_sorted, PySem.W.mg_none_of X G z_max, PySem.W.mg_none_of X G z_min, PySem.W.mg_none_of X G z_any, PySem.W.mg_none_of X G z_enumerate, PySem.W.mg_none_of X G z_zip, PySem.W.mg_none_of X G z_set, PySem.W.mg_none_of X G z_reversed, PySem.W.mg_none_of X G z_ValueError⟩
end My
open PySem PySem.W PyProof.Rows
set_option maxRecDepth 100000 in
set_option maxHeartbeats 0 in
theorem PySem.Challenge.cw_emptierbox_k55_where_the_order_matters_holds : PySem.Challenge.rw_emptierbox_k55_where_the_order_matters.Holds := by
  w_on; o_law; k_head; (case hw => w_witness2)
  k_fill
  refine My.walk (l := PySem.Challenge.rw_emptierbox_k55_where_the_order_matters) rfl rfl (fun w h Y => PySem.W.km_in_of Y) ?noT ?lam ?F
  case noT => intro p; kernel_rfl
  case lam =>
    intro y hy
    simp only [List.mem_cons, List.not_mem_nil, or_false] at hy
    subst hy; exact My.lam_rec rfl
  case F =>
    intro w mg fa h KX G hmg
    have T : My.Txt2 mg := by
      refine' My.txt_mk KX G ?z0 ?z1 ?z2 ?z3 ?z4 ?z5 ?z6 ?z7 ?z8 ?z9 ?z10 ?z11 ?z12 ?z13 ?z14 ?z15 ?z16 ?z17 ?z18 ?z19 ?z20 ?z21
      (case z0 => k_is)
      (case z1 => k_is)
      (case z2 => k_is)
      (case z3 => k_is)
      (case z4 => k_is)
      (case z5 => k_is)
      (case z6 => k_is)
      (case z7 => k_is)
      (case z8 => k_is)
      (case z9 => k_is)
      (case z10 => k_is)
      (case z11 => k_is)
      (case z12 => k_is)
      (case z13 => k_is)
      (case z14 => k_is)
      (case z15 => k_is)
      (case z16 => k_is)
      (case z17 => k_is)
      (case z18 => k_is)
      (case z19 => k_is)
      (case z20 => k_is)
      (case z21 => k_is)
    have f_emptiest_of : L2.FunAt (L2.KOf KX) mg "emptiest_of" ["numbers", "draw"] My.s_emptiest_of := by
      dsimp only [L2.KOf]
      refine' L2.funAt_mk KX G (fun _ _ _ _ _ _ us hl => match us, hl with | [_, _], _ => rfl) ?a ?l ?c ?k
      (case a => k_is); (case l => k_is); (case c => k_is); (case k => k_is)
    have f_by_draws : L2.FunAt (L2.KOf KX) mg "by_draws" ["stand", "draws"] My.s_by_draws := by
      dsimp only [L2.KOf]
      refine' L2.funAt_mk KX G (fun _ _ _ _ _ _ us hl => match us, hl with | [_, _], _ => rfl) ?a ?l ?c ?k
      (case a => k_is); (case l => k_is); (case c => k_is); (case k => k_is)
    have f_order_matters : L2.FunAt (L2.KOf KX) mg "order_matters" ["stand", "draws"] My.s_order_matters := by
      dsimp only [L2.KOf]
      refine' L2.funAt_mk KX G (fun _ _ _ _ _ _ us hl => match us, hl with | [_, _], _ => rfl) ?a ?l ?c ?k
      (case a => k_is); (case l => k_is); (case c => k_is); (case k => k_is)
    have f_l_pen : L2.FunAt (L2.KOf KX) mg "_law_pen" ["_law_script"] My.s_l_pen := by
      dsimp only [L2.KOf]
      refine' L2.funAt_mk KX G (fun _ _ _ _ _ _ us hl => match us, hl with | [_], _ => rfl) ?a ?l ?c ?k
      (case a => k_is); (case l => k_is); (case c => k_is); (case k => k_is)
    have f_l_draw : L2.FunAt (L2.KOf KX) mg "_law_draw" ["_law_pen_here", "_law_many"] My.s_l_draw := by
      dsimp only [L2.KOf]
      refine' L2.funAt_mk KX G (fun _ _ _ _ _ _ us hl => match us, hl with | [_, _], _ => rfl) ?a ?l ?c ?k
      (case a => k_is); (case l => k_is); (case c => k_is); (case k => k_is)
    have f_l_is_whole : L2.FunAt (L2.KOf KX) mg "_law_is_whole" ["_law_thing"] My.s_l_is_whole := by
      dsimp only [L2.KOf]
      refine' L2.funAt_mk KX G (fun _ _ _ _ _ _ us hl => match us, hl with | [_], _ => rfl) ?a ?l ?c ?k
      (case a => k_is); (case l => k_is); (case c => k_is); (case k => k_is)
    have f_l_stand : L2.FunAt (L2.KOf KX) mg "_law_stand" ["_law_pen_here", "_law_n", "_law_most"] My.s_l_stand := by
      dsimp only [L2.KOf]
      refine' L2.funAt_mk KX G (fun _ _ _ _ _ _ us hl => match us, hl with | [_, _, _], _ => rfl) ?a ?l ?c ?k
      (case a => k_is); (case l => k_is); (case c => k_is); (case k => k_is)
    have f_l_draws : L2.FunAt (L2.KOf KX) mg "_law_draws" ["_law_pen_here", "_law_n", "_law_most"] My.s_l_draws := by
      dsimp only [L2.KOf]
      refine' L2.funAt_mk KX G (fun _ _ _ _ _ _ us hl => match us, hl with | [_, _, _], _ => rfl) ?a ?l ?c ?k
      (case a => k_is); (case l => k_is); (case c => k_is); (case k => k_is)
    have f_l_behind : L2.FunAt (L2.KOf KX) mg "_law_behind" ["_law_stand_here", "_law_draws_here"] My.s_l_behind := by
      dsimp only [L2.KOf]
      refine' L2.funAt_mk KX G (fun _ _ _ _ _ _ us hl => match us, hl with | [_, _], _ => rfl) ?a ?l ?c ?k
      (case a => k_is); (case l => k_is); (case c => k_is); (case k => k_is)
    have f_l_due : L2.FunAt (L2.KOf KX) mg "_law_due" ["_law_stand_here", "_law_draws_here"] My.s_l_due := by
      dsimp only [L2.KOf]
      refine' L2.funAt_mk KX G (fun _ _ _ _ _ _ us hl => match us, hl with | [_, _], _ => rfl) ?a ?l ?c ?k
      (case a => k_is); (case l => k_is); (case c => k_is); (case k => k_is)
    have f_l_late : L2.FunAt (L2.KOf KX) mg "_law_late" ["_law_pen_here", "_law_n"] My.s_l_late := by
      dsimp only [L2.KOf]
      refine' L2.funAt_mk KX G (fun _ _ _ _ _ _ us hl => match us, hl with | [_, _], _ => rfl) ?a ?l ?c ?k
      (case a => k_is); (case l => k_is); (case c => k_is); (case k => k_is)
    refine' My.all_mk KX G hmg T ⟨f_emptiest_of, f_by_draws, f_order_matters, f_l_pen, f_l_draw, f_l_is_whole, f_l_stand, f_l_draws, f_l_behind, f_l_due, f_l_late⟩ ?a3 ?l3 ?c3 ?k3
    (case a3 => k_is); (case l3 => k_is); (case c3 => k_is); (case k3 => k_is)

